import PyProof.Rows.All
import Wide.All
import OpenK.AllK
import Wide.FinOn
import PyProof.EqAt
import PyProof.EqKinds
import PyProof.TupleCall
import PyProof.MinMaxWalk
import PyProof.WalkInts
import PyProof.NeKinds
import PyProof.SliceStr2
import PyProof.StrBlockI
import PyProof.MaxThree
import PyProof.ZipIter
import PyProof.Draws
import PyProof.EnumMake
import PyProof.ListMulRoad
import PyProof.Rows.StrRev
import PyProof.DictItems
import PyProof.ListRange
import PyProof.AutoIntG2
import PyProof.FactsAll.int_6
import KE.KMinKey
import PyProof.Rows.TupDisplay
import PyProof.Rows.CatchBare
import KE.IntBitsLaws
import KE.KIntText
import PyProof.CallStr
import PyProof.StrBlockL
import PyProof.StrLawsChain
import PyProof.StrLawsTight
import PyProof.Rows.StrItems
import PySem.Challenge.RW_leasttolls_k17_first_word_above
set_option Elab.async false
set_option linter.all false
set_option maxRecDepth 100000
set_option maxHeartbeats 4000000
open PySem.W renaming Frag->ac,tabIn->a8,kia_one->bC,kitOne->bI,CodeHd->bO,mg_of->bQ,keepIn->b9,nsIn->cr,fnOf->cO,envX->cQ,OpenLaw->cS,findIn->di,kla_fn->dk,codeIn->fo,methodObj->fB,fnX->fJ,cellsFrom_some->gm,instObj->gJ,lookIn->hW,tabObj->io,kitx_tuple->iY,specialIn->jd,kitx_list->je,kitx_dict->jf,plainGet->ju,codeHdIn->jA,takesIn->jL,TabsAt->j8,noTabs->j9,WalkO->kg,mroIn->kj
open PySem renaming Shared->ae,wpAny_bind->af,wpAny_pure->av,Program->aA,mem_of_lookup->aH,sizeLine->aI,cellsFrom->aL,Around->aO,bootBuiltins->be,wpAny_mono->bf,mainGlobals->bh,starEach->br,wpAny_newObj_type->bw,FuncData->bH,wpAny_truthy_bool->bR,binaryOp->bS,Arguments->bX,NameKind->cb,wpAny_call_entry->cu,assignEach->cy,wpAny_passesOwn->cD,Paired->cJ,wpAny_seqItems->cK,wpAny_callSpecial?_slot->cL,sysModules->cM,wpAny_Call_Name_kw->cN,wpAny_specialOf->cT,wpAny_execs_nil->cU,pushCells_keeps->cW,compareOp->cZ,behindInMarks->c0,wpAny_holding->c5,wpAny_callSpecialIfBoundUnlessNone?_slot->c6,wpAny_pyIter_list->da,foldedSetIterable->db,argBest->dq,IsTupleKey->dH,isTrue->dI,wpAny_field->dM,sliceBounds->dN,backTo->dU,bindArgs->dW,wpAny_tryCatch->dZ,swapsWith->ed,call_meets->eB,pushCells->eD,attributeBase->eI,relabel->eJ,callSpecialIfBoundUnlessNone?->eK,sizeLine_eq->eM,letOwnedTupleGo->eR,typeIs_str->fu,newFunctionEnv->fw,wpAny_binaryOp_repeat_ref->fz,codeAny->fC,InCallC->fD,swappedStores->fO,IsPart->fQ,wpAny_comprehension_free->fR,plainId_quiet->fS,ExceptHandler->fU,wpAny_forIn_list->fZ,storeName->f6,noFill_tuple_add->f8,wpAny_rule->gi,builtinsNs->gj,assign->gk,name_of_addr->gr,getItem->gu,wpAny_typeOf->gv,typeIs_int->gC,codeAny_compStart_list->gE,codeAny_builtin->gM,wpAny_updateSeq->gN,isSubtype_tuple_tuple->gQ,wpAny_storeName_local->gR,wpAny_isTrue_Compare1->gS,codeAny_call_function->gT,wpAny_storeName_cell->hG,wpAny_loadName_local->hJ,wpAny_letGo->ig,strIterType->ik,PassesOwn->iu,Keyword->iy,callerA->iz,seqItems?->iA,valueAt->iB,wpAny_loadName_cell->iH,wpAny_standAt->iQ,seq_tuple_add->iR,wpAny_pyIter_tuple->iX,eqIsQuiet_byValue->i8,holding->i9,wpAny_assign_Name->jb,codeAny_mono->jg,concat_meets->jh,wpAny_sequenceKey->ji,seqIndex_neg->jj,slot_list_getitem->jk,notedBy->jl,beq_builtin_none->jp,eqIsQuiet->jq,wpAny_isInstance->jr,wpAny_execs_cons->js,pyNext->jt,noteFrame->jy,seqSlot_of->jB,wpAny_Try_except->jD,seqIndex_of->jG,keywordEach->jH,BindsTo->jR,call->jT,reduceHash->jU,wpAny_Name->jV,Operator->jW,Result->jY,PlainAttrs->j1,quietNames->j7,KeyKind->ki,setFlight->kt,Within->kA,pyIter->kB,typeOf->kC
open List renaming getElem?_eq_some_iff->ag,mem_cons_of_mem->ai,getElem?_eq_getElem->aj,replicate->aq,mem_cons_self->ar,size_toArray->au,length_map->aw,mem_singleton->az,getElem?_append_right->aB,mem_cons->aC,getElem?_map->aF,length_append->aG,mem_append_right->aJ,all_eq_true->aK,getElem?_append_left->aM,map_cons->aN,mem_map->aP,filterMap_cons->aR,range->aU,getElem?_set_self->aV,getD_eq_getElem?_getD->aW,length_cons->aX,lookup_cons->aY,mem_append->aZ,mem_of_getElem?->a7,getElem?_set_ne->a9,length_set->bj,append_nil->bq,map_append->bD,set_append->bE,replicate_succ->bF,getElem?_eq_none->bG,map_map->bL,mem_map_of_mem->bN,not_mem_nil->bP,set_set->bW,length_take->bZ,mem_range->b7,mem_append_left->b8,append_assoc->cf,length_eq_zero_iff->ci,map->cj,mem_filterMap->cz,getElem?_toArray->cB,flatten_cons->cE,mem_iff_getElem->cF,filterMap_map->cP,foldl_cons->cV,find?_cons->cX,length_singleton->c8,contains_iff_mem->c9,map_nil->dm,drop_eq_getElem_cons->du,getElem?_range->dv,map_congr_left->dw,all_cons->dz,of_mem_zip->dF,range_succ_eq_map->dR,reverse_cons->dY,drop_zero->d6,take_of_length_le->d7,drop_eq_nil_of_le->d8,cons_append->d9,length_drop->eA,mem_filter->eQ,nodup_cons->eS,length_nil->eW,forIn_nil->fv,any_cons->fT,take_append_getElem->fY,getElem?_replicate->f7,filter_cons->gh,append_inj_right'->gI,nil_append->gK,forIn_cons->gL,set_getElem_self->gY,filterMap->ii,getElem?_of_mem->iq,length_pos_iff->iL,getElem?_take->i6,foldl_append->jo,any_eq_true->jz,getElem_mem->jC,getD->jE,take_length->jF,foldl->j2,set_comm->kq,all_map->kz,map_set->kI,length->kM,lookup->kN
open Bool renaming and_eq_true->ah,false_ne_true->aQ,false_eq_true->bB,or_eq_true->bJ,not_true->dA,not_eq_true'->d5,or_eq_false_iff->eO,eq_iff_iff->eX,and_true->fW,true_and->fX,and_eq_true_iff->gZ,false_and->jX,false_or->km
open Nat renaming le_refl->ak,le_trans->am,lt_of_lt_of_le->ay,ne_of_lt->aD,lt_irrefl->bu,zero_le->cc,sub_self->cG,add_assoc->cY,le_succ_of_le->dg,le_succ->dj,lt_succ_self->dr,zero_add->d4,le_of_lt->e6,add_comm->e8,le_of_succ_le->fF,lt_succ_of_lt->fG,lt_trichotomy->fL,lt_trans->gF,lt_or_ge->gH,pow_le_pow_right->ip,ne_of_gt->jc,le_of_not_lt->jx,mul_add->jJ,not_lt->j4,mul_comm->kD,add_zero->kH
open PySem.Heap renaming get?_push_of_some->ao,lt_size->aE,get?_push_size->aS,get?_update_other->bK,size_push->bT,get?_update_self->c7,SameBut->dS,ExtBut->jI
open Option.some renaming inj->ax
open False renaming elim->bn
open PyProof.Rows renaming slot_tuple_getitem->bp,kindOf->eg,envOfC->eT,AllBare->eZ,callWith_type1->e7,subscriptTail_builtinR->gy,entry_tuple_getitem->iI,Constant_none->iP,tupleItemsOf_->iT,args_tuple_getitem->iZ,IntsAre->jS,tail_any->jZ
open PySem.Builtin.Str renaming strSliceIndices->bv,occurrences->gg,strKind->iO,tooLong->ke
open PySem.Str renaming ofString->bz,length->j0
open PySem.Builtin.Tuple renaming tupleHashOf->bA,tupleItemsOf->cx,tupleExact->cH,tupleTooMany->fy,tupleIsExact->j5
open PySem.Builtin.SmallTypes renaming nextOf->bM
open Option renaming map_eq_some_iff->bU,map_some->dG,isSome_map->fK,isSome_iff_exists->fP,isSome_some->i4,getD_none->jw,map_none->jQ
open Int renaming toNat_natCast->bV,mul_le_mul_of_nonneg_left->eP,toNat_of_nonneg->eY,fdiv_eq_ediv_of_nonneg->fm,le_refl->fI,one_mul->fM,ofNat_lt->jm,zero_add->jn,natCast_mul->jN,le_antisymm->jO,sub_zero->kF,le_total->kG
open Ne renaming symm->cq
open PySem.F renaming plain_min_loop->cw,slot_tuple_iterator_next->cA,slot_str_split->cR,slot_NoneType_hash->dh,args_tuple_add_2->dB,args_str_split_2->dD,slot_int_rmul->dJ,entry_tuple_add->dL,entry_str_split->dP,slot_tuple_hash->dQ,slot_tuple_add->dX,slot_tuple_mul->d3,args_tuple_iterator_next_1->eV,entry_tuple_iterator_next->fe,slot_dict_getitem->fA,entry_min_loop->f9,slot_tuple_rmul->ga,plainAttrs_list->gf,slot_list_append->gW,args_int_rmul_2->ie,excBase_ValueError->il,slot_int_index->iJ,entry_int_rmul->iK,fills_int_mul->i3,slot_tuple_eq->jK
open PySem.Builtin.Slice renaming slicePlaces->cC,sliceAdjust->dt,sliceApplied->fq,slicePartIndex->jM,sliceFields->ka
open Array renaming length_toList->cI,forIn_toList->fg,getElem?_mapIdx->gX,append_assoc->iW,toList->ja
open PySem.Builtin.List renaming listTooLong->dC
open PySem.SeqAt.EqAt renaming same->dE,of_refs->fh,none_tuple->gO,tuple_none->gP,int_tuple->g6,str_tuple->g7,tuple_int->g8,tuple_str->g9,none_int->iC,none_str->iD,int_none->iE,str_none->iG,int_str->iU,str_int->iV
open PySem.Txt renaming split->eF,slice->eU
open PySem.Paired renaming length->eG,mono->kL,snoc->kP
open PySem.Around renaming under_plainId->eN,frames_deeper->hZ
open PySem.Builtin.Builtins renaming bindParams->e9
open PySem.Calls renaming Name_function_global->fj,callWith_builtin->gD,evalArgs_plain->ic
open PySem.W.OpenLaw renaming wellSaid->fN
open Classical renaming propDecidable->gd
open PySem.Obj renaming mapSeq->gz,data_mapFields->i5
open PySem.SeqAt renaming EqAt->gG,RcNeAt->kE,RcAt->kS
open PySem.Heap.SameBut renaming update->iM
open PySem.SeqAt.RcAt renaming tuples->i7
open PyProof.Rows.IsTup renaming new->jv
open PySem.PassesOwn renaming never->jP
open PySem.Walks renaming list->j3
open PySem.Builtin renaming bitAnd->j6
open PySem.Value renaming isStrOf->kh,isInt->kK
open PySem.CmpOf renaming ints_lt->kn
open Function renaming comp->ko
open PySem.Builtin.Range renaming rangeSize->kr
open PySem.StrLaws renaming found_one->ku
open PySem.W.OpenRow renaming toRowW->kx
open PySem.W.Looks renaming andThen->kJ,now->kT,ld->kU
open PySem.Heap.Ns renaming new->kO
open List.Pairwise renaming filter->kQ
open PySem.Heap.IsSliceOf renaming new->kR
noncomputable section
namespace L2
open PySem PySem.Spec PyProof.Rows
theorem head_of {l:cS}{q:aA}{loose:List Str}{H:PySem.W.Hook}{N:Nat}{d:DefRec}{h:List (Str×Expr)}
  (left:PySem.W.LeftO l.row.prog q loose (λ s=>PySem.W.xlAt q [] s&&PySem.W.recOk (PySem.W.RowW.records (kx l.row)) s) H.obs H.val N)
  (B:PySem.W.defOf q l.row.name=some (d,h)) (G:l.row.prog.theDef l.row.name=some (d.params,d.body,d.scope)) (hk:PySem.W.kwWritten? d.params.kwonlyargs d.params.kw_defaults=some h) (F:(!l.row.writes||l.row.records.isEmpty)=true)
  (k1:l.row.wellSaid=true) (ok:(PySem.W.chainsOk q&&PySem.W.opensWell l.row.prog&&(PySem.W.frees l.row.toRowW&&l.row.within.isEmpty))=true) (hb:l.row.prog.bare) (hw:l.row.toRowW.promised)
  (call:kg q loose (PySem.W.XL q []) H.says l.row.toRowW d h λ f vs=>jT f vs):l.row.Holds :=
 PySem.W.holds_open left H.of H.keeps (λ s e=>PySem.W.xl_of s (gZ.mp e).1) PySem.W.XL.keeps B G hk (λ s e=>PySem.W.recFacts_of (gZ.mp e).2) F k1 ok hb hw call
end L2
end
noncomputable section
namespace My
open PySem L2
noncomputable def nmS:Stmt->Bool
 | .Assign [.Name x _] _ _=>decide (x=("__name__":Str))
 | _=>false
noncomputable def vq:aA:={ PySem.Challenge.pw_leasttolls_k17_first_word_above with main:={ (PySem.Challenge.pw_leasttolls_k17_first_word_above).main with body:=(PySem.Challenge.pw_leasttolls_k17_first_word_above).main.body.filter λ s=>!nmS s } }
inductive IsL:cS->Prop|mk:IsL PySem.Challenge.rw_leasttolls_k17_first_word_above
theorem bH1 {l:cS}(h:IsL l):PySem.Challenge.rw_leasttolls_k17_first_word_above=l:=by cases h;rfl
noncomputable def lwp:{ l:cS // IsL l }:=by
 refine⟨?p,?h⟩
 case h =>
  have e:PySem.Challenge.rw_leasttolls_k17_first_word_above=?p:=by
   conv=>lhs;reduce
  exact e▸IsL.mk
theorem ws1:fN lwp.1=true:=by k_qdec
theorem ws:fN PySem.Challenge.rw_leasttolls_k17_first_word_above=true:=by
 rw[bH1 lwp.2];exact ws1
end My
end
section
open PySem PySem.W PyProof.Rows
local macro_rules | `(tactic| o_head $H) => `(tactic| refine L2.head_of (q := My.vq) (loose := []) (H := $H) (N := 4000) (λ w => by kernel_rfl) (by rfl) (by rfl) (by rfl) rfl (by assumption) (by decide +kernel) ⟨rfl, rfl, rfl, rfl, rfl, by decide +kernel⟩ ?_ ?_)
set_option maxRecDepth 100000 in
set_option maxHeartbeats 0 in
noncomputable def My.GT:{ G:Prop // G->PySem.Challenge.rw_leasttolls_k17_first_word_above.Holds }:=by
 refine⟨?G,?h⟩
 case h =>
  intro g
  w_on;refine holds_law My.ws λ said=>?_;k_head;(focus w_witness2)
  exact g
end
noncomputable section
namespace L2
open PySem PySem.Spec PyProof.Rows
noncomputable abbrev Key:=Sum Int Str
noncomputable def aB7:Key->Value->Bool
 | .inl k,v=>kK k v
 | .inr x,v=>kh x v
noncomputable def cf2 (w:World):Key->Int
 | .inl k=>hashInt k
 | .inr x=>hashStr w x
theorem zf:∀ {k:Key} {v:Value},aB7 k v=true->(∃ i t,k=Sum.inl i/\v=Value.int i t)\/(∃ x t,k=Sum.inr x/\v=Value.str x t)
 | .inl i,v,h=>by
  obtain⟨t,e⟩:=Value.isInt_shape (k:=i) (v:=v) h
  exact .inl ⟨i,t,rfl,e⟩
 | .inr x,v,h=>by
  obtain⟨t,e⟩:=Value.isStrOf_shape (x:=x) (v:=v) h
  exact .inr ⟨x,t,rfl,e⟩
theorem aU5 (i:Int)(t:Tok):aB7 (.inl i) (.int i t)=true:=by simp[aB7,kK]
theorem aX9 (x:Str)(t:Tok):aB7 (.inr x) (.str x t)=true:=by simp[aB7,kh]
theorem bT7 (a b:Int):decide ((Sum.inl a:Key)=Sum.inl b)=(a==b):=by
 by_cases e:a=b
 ·subst e;simp
 ·have h:¬(Sum.inl a:Key)=Sum.inl b:=λ q=>e (Sum.inl.inj q)
  rw[decide_eq_false h]
  exact(beq_eq_false_iff_ne.mpr e).symm
theorem bH8 (a b:Str):decide ((Sum.inr a:Key)=Sum.inr b)=decide (a=b):=by
 by_cases e:a=b
 ·subst e;simp
 ·have h:¬(Sum.inr a:Key)=Sum.inr b:=λ q=>e (Sum.inr.inj q)
  rw[decide_eq_false h,decide_eq_false e]
theorem bP9 (a:Int)(b:Str):decide ((Sum.inl a:Key)=Sum.inr b)=false:=decide_eq_false (λ q=>nomatch q)
theorem bR3 (a:Str)(b:Int):decide ((Sum.inr a:Key)=Sum.inl b)=false:=decide_eq_false (λ q=>nomatch q)
noncomputable def zM (prog:aA)(w:World):ki prog w Key where
 is:=aB7
 hash:=cf2 w
 inj:=λ v a b ha hb=>by
  rcases zf ha with⟨i,t,rfl,rfl⟩|⟨x,t,rfl,rfl⟩
  ·rcases zf hb with⟨j,u,rfl,e⟩|⟨y,u,rfl,e⟩
   ·injection e with e1 _;rw[e1]
   ·exact nomatch e
  ·rcases zf hb with⟨j,u,rfl,e⟩|⟨y,u,rfl,e⟩
   ·exact nomatch e
   ·injection e with e1 _;rw[e1]
 byValue:=λ k v h=>by
  rcases zf h with⟨i,t,rfl,rfl⟩|⟨x,t,rfl,rfl⟩<;>rfl
 pyHash:=λ hv h=>by
  rcases zf hv with⟨i,t,rfl,rfl⟩|⟨x,t,rfl,rfl⟩
  ·exact wpAny_pyHash_int h
  ·exact wpAny_pyHash_str h
 eqBool:=λ hu hv h=>by
  rcases zf hu with⟨i,t,rfl,rfl⟩|⟨x,t,rfl,rfl⟩
  ·rcases zf hv with⟨j,u,rfl,rfl⟩|⟨y,u,rfl,rfl⟩
   ·rw[bT7]at h;exact wpAny_eqBool_int h
   ·rw[bP9]at h;exact iU i t y u _ _ _ _ h
  ·rcases zf hv with⟨j,u,rfl,rfl⟩|⟨y,u,rfl,rfl⟩
   ·rw[bR3]at h;exact iV x t j u _ _ _ _ h
   ·rw[bH8]at h;exact wpAny_eqBool_str h
 «strs»:=λ k x t v h=>by
  rcases zf h with⟨i,u,rfl,e⟩|⟨y,u,rfl,e⟩
  ·exact nomatch e
  ·injection e with e1 _
   subst e1
   cases v<;>rfl
theorem aF5 (prog:aA)(w:World)(i:Int)(t:Tok):(zM prog w).is (.inl i) (.int i t)=true:=aU5 i t
theorem aF7 (prog:aA)(w:World)(x:Str)(t:Tok):(zM prog w).is (.inr x) (.str x t)=true:=aX9 x t
noncomputable abbrev FK:=Option Key
noncomputable def fIs:FK->Value->Bool
 | none,v=>match v with|.none=>true|_=>false
 | some k,v=>aB7 k v
noncomputable def fH (w:World):FK->Int
 | none=>0xFCA86420
 | some k=>cf2 w k
theorem zR {v:Value}(h:fIs none v=true):v=.none:=by
 cases v with
 | none=>rfl
 | _=>exact nomatch h
theorem aX5 {P:aA}{w:World}{A:aO}{E:Value->ae->Prop}{s:ae}{Q:Int->ae->Prop}(h:Q 0xFCA86420 { s with toks:=s.toks+1 }):wpAny (model P w) A (PySem.pyHash .none) Q E s:=by
 have hT:s.TypeIs .none "NoneType":=rfl
 unfold PySem.pyHash pyHashByItsType
 refine af (wpAny_cRoomFor_byValue rfl ?_)
 refine af (cT hT dh.lookup ?_)
 show wpAny _ _ (if(some (Value.builtin "NoneType.__hash__")==some Value.none)=true then _ else _) Q E s
 rw[if_neg (by rw[jp];exact aQ)]
 refine af (cT hT dh.lookup ?_)
 show wpAny _ _ (eK .none "__hash__" _ >>= _) Q E s
 refine af (c6 hT dh (cu dh hT F.entry_NoneType_hash
   (show wpAny _ _ (retInt 0xFCA86420) _ _ s from wpAny_ret_mkInt ?_) (F.args_NoneType_hash_1 _)))
 show wpAny _ _ (if _ then _ else _) Q E _
 rw[if_pos (by decide)]
 exact av h
noncomputable def qA (prog:aA)(w:World):ki prog w FK where
 is:=fIs
 hash:=fH w
 inj:=λ v a b ha hb=>by
  cases a with
  | none =>
   cases zR ha
   cases b with
   | none=>rfl
   | some k=>rcases zf hb with⟨_,_,_,e⟩|⟨_,_,_,e⟩<;>exact nomatch e
  | some k =>
   cases b with
   | none=>cases zR hb;rcases zf ha with⟨_,_,_,e⟩|⟨_,_,_,e⟩<;>exact nomatch e
   | some j=>exact congrArg some ((zM prog w).inj v k j ha hb)
 byValue:=λ k v h=>by
  cases k with
  | none=>cases zR h;rfl
  | some k=>exact(zM prog w).byValue k v h
 pyHash:=λ {A E s k v Q} hv h=>by
  cases k with
  | none=>cases zR hv;exact aX5 h
  | some k=>exact(zM prog w).pyHash (k:=k) hv h
 eqBool:=λ {A E s a b u v Q} hu hv h=>by
  cases a with
  | none =>
   cases zR hu
   cases b with
   | none=>cases zR hv;exact dE _ prog w E Q h
   | some k =>
    rcases zf hv with⟨i,t,rfl,rfl⟩|⟨x,t,rfl,rfl⟩
    ·exact iC i t _ _ _ _ h
    ·exact iD x t _ _ _ _ h
  | some k =>
   cases b with
   | none =>
    cases zR hv
    rcases zf hu with⟨i,t,rfl,rfl⟩|⟨x,t,rfl,rfl⟩
    ·exact iE i t _ _ _ _ h
    ·exact iG x t _ _ _ _ h
   | some j =>
    refine(zM prog w).eqBool (a:=k) (b:=j) hu hv ?_
    have e:decide (k=j)=decide (some k=some j):=by simp
    rw[e];exact h
 «strs»:=λ k x t v h=>by
  cases k with
  | none=>exact nomatch zR h
  | some k=>exact(zM prog w).strs k x t v h
noncomputable abbrev NI:=Sum FK (List FK)
section
variable (P:aA) (w:World)
noncomputable def NIs (h:Heap):NI->Value->Prop
 | .inl f,v=>fIs f v=true
 | .inr l,v=>∃ b,v=.ref b/\dH (qA P w) h l b
def bk5 (h:Heap)(ks:List NI)(a:Addr):Prop:=∃ o its n,h.get? a=some o/\o.cls=.type "tuple"/\o.data=.seq its n/\cJ (NIs P w h) ks its.toList
noncomputable def aF1:NI->Int
 | .inl f=>fH w f
 | .inr l=>tupleKeyHash (qA P w) l
noncomputable def aP2:NI->Nat
 | .inl f=>1
 | .inr l=>l.length+1
noncomputable def qP:List NI->Nat
 | []=>0
 | k::ks=>aP2 k+qP ks
end
section
variable {P:aA} {w:World} {h h':Heap}
theorem NIs.inj {x y:NI}{v:Value}(hx:NIs P w h x v)(hy:NIs P w h y v):x=y:=by
 cases x with
 | inl f =>
  cases y with
  | inl g=>exact congrArg Sum.inl ((qA P w).inj v f g hx hy)
  | inr l =>
   obtain⟨b,rfl,_⟩:=hy
   exact absurd ((qA P w).byValue f _ hx) (by nofun)
 | inr l =>
  obtain⟨b,rfl,hb⟩:=hx
  cases y with
  | inl g=>exact absurd ((qA P w).byValue g _ hy) (by nofun)
  | inr m =>
   obtain⟨c,e,hc⟩:=hy
   cases e
   exact congrArg Sum.inr (hb.inj hc)
theorem NIs.all_inj:∀ {x y:List NI} {vs:List Value},cJ (NIs P w h) x vs->cJ (NIs P w h) y vs->x=y
 | _,_,_,.nil,.nil=>rfl
 | _,_,_,.cons a p,.cons b q=>by rw[a.inj b,NIs.all_inj p q]
theorem bk5.inj {a:Addr}{x y:List NI}(hx:bk5 P w h x a)(hy:bk5 P w h y a):x=y:=by
 obtain⟨o,i,n,e,_,d,p⟩:=hx
 obtain⟨J,G,F,e',_,d',B⟩:=hy
 rw[e]at e';cases e'
 rw[d]at d';cases d'
 exact NIs.all_inj p B
theorem NIs.keep {x:NI}{v:Value}(k:∀ b l,dH (qA P w) h l b->dH (qA P w) h' l b)(hx:NIs P w h x v):NIs P w h' x v:=by
 cases x with
 | inl f=>exact hx
 | inr l=>obtain⟨b,e,p⟩:=hx;exact⟨b,e,k _ _ p⟩
theorem bB0 {A:aO}{E:Value->ae->Prop}{s:ae}{k:List NI}{a:Addr}{Q:Int->ae->Prop}(hu:A.units+1<cLine)(hk:bk5 P w s.heap k a)
  (h:Q (jU (bA (k.map (aF1 P w)))) { s with toks:=s.toks+(qP k+1) }):wpAny (model P w) A (PySem.pyHash (.ref a)) Q E s:=by
 obtain⟨o,its,n,e,c,d,p⟩:=hk
 have hT:s.TypeIs (.ref a) "tuple":=⟨o,e,c⟩
 unfold PySem.pyHash pyHashByItsType
 refine af (wpAny_cRoomFor (by omega) ?_)
 refine af (cT hT dQ.lookup ?_)
 show wpAny _ _ (if(some (Value.builtin "tuple.__hash__")==some Value.none)=true then _ else _) Q E s
 rw[if_neg (by rw[jp];nofun)]
 refine af (cT hT dQ.lookup ?_)
 show wpAny _ _ (eK (.ref a) "__hash__" _ >>= _) Q E s
 refine af (c6 hT dQ (cu dQ hT F.entry_tuple_hash ?_ (F.args_tuple_hash_1 _)))
 show wpAny _ _ (cx (.ref a) >>= _) _ _ s
 refine af (wpAny_tupleItemsOf e d (af ?_))
 rw[<-fg]
 refine fZ _
  (λ rest (b:Array Int) s'=>∃ q r,k=q++r/\cJ (NIs P w s.heap) r rest/\b.toList=q.map (aF1 P w)/\s'={ s with toks:=s.toks+qP q }) _ ?_ ?_ _ _ ⟨[],k,rfl,p,rfl,rfl⟩
 ·rintro x rest b s' ⟨q,r,rfl,pr,hb,rfl⟩
  cases pr with
  | @cons u _ r' _ h1 t =>
   have B:∀ q:List NI,qP (q++[u])=qP q+aP2 u:=λ q=>by
    induction q with
    | nil=>simp[qP]
    | cons c q ih=>rw[d9,qP,qP,ih];omega
   refine af ?_
   cases u with
   | inl f =>
    refine(qA P w).pyHash (k:=f) h1 ?_
    first
     | exact av ⟨q++[.inl f],r',by simp,t,by simp[hb];rfl,by rw[B];simp[aP2,cY]⟩
     | exact af (av (av ⟨q++[.inl f],r',by simp,t,by simp[hb];rfl,by rw[B];simp[aP2,cY]⟩))
   | inr l =>
    obtain⟨J,rfl,G⟩:=h1
    refine wpAny_pyHash_tuple (knd:=qA P w) (ks:=l) (s:={ s with toks:=s.toks+qP q }) (show A.units+1<cLine from hu) G ?_
    first
     | exact av ⟨q++[.inr l],r',by simp,t,by simp[hb];rfl,by rw[B];simp[aP2,cY]⟩
     | exact af (av (av ⟨q++[.inr l],r',by simp,t,by simp[hb];rfl,by rw[B];simp[aP2,cY]⟩))
 ·rintro b s' ⟨q,r,rfl,pr,hb,rfl⟩
  cases pr
  rw[bq]at h
  show wpAny _ _ (retInt (bA b.toList)) _ _ _
  rw[hb]
  refine wpAny_ret_mkInt ?_
  show wpAny _ _ (if(decide (-(2:Int)^63<=bA (q.map (aF1 P w)))&&decide (bA (q.map (aF1 P w))<2^63))=true then _ else _) Q E _
  unfold jU at h
  by_cases hr:(decide (-(2:Int)^63<=bA (q.map (aF1 P w)))&&decide (bA (q.map (aF1 P w))<2^63))=true
  ·rw[if_pos hr]at h ⊢
   exact av (by simpa [cY]using h)
  ·rw[if_neg hr]at h ⊢
   exact af (gi (av (by simpa [cY]using h)))
theorem aK1 {l:List FK}{b:Addr}(x:dH (qA P w) h l b):∃ its,h.IsTuple b its:=let⟨o,its,n,e,c,d,_⟩:=x;⟨its,o,e,c,n,d⟩
theorem ItemsAre.cg {B:aA}{F:World}:∀ {l:List FK} {vs:List Value},ItemsAre (qA P w) l vs->ItemsAre (qA B F) l vs
 | _,_,.nil=>.nil
 | _,_,.cons h t=>.cons (show fIs _ _=true from h) (ItemsAre.cg t)
theorem dH.cg {F:aA}{B:World}{l:List FK}{b:Addr}:dH (qA P w) h l b->dH (qA F B) h l b:=λ⟨o,i,n,e,c,d,p⟩=>⟨o,i,n,e,c,d,ItemsAre.cg p⟩
theorem NIs.cg {F:aA}{B:World}{x:NI}{v:Value}(hx:NIs P w h x v):NIs F B h x v:=by
 cases x with
 | inl f=>exact hx
 | inr l=>obtain⟨b,e,p⟩:=hx;exact⟨b,e,dH.cg p⟩
theorem cb3 {A:aO}{s:ae}{x y:NI}{u v:Value}(hu:A.units<cLine)(hx:NIs P w s.heap x u)(hy:NIs P w s.heap y v){E:Value->ae->Prop}{Q:Bool->ae->Prop}(h:Q (decide (x=y)) s):wpAny (model P w) A (PySem.eqBool u v) Q E s:=by
 cases x with
 | inl f =>
  cases y with
  | inl g =>
   refine(qA P w).eqBool (a:=f) (b:=g) hx hy ?_
   have e:decide (f=g)=decide ((Sum.inl f:NI)=Sum.inl g):=by simp
   rw[e];exact h
  | inr l =>
   obtain⟨b,rfl,hb⟩:=hy
   obtain⟨its,B⟩:=aK1 hb
   cases f with
   | none=>cases zR hx;exact gO B hu _ _ _ _ h
   | some k =>
    rcases zf hx with⟨i,t,rfl,rfl⟩|⟨z,t,rfl,rfl⟩
    ·exact g6 i t B hu _ _ _ _ h
    ·exact g7 z t B hu _ _ _ _ h
 | inr l =>
  obtain⟨b,rfl,hb⟩:=hx
  cases y with
  | inl f =>
   obtain⟨its,B⟩:=aK1 hb
   cases f with
   | none=>cases zR hy;exact gP B hu _ _ _ _ h
   | some k =>
    rcases zf hy with⟨i,t,rfl,rfl⟩|⟨z,t,rfl,rfl⟩
    ·exact g8 i t B hu _ _ _ _ h
    ·exact g9 z t B hu _ _ _ _ h
  | inr m =>
   obtain⟨c,rfl,hc⟩:=hy
   refine wpAny_eqBool_tuple hu hb hc ?_
   have e:decide (l=m)=decide ((Sum.inr l:NI)=Sum.inr m):=by simp
   rw[e];exact h
theorem aS6:∀(x y:List NI),((aU (min x.length y.length)).all (λ j=>decide (x[j]?=y[j]?))&&x.length==y.length)=decide (x=y)
 | [],[]=>rfl
 | [],_::_=>by simp
 | _::_,[]=>by simp
 | a::x,b::y=>by
  have h:=aS6 x y
  have B:min (a::x).length (b::y).length=min x.length y.length+1:=by simp only[aX];omega
  rw[B,dR,dz,kz]
  by_cases e:a=b
  ·subst e
   have:decide (a::x=a::y)=decide (x=y):=by simp
   rw[this,<-h]
   simp[Function.comp_def]
  ·have:decide ((a::x)[0]?=(b::y)[0]?)=false:=by simp[e]
   rw[this];simp[e]
theorem by8 {α β:Type}{F:α->β->Prop}:∀ {B:List α} {l₂:List β},cJ F B l₂->∀(j:Nat) (h:j<l₂.length),∃ a,B[j]?=some a/\F a l₂[j]
 | _,_,.nil,j,h=>absurd h (Nat.not_lt_zero _)
 | _,_,.cons r t,0,h=>⟨_,rfl,r⟩
 | _,_,.cons r t,j+1,h=>by8 t j (Nat.lt_of_succ_lt_succ h)
theorem bW8 {A:aO}{E:Value->ae->Prop}{s:ae}{x y:List NI}{a b:Addr}{Q:Bool->ae->Prop}(hu:A.units+1<cLine)(hx:bk5 P w s.heap x a)(hy:bk5 P w s.heap y b)(h:Q (decide (x=y)) s) :
  wpAny (model P w) A (PySem.eqBool (.ref a) (.ref b)) Q E s:=by
 by_cases hab:a=b
 ·subst hab
  cases hx.inj hy
  rw[decide_eq_true rfl]at h
  exact dE _ _ _ _ _ h
 ·obtain⟨o,i,n,e,c,d,p⟩:=hx
  obtain⟨o',F,Z,e',G,d',B⟩:=hy
  have l1:x.length=i.size:=eG p
  have l2:y.length=F.size:=eG B
  have key:=i7 (A:=A) (s:=s) (e:=λ j=>decide (x[j]?=y[j]?)) ⟨o,e,c,n,d⟩ ⟨o',e',G,Z,d'⟩ (by omega) λ j h1 J prog w' E' Q' hq=>by
   obtain⟨u,Y,q2⟩:=by8 p j (by rw[cI];exact h1)
   obtain⟨v,r1,r2⟩:=by8 B j (by rw[cI];exact J)
   refine cb3 (P:=prog) (w:=w') (x:=u) (y:=v) (show A.units+1<cLine from hu) (NIs.cg (by simpa using q2)) (NIs.cg (by simpa using r2)) ?_
   rw[Y,r1]at hq
   have e:decide (u=v)=decide (some u=some v):=by simp
   rw[e];exact hq
  rw[<-l1,<-l2,aS6]at key
  exact fh hab key P w E Q h
theorem aM3 {A:aO}{E:Value->ae->Prop}{s:ae}{x:NI}{v:Value}{Q:Bool->ae->Prop}(hx:NIs P w s.heap x v)(h:Q true s):wpAny (model P w) A (jq 7 v) Q E s:=by
 cases x with
 | inl f=>rw[i8 _ ((qA P w).byValue f _ hx)];exact av h
 | inr l =>
  obtain⟨b,rfl,o,its,n,e,c,d,p⟩:=hx
  have hT:s.TypeIs (.ref b) "tuple":=⟨o,e,c⟩
  unfold jq
  refine af (cT hT jK.lookup ?_)
  show wpAny _ _ (isInstance (.ref b) (.type "tuple") >>= _) _ _ s
  refine af (jr hT gQ ?_)
  simp only[dA,bB,if_false]
  refine af (cK e d (af ?_))
  show wpAny _ _ (forIn its _ _) _ _ s
  rw[<-fg]
  refine fZ _ (λ rest r s'=>r.1=none/\s'=s/\∀ v∈rest,carriedByValue v=true) _ ?_ ?_ _ _ ⟨rfl,rfl,p.byValue⟩
  ·rintro v rest r s' ⟨hr,rfl,al⟩
   rw[i8 _ (al v ar)]
   refine af (av ?_)
   simp only[dA,bB,if_false]
   exact av ⟨rfl,rfl,λ u q=>al u (ai _ q)⟩
  ·rintro⟨r1,r2⟩ s' ⟨hr,rfl,_⟩
   simp only at hr
   subst hr
   exact av h
theorem bc0 {A:aO}{E:Value->ae->Prop}{s:ae}{k:List NI}{a:Addr}{Q:Bool->ae->Prop}(hk:bk5 P w s.heap k a)(h:Q true s):wpAny (model P w) A (jq 8 (.ref a)) Q E s:=by
 obtain⟨o,its,n,e,c,d,p⟩:=hk
 have hT:s.TypeIs (.ref a) "tuple":=⟨o,e,c⟩
 unfold jq
 refine af (cT hT jK.lookup ?_)
 show wpAny _ _ (isInstance (.ref a) (.type "tuple") >>= _) _ _ s
 refine af (jr hT gQ ?_)
 simp only[dA,bB,if_false]
 refine af (cK e d (af ?_))
 show wpAny _ _ (forIn its _ _) _ _ s
 rw[<-fg]
 refine fZ _ (λ rest r s'=>r.1=none/\s'=s/\∃ ks,cJ (NIs P w s.heap) ks rest) _ ?_ ?_ _ _ ⟨rfl,rfl,k,p⟩
 ·rintro v rest r s' ⟨hr,rfl,ks,al⟩
  cases al with
  | cons h1 t =>
   refine af (aM3 h1 ?_)
   simp only[dA,bB,if_false]
   exact av ⟨rfl,rfl,_,t⟩
 ·rintro⟨r1,r2⟩ s' ⟨hr,rfl,_⟩
  simp only at hr
  subst hr
  exact av h
end
noncomputable def an6 (P:aA)(w:World):HeapKind P w (List NI) where
 is:=bk5 P w
 hash:=λ k=>jU (bA (k.map (aF1 P w)))
 draws:=λ k=>qP k+1
 room:=λ A=>A.units+1<cLine
 inj:=λ hx hy=>hx.inj hy
 keeps:=λ {h h' k a d o es ep} x ho hd hs=>by
  obtain⟨o',i,n,e,c,q,p⟩:=x
  have ne:a≠d:=by
   rintro rfl
   rw[e]at ho;cases ho
   rw[hd]at q;cases q
  exact⟨o',i,n,(hs.2 a ne).trans e,c,q,kL (λ x v z=>NIs.keep (λ b l t=>t.keeps ho hd hs) z) p⟩
 pyHash:=λ hu hk h=>bB0 hu hk h
 eqBool:=λ hu hx hy h=>bW8 hu hx hy h
 quiet:=λ hk h=>bc0 hk h
inductive V where
 | non|bl (b:Bool)|int (i:Int)|str (x:Str)|byt (b:Array UInt8)|flt (b:UInt64)|ref (a:Addr)|ty (n:String)
 deriving DecidableEq
noncomputable def RelV:V->Value->Prop
 | .non,u=>u=Value.none
 | .bl b,u=>u=Value.bool b
 | .int i,u=>∃ t,u=Value.int i t
 | .str x,u=>∃ t,u=Value.str x t
 | .byt b,u=>∃ t,u=Value.bytes b t
 | .flt b,u=>∃ t,u=Value.float b t
 | .ref a,u=>u=Value.ref a
 | .ty n,u=>u=Value.type n
abbrev Vals:List V->List Value->Prop:=cJ RelV
theorem Vals.length {h:List V}{us:List Value}(r:Vals h us):h.length=us.length:=eG r
theorem Vals.get:∀ {h:List V} {us:List Value} {i:Nat} {x:V},Vals h us->h[i]?=some x->∃ u,us[i]?=some u/\RelV x u
 | _,_,_,_,.nil,e=>by simp at e
 | _,_,0,_,.cons r _,e=>by simp at e;subst e;exact⟨_,rfl,r⟩
 | _,_,i+1,x,.cons _ t,e=>by
  obtain⟨u,F,B⟩:=Vals.get (i:=i) (x:=x) t (by simpa using e)
  exact⟨u,by simpa using F,B⟩
theorem Vals.set {x:V}{u:Value}(r:RelV x u):∀ {h:List V} {us:List Value} (i:Nat),Vals h us->Vals (h.set i x) (us.set i u)
 | _,_,_,.nil=>.nil
 | _,_,0,.cons _ t=>.cons r t
 | _,_,i+1,.cons q t=>.cons q (Vals.set r i t)
theorem Vals.append:∀ {h ys:List V} {us ws:List Value},Vals h us->Vals ys ws->Vals (h++ys) (us++ws)
 | _,_,_,_,.nil,s=>s
 | _,_,_,_,.cons r t,s=>.cons r (Vals.append t s)
theorem Vals.take:∀ {h:List V} {us:List Value} (n:Nat),Vals h us->Vals (h.take n) (us.take n)
 | _,_,0,_=>.nil
 | _,_,_+1,.nil=>.nil
 | _,_,n+1,.cons r t=>.cons r (Vals.take n t)
theorem Vals.drop:∀ {h:List V} {us:List Value} (n:Nat),Vals h us->Vals (h.drop n) (us.drop n)
 | _,_,0,r=>r
 | _,_,_+1,.nil=>.nil
 | _,_,n+1,.cons _ t=>Vals.drop n t
noncomputable def aO4:Option V->Option Value->Prop
 | some v,some u=>RelV v u
 | none,none=>True
 | _,_=>False
def KV {κ:Type}:List (κ×V)->List (κ×Value)->Prop:=cJ λ(p:κ×V) (q:κ×Value)=>p.1=q.1/\RelV p.2 q.2
noncomputable def kV:Key->V
 | .inl i=>.int i
 | .inr x=>.str x
inductive HO where
 | lst (xs:List V)
 | tup (xs:List V)
 | dK (kvs:List (Key×V))|dT (kvs:List (List NI×V))
 | set (S:Int->Bool) (n:Nat)
 | ins (C dx:Addr) (fs:List (Str×V))
 | own (x:Addr)
 | xd (fs:List (Str×V))
 | met (f x:Addr)
 | rng (lo hi:Int)
 | frz (o:Obj) (u:HO)
 | tbl (ps:Array Value)
 | ext (φ:Heap->Prop)
noncomputable abbrev Hp:=Addr->Option HO
noncomputable def fV:FK->V
 | none=>.non
 | some k=>kV k
noncomputable def NAt (H:Hp):NI->V->Prop
 | .inl f,v=>v=fV f
 | .inr l,v=>∃ c,v=.ref c/\H c=some (.tup (l.map fV))
def NK (H:Hp)(k:List NI)(b:Addr):Prop:=∃ xs,H b=some (.tup xs)/\cJ (NAt H) k xs
theorem NAt.mono {H H':Hp}{k:NI}{v:V}(F:∀ b B,H b=some (.tup B)->H' b=some (.tup B))(h:NAt H k v):NAt H' k v:=by
 cases k with
 | inl f=>exact h
 | inr l=>obtain⟨c,e,q⟩:=h;exact⟨c,e,F _ _ q⟩
theorem NK.mono {H H':Hp}{k:List NI}{b:Addr}(F:∀ b B,H b=some (.tup B)->H' b=some (.tup B))(h:NK H k b):NK H' k b:=let⟨B,e,p⟩:=h;⟨B,F _ _ e,kL (λ _ _ z=>z.mono F) p⟩
noncomputable def upd (H:Hp)(a:Addr)(o:HO):Hp:=λ b=>if b=a then some o else H b
theorem zB {H:Hp}{a:Addr}{o:HO}:upd H a o a=some o:=by unfold upd;rw[if_pos rfl]
theorem zn {H:Hp}{a b:Addr}{o:HO}(h:b≠a):upd H a o b=H b:=by unfold upd;rw[if_neg h]
theorem bK4 {H:Hp}{a b:Addr}{o u:HO}(h:H a=some o)(h':H b=some u)(d:o≠u):a≠b:=by
 intro e;subst e;rw[h]at h';exact d (ax h')
theorem zz {H:Hp}{a b:Addr}{o:HO}(h:H a=some o)(h':H b=none):a≠b:=by
 intro e;subst e;rw[h]at h';cases h'
section
variable (P:aA) (w:World)
noncomputable def ab7 (H:Hp)(h:Heap)(a:Addr):HO->Prop
 | .lst xs=>xs.length<=aI/\∃(its:List Value) (n:Nat),Vals xs its/\h.get? a=some { cls:=.type "list",data:=.seq its.toArray n }
 | .tup xs=>xs.length<=aI/\∃ its:List Value,Vals xs its/\IsTup h a its.toArray
 | .dK kvs=>kvs.length<=aI/\(a==cM)=false/\∃ vs,KV kvs vs/\h.DictOf (zM P w) a vs
 | .dT kvs=>kvs.length<=aI/\(a==cM)=false/\∃ xs:List (List NI×Addr×Value),
   cJ (λ(p:List NI×V) (q:List NI×Addr×Value)=>p.1=q.1/\NK H p.1 q.2.1/\RelV p.2 q.2.2) kvs xs /\
   ∃ o es ep,h.get? a=some o/\o.ExactDict/\o.data=.dict es ep/\es.toList=xs.map (entryOfKey (an6 P w))/\(xs.map (·.1)).Nodup
 | .set S n=>h.SetOf (intKind P w) a S n
 | .ins C dx fs=>H dx=some (.own a)/\fs.length<=1000/\dx≠a/\h.get? a=some (gJ C dx) /\
   ∃ mA,h.Ns1 dx mA/\(∀ f,aO4 (fs.lookup f) (mA f))/\kA mA (fs.map (·.1))
 | .own _=>∃ o,h.get? a=some o
 | .xd fs=>∃ mA,h.Ns1 a mA/\∀ f,aO4 (fs.lookup f) (mA f)
 | .rng lo hi=>∃ t u v,h.get? a=some { cls:=.type "range",data:=.fields #[.int lo t,.int hi u,.int 1 v] }
 | .frz o u=>h.get? a=some o/\ab7 H h a u
 | .tbl ps=>h.get? a=some { cls:=.none,data:=.fields ps }
 | .met f x=>h.get? a=some (fB (.ref f) (.ref x))
 | .ext φ=>φ h/\(∃ o,h.get? a=some o)/\∀ h1 h2:Heap,φ h1->(∀ o,h1.get? a=some o->h2.get? a=some o)->φ h2
def HOk (H:Hp)(h:Heap):Prop:=∀ a o,H a=some o->ab7 P w H h a o
end
section
variable {P:aA} {w:World} {H H':Hp} {h h':Heap} {a:Addr} {o:HO}
theorem ab7.lt (x:ab7 P w H h a o):a<h.objs.size:=by
 cases o with
 | lst xs=>obtain⟨_,_,_,_,e⟩:=x;exact aE e
 | tup xs=>obtain⟨_,_,_,p⟩:=x;exact p.lt
 | dK kvs=>obtain⟨_,_,_,_,o,_,_,e,_⟩:=x;exact aE e
 | dT kvs=>obtain⟨_,_,_,_,o,_,_,e,_⟩:=x;exact aE e
 | set S n=>obtain⟨o,_,_,_,e,_⟩:=x;exact aE e
 | ins C dx fs=>obtain⟨_,_,_,e,_⟩:=x;exact aE e
 | own y=>obtain⟨_,e⟩:=x;exact aE e
 | xd fs=>obtain⟨_,⟨_,_,_,e,_⟩,_⟩:=x;exact aE e
 | rng lo hi=>obtain⟨_,_,_,e⟩:=x;exact aE e
 | frz ob u=>obtain⟨e,_⟩:=x;exact aE e
 | tbl ps=>exact aE (show h.get? a=some _ from x)
 | met f y=>exact aE (show h.get? a=some _ from x)
 | ext φ=>obtain⟨_,⟨_,e⟩,_⟩:=x;exact aE e
theorem cJ.mapP {α β:Type}{F G:α->β->Prop}:∀ {h:List α} {l₂:List β},cJ F h l₂->(∀ a b,F a b->G a b)->cJ G h l₂
 | _,_,.nil,_=>.nil
 | _,_,.cons r t,f=>.cons (f _ _ r) (cJ.mapP t f)
theorem ab7.stay (x:ab7 P w H h a o)(k:∀ b u,(b=a\/H b=some (.own a))->h.get? b=some u->h'.get? b=some u)
  (ho:∀ b,H b=some (.own a)->H' b=some (.own a)) (G:∀ b B,H b=some (.tup B)->H' b=some (.tup B)):ab7 P w H' h' a o:=by
 induction o with
 | lst B=>obtain⟨z,its,n,r,e⟩:=x;exact⟨z,its,n,r,k _ _ (.inl rfl) e⟩
 | tup B=>obtain⟨z,its,r,ob,e,c⟩:=x;exact⟨z,its,r,ob,k _ _ (.inl rfl) e,c⟩
 | dK kvs=>obtain⟨z,y,vs,r,ob,es,ep,e,c⟩:=x;exact⟨z,y,vs,r,ob,es,ep,k _ _ (.inl rfl) e,c⟩
 | dT kvs =>
  obtain⟨z,y,B,r,ob,es,ep,e,c⟩:=x
  exact⟨z,y,B,cJ.mapP r λ p q z=>⟨z.1,z.2.1.mono G,z.2.2⟩,ob,es,ep,k _ _ (.inl rfl) e,c⟩
 | set S n=>obtain⟨ob,es,ep,t,e,c⟩:=x;exact⟨ob,es,ep,t,k _ _ (.inl rfl) e,c⟩
 | ins C dx fs =>
  obtain⟨d,z,ne,e,F,⟨od,es,ep,e2,c⟩,r⟩:=x
  exact⟨ho _ d,z,ne,k _ _ (.inl rfl) e,F,⟨od,es,ep,k _ _ (.inr d) e2,c⟩,r⟩
 | own y=>obtain⟨ob,e⟩:=x;exact⟨ob,k _ _ (.inl rfl) e⟩
 | xd fs=>obtain⟨F,⟨od,es,ep,e,c⟩,r⟩:=x;exact⟨F,⟨od,es,ep,k _ _ (.inl rfl) e,c⟩,r⟩
 | rng lo hi=>obtain⟨t,u,v,e⟩:=x;exact⟨t,u,v,k _ _ (.inl rfl) e⟩
 | frz ob u ih=>obtain⟨e,q⟩:=x;exact⟨k _ _ (.inl rfl) e,ih q⟩
 | tbl ps =>
  have e:h.get? a=some { cls:=.none,data:=.fields ps }:=x
  show h'.get? a=some { cls:=.none,data:=.fields ps }
  exact k a _ (.inl rfl) e
 | met f y =>
  have e:h.get? a=some (fB (.ref f) (.ref y)):=x
  show h'.get? a=some (fB (.ref f) (.ref y))
  exact k a _ (.inl rfl) e
 | ext φ=>obtain⟨p,⟨o,e⟩,st⟩:=x;exact⟨st _ _ p λ o q=>k _ _ (.inl rfl) q,⟨o,k _ _ (.inl rfl) e⟩,st⟩
theorem HOk.lt (x:HOk P w H h)(e:H a=some o):a<h.objs.size:=(x a o e).lt
theorem HOk.fresh (x:HOk P w H h)(e:h.objs.size<=a):H a=none:=by
 cases q:H a with
 | none=>rfl
 | some u=>exact absurd (ay (x.lt q) e) (bu _)
theorem HOk.kept (x:HOk P w H h)(k:∀ b u,h.get? b=some u->h'.get? b=some u):HOk P w H h':=λ a o e =>
 (x a o e).stay (λ b u _ q=>k b u q) (λ _ q=>q) λ _ _ q=>q
theorem HOk.laid (x:HOk P w H h)(k:∀ b u,h.get? b=some u->h'.get? b=some u)(B:h.objs.size<=a)(new:ab7 P w (upd H a o) h' a o):HOk P w (upd H a o) h':=λ b u e=>by
 have hn:=x.fresh B
 by_cases hb:b=a
 ·subst hb;rw[zB]at e;cases e;exact new
 ·rw[zn hb]at e
  exact(x b u e).stay (λ c v _ q=>k c v q) (λ c q=>by rw[zn (zz q hn)];exact q) λ c F q=>by rw[zn (zz q hn)];exact q
end
def Rd (H:Hp)(a:Addr)(u:HO):Prop:=H a=some u\/∃ o,H a=some (.frz o u)
theorem Rd.ok {P:aA}{w:World}{H:Hp}{h:Heap}{a:Addr}{u:HO}(r:Rd H a u)(x:HOk P w H h):ab7 P w H h a u:=by
 rcases r with r|⟨o,r⟩
 ·exact x a u r
 ·obtain⟨_,q⟩:=x a _ r
  exact q
noncomputable def Mut:Option HO->Prop
 | some (.lst _)=>True
 | some (.dK _)=>True
 | some (.dT _)=>True
 | some (.set _ _)=>True
 | some (.ins _ _ _)=>True
 | some (.ext _)=>True
 | _=>False
section
variable {P:aA} {w:World} {H:Hp} {h h':Heap} {x e:Addr} {o':HO}
theorem HOk.write (ok:HOk P w H h)(mu:Mut (H x))(he:e=x\/H e=some (.own x))(k:∀ b u,b≠e->h.get? b=some u->h'.get? b=some u)(J:∃ u,h'.get? e=some u)
  (new:ab7 P w (upd H x o') h' x o'):HOk P w (upd H x o') h':=λ b u q=>by
 have B:∀ c y,H c=some (.own y)->c≠x:=λ c y r z=>by subst z;rw[r]at mu;exact mu
 have F:∀ c G,H c=some (.tup G)->c≠x:=λ c G r z=>by subst z;rw[r]at mu;exact mu
 by_cases hb:b=x
 ·subst hb;rw[zB]at q;cases q;exact new
 ·rw[zn hb]at q
  by_cases hbe:b=e
  ·have Y:H b=some (.own x):=by
    rcases he with z|z
    ·exact absurd (hbe.trans z) hb
    ·rw[hbe];exact z
   rw[q]at Y;cases Y
   obtain⟨v,hv⟩:=J
   exact⟨v,by rw[hbe];exact hv⟩
  ·refine(ok b u q).stay (λ c v hc r=>k c v ?_ r) (λ c r=>by rw[zn (B c b r)];exact r) λ c G r=>by rw[zn (F c G r)];exact r
   rcases hc with rfl|hc
   ·exact hbe
   ·rintro rfl
    rcases he with z|z
    ·exact B c b hc z
    ·rw[hc]at z;cases z;exact hb rfl
end
structure Un (fs ex:List Addr)(H H':Hp)(h h':Heap):Prop where
 keep:∀ b o,h.get? b=some o->H b=none->b ∉ fs->b ∉ ex->h'.get? b=some o
 slot:∀ b o,h.get? b=some o->H b=none->b∈fs->b ∉ ex->∃ sl,h'.get? b=some { o with slots:=sl }
 free:∀ b o,h.get? b=some o->H b=none->b ∉ ex->H' b=none
 there:∀ b o,h.get? b=some o->b ∉ ex->∃ o',h'.get? b=some o'
 tups:∀ b xs,H b=some (.tup xs)->H' b=some (.tup xs)
 frzs:∀ b o u,H b=some (.frz o u)->H' b=some (.frz o u)
 tbls:∀ b ps,H b=some (.tbl ps)->∃ more,H' b=some (.tbl (ps++more))
section
variable {fs fs' ex ex':List Addr} {H H1 H2:Hp} {h h1 h2 h':Heap} {a x e:Addr} {o:HO}
theorem Un.any (u:Un fs ex H H1 h h1){b:Addr}{ob:Obj}(q:h.get? b=some ob)(n:H b=none)(hx:b ∉ ex):∃ sl,h1.get? b=some { ob with slots:=sl }:=by
 by_cases hb:b∈fs
 ·exact u.slot b ob q n hb hx
 ·exact⟨ob.slots,u.keep b ob q n hb hx⟩
theorem Un.kept (k:∀ b u,h.get? b=some u->h'.get? b=some u):Un fs ex H H h h' :=
 ⟨λ b ob q _ _ _=>k b ob q,λ b ob q _ _ _=>⟨ob.slots,k b ob q⟩,λ _ _ _ n _=>n,λ b ob q _=>⟨ob,k b ob q⟩,λ _ _ q=>q,λ _ _ _ q=>q,λ _ ps q=>⟨#[],by rw[q];simp⟩⟩
theorem Un.refl:Un fs ex H H h h:=Un.kept λ _ _ q=>q
theorem Un.laid (k:∀ b u,h.get? b=some u->h'.get? b=some u)(F:h.objs.size<=a)(hn:H a=none):Un fs ex H (upd H a o) h h' where
 keep:=λ b u q _ _ _=>k b u q
 slot:=λ b u q _ _ _=>⟨u.slots,k b u q⟩
 free:=λ b u q n _=>by rw[zn (aD (ay (aE q) F))];exact n
 there:=λ b u q _=>⟨u,k b u q⟩
 tups:=λ b B q=>by rw[zn (zz q hn)];exact q
 frzs:=λ b u B q=>by rw[zn (zz q hn)];exact q
 tbls:=λ b ps q=>⟨#[],by rw[zn (zz q hn),q];simp⟩
theorem Un.write (mu:Mut (H x))(he:e=x\/H e=some (.own x))(k:∀ b u,b≠e->h.get? b=some u->h'.get? b=some u)(B:∃ u,h'.get? e=some u):Un fs ex H (upd H x o) h h':=by
 have hx:∀ b,H b=none->b≠x:=λ b n z=>by subst z;rw[n]at mu;exact mu
 have hb:∀ b,H b=none->b≠e:=λ b n z=>by
  subst z
  rcases he with r|r
  ·exact hx b n r
  ·rw[n]at r;cases r
 have F:∀ b u,H b=some u->¬ Mut (some u)->b≠x:=λ b u q nm z=>by subst z;rw[q]at mu;exact nm mu
 refine⟨λ b u q n _ _=>k b u (hb b n) q,λ b u q n _ _=>⟨u.slots,k b u (hb b n) q⟩,λ b u q n _=>by rw[zn (hx b n)];exact n,λ b u q _=>?_,
  λ b G q=>by rw[zn (F b _ q λ z=>z)];exact q,λ b u G q=>by rw[zn (F b _ q λ z=>z)];exact q,λ b ps q=>⟨#[],by rw[zn (F b _ q λ z=>z),q];simp⟩⟩
 by_cases hbe:b=e
 ·subst hbe;exact B
 ·exact⟨u,k b u hbe q⟩
end
noncomputable def trk (h:Heap)(H:Hp):List Addr:=(aU h.objs.size).filter λ a=>(H a).isSome
noncomputable def bb8 (h:Heap)(H:Hp):Heap:=PySem.W.hideAll h (trk h H)
theorem ba9 (h:Heap)(H:Hp):(bb8 h H).objs.size=h.objs.size:=PySem.W.hideAll_size _ _
theorem ai8 {h:Heap}{H:Hp}{b:Addr}{o:Obj}(e:h.get? b=some o)(n:H b=none):(bb8 h H).get? b=some o :=
 PySem.W.hideAll_get _ e λ B=>by
  have q:(H b).isSome=true:=(eQ.mp B).2
  rw[n]at q;simp at q
theorem bu0 {h:Heap}{H:Hp}{b:Addr}{o:Obj}(e:(bb8 h H).get? b=some o):h.get? b=some o/\H b=none:=by
 have e':h.get? b=some o:=PySem.W.of_hideAll (trk h H) e
 refine⟨e',?_⟩
 cases q:H b with
 | none=>rfl
 | some x =>
  have B:b∈trk h H:=eQ.mpr ⟨b7.mpr (aE e'),by simp[q]⟩
  have z:(bb8 h H).get? b=none:=PySem.W.hideAll_none (trk h H) B
  rw[z]at e;cases e
noncomputable def bs5 (g h:Heap)(L:Addr):List (Addr×Obj):=(aU h.objs.size).filterMap λ a=>if a=L\/(g.get? a).isSome=true then none else(h.get? a).map λ o=>(a,o)
noncomputable def rest (g h:Heap)(L d:Addr):List (Addr×Obj):=(bs5 g h L).filter λ p=>decide (p.1≠d)
structure Mod (K:ac)(mg:Str->Option Value)(base:Heap):Prop where
 kin:K.In base
 glob:base.Ns bh mg
 blt:∃ mb,base.Ns gj mb/\∀ x:Str,x ≠ "__name__"->mb x=be x
 nolimit:base.NoLimit
structure Cx where
 prog:aA
 w:World
 K:ac
 mg:Str->Option Value
 base:Heap
 A:aO
 N:List Str
 s₀:ae
 H₀:Hp
 env:Env
 outer:List Env
 stack:List Env
 ex:List Addr
 fn:Str->Bool
 calm:Bool
 pn:List (Addr×Obj)
 xe:Value->ae->Prop
noncomputable def frs (l:List Env):List Addr:=l.filterMap (·.frame)
noncomputable abbrev Cx.fs (X:Cx):List Addr:=frs X.outer
def Vis (sc:Scope)(x:Str):Prop:=sc.names.lookup x=some .local\/sc.names.lookup x=some .cell\/sc.names.lookup x=some .free
def Loc (sc:Scope)(x:Str):Prop:=sc.names.lookup x=some .local\/sc.names.lookup x=some .cell
def Look (env:Env)(h:Heap)(m:Str->Option Value)(x:Str)(u:Value):Prop :=
 (env.kindOf x=some .local/\m x=some u)\/((env.kindOf x=some .cell\/env.kindOf x=some .free)/\∃ c,env.cells.lookup x=some c/\h.IsCell c (some u))
structure Cx.Ok (X:Cx):Prop where
 mod:Mod X.K X.mg X.base
 kind:X.env.scope.kind=.function
 glob:X.env.globals=bh
 blt:X.env.builtins=gj
 above:X.s₀.heap.objs.size<=X.env.locals
 inj:∀ x y c,X.env.cells.lookup x=some c->X.env.cells.lookup y=some c->x=y
 has:∀ x,(X.env.kindOf x=some .cell\/X.env.kindOf x=some .free)->∃ c,X.env.cells.lookup x=some c
 cab:∀ x c,X.fn x=true->X.env.cells.lookup x=some c->X.s₀.heap.objs.size<=c
 hd:X.calm=true->X.A.handled=none
 frames:X.A.frames=some X.stack
 stk:X.stack=X.outer\/(X.stack=X.env::X.outer/\X.env.frame=some X.env.locals)
 exf:∀ b∈X.ex,b≠X.env.locals/\∀ x c,X.env.cells.lookup x=some c->c≠b
 bs:∀ b o,X.base.get? b=some o->X.s₀.heap.get? b=some o/\X.H₀ b=none
 bsz:X.base.objs.size<=X.s₀.heap.objs.size
 noex:∀ b o,X.base.get? b=some o->b ∉ X.ex
 exfs:∀ b∈X.ex,b ∉ X.fs
 funs:X.s₀.heap.FunFrames X.base X.outer
 frf:∀ b∈X.fs,X.H₀ b=none
structure Inv (X:Cx)(pins:List (Addr×Obj))(σ:List (Option V))(H:Hp)(s:ae):Prop where
 ok:X.Ok
 os:s.os=X.s₀.os
 bare:eZ s.gens
 base:Un X.fs X.ex X.H₀ H X.s₀.heap s.heap
 loc:∃ m,s.heap.Ns X.env.locals m/\∀(i:Nat) (x:Str) (v:V),X.N[i]?=some x->σ[i]?=some (some v)->Vis X.env.scope x->∃ u,RelV v u/\Look X.env s.heap m x u
 cell:∀ x c,X.env.cells.lookup x=some c->∃ v,s.heap.IsCell c v
 free:H X.env.locals=none
 freeC:∀ x c,X.env.cells.lookup x=some c->H c=none
 pin:∀ p∈X.pn++pins,s.heap.get? p.1=some p.2/\H p.1=none/\p.1≠X.env.locals/\p.1 ∉ X.fs/\∀ v,p.2.data≠.cell v
 hok:HOk X.prog X.w H s.heap
 len:σ.length=X.N.length
section
variable {X:Cx} {pins:List (Addr×Obj)} {σ:List (Option V)} {H H':Hp} {s:ae} {h':Heap}
theorem Cx.Ok.nofr (ok:X.Ok){b:Addr}{o:Obj}(e:X.base.get? b=some o):b ∉ X.fs:=λ hb=>by
 have:=(ok.funs.mem hb).1
 rw[e]at this;cases this
theorem Inv.bs (I:Inv X pins σ H s):∀ b o,X.base.get? b=some o->s.heap.get? b=some o/\H b=none:=λ b o e =>
 ⟨I.base.keep b o (I.ok.bs b o e).1 (I.ok.bs b o e).2 (I.ok.nofr e) (I.ok.noex b o e),I.base.free b o (I.ok.bs b o e).1 (I.ok.bs b o e).2 (I.ok.noex b o e)⟩
theorem Inv.bk (I:Inv X pins σ H s):∀ b o,X.base.get? b=some o->s.heap.get? b=some o:=λ b o e=>(I.bs b o e).1
theorem Inv.mod (I:Inv X pins σ H s):Mod X.K X.mg X.base:=I.ok.mod
theorem Inv.kIn (I:Inv X pins σ H s):X.K.In s.heap:=I.ok.mod.kin.keeps I.bk
theorem Inv.nolimit (I:Inv X pins σ H s):s.heap.NoLimit:=I.ok.mod.nolimit.keeps I.bk
theorem Inv.lt (I:Inv X pins σ H s):X.env.locals<s.heap.objs.size:=let⟨_,hn,_⟩:=I.loc;hn.lt
theorem Inv.sz (I:Inv X pins σ H s):X.s₀.heap.objs.size<=s.heap.objs.size:=am I.ok.above (e6 I.lt)
theorem Inv.nofs (I:Inv X pins σ H s){a:Addr}(h:s.heap.objs.size<=a):a ∉ X.fs:=λ hb=>by
 obtain⟨_,o,ho,_⟩:=I.ok.funs.mem hb
 exact absurd (ay (aE ho) (am I.sz h)) (bu _)
theorem Inv.cne (I:Inv X pins σ H s):∀ x c,X.env.cells.lookup x=some c->c≠X.env.locals:=λ x c e z=>by
 obtain⟨v,o,ho,hd⟩:=I.cell x c e
 obtain⟨m,⟨F,es,ep,B,h,_⟩,_⟩:=I.loc
 rw[z,B]at ho;cases ho;rw[h]at hd;cases hd
theorem Inv.funs (I:Inv X pins σ H s):s.heap.FunFrames X.base X.outer:=by
 have all:∀(l:List Env),(∀ b∈frs l,b∈X.fs)->X.s₀.heap.FunFrames X.base l->s.heap.FunFrames X.base l:=by
  intro l
  induction l with
  | nil=>intro _ _;trivial
  | cons env r ih =>
   intro hs hl
   obtain⟨hk,⟨L,o,hf,hn,ho,hd⟩,hr⟩:=hl
   have h:L∈X.fs:=hs L (by unfold frs;rw[aR,hf];exact ar)
   obtain⟨sl,e⟩:=I.base.slot L o ho (I.ok.frf L h) h λ z=>I.ok.exfs L z h
   exact⟨hk,⟨L,_,hf,hn,e,hd⟩,ih (λ b hb=>hs b (by unfold frs;rw[aR,hf];exact ai _ hb)) hr⟩
 exact all X.outer (λ _ hb=>hb) I.ok.funs
theorem Inv.stack (I:Inv X pins σ H s):s.heap.FunFrames X.base X.stack:=by
 rcases I.ok.stk with e|⟨e,hf⟩
 ·rw[e];exact I.funs
 ·rw[e]
  obtain⟨m,hn,_⟩:=I.loc
  refine .cons (by rw[I.ok.kind];decide) hf hn ?_ I.funs
  exact Heap.get?_none_of_le (am I.ok.bsz I.ok.above)
theorem Inv.stkSub (I:Inv X pins σ H s):∀ b∈frs X.stack,b∈X.env.locals::X.fs:=λ b hb=>by
 rcases I.ok.stk with e|⟨e,hf⟩
 ·rw[e]at hb;exact ai _ hb
 ·rw[e]at hb
  unfold frs at hb
  rw[aR,hf]at hb
  exact hb
theorem Inv.stkFree (I:Inv X pins σ H s):∀ b∈frs X.stack,H b=none:=λ b hb=>by
 rcases aC.mp (I.stkSub b hb)with e|hb
 ·rw[e];exact I.free
 ·obtain⟨_,o,ho,_⟩:=I.ok.funs.mem hb
  exact I.base.free b o ho (I.ok.frf b hb) λ z=>I.ok.exfs b z hb
theorem Inv.step {g':Array GenState}{t':Nat}{d':Drawn}{ch:List Addr}(I:Inv X pins σ H s)
  (F:∀ b∈ch,(b∈X.ex\/X.s₀.heap.objs.size<=b)/\b≠X.env.locals/\(∀ x c,X.env.cells.lookup x=some c->c≠b)/\∀ p∈X.pn++pins,p.1≠b)
  (keep:∀ b o,b≠X.env.locals->b ∉ X.fs->b ∉ ch->s.heap.get? b=some o->H b=none->h'.get? b=some o)
  (slot:∀ b o,b≠X.env.locals->b∈X.fs->b ∉ ch->s.heap.get? b=some o->H b=none->∃ sl,h'.get? b=some { o with slots:=sl }) (free:∀ b o,b ∉ ch->s.heap.get? b=some o->H b=none->H' b=none)
  (there:∀ b o,b ∉ ch->s.heap.get? b=some o->∃ o',h'.get? b=some o')
  (tups:∀ b J,H b=some (.tup J)->H' b=some (.tup J)) (frzs:∀ b o u,H b=some (.frz o u)->H' b=some (.frz o u)) (tbls:∀ b ps,H b=some (.tbl ps)->∃ Z,H' b=some (.tbl (ps++Z)))
  (ns:∀ m,s.heap.Ns X.env.locals m->h'.Ns X.env.locals m) (hok:HOk X.prog X.w H' h') (hg:eZ g') :
  Inv X pins σ H' { s with heap:=h',gens:=g',drawn:=d',toks:=t' }:=by
 have Y:∀ b o,X.s₀.heap.get? b=some o->b≠X.env.locals:=λ b o e=>aD (ay (aE e) I.ok.above)
 have G:∀ b o,X.s₀.heap.get? b=some o->b ∉ X.ex->b ∉ ch:=λ b o e hx hb=>by
  rcases(F b hb).1 with z|z
  ·exact hx z
  ·exact absurd (ay (aE e) z) (bu _)
 have B:∀ x c,X.env.cells.lookup x=some c->∀ v,s.heap.IsCell c v->h'.IsCell c v:=λ x c e v ⟨o,ho,hd⟩=>by
  have h:c ∉ ch:=λ z=>(F c z).2.2.1 x c e rfl
  by_cases hc:c∈X.fs
  ·obtain⟨sl,q⟩:=slot c o (I.cne x c e) hc h ho (I.freeC x c e)
   exact⟨_,q,hd⟩
  ·exact⟨o,keep c o (I.cne x c e) hc h ho (I.freeC x c e),hd⟩
 refine⟨I.ok,I.os,hg,⟨λ b o e n hb hx=>?_,λ b o e n hb hx=>?_,λ b o e n hx=>?_,λ b o e hx=>?_,λ b J e=>tups b J (I.base.tups b J e),λ b o J e=>frzs b o J (I.base.frzs b o J e),λ b ps e=>?_⟩,?_,λ x c e=>?_,?_,λ x c e=>?_,λ p hp=>?_,hok,I.len⟩
 ·exact keep b o (Y b o e) hb (G b o e hx) (I.base.keep b o e n hb hx) (I.base.free b o e n hx)
 ·obtain⟨sl,e1⟩:=I.base.slot b o e n hb hx
  obtain⟨a0,e2⟩:=slot b _ (Y b o e) hb (G b o e hx) e1 (I.base.free b o e n hx)
  exact⟨a0,e2⟩
 ·obtain⟨o',e1⟩:=I.base.there b o e hx
  exact free b o' (G b o e hx) e1 (I.base.free b o e n hx)
 ·obtain⟨o',e1⟩:=I.base.there b o e hx
  exact there b o' (G b o e hx) e1
 ·obtain⟨m1,e1⟩:=I.base.tbls b ps e
  obtain⟨m2,e2⟩:=tbls b _ e1
  exact⟨m1++m2,by rw[e2,iW]⟩
 ·obtain⟨m,hn,hl⟩:=I.loc
  refine⟨m,ns m hn,λ i x v e1 e2 e3=>?_⟩
  obtain⟨u,r,l⟩:=hl i x v e1 e2 e3
  refine⟨u,r,?_⟩
  rcases l with l|⟨k,c,e,z⟩
  ·exact .inl l
  ·exact .inr ⟨k,c,e,B x c e _ z⟩
 ·obtain⟨v,z⟩:=I.cell x c e
  exact⟨v,B x c e v z⟩
 ·obtain⟨m,⟨o,_,_,ho,_⟩,_⟩:=I.loc
  exact free _ o (λ z=>(F _ z).2.1 rfl) ho I.free
 ·obtain⟨v,o,ho,hd⟩:=I.cell x c e
  exact free c o (λ z=>(F c z).2.2.1 x c e rfl) ho (I.freeC x c e)
 ·obtain⟨e,n,ne,nf,d⟩:=I.pin p hp
  have h:p.1 ∉ ch:=λ z=>(F p.1 z).2.2.2 p hp rfl
  exact⟨keep p.1 p.2 ne nf h e n,free p.1 p.2 h e n,ne,nf,d⟩
theorem Inv.un {t':Nat}(I:Inv X pins σ H s)(u:Un X.fs [] H H' s.heap h')(hok:HOk X.prog X.w H' h'):Inv X pins σ H' { s with heap:=h',toks:=t' }:=by
 obtain⟨m,⟨o,es,ep,ho,r⟩,_⟩:=id I.loc
 obtain⟨sl,Y⟩:=u.any ho I.free (by simp)
 exact I.step (g':=s.gens) (d':=s.drawn) (ch:=[]) (λ _ z=>nomatch z) (λ b o _ hb _ e n=>u.keep b o e n hb (by simp)) (λ b o _ hb _ e n=>u.slot b o e n hb (by simp)) (λ b o _ e n=>u.free b o e n (by simp)) (λ b o _ e=>u.there b o e (by simp)) u.tups u.frzs u.tbls (λ m' J=>by
  obtain⟨Z,F,B,h,G⟩:=J
  rw[ho]at h;cases h
  exact⟨_,F,B,Y,G⟩) hok I.bare
theorem Inv.call {g':Array GenState}{t':Nat}{d':Drawn}{ch:List Addr}(I:Inv X pins σ H s)(u:Un (frs X.stack) ch H H' s.heap h')(hok:HOk X.prog X.w H' h')(hg:eZ g')
  (B:∀ b∈ch,(b∈X.ex\/X.s₀.heap.objs.size<=b)/\b≠X.env.locals/\(∀ x c,X.env.cells.lookup x=some c->c≠b)/\∀ p∈X.pn++pins,p.1≠b) :
  Inv X pins σ H' { s with heap:=h',gens:=g',drawn:=d',toks:=t' }:=by
 obtain⟨m,⟨o,es,ep,ho,r⟩,_⟩:=id I.loc
 obtain⟨sl,J⟩:=u.any ho I.free λ z=>(B _ z).2.1 rfl
 exact I.step (ch:=ch) B (λ b o J hb hc e n=>u.keep b o e n (λ z=>(aC.mp (I.stkSub b z)).elim J hb) hc) (λ b o _ _ hc e n=>u.any e n hc) (λ b o hc e n=>u.free b o e n hc) (λ b o hc e=>u.there b o e hc) u.tups u.frzs u.tbls (λ m' Z=>by
  obtain⟨o',G,F,h,Y⟩:=Z
  rw[ho]at h;cases h
  exact⟨_,G,F,J,Y⟩) hok hg
theorem Inv.turned {t':Nat}{it:Addr}(I:Inv X pins σ H s)(k:∀ b o,b≠it->s.heap.get? b=some o->h'.get? b=some o)(hn:H it=none)(B:it≠X.env.locals)
  (J:it∈X.ex\/X.s₀.heap.objs.size<=it) (G:∀ x c,X.env.cells.lookup x=some c->c≠it) (h3:∀ p∈X.pn++pins,p.1≠it):Inv X pins σ H { s with heap:=h',toks:=t' }:=by
 have h:∀ b u,H b=some u->b≠it:=λ b u e z=>by rw[z,hn]at e;cases e
 refine I.step (g':=s.gens) (d':=s.drawn) (ch:=[it]) (λ b hb=>?_) (λ b o _ _ hc e _=>k b o (λ z=>hc (by simp[z])) e) (λ b o _ _ hc e _=>⟨o.slots,k b o (λ z=>hc (by simp[z])) e⟩) (λ _ _ _ _ n=>n)
  (λ b o hc e=>⟨o,k b o (λ z=>hc (by simp[z])) e⟩) (λ _ _ e=>e) (λ _ _ _ e=>e) (λ b ps e=>⟨#[],by rw[e];simp⟩) (λ m F=>?_) (λ b u e=>?_) I.bare
 ·have e:b=it:=by simpa using hb
  subst e
  exact⟨J,B,G,h3⟩
 ·obtain⟨o,es,ep,ho,r⟩:=F
  exact⟨o,es,ep,k _ o (cq B) ho,r⟩
 ·refine(I.hok b u e).stay (λ c v hc q=>k c v ?_ q) (λ _ q=>q) λ _ _ q=>q
  rcases hc with z|z
  ·rw[z];exact h b u e
  ·exact h c _ z
theorem Inv.tok (I:Inv X pins σ H s)(t:Nat):Inv X pins σ H { s with toks:=t }:=I.un (h':=s.heap) (t':=t) Un.refl I.hok
theorem Inv.kept {t':Nat}(I:Inv X pins σ H s)(k:∀ b u,s.heap.get? b=some u->h'.get? b=some u):Inv X pins σ H { s with heap:=h',toks:=t' }:=I.un (Un.kept k) (I.hok.kept k)
theorem Inv.laid {a:Addr}{o:HO}{t':Nat}(I:Inv X pins σ H s)(k:∀ b u,s.heap.get? b=some u->h'.get? b=some u)(h:s.heap.objs.size<=a)(new:ab7 X.prog X.w (upd H a o) h' a o) :
  Inv X pins σ (upd H a o) { s with heap:=h',toks:=t' }:=I.un (Un.laid k h (I.hok.fresh h)) (I.hok.laid k h new)
theorem Inv.write {x e:Addr}{o:HO}{t':Nat}(I:Inv X pins σ H s)(mu:Mut (H x))(he:e=x\/H e=some (.own x))(k:∀ b u,b≠e->s.heap.get? b=some u->h'.get? b=some u)(h:∃ u,h'.get? e=some u)
  (new:ab7 X.prog X.w (upd H x o) h' x o):Inv X pins σ (upd H x o) { s with heap:=h',toks:=t' }:=I.un (Un.write mu he k h) (I.hok.write mu he k h new)
theorem Inv.pins_of {B:List (Addr×Obj)}(I:Inv X pins σ H s)(h:∀ p∈B,s.heap.get? p.1=some p.2/\H p.1=none/\p.1≠X.env.locals/\p.1 ∉ X.fs/\∀ v,p.2.data≠.cell v):Inv X B σ H s :=
 ⟨I.ok,I.os,I.bare,I.base,I.loc,I.cell,I.free,I.freeC,λ p F=>(aZ.mp F).elim (λ z=>I.pin p (b8 _ z)) (h p),I.hok,I.len⟩
theorem aK4 {N:List Str}(hN:N.Nodup){i j:Nat}{x:Str}(a:N[i]?=some x)(b:N[j]?=some x):i=j:=by
 obtain⟨B,e1⟩:=ag.mp a
 obtain⟨h,e2⟩:=ag.mp b
 exact(List.getElem_inj hN).mp (e1.trans e2.symm)
theorem ax0 {M:Model}{A:aO}{E:Value->ae->Prop}{i:Nat}{x:Str}{v:V}{u:Value}{Q:Unit->ae->Prop}(I:Inv X pins σ H s)(hN:X.N.Nodup)(hi:X.N[i]?=some x)(hx:Loc X.env.scope x)(r:RelV v u)
  (h:∀ s',Inv X pins (σ.set i (some v)) H s'->(∃ a,dS a s.heap s'.heap/\(a=X.env.locals\/X.env.cells.lookup x=some a))->Q () s') (hf:X.fn x=true\/X.env.scope.names.lookup x=some .local:=by first|exact .inl rfl|exact .inr rfl|assumption):wpAny M A (f6 X.env x u) Q E s:=by
 obtain⟨m,hn,hl⟩:=id I.loc
 have Y:(X.env.scope.kind==.class||(X.env.scope.kind==.module&&X.env.locals != X.env.globals))=false:=by rw[I.ok.kind];rfl
 have a1:i < σ.length:=by rw[I.len];exact(ag.mp hi).1
 have cne:=I.cne
 have B:∀ {a:Addr} {h':Heap},(∃ o,s.heap.get? a=some o/\H a=none)->dS a s.heap h'->HOk X.prog X.w H h':=λ {a h'} ha hs b ob e=>by
  obtain⟨_,_,F⟩:=ha
  refine(I.hok b ob e).stay (λ c w' hc q=>(hs.2 c ?_).trans q) (λ _ q=>q) λ _ _ q=>q
  rintro rfl
  rcases hc with rfl|hc
  ·rw[F]at e;cases e
  ·rw[F]at hc;cases hc
 rcases hx with hk|hk
 ·refine gR hk hn (λ h' a2 hs=>?_) Y
  obtain⟨oL,_,_,a3,_⟩:=id hn
  refine h _ ⟨I.ok,I.os,I.bare,⟨λ b o e n hb hx=>?_,λ b o e n hb hx=>?_,I.base.free,λ b o e hx=>?_,I.base.tups,I.base.frzs,I.base.tbls⟩,⟨_,a2,λ j y v' e1 e2 e3=>?_⟩,λ y c e=>?_,I.free,I.freeC,λ p hp=>?_,B ⟨oL,a3,I.free⟩ hs,by simpa using I.len⟩ ⟨_,hs,.inl rfl⟩
  ·exact(hs.2 b (aD (ay (aE e) I.ok.above))).trans (I.base.keep b o e n hb hx)
  ·obtain⟨sl,e1⟩:=I.base.slot b o e n hb hx
   exact⟨sl,(hs.2 b (aD (ay (aE e) I.ok.above))).trans e1⟩
  ·obtain⟨o',e1⟩:=I.base.there b o e hx
   exact⟨o',(hs.2 b (aD (ay (aE e) I.ok.above))).trans e1⟩
  ·by_cases hj:j=i
   ·subst hj
    rw[hi]at e1;cases e1
    rw[aV a1]at e2
    cases e2
    exact⟨u,r,.inl ⟨hk,by simp⟩⟩
   ·rw[a9 (cq hj)]at e2
    obtain⟨u',r',q⟩:=hl j y v' e1 e2 e3
    refine⟨u',r',?_⟩
    rcases q with⟨k,e⟩|⟨k,c,e,z⟩
    ·refine .inl ⟨k,?_⟩
     have:y≠x:=λ e=>hj (aK4 hN e1 (e▸hi))
     simp[this,e]
    ·exact .inr ⟨k,c,e,z.sameBut hs (cne y c e)⟩
  ·obtain⟨w',z⟩:=I.cell y c e
   exact⟨w',z.sameBut hs (cne y c e)⟩
  ·obtain⟨e,n,ne,nf,d⟩:=I.pin p hp
   exact⟨(hs.2 p.1 ne).trans e,n,ne,nf,d⟩
 ·have G:X.fn x=true:=by
   rcases hf with z|z
   ·exact z
   ·rw[z]at hk;cases hk
  obtain⟨c,hc⟩:=I.ok.has x (.inl hk)
  obtain⟨w',z⟩:=I.cell x c hc
  refine hG I.ok.kind hk hc z (λ h' J hs=>?_)
  obtain⟨oc,a0,Z⟩:=id z
  refine h { s with heap:=h' } ⟨I.ok,I.os,I.bare,⟨λ b o e n hb hx=>?_,λ b o e n hb hx=>?_,I.base.free,λ b o e hx=>?_,I.base.tups,I.base.frzs,I.base.tbls⟩,⟨m,hn.sameBut hs (cq (cne x c hc)),λ j y v' e1 e2 e3=>?_⟩,λ y c' e=>?_,I.free,I.freeC,λ p hp=>?_,B ⟨oc,a0,I.freeC x c hc⟩ hs,by simpa using I.len⟩ ⟨c,hs,.inr hc⟩
  ·exact(hs.2 b (aD (ay (aE e) (I.ok.cab x c G hc)))).trans (I.base.keep b o e n hb hx)
  ·obtain⟨sl,e1⟩:=I.base.slot b o e n hb hx
   exact⟨sl,(hs.2 b (aD (ay (aE e) (I.ok.cab x c G hc)))).trans e1⟩
  ·obtain⟨o',e1⟩:=I.base.there b o e hx
   exact⟨o',(hs.2 b (aD (ay (aE e) (I.ok.cab x c G hc)))).trans e1⟩
  ·by_cases hj:j=i
   ·subst hj
    rw[hi]at e1;cases e1
    rw[aV a1]at e2
    cases e2
    exact⟨u,r,.inr ⟨.inl hk,c,hc,J⟩⟩
   ·rw[a9 (cq hj)]at e2
    obtain⟨u',r',q⟩:=hl j y v' e1 e2 e3
    refine⟨u',r',?_⟩
    rcases q with q|⟨k,c',e,z'⟩
    ·exact .inl q
    ·refine .inr ⟨k,c',e,z'.sameBut hs ?_⟩
     rintro rfl
     exact hj (aK4 hN e1 (I.ok.inj _ _ _ e hc▸hi))
  ·by_cases hcc:c'=c
   ·subst hcc;exact⟨_,J⟩
   ·obtain⟨w2,z2⟩:=I.cell y c' e
    exact⟨w2,z2.sameBut hs hcc⟩
  ·obtain⟨e,n,ne,nf,d⟩:=I.pin p hp
   refine⟨(hs.2 p.1 ?_).trans e,n,ne,nf,d⟩
   intro q
   rw[q,a0]at e
   have q':oc=p.2:=ax e
   exact d w' (by rw[<-q'];exact Z)
theorem as7 {M:Model}{A:aO}{E:Value->ae->Prop}{i:Nat}{x:Str}{v:V}{u:Value}{Q:Unit->ae->Prop}(I:Inv X pins σ H s)(hN:X.N.Nodup)(F:X.N[i]?=some x)(hx:Loc X.env.scope x)(r:RelV v u)
  (h:∀ s',Inv X pins (σ.set i (some v)) H s'->Q () s') (hf:X.fn x=true\/X.env.scope.names.lookup x=some .local:=by first|exact .inl rfl|exact .inr rfl|assumption):wpAny M A (f6 X.env x u) Q E s :=
 ax0 I hN F hx r (λ s' B _=>h s' B) hf
theorem Inv.call' {s':ae}{ch:List Addr}(I:Inv X pins σ H s)(ho:s'.os=s.os)(u:Un (frs X.stack) ch H H' s.heap s'.heap)(hok:HOk X.prog X.w H' s'.heap)(hg:eZ s'.gens)
  (h:∀ b∈ch,(b∈X.ex\/X.s₀.heap.objs.size<=b)/\b≠X.env.locals/\(∀ x c,X.env.cells.lookup x=some c->c≠b)/\∀ p∈X.pn++pins,p.1≠b):Inv X pins σ H' s':=by
 obtain⟨h',g',d',t',B⟩:=s'
 have e:B=s.os:=ho
 subst e
 exact I.call (g':=g') (t':=t') (d':=d') u hok hg h
end
abbrev XK:=Value->Option Addr->Hp->Prop
noncomputable abbrev St:=List (Option V)
abbrev VK:=V->Hp->Prop
abbrev TE:=St->Hp->VK->Prop
abbrev TT:=St->Hp->(Bool->Hp->Prop)->Prop
abbrev TA:=St->Hp->(List V->Hp->Prop)->Prop
structure Ends where
 nx:St->Hp->Prop
 rt:VK
 bk:St->Hp->Prop:=λ _ _=>False
 ct:St->Hp->Prop:=λ _ _=>False
abbrev TS:=Ends->St->Hp->Prop
def EP (X:Cx)(pins:List (Addr×Obj))(σ:St)(Q:VK)(u:Value)(s':ae):Prop:=∃ v H',Inv X pins σ H' s'/\RelV v u/\Q v H'
def TP (X:Cx)(pins:List (Addr×Obj))(σ:St)(Q:Bool->Hp->Prop)(b:Bool)(s':ae):Prop:=∃ H',Inv X pins σ H' s'/\Q b H'
def AP (X:Cx)(pins:List (Addr×Obj))(σ:St)(Q:List V->Hp->Prop)(us:List Value)(s':ae):Prop:=∃ vs H',Inv X pins σ H' s'/\Vals vs us/\Q vs H'
def SP (X:Cx)(pins:List (Addr×Obj))(D:Ends)(f:Flow)(s':ae):Prop :=
 match f with
 | .next=>∃ σ' H',Inv X pins σ' H' s'/\D.nx σ' H'
 | .brk=>∃ σ' H',Inv X pins σ' H' s'/\D.bk σ' H'
 | .cont=>∃ σ' H',Inv X pins σ' H' s'/\D.ct σ' H'
 | .ret u=>∃ v σ' H',Inv X pins σ' H' s'/\RelV v u/\D.rt v H'
def PE (X:Cx)(e:Expr)(t:TE):Prop :=
 ∀(pins:List (Addr×Obj)) (s:ae) (σ:St) (H:Hp) (Q:VK),Inv X pins σ H s->t σ H Q->wpAny (model X.prog X.w) X.A (eval e X.env) (EP X pins σ Q) X.xe s
def PT (X:Cx)(e:Expr)(t:TT):Prop :=
 ∀(pins:List (Addr×Obj)) (s:ae) (σ:St) (H:Hp) (Q:Bool->Hp->Prop),Inv X pins σ H s->t σ H Q->wpAny (model X.prog X.w) X.A (dI e X.env (eval e X.env)) (TP X pins σ Q) X.xe s
def PW (X:Cx)(e:Expr)(t:TT):Prop :=
 ∀(whole:Sem Value) (pins:List (Addr×Obj)) (s:ae) (σ:St) (H:Hp) (Q:Bool->Hp->Prop),Inv X pins σ H s->t σ H Q->wpAny (model X.prog X.w) X.A (dI e X.env whole) (TP X pins σ Q) X.xe s
theorem PW.pt {X:Cx}{e:Expr}{t:TT}(h:PW X e t):PT X e t:=h _
def PA (X:Cx)(es:List Expr)(t:TA):Prop :=
 ∀(pos:Pos) (pins:List (Addr×Obj)) (s:ae) (σ:St) (H:Hp) (Q:List V->Hp->Prop),Inv X pins σ H s->t σ H Q->wpAny (model X.prog X.w) X.A (spliced (dU pos (br es X.env))) (AP X pins σ Q) X.xe s
def PS (X:Cx)(st:Stmt)(t:TS):Prop :=
 ∀(pins:List (Addr×Obj)) (s:ae) (σ:St) (H:Hp) (D:Ends),Inv X pins σ H s->t D σ H->wpAny (model X.prog X.w) X.A (exec st X.env) (SP X pins D) X.xe s
def PSs (X:Cx)(st:List Stmt)(t:TS):Prop :=
 ∀(pins:List (Addr×Obj)) (s:ae) (σ:St) (H:Hp) (D:Ends),Inv X pins σ H s->t D σ H->wpAny (model X.prog X.w) X.A (execs st X.env) (SP X pins D) X.xe s
theorem thn {α:Type}{t:Sem α}{Q B:α->ae->Prop}{M:Model}{A:aO}{E:Value->ae->Prop}{s:ae}(h:wpAny M A t Q E s)(F:∀ a s,Q a s->B a s):wpAny M A t B E s:=bf h F λ _ _ x=>x
section
variable {X:Cx}
theorem bin {a b:Expr}{J tb:TE}(ha:PE X a J)(hb:PE X b tb){B:List (Addr×Obj)}{s:ae}{σ:St}{H:Hp}{R:V->V->Hp->Prop}(I:Inv X B σ H s)(h:J σ H λ x G=>tb σ G λ y F=>R x y F)
  {α:Type} {Q:α->ae->Prop} {f:Value->Value->Sem α}
  (hf:∀ v u s2 x y F,Inv X B σ F s2->RelV x v->RelV y u->R x y F->wpAny (model X.prog X.w) X.A (f v u) Q X.xe s2) :
  wpAny (model X.prog X.w) X.A (eval a X.env) (λ v Z=>wpAny (model X.prog X.w) X.A (eval b X.env) (λ u Y=>wpAny (model X.prog X.w) X.A (f v u) Q X.xe Y) X.xe Z) X.xe s:=by
 refine thn (ha B s σ H _ I h) λ v s1 ⟨x,G,I1,r1,q1⟩=>?_
 refine thn (hb B s1 σ G _ I1 q1) λ u s2 ⟨y,F,I2,r2,q2⟩=>?_
 exact hf v u s2 x y F I2 r1 r2 q2
def cd8 (i:Nat):TE:=λ σ H Q=>∃ v,σ[i]?=some (some v)/\Q v H
def tC (v:V):TE:=λ _ H Q=>Q v H
theorem bG8 {i:Nat}{x:Str}{pos:Pos}(hN:X.N[i]?=some x)(hv:Vis X.env.scope x)(hd:(x==("__debug__":Str))=false:=by decide)(F:(x==("__classdict__":Str))=false:=by decide):PE X (.Name x pos) (cd8 i):=by
 intro B s σ H Q I h
 obtain⟨v,e,h⟩:=h
 obtain⟨m,hn,hl⟩:=I.loc
 obtain⟨u,r,l⟩:=hl i x v hN e hv
 have fin:EP X B σ Q u s:=⟨v,H,I,r,h⟩
 rcases l with⟨hk,G⟩|⟨hk,c,hc,hcell⟩
 ·exact jV (hJ I.ok.kind hk hn G fin) hd
 ·rcases hk with hk|hk
  ·exact jV (iH I.ok.kind hk hc hcell fin) hd
  ·exact jV (wpAny_loadName_free I.ok.kind hk hc hcell fin F) hd
theorem bQ9 {i j pos}:PE X (.Constant (.int i) j pos) (tC (.int i)):=λ _ _ _ H _ I h=>wpAny_Constant_int ⟨.int i,H,I.tok _,⟨_,rfl⟩,h⟩
theorem bP7 {b j pos}:PE X (.Constant (.bool b) j pos) (tC (.bl b)):=λ _ _ _ H _ I h=>Constant_bool ⟨.bl b,H,I,rfl,h⟩
theorem bS0 {j pos}:PE X (.Constant .none j pos) (tC .non):=λ _ _ _ H _ I h=>iP ⟨.non,H,I,rfl,h⟩
theorem aV8 {x j pos}:PE X (.Constant (.str x) j pos) (tC (.str x)):=λ _ _ _ H _ I h=>Calls.Constant_str ⟨.str x,H,I.tok _,⟨_,rfl⟩,h⟩
def Gl (X:Cx)(x:Str):Prop:=X.env.kindOf x=some .globalImplicit
theorem aE5 {E:Value->ae->Prop}{B:List (Addr×Obj)}{s:ae}{σ:St}{H:Hp}{x:Str}{u:Value}{pos:Pos}{Q:Value->ae->Prop}(I:Inv X B σ H s)(hg:Gl X x)(F:X.mg x=some u)(h:Q u s)
  (hd:(x==("__debug__":Str))=false:=by decide):wpAny (model X.prog X.w) X.A (eval (.Name x pos) X.env) Q E s :=
 fj I.ok.kind hg (Calls.loadGlobal_global (by rw[I.ok.glob];exact I.mod.glob.keeps I.bk) F h) hd
theorem av8 {E:Value->ae->Prop}{B:List (Addr×Obj)}{s:ae}{σ:St}{H:Hp}{x:Str}{u:Value}{pos:Pos}{Q:Value->ae->Prop}(I:Inv X B σ H s)(hg:Gl X x)(G:X.mg x=none)(hv:be x=some u)(h:Q u s)
  (hn:x ≠ "__name__":=by decide) (hd:(x==("__debug__":Str))=false:=by decide):wpAny (model X.prog X.w) X.A (eval (.Name x pos) X.env) Q E s:=by
 obtain⟨mb,J,F⟩:=I.mod.blt
 exact fj I.ok.kind hg (Calls.loadGlobal_builtin (by rw[I.ok.glob];exact I.mod.glob.keeps I.bk) G (by rw[I.ok.blt];exact J.keeps I.bk) ((F x hn).trans hv) h) hd
theorem aB5 {x:Str}{v:V}{u:Value}{pos:Pos}(hg:Gl X x)(B:X.mg x=some u)(r:RelV v u)(hd:(x==("__debug__":Str))=false:=by decide):PE X (.Name x pos) (tC v) :=
 λ _ _ _ H _ I h=>aE5 I hg B ⟨v,H,I,r,h⟩ hd
theorem bu9 {x:Str}{v:V}{u:Value}{pos:Pos}(hg:Gl X x)(B:X.mg x=none)(hv:be x=some u)(r:RelV v u)(hn:x ≠ "__name__":=by decide)(hd:(x==("__debug__":Str))=false:=by decide):PE X (.Name x pos) (tC v) :=
 λ _ _ _ H _ I h=>av8 I hg B hv ⟨v,H,I,r,h⟩ hn hd
variable {a b:Expr} {ta tb:TE} {pos:Pos}
def PC (X:Cx)(op:CmpOp)(a b:Expr)(t:TE):Prop :=
 ∀(pins:List (Addr×Obj)) (s:ae) (σ:St) (H:Hp) (Q:VK),Inv X pins σ H s->t σ H Q ->
  wpAny (model X.prog X.w) X.A (eval a X.env) (λ v s₁=>wpAny (model X.prog X.w) X.A (eval b X.env) (λ u s₂=>wpAny (model X.prog X.w) X.A (cZ op v u) (EP X pins σ Q) X.xe s₂) X.xe s₁) X.xe s
theorem aL0 (b:Expr){op:CmpOp}(h:op≠.In)(B:op≠.NotIn):c0 op b=false:=by
 have e1:(op==CmpOp.In)=false:=by cases op<;>first|rfl|exact absurd rfl h
 have e2:(op==CmpOp.NotIn)=false:=by cases op<;>first|rfl|exact absurd rfl B
 cases b<;>simp[c0,e1,e2]
def ce5 (ta:TE):TE:=λ σ H Q=>ta σ H λ x H1=>Q (.bl (decide (x=.non))) H1
def bI1 (ta:TE):TE:=λ σ H Q=>ta σ H λ x H1=>Q (.bl (!decide (x=.non))) H1
theorem RelV.none_iff {x:V}{v:Value}(r:RelV x v):(v==Value.none)=decide (x=.non):=by
 cases x with
 | non=>cases r;rfl
 | bl _=>cases r;rfl
 | int _=>obtain⟨t,rfl⟩:=r;rfl
 | str _=>obtain⟨t,rfl⟩:=r;rfl
 | byt _=>obtain⟨t,rfl⟩:=r;rfl
 | flt _=>obtain⟨t,rfl⟩:=r;rfl
 | ref _=>cases r;rfl
 | ty _=>cases r;rfl
theorem bo1 {j pos'}(ha:PE X a ta):PC X .Is a (.Constant .none j pos') (ce5 ta):=by
 intro B s σ H Q I h
 refine thn (ha B s σ H _ I h) λ v s1 ⟨x,F,J,r1,G⟩=>?_
 exact iP (is_none_gen ⟨.bl _,F,J,by rw[r1.none_iff];rfl,G⟩)
theorem aR7 {j pos'}(ha:PE X a ta):PC X .IsNot a (.Constant .none j pos') (bI1 ta):=by
 intro B s σ H Q I h
 refine thn (ha B s σ H _ I h) λ v s1 ⟨x,F,J,r1,G⟩=>?_
 exact iP (isnot_none_gen ⟨.bl _,F,J,by rw[r1.none_iff];rfl,G⟩)
def tB (t:TE):TT:=λ σ H Q=>t σ H λ x H1=>∃ c,x=.bl c/\Q c H1
theorem bn2 {op:CmpOp}{t:TE}(h:PC X op a b t)(F:c0 op b=false:=by first|exact aL0 _ (by decide) (by decide)|rfl):PE X (.Compare a [op] [b] pos) t:=λ B s σ H Q I hw=>wpAny_Compare1 (h B s σ H Q I hw) F
theorem bm9 {op:CmpOp}{t:TE}(h:PC X op a b t)(F:c0 op b=false:=by first|exact aL0 _ (by decide) (by decide)|rfl):PT X (.Compare a [op] [b] pos) (tB t):=by
 intro B s σ H Q I hw
 refine gS (thn (h B s σ H _ I hw) λ v s1 F=>thn F λ u s2 G=>thn G λ c s3 ⟨x,J,Z,r1,Y⟩=>?_) F
 obtain⟨d,rfl,q⟩:=Y
 cases r1
 exact bR ⟨J,Z,q⟩
theorem bL1 {e:Expr}{t:TE}(h:PE X e t)(he:∀ B,dI e X.env B=(do let v <- B;standAt e.pos;i9 [v] (truthy v)):=by intro _;rfl):PT X e (tB t):=by
 intro F s σ H Q I hw
 refine isTrue_plain (thn (h F s σ H _ I hw) λ v s1 ⟨x,G,Y,r1,J⟩=>?_) (he _)
 obtain⟨d,rfl,q⟩:=J
 cases r1
 exact bR ⟨G,Y,q⟩
variable {tA tB':TT} {rest:List Expr}
def cd4 (t u:TT):TT:=λ σ H Q=>t σ H λ c H1=>if c=true then u σ H1 Q else Q false H1
def tOr (t u:TT):TT:=λ σ H Q=>t σ H λ c H1=>if c=true then Q true H1 else u σ H1 Q
def cg2 (t:TT):TT:=λ σ H Q=>t σ H λ c H1=>Q (!c) H1
theorem bB9 (ha:PT X a tA):PW X (.BoolOp .And [a] pos) tA:=by
 intro F B s σ H Q I h
 refine isTrue_and (thn (ha B s σ H Q I h) λ c s1 e=>?_)
 cases c with
 | true=>exact isTrue_and_nil e
 | false=>exact e
theorem bH5 (ha:PT X a tA):PW X (.BoolOp .Or [a] pos) tA:=by
 intro F B s σ H Q I h
 refine isTrue_or (thn (ha B s σ H Q I h) λ c s1 e=>?_)
 cases c with
 | false=>exact isTrue_or_nil e
 | true=>exact e
theorem bk9 (ha:PT X a tA)(hb:PW X (.BoolOp .And (b::rest) pos) tB'):PW X (.BoolOp .And (a::b::rest) pos) (cd4 tA tB'):=by
 intro Y B s σ H Q I h
 refine isTrue_and (thn (ha B s σ H _ I h) λ c s1 ⟨F,J,G⟩=>?_)
 cases c with
 | true=>exact hb Y B s1 σ F Q J G
 | false=>exact⟨F,J,G⟩
theorem bR2 (ha:PT X a tA)(hb:PW X (.BoolOp .Or (b::rest) pos) tB'):PW X (.BoolOp .Or (a::b::rest) pos) (tOr tA tB'):=by
 intro Y B s σ H Q I h
 refine isTrue_or (thn (ha B s σ H _ I h) λ c s1 ⟨F,J,G⟩=>?_)
 cases c with
 | true=>exact⟨F,J,G⟩
 | false=>exact hb Y B s1 σ F Q J G
theorem bJ9 (ha:PT X a tA):PT X (.UnaryOp .Not a pos) (cg2 tA):=by
 intro B s σ H Q I h
 exact isTrue_not (ha B s σ H (λ c F=>Q (!c) F) I h)
def bQ7 (ta tb:TE):TE:=λ σ H Q=>ta σ H λ x H1=>∃ c,x=.bl c/\if c=true then tb σ H1 Q else Q (.bl false) H1
def cg0 (ta tb:TE):TE:=λ σ H Q=>ta σ H λ x H1=>∃ c,x=.bl c/\if c=true then Q (.bl true) H1 else tb σ H1 Q
def bH6 (ta:TE):TE:=λ σ H Q=>ta σ H λ x H1=>∃ c,x=.bl c/\Q (.bl (!c)) H1
theorem bl4 {op}{t:TE}(h:PE X a t):PE X (.BoolOp op [a] pos) t:=λ B s σ H Q I hw=>BoolOp_one (h B s σ H Q I hw)
theorem bl5 (ha:PE X a ta)(hb:PE X (.BoolOp .And (b::rest) pos) tb):PE X (.BoolOp .And (a::b::rest) pos) (bQ7 ta tb):=by
 intro B s σ H Q I h
 refine BoolOp_and (thn (ha B s σ H _ I h) λ v s1 ⟨x,G,J,r1,F⟩=>?_)
 obtain⟨c,rfl,F⟩:=F
 cases r1
 refine bR ?_
 cases c with
 | true=>exact hb B s1 σ G Q J F
 | false=>exact⟨.bl false,G,J,rfl,F⟩
theorem bH2 (ha:PE X a ta)(hb:PE X (.BoolOp .Or (b::rest) pos) tb):PE X (.BoolOp .Or (a::b::rest) pos) (cg0 ta tb):=by
 intro B s σ H Q I h
 refine BoolOp_or (thn (ha B s σ H _ I h) λ v s1 ⟨x,G,J,r1,F⟩=>?_)
 obtain⟨c,rfl,F⟩:=F
 cases r1
 refine bR ?_
 cases c with
 | false=>exact hb B s1 σ G Q J F
 | true=>exact⟨.bl true,G,J,rfl,F⟩
theorem bD6 (ha:PE X a ta):PE X (.UnaryOp .Not a pos) (bH6 ta):=by
 intro B s σ H Q I h
 refine UnaryOp_ (thn (ha B s σ H _ I h) λ v s1 ⟨x,G,J,r1,F⟩=>?_)
 obtain⟨c,rfl,F⟩:=F
 cases r1
 exact not_of (bR ⟨.bl (!c),G,J,rfl,F⟩)
def tIf (t:TT)(ta tb:TE):TE:=λ σ H Q=>t σ H λ c H1=>if c=true then ta σ H1 Q else tb σ H1 Q
theorem bc9 {c:Expr}(hc:PT X c tA)(ha:PE X a ta)(hb:PE X b tb):PE X (.IfExp c a b pos) (tIf tA ta tb):=by
 intro B s σ H Q I h
 refine wpAny_IfExp (thn (hc B s σ H _ I h) λ d s1 ⟨F,J,G⟩=>?_)
 cases d with
 | true=>exact ha B s1 σ F Q J G
 | false=>exact hb B s1 σ F Q J G
end
def SqL (K:ac)(H:Hp)(a:Addr)(xs:List V):Prop :=
 Rd H a (.lst xs) \/
  ∃(o:Obj) (its:Array Value) (n:Nat),K.lookup a=some o/\o.cls=.type "list"/\o.dict=none/\o.data=.seq its n/\its.size<=aI/\Vals xs its.toList
def SqT (K:ac)(H:Hp)(a:Addr)(xs:List V):Prop :=
 Rd H a (.tup xs) \/
  ∃(o:Obj) (its:Array Value) (n:Nat),K.lookup a=some o/\o.cls=.type "tuple"/\o.data=.seq its n/\its.size<=aI/\Vals xs its.toList
noncomputable def ch0:Value->Option V
 | .none=>some .non
 | .bool b=>some (.bl b)
 | .int i _=>some (.int i)
 | .str x _=>some (.str x)
 | .bytes b _=>some (.byt b)
 | .float b _=>some (.flt b)
 | .ref a=>some (.ref a)
 | .type n=>some (.ty n)
 | _=>none
theorem RelV.abs {x:V}{u:Value}(r:RelV x u):ch0 u=some x:=by
 cases x with
 | non=>cases r;rfl
 | bl _=>cases r;rfl
 | int _=>obtain⟨t,rfl⟩:=r;rfl
 | str _=>obtain⟨t,rfl⟩:=r;rfl
 | byt _=>obtain⟨t,rfl⟩:=r;rfl
 | flt _=>obtain⟨t,rfl⟩:=r;rfl
 | ref _=>cases r;rfl
 | ty _=>cases r;rfl
theorem RelV.inj {x y:V}{u:Value}(r:RelV x u)(q:RelV y u):x=y:=ax (r.abs.symm.trans q.abs)
theorem Vals.inj:∀ {h ys:List V} {us:List Value},Vals h us->Vals ys us->h=ys
 | _,_,_,.nil,.nil=>rfl
 | _,_,_,.cons r t,.cons r' t'=>by rw[r.inj r',Vals.inj t t']
section
variable {X:Cx} {pins:List (Addr×Obj)} {σ:St} {H:Hp} {s:ae} {a:Addr} {xs ys:List V}
theorem SqL.of {K:ac}(h:H a=some (.lst xs)):SqL K H a xs:=.inl (.inl h)
theorem SqT.of {K:ac}(h:H a=some (.tup xs)):SqT K H a xs:=.inl (.inl h)
theorem Inv.list (I:Inv X pins σ H s)(h:SqL X.K H a xs):∃ its:List Value,Vals xs its/\PlainL s.heap a its.toArray/\xs.length<=aI:=by
 rcases h with h|⟨o,its,n,hk,hc,hd,hs,hz,r⟩
 ·obtain⟨z,its,n,r,e⟩:=h.ok I.hok
  exact⟨its,r,⟨_,n,e,rfl,rfl,rfl⟩,z⟩
 ·refine⟨its.toList,r,⟨o,n,I.kIn a o hk,hc,hd,by simpa using hs⟩,?_⟩
  have e:=r.length
  simp only[cI]at e
  omega
theorem Inv.tuple (I:Inv X pins σ H s)(h:SqT X.K H a xs):∃ its:List Value,Vals xs its/\IsTup s.heap a its.toArray/\xs.length<=aI:=by
 rcases h with h|⟨o,its,n,hk,hc,hs,hz,r⟩
 ·obtain⟨z,its,r,p⟩:=h.ok I.hok
  exact⟨its,r,p,z⟩
 ·refine⟨its.toList,r,⟨o,I.kIn a o hk,hc,n,by simpa using hs⟩,?_⟩
  have e:=r.length
  simp only[cI]at e
  omega
theorem Inv.list_inj (I:Inv X pins σ H s)(h:SqL X.K H a xs)(h':SqL X.K H a ys):xs=ys:=by
 obtain⟨its,r,⟨o,n,e,_,_,d⟩,_⟩:=I.list h
 obtain⟨its',B,⟨G,F,e',_,_,d'⟩,_⟩:=I.list h'
 rw[e]at e';cases e'
 rw[d]at d'
 injection d' with d1 _
 have:its=its':=by simpa using congrArg ja d1
 subst this
 exact r.inj B
theorem Inv.tuple_inj (I:Inv X pins σ H s)(h:SqT X.K H a xs)(h':SqT X.K H a ys):xs=ys:=by
 obtain⟨its,r,⟨o,e,_,n,d⟩,_⟩:=I.tuple h
 obtain⟨its',B,⟨G,e',_,F,d'⟩,_⟩:=I.tuple h'
 rw[e]at e';cases e'
 rw[d]at d'
 injection d' with d1 _
 have:its=its':=by simpa using congrArg ja d1
 subst this
 exact r.inj B
end
noncomputable abbrev Cx.wish (X:Cx)(E:Value->ae->Prop):Cx:={ X with xe:=E }
noncomputable abbrev Cx.nox (X:Cx):Cx:=X.wish λ _ _=>False
theorem Cx.Ok.wish {X:Cx}(ok:X.Ok)(E:Value->ae->Prop):(X.wish E).Ok :=
 ⟨ok.mod,ok.kind,ok.glob,ok.blt,ok.above,ok.inj,ok.has,ok.cab,ok.hd,ok.frames,ok.stk,ok.exf,ok.bs,ok.bsz,ok.noex,ok.exfs,ok.funs,ok.frf⟩
theorem Cx.Ok.unwish {X:Cx}{E:Value->ae->Prop}(ok:(X.wish E).Ok):X.Ok :=
 ⟨ok.mod,ok.kind,ok.glob,ok.blt,ok.above,ok.inj,ok.has,ok.cab,ok.hd,ok.frames,ok.stk,ok.exf,ok.bs,ok.bsz,ok.noex,ok.exfs,ok.funs,ok.frf⟩
section
variable {X:Cx} {pins:List (Addr×Obj)} {σ:St} {H:Hp} {s:ae} {E:Value->ae->Prop}
theorem Inv.wish (I:Inv X pins σ H s)(E:Value->ae->Prop):Inv (X.wish E) pins σ H s:=⟨I.ok.wish E,I.os,I.bare,I.base,I.loc,I.cell,I.free,I.freeC,I.pin,I.hok,I.len⟩
theorem Inv.unwish (I:Inv (X.wish E) pins σ H s):Inv X pins σ H s:=⟨I.ok.unwish,I.os,I.bare,I.base,I.loc,I.cell,I.free,I.freeC,I.pin,I.hok,I.len⟩
theorem SP.unwish {D:Ends}{f:Flow}{s':ae}(h:SP (X.wish E) pins D f s'):SP X pins D f s':=by
 cases f with
 | next=>obtain⟨σ',H',I,q⟩:=h;exact⟨σ',H',I.unwish,q⟩
 | brk=>obtain⟨σ',H',I,q⟩:=h;exact⟨σ',H',I.unwish,q⟩
 | cont=>obtain⟨σ',H',I,q⟩:=h;exact⟨σ',H',I.unwish,q⟩
 | ret u=>obtain⟨v,σ',H',I,r,q⟩:=h;exact⟨v,σ',H',I.unwish,r,q⟩
theorem PT.nox {e:Expr}{t:TT}(h:PT X.nox e t):PT X e t:=λ B s σ H Q I hw =>
 bf (h B s σ H Q (I.wish _) hw) (λ _ _ ⟨H',F,q⟩=>⟨H',F.unwish,q⟩) λ _ _ z=>bn z
theorem PSs.nox {st:List Stmt}{t:TS}(h:PSs X.nox st t):PSs X st t:=λ B s σ H D I hw =>
 bf (h B s σ H D (I.wish _) hw) (λ _ _ q=>q.unwish) λ _ _ z=>bn z
end
section
variable {X:Cx} {st:Stmt} {rest:List Stmt} {t u:TS} {e:Expr} {te:TE} {pos:Pos}
def bR7:TS:=λ D σ H=>D.nx σ H
noncomputable def cf6 (t u:TS):TS:=λ D σ H=>t { D with nx:=u D } σ H
theorem aA7:PSs X [] bR7:=λ _ _ σ H _ I h=>cU ⟨σ,H,I,h⟩
theorem zD (J:PS X st t)(F:PSs X rest u):PSs X (st::rest) (cf6 t u):=by
 intro B s σ H D I h
 refine js (thn (J B s σ H { D with nx:=u D } I h) λ f s1 q=>?_)
 cases f with
 | next =>
  obtain⟨σ',H',G,q⟩:=q
  exact F B s1 σ' H' D G q
 | ret v=>exact q
 | brk=>exact q
 | cont=>exact q
theorem aS2 (F:PS X st t):PSs X [st] t:=by
 intro B s σ H D I h
 refine js (thn (F B s σ H D I h) λ f s1 q=>?_)
 cases f with
 | next=>exact cU q
 | ret v=>exact q
 | brk=>exact q
 | cont=>exact q
def bQ2:TS:=λ D σ H=>D.ct σ H
theorem aC2:PS X (.Continue pos) bQ2:=λ _ _ σ H _ I h=>wpAny_Continue ⟨σ,H,I,h⟩
theorem Inv.quiet {h:List (Addr×Obj)}{σ:St}{H:Hp}{s:ae}(I:Inv X h σ H s):interactive X.env=false:=by simp[interactive,I.ok.kind]
def bP1 (te:TE):TS:=λ D σ H=>te σ H λ _ H1=>D.nx σ H1
theorem aW6 (he:PE X e te)(hs:ed e none pos.line X.env=pure false:=by rfl):PS X (.Expr e pos) (bP1 te):=by
 intro B s σ H D I h
 exact wpAny_Expr_any (thn (he B s σ H _ I h) λ v s1 ⟨x,F,J,r1,G⟩=>⟨σ,F,J,G⟩) I.quiet hs
def cf4 (te:TE):TS:=λ D σ H=>te σ H D.rt
theorem an9 (he:PE X e te):PS X (.Return (some e) pos) (cf4 te):=by
 intro B s σ H D I h
 exact wpAny_Return_some (thn (he B s σ H _ I h) λ v s1 ⟨x,F,J,r1,G⟩=>⟨x,σ,F,J,r1,G⟩)
def bK1:TS:=λ D _ H=>D.rt .non H
theorem bx5:PS X (.Return none pos) bK1:=λ _ _ σ H _ I h=>wpAny_Return_none ⟨.non,σ,H,I,rfl,h⟩
def ce9 (c:TT)(t u:TS):TS:=λ D σ H=>c σ H λ b H1=>if b=true then t D σ H1 else u D σ H1
theorem bI3 {c:Expr}{a b:List Stmt}{J:TT}(hc:PT X c J)(ha:PSs X a t)(hb:PSs X b u):PS X (.If c a b pos) (ce9 J t u):=by
 intro B s σ H D I h
 refine wpAny_If (thn (hc B s σ H _ I h) λ d s1 ⟨F,Y,G⟩=>?_)
 cases d with
 | true=>exact ha B s1 σ F D Y G
 | false=>exact hb B s1 σ F D Y G
def bo7:TS:=λ _ _ _=>False
theorem bj3:PS X st bo7:=λ _ _ _ _ _ _ h=>h.elim
theorem zI {B:List Stmt}:PSs X B bo7:=λ _ _ _ _ _ _ h=>h.elim
end
abbrev TG:=V->St->Hp->(St->Hp->Prop)->Prop
abbrev TGs:=List V->St->Hp->(St->Hp->Prop)->Prop
def PG (X:Cx)(target:Expr)(t:TG):Prop :=
 ∀(pins:List (Addr×Obj)) (s:ae) (σ:St) (H:Hp) (v:V) (u:Value) (Q:St->Hp->Prop),Inv X pins σ H s->RelV v u->t v σ H Q ->
  wpAny (model X.prog X.w) X.A (gk target X.env u) (λ _ s'=>∃ σ' H',Inv X pins σ' H' s'/\Q σ' H') X.xe s
def PGs (X:Cx)(ts:List Expr)(t:TGs):Prop :=
 ∀(pins:List (Addr×Obj)) (s:ae) (σ:St) (H:Hp) (vs:List V) (us:List Value) (Q:St->Hp->Prop),Inv X pins σ H s->Vals vs us->t vs σ H Q ->
  wpAny (model X.prog X.w) X.A (assignInOrder ((cy ts X.env).map (·.2)) us) (λ _ s'=>∃ σ' H',Inv X pins σ' H' s'/\Q σ' H') X.xe s
abbrev bU6:=V->V->V->Hp->(Hp->Prop)->Prop
def bZ1 (X:Cx)(t:bU6):Prop :=
 ∀(pins:List (Addr×Obj)) (s:ae) (σ:St) (H:Hp) (o i v:V) (ov iv u:Value) (Q:Hp->Prop),Inv X pins σ H s->RelV o ov->RelV i iv->RelV v u->t o i v H Q ->
  wpAny (model X.prog X.w) X.A (setItem ov iv u) (λ _ s'=>∃ H',Inv X pins σ H' s'/\Q H') X.xe s
abbrev TIp:=V->V->Hp->VK->Prop
def PIp (X:Cx)(op:jW)(t:TIp):Prop :=
 ∀(pins:List (Addr×Obj)) (s:ae) (σ:St) (H:Hp) (x y:V) (v u:Value) (Q:VK),Inv X pins σ H s->RelV x v->RelV y u->t x y H Q ->
  wpAny (model X.prog X.w) X.A (inplaceOp op v u) (EP X pins σ Q) X.xe s
section
variable {X:Cx} {pos:Pos}
def ax3 (i:Nat):TG:=λ v σ H Q=>Q (σ.set i (some v)) H
theorem aX2 {i:Nat}{x:Str}(hN:X.N.Nodup)(G:X.N[i]?=some x)(hx:Loc X.env.scope x)(hf:X.fn x=true\/X.env.scope.names.lookup x=some .local:=by first|exact .inl rfl|exact .inr rfl|assumption):PG X (.Name x pos) (ax3 i):=by
 intro B s σ H v u Q I r h
 exact jb (as7 I hN G hx r (λ s' F=>⟨_,H,F,h⟩) hf)
def ce0:TGs:=λ vs σ H Q=>vs=[]/\Q σ H
def bN5 (t:TG)(u:TGs):TGs:=λ vs σ H Q=>∃ v r,vs=v::r/\t v σ H λ σ' H'=>u r σ' H' Q
theorem by9:PGs X [] ce0:=by
 intro B s σ H vs us Q I r h
 obtain⟨e,h⟩:=h
 subst e
 cases r
 exact assignInOrder_nil ⟨σ,H,I,h⟩
theorem be8 {e:Expr}{es:List Expr}{t:TG}{u:TGs}(J:PG X e t)(F:PGs X es u)
  (hs:(cy (e::es) X.env).map (·.2)=gk e X.env::(cy es X.env).map (·.2):=by rfl):PGs X (e::es) (bN5 t u):=by
 intro B s σ H vs us Q I r h
 obtain⟨v,vr,e1,h⟩:=h
 subst e1
 cases r with
 | cons r rr =>
  rw[hs]
  refine assignInOrder_cons (thn (J B s σ H _ _ _ I r h) λ _ s1 ⟨σ1,Z,Y,G⟩=>?_)
  exact F B s1 σ1 Z _ _ Q Y rr G
def cb8 (K:ac)(n:Nat)(t:TGs):TG:=λ v σ H Q=>∃ a xs,v=.ref a/\SqT K H a xs/\xs.length=n/\t xs σ H Q
theorem bO8 {es:List Expr}{k:Nat}{t:TGs}{n:Nat}(hc:X.calm=true)(h:PGs X es t)
  (hn:(cy es X.env).length=n:=by rfl) (F:(cy es X.env).findIdx? (·.1)=none:=by rfl):PG X (.Tuple es k pos) (cb8 X.K n t):=by
 intro B s σ H v u Q I r hw
 obtain⟨a,Y,e1,hq,hl,hw⟩:=hw
 subst e1
 cases r
 obtain⟨its,G,J,hz⟩:=I.tuple hq
 refine assign_Tuple_tuple (I.ok.hd hc) J (by simp[hn,<-hl,G.length]) F λ h' hx=>?_
 have Z:Inv X B σ H { s with heap:=h' }:=I.kept (t':=s.toks) λ b o e=>hx b o (aD (aE e)) e
 exact h B _ σ H Y _ Q Z (by simpa using G) hw
def ce4 (to ti:TE)(t:bU6):TG:=λ v σ H Q=>to σ H λ o H1=>ti σ H1 λ i H2=>t o i v H2 λ H3=>Q σ H3
theorem bL9 {o i:Expr}{J Y:TE}{t:bU6}(ho:PE X o J)(hi:PE X i Y)(hs:bZ1 X t)
  (ha:∀ v,gk (.Subscript o i pos) X.env v=(do
   let F <- i9 [v] (eval o X.env)
   let G <- i9 [v,F] (eval i X.env)
   standAt pos
   i9 [v,F,G] (setItem F G v)
   release [v,F,G] []):=by intro _;rfl):PG X (.Subscript o i pos) (ce4 J Y t):=by
 intro B s σ H v u Q I r h
 rw[ha]
 refine af (c5 (thn (ho B s σ H _ I h) λ F s1 ⟨x,H1,I1,r1,q1⟩=>?_))
 refine af (c5 (thn (hi B s1 σ H1 _ I1 q1) λ G s2 ⟨y,Z,I2,r2,q2⟩=>?_))
 refine af (iQ (af (c5 (thn (hs B s2 σ Z x y v F G u _ I2 r1 r2 r q2) λ _ s3 ⟨H3,I3,q3⟩=>?_))))
 exact wpAny_release ⟨σ,H3,I3,q3⟩
def bi3 (te:TE)(g:TG):TS:=λ D σ H=>te σ H λ x H1=>g x σ H1 D.nx
theorem aR6 {tg e:Expr}{F:TE}{g:TG}(he:PE X e F)(hg:PG X tg g)(hs:swapsWithSole [tg] e pos.line X.env=pure false:=by rfl)(hw:fO [tg] e X.env=pure none:=by rfl)
  (Z:(cy [tg] X.env).map (·.2)=[gk tg X.env]:=by rfl):PS X (.Assign [tg] e pos) (bi3 F g):=by
 intro B s σ H D I h
 refine wpAny_Assign_stores (thn (he B s σ H _ I h) λ v s1 ⟨x,G,J,r1,Y⟩=>?_) hs hw
 rw[Z]
 exact thn (hg B s1 σ G x v _ J r1 Y) λ _ s2 q=>q
theorem bk7 {i:Nat}{x:Str}{e:Expr}{G:TE}{B:Pos}(hN:X.N.Nodup)(hi:X.N[i]?=some x)(hx:Loc X.env.scope x)(he:PE X e G)(hs:ed e (some (.Name x B)) pos.line X.env=pure false:=by rfl)(hf:X.fn x=true\/X.env.scope.names.lookup x=some .local:=by first|exact .inl rfl|exact .inr rfl|assumption) :
  PS X (.Assign [.Name x B] e pos) (bi3 G (ax3 i)):=by
 intro F s σ H D I h
 refine wpAny_Assign_Name (thn (he F s σ H _ I h) λ v s1 ⟨y,J,I1,r1,Z⟩=>?_) hs
 exact as7 I1 hN hi hx r1 (λ s2 Y=>⟨_,J,Y,Z⟩) hf
def cf9 (i:Nat)(te:TE)(ti:TIp):TS:=λ D σ H=>∃ x,σ[i]?=some (some x)/\te σ H λ y H1=>ti x y H1 λ z H2=>D.nx (σ.set i (some z)) H2
theorem bP4 {i:Nat}{x:Str}{e:Expr}{G:TE}{op:jW}{Y:TIp}{F:Pos}(hN:X.N.Nodup)(J:X.N[i]?=some x)(hx:Loc X.env.scope x)(he:PE X e G)(ho:PIp X op Y)(hf:X.fn x=true\/X.env.scope.names.lookup x=some .local:=by first|exact .inl rfl|exact .inr rfl|assumption) :
  PS X (.AugAssign (.Name x F) op e pos) (cf9 i G Y):=by
 intro B s σ H D I h
 obtain⟨v,e1,h⟩:=h
 obtain⟨m,hn,hl⟩:=I.loc
 have vis:Vis X.env.scope x:=by rcases hx with k|k;exact .inl k;exact .inr (.inl k)
 obtain⟨u,r,l⟩:=hl i x v J e1 vis
 refine wpAny_AugAssign_Name ?_
 have go:wpAny (model X.prog X.w) X.A (eval e X.env) (λ w s₂=>wpAny (model X.prog X.w) X.A (inplaceOp op u w) (λ r s₃=>wpAny (model X.prog X.w) X.A (f6 X.env x r) (λ _=>SP X B D .next) X.xe s₃) X.xe s₂) X.xe s:=by
  refine thn (he B s σ H _ I h) λ w s1 ⟨y,H1,I1,r1,q1⟩=>?_
  refine thn (ho B s1 σ H1 v y u w _ I1 r r1 q1) λ z s2 ⟨zv,Z,I2,r2,q2⟩=>?_
  exact as7 I2 hN J hx r2 (λ s3 I3=>⟨_,Z,I3,q2⟩) hf
 rcases l with⟨hk,hm⟩|⟨hk,c,hc,hcell⟩
 ·exact hJ I.ok.kind hk hn hm go
 ·rcases hk with hk|hk
  ·exact iH I.ok.kind hk hc hcell go
  ·rcases hx with k|k
   ·have:X.env.scope.names.lookup x=some .free:=hk
    rw[k]at this;cases this
   ·have:X.env.scope.names.lookup x=some .free:=hk
    rw[k]at this;cases this
def ipI (f:Int->Int->Int):TIp:=λ x y H Q=>∃ i j,x=.int i/\y=.int j/\Q (.int (f i j)) H
theorem bI7:PIp X .Add (ipI λ i j=>i+j):=by
 intro B s σ H x y v u Q I r1 r2 h
 obtain⟨i,j,e1,e2,q⟩:=h
 subst e1;subst e2
 obtain⟨t,rfl⟩:=r1
 obtain⟨t',rfl⟩:=r2
 exact iadd_int ⟨.int _,H,I.tok _,⟨_,rfl⟩,q⟩
end
section
variable {X:Cx} {pos:Pos}
def aV3 (c:TT)(tb:TS):TS:=λ D σ H=>∃ W:Nat->St->Hp->Prop,(∃ m,W m σ H)/\∀ m σ H,W m σ H ->
 c σ H λ b H1=>if b=true then ∃ N:St->Hp->Prop,(∀ σ' H',N σ' H'->∃ m',m'<m/\W m' σ' H')/\tb { D with nx:=N,ct:=N,bk:=D.nx } σ H1 else D.nx σ H1
theorem aK6 {c:Expr}{body:List Stmt}{tc:TT}{tb:TS}(hp:iu (model X.prog X.w) X.A X.env X.xe)(hc:PT X c tc)(hb:PSs X body tb):PS X (.While c body [] pos) (aV3 tc tb):=by
 intro B s σ H D I h
 obtain⟨W,⟨m0,w0⟩,turn⟩:=h
 refine wpAny_While (codeAny_whileLoop (λ n s'=>∃ σ' H',Inv X B σ' H' s'/\W n σ' H') ?_ m0 ⟨σ,H,I,w0⟩)
 rintro n s1 ⟨σ1,H1,I1,w1⟩
 refine cD hp (thn (hc B s1 σ1 H1 _ I1 (turn n σ1 H1 w1)) λ b s2 ⟨H2,I2,q2⟩=>?_)
 cases b with
 | true =>
  obtain⟨N,hN,q2⟩:=q2
  rw[if_pos rfl]
  refine cD hp (thn (hb B s2 σ1 H2 _ I2 q2) λ f s3 q3=>?_)
  cases f with
  | next =>
   obtain⟨σ3,F,Z,J⟩:=q3
   obtain⟨m',G,Y⟩:=hN σ3 F J
   exact⟨m',G,σ3,F,Z,Y⟩
  | cont =>
   obtain⟨σ3,F,Z,J⟩:=q3
   obtain⟨m',G,Y⟩:=hN σ3 F J
   exact⟨m',G,σ3,F,Z,Y⟩
  | brk=>exact q3
  | ret v=>exact q3
 | false =>
  rw[if_neg aQ]
  exact cU ⟨σ1,H2,I2,q2⟩
end
structure It where
 go:Nat->Hp->Prop
 yld:Nat->Hp->V->Hp->Prop
 stop:Nat->Hp->Prop
def FpOk (X:Cx)(pins:List (Addr×Obj))(H:Hp)(b:Addr):Prop :=
 H b=none/\b≠X.env.locals/\b ∉ X.fs/\(b∈X.ex\/X.s₀.heap.objs.size<=b)/\(∀ x c,X.env.cells.lookup x=some c->c≠b)/\∀ p∈X.pn++pins,p.1≠b
theorem Inv.fpOk {X:Cx}{h:List (Addr×Obj)}{σ:St}{H H':Hp}{s:ae}{b:Addr}(I:Inv X h σ H s)(hb:s.heap.objs.size<=b)(hn:H' b=none):FpOk X h H' b:=by
 refine⟨hn,jc (ay I.lt hb),I.nofs hb,.inr (am I.sz hb),λ x c e z=>?_,λ p B z=>?_⟩
 ·obtain⟨v,q⟩:=I.cell x c e
  exact absurd (ay q.lt (by rw[z];exact hb)) (bu _)
 ·exact absurd (ay (aE (I.pin p B).1) (by rw[z];exact hb)) (bu _)
structure Turn (P:aA)(w:World)(K:ac)(tg:Expr)(J:It)(fp:List Addr)(it:Addr)(tn:Nat->Heap->Prop):Prop where
 mem:it∈fp
 obj:∀ i h,tn i h->∀ b∈fp,∃ o,h.get? b=some o/\∀ v,o.data≠.cell v
 keep:∀ i h h',tn i h->(∀ b∈fp,∀ o,h.get? b=some o->h'.get? b=some o)->tn i h'
 item:∀(X:Cx),X.prog=P->X.w=w->X.K=K->X.calm=true->∀(i:Nat) (pins:List (Addr×Obj)) (s:ae) (σ:St) (H:Hp) (E:Value->ae->Prop),Inv X pins σ H s->(∀ b∈fp,FpOk X pins H b)->tn i s.heap->J.go i H ->
  wpAny (model P w) X.A (jt (.ref it)) (λ r s1=>∃ u,r=some u /\
   wpAny (model P w) X.A (eR tg (.ref it) u) (λ _ s2=>∃ x H',Inv X pins σ H' s2/\RelV x u/\J.yld i H x H'/\tn (i+1) s2.heap/\∀ b∈fp,H' b=none) E s1) E s
 done:∀(X:Cx),X.prog=P->X.w=w->X.K=K->X.calm=true->∀(i:Nat) (pins:List (Addr×Obj)) (s:ae) (σ:St) (H:Hp) (E:Value->ae->Prop),Inv X pins σ H s->(∀ b∈fp,FpOk X pins H b)->tn i s.heap->J.stop i H ->
  wpAny (model P w) X.A (jt (.ref it)) (λ r s1=>r=none/\Inv X pins σ H s1) E s
 self:∀(A:aO) (i:Nat) (s:ae) (Q:Value->ae->Prop) (E:Value->ae->Prop),tn i s.heap->Q (.ref it) s->wpAny (model P w) A (kB (.ref it)) Q E s
abbrev TI:=St->Hp->(It->Hp->Prop)->Prop
def PIE (X:Cx)(pins:List (Addr×Obj))(σ:St)(tg:Expr)(R:It->Hp->Prop)(itv:Value)(s2:ae):Prop :=
 ∃(it:Addr) (fp:List Addr) (tn:Nat->Heap->Prop) (J:It) (H':Hp),itv=.ref it/\Inv X pins σ H' s2/\Turn X.prog X.w X.K tg J fp it tn/\tn 0 s2.heap/\(∀ b∈fp,FpOk X pins H' b)/\R J H'
def PI (X:Cx)(tg iter:Expr)(wi:TI):Prop :=
 ∀(pins:List (Addr×Obj)) (s:ae) (σ:St) (H:Hp) (R:It->Hp->Prop),Inv X pins σ H s->wi σ H R ->
  wpAny (model X.prog X.w) X.A (eval iter X.env) (λ v s1=>wpAny (model X.prog X.w) X.A (kB v) (PIE X pins σ tg R) X.xe s1) X.xe s
theorem bj8 {M : Model} {A : Around} {E : Value -> Shared -> Prop} {s : Shared} {tg : Expr} {it : Addr} {u : Value} {o : Obj} {n : String} {vs : Array Value} {Q : Unit -> Shared -> Prop} (ho : s.heap.get? it = some o) (hc : o.cls = .type n) (hd : o.data = .fields vs)
    (hn : ["enumerate", "zip", "dict_itemiterator", "dict_reverseitemiterator", "odict_iterator", "itertools.zip_longest", "itertools.pairwise"].contains n = false) (hQ : Q () s) : wpAny M A (eR tg (.ref it) u) Q E s := by
  unfold eR
  cases tg <;> first
    | exact av hQ
    | (cases u <;> first
        | exact av hQ
        | (refine af (wpAny_load ho ?_)
           rw[hc, hd]
           show wpAny M A (if(["enumerate", "zip", "dict_itemiterator", "dict_reverseitemiterator", "odict_iterator", "itertools.zip_longest", "itertools.pairwise"].contains n && vs[0]? == some (rawInt _)) = true then _ else _) Q E s
           rw[if_neg (by intro h; rw[hn, jX]at h; cases h)]
           exact av hQ))
noncomputable def Itl (K:ac)(a:Addr):It :=
 ⟨λ i H=>∃ xs x,SqL K H a xs/\xs[i]?=some x,λ i H x H'=>H'=H/\∀ xs,SqL K H a xs->xs[i]?=some x,λ i H=>∃ xs,SqL K H a xs/\xs.length<=i⟩
noncomputable def Itt (K:ac)(a:Addr):It :=
 ⟨λ i H=>∃ xs x,SqT K H a xs/\xs[i]?=some x,λ i H x H'=>H'=H/\∀ xs,SqT K H a xs->xs[i]?=some x,λ i H=>∃ xs,SqT K H a xs/\xs.length<=i⟩
noncomputable def Itr (lo:Int)(n:Nat):It:=⟨λ i _=>i<n,λ i H x H'=>H'=H/\x=.int (lo+i),λ i _=>n<=i⟩
theorem aS8 {P:aA}{w:World}{K:ac}{tg:Expr}(a it:Addr):Turn P w K tg (Itl K a) [it] it (λ i h=>h.IsListIter it a i) where
 mem:=by simp
 obj:=λ i h st b hb=>by
  have e:b=it:=by simpa using hb
  subst e
  obtain⟨o,e,c,d⟩:=st
  exact⟨o,e,λ v z=>by rw[d]at z;cases z⟩
 keep:=λ i h h' st k=>st.at λ o e=>k it (by simp) o e
 item:=by
  intro X Y hw hK hc i B s σ H E I hf st hg
  subst Y hw hK
  obtain⟨xs,x,hq,hx⟩:=hg
  obtain⟨its,Z,p,hz⟩:=I.list hq
  obtain⟨u,hu,ru⟩:=Z.get hx
  obtain⟨f0,J,f2,f3,G,f5⟩:=hf it (by simp)
  refine wpAny_pyNext_list_item st p.isList (x:=u) (by simpa using hu) λ h' F sb=>?_
  have I1:Inv X B σ H { s with heap:=h' }:=I.turned (t':=s.toks) (λ b o hb e=>(sb.2 b hb).trans e) f0 J f3 G f5
  obtain⟨o,e,c,d⟩:=id F
  exact⟨u,rfl,bj8 (s:={ s with heap:=h' }) e c d (by decide) ⟨x,H,I1,ru,⟨rfl,λ ys hy=>by rw[I.list_inj hy hq];exact hx⟩,F,λ b hb=>(hf b hb).1⟩⟩
 done:=by
  intro X Y hw hK hc i B s σ H E I hf st hg
  subst Y hw hK
  obtain⟨xs,hq,hx⟩:=hg
  obtain⟨its,Z,p,hz⟩:=I.list hq
  obtain⟨f0,J,f2,f3,G,f5⟩:=hf it (by simp)
  have hl:=Z.length
  exact wpAny_pyNext_list_end (I.ok.hd hc) st p.isList (by simp;omega) λ h' eb=>⟨rfl,I.turned (t':=s.toks) (λ b o hb e=>eb b o hb e) f0 J f3 G f5⟩
 self:=λ _ _ _ _ _ st h=>wpAny_pyIter_listiter st h
theorem aN1 {P:aA}{w:World}{K:ac}{tg:Expr}(a it:Addr):Turn P w K tg (Itt K a) [it] it (λ i h=>h.IsTupleIter it a i) where
 mem:=by simp
 obj:=λ i h st b hb=>by
  have e:b=it:=by simpa using hb
  subst e
  obtain⟨o,e,c,d⟩:=st
  exact⟨o,e,λ v z=>by rw[d]at z;cases z⟩
 keep:=λ i h h' st k=>st.at λ o e=>k it (by simp) o e
 item:=by
  intro X Y hw hK hc i B s σ H E I hf st hg
  subst Y hw hK
  obtain⟨xs,x,hq,hx⟩:=hg
  obtain⟨its,Z,p,hz⟩:=I.tuple hq
  obtain⟨u,hu,ru⟩:=Z.get hx
  obtain⟨f0,J,f2,f3,G,f5⟩:=hf it (by simp)
  refine wpAny_pyNext_tuple_item st (show s.heap.IsTuple a its.toArray from p) (x:=u) (by simpa using hu) λ h' F sb=>?_
  have I1:Inv X B σ H { s with heap:=h' }:=I.turned (t':=s.toks) (λ b o hb e=>(sb.2 b hb).trans e) f0 J f3 G f5
  obtain⟨o,e,c,d⟩:=id F
  exact⟨u,rfl,bj8 (s:={ s with heap:=h' }) e c d (by decide) ⟨x,H,I1,ru,⟨rfl,λ ys hy=>by rw[I.tuple_inj hy hq];exact hx⟩,F,λ b hb=>(hf b hb).1⟩⟩
 done:=by
  intro X Y hw hK hc i B s σ H E I hf st hg
  subst Y hw hK
  obtain⟨xs,hq,hx⟩:=hg
  obtain⟨its,Z,p,hz⟩:=I.tuple hq
  obtain⟨f0,J,f2,f3,G,f5⟩:=hf it (by simp)
  have hl:=Z.length
  exact wpAny_pyNext_tuple_end (I.ok.hd hc) st (show s.heap.IsTuple a its.toArray from p) (by simp;omega) λ h' eb=>⟨rfl,I.turned (t':=s.toks) (λ b o hb e=>eb b o hb e) f0 J f3 G f5⟩
 self:=λ _ _ _ _ _ st h=>wpAny_pyIter_tupleiter st h
theorem aO9 {P:aA}{w:World}{K:ac}{tg:Expr}(it:Addr)(G:Int)(n:Nat):Turn P w K tg (Itr G n) [it] it (λ i h=>IsRangeIter h it (G+(i:Nat)*1) ((n:Int) - (i:Nat)) 1) where
 mem:=by simp
 obj:=λ i h st b hb=>by
  have e:b=it:=by simpa using hb
  subst e
  exact⟨_,st,λ v z=>by
   have z':Data.fields _=Data.cell v:=z
   cases z'⟩
 keep:=λ i h h' st k=>k it (by simp) _ st
 item:=by
  intro X Z hw hK hc i B s σ H E I hf st hg
  subst Z hw hK
  obtain⟨f0,Y,f2,f3,J,f5⟩:=hf it (by simp)
  have W:=Walks.range (prog:=X.prog) (w:=X.w) (I.ok.hd hc) it G 1 n
  refine W.item i s _ _ hg st λ v h' tk hv F kk=>?_
  obtain⟨t,rfl⟩:=hv
  have I1:Inv X B σ H { s with heap:=h',toks:=tk }:=I.turned (λ b o hb e=>kk b o (by simpa using hb) e) f0 Y f3 J f5
  refine⟨_,rfl,bj8 (s:={ s with heap:=h',toks:=tk }) (n := "range_iterator") F rfl rfl (by decide) ⟨.int (G+i),H,I1,⟨t,?_⟩,⟨rfl,rfl⟩,F,λ b hb=>(hf b hb).1⟩⟩
  rw[Int.mul_one]
 done:=by
  intro X Z hw hK hc i B s σ H E I hf st hg
  subst Z hw hK
  obtain⟨f0,Y,f2,f3,J,f5⟩:=hf it (by simp)
  exact wpAny_pyNext_range_end (I.ok.hd hc) st (by have:n<=i:=hg;omega) λ h' eb=>⟨rfl,I.turned (t':=s.toks) (λ b o hb e=>eb b o hb e) f0 Y f3 J f5⟩
 self:=λ _ _ _ _ _ st h=>wpAny_pyIter_rangeiter st h
section
variable {X:Cx} {tg:Expr}
def bw6 (K:ac)(tl:TE):TI:=λ σ H R=>tl σ H λ x H1=>∃ a,x=.ref a/\(∃ xs,SqL K H1 a xs)/\R (Itl K a) H1
def bW6 (K:ac)(tl:TE):TI:=λ σ H R=>tl σ H λ x H1=>∃ a,x=.ref a/\(∃ xs,SqT K H1 a xs)/\R (Itt K a) H1
theorem br2 {l:Expr}{G:TE}(hl:PE X l G):PI X tg l (bw6 X.K G):=by
 intro B s σ H R I h
 refine thn (hl B s σ H _ I h) λ v s1 ⟨x,Y,F,r1,J⟩=>?_
 obtain⟨a,e,⟨Z,hq⟩,q⟩:=J
 subst e
 cases r1
 obtain⟨its,rv,p,hz⟩:=F.list hq
 refine da p.isList ?_
 refine⟨s1.heap.objs.size,[s1.heap.objs.size],_,_,Y,rfl,F.kept (t':=s1.toks) λ b o e=>ao _ e,aS8 a _,⟨_,aS _ rfl,rfl,rfl⟩,λ b hb=>?_,q⟩
 have e:b=s1.heap.objs.size:=by simpa using hb
 subst e
 exact F.fpOk (ak _) (F.hok.fresh (ak _))
theorem bH3 {l:Expr}{G:TE}(hl:PE X l G):PI X tg l (bW6 X.K G):=by
 intro B s σ H R I h
 refine thn (hl B s σ H _ I h) λ v s1 ⟨x,Y,F,r1,J⟩=>?_
 obtain⟨a,e,⟨Z,hq⟩,q⟩:=J
 subst e
 cases r1
 obtain⟨its,rv,p,hz⟩:=F.tuple hq
 refine iX (show s1.heap.IsTuple a its.toArray from p) ?_
 refine⟨s1.heap.objs.size,[s1.heap.objs.size],_,_,Y,rfl,F.kept (t':=s1.toks) λ b o e=>ao _ e,aN1 a _,⟨_,aS _ rfl,rfl,rfl⟩,λ b hb=>?_,q⟩
 have e:b=s1.heap.objs.size:=by simpa using hb
 subst e
 exact F.fpOk (ak _) (F.hok.fresh (ak _))
theorem bk4 {F:List (Addr×Obj)}{σ:St}{H:Hp}{s:ae}{R:It->Hp->Prop}{E:Value->ae->Prop}{h B:Int}{t u v:Tok}{tk:Nat}(I:Inv X F σ H s)(Z:-(2^62)<=h)(J:h<2^62)(h3:-(2^62)<=B)(Y:B<2^62)
  (q:R (Itr h (B - h).toNat) H):wpAny (model X.prog X.w) X.A (kB (.ref s.heap.objs.size)) (PIE X F σ tg R) E { s with heap:=s.heap.push { cls:=.type "range",data:=.fields #[.int h t,.int B u,.int 1 v] },toks:=tk }:=by
 refine wpAny_pyIter_range (IsRange.new ..) (small_one Z J h3 Y) ?_
 have G:Inv X F σ H { s with heap:=s.heap.push { cls:=.type "range",data:=.fields #[.int h t,.int B u,.int 1 v] },toks:=tk }:=I.kept λ b o e=>ao _ e
 refine⟨(s.heap.push { cls:=.type "range",data:=.fields #[.int h t,.int B u,.int 1 v] }).objs.size,[(s.heap.push { cls:=.type "range",data:=.fields #[.int h t,.int B u,.int 1 v] }).objs.size],_,_,H,rfl,
  G.kept (t':=tk) λ b o e=>ao _ e,aO9 _ h (B - h).toNat,?_,λ b hb=>?_,q⟩
 ·have e1:h+((0:Nat):Int)*1=h:=by simp
  have e2:(((B - h).toNat:Nat):Int) - ((0:Nat):Int)=kr h B 1:=by rw[rangeSize_one];split<;>omega
  show IsRangeIter _ _ (h+((0:Nat):Int)*1) ((((B - h).toNat:Nat):Int) - ((0:Nat):Int)) 1
  rw[e1,e2]
  exact aS _ rfl
 ·have e:b=(s.heap.push { cls:=.type "range",data:=.fields #[.int h t,.int B u,.int 1 v] }).objs.size:=by simpa using hb
  subst e
  exact G.fpOk (ak _) (G.hok.fresh (ak _))
def bO6 (ta:TA):TI:=λ σ H R=>ta σ H λ vs H1=>∃ j:Int,vs=[.int j]/\-(2^62)<=j/\j<2^62/\R (Itr 0 j.toNat) H1
theorem aV5 {a:Expr}{G:TA}{p pos:Pos}(hg:Gl X "range")(J:X.mg "range"=none)(ha:PA X [a] G)(hs:br [a] X.env=[(false,eval a X.env)]:=by rfl):PI X tg (.Call (.Name "range" p) [a] [] pos) (bO6 G):=by
 intro B s σ H R I h
 refine Call_ (av8 I hg J boot_range (e7 (thn (ha pos B s σ H _ I h) λ us s1 ⟨vs,Z,Y,r1,F⟩=>?_) hs rfl))
 obtain⟨j,e,F,q2,q⟩:=F
 subst e
 cases r1 with
 | cons r rr =>
  cases rr
  obtain⟨t,rfl⟩:=r
  exact call_range_1 (bk4 Y (by omega) (by omega) F q2 (by simpa using q))
def bW3 (wi:TI)(g:TG)(tb:TS):TS:=λ D σ H=>wi σ H λ J H1=>∃ W:Nat->Nat->St->Hp->Prop,(∃ m,W 0 m σ H1)/\∀ i m σ H,W i m σ H ->
 (J.stop i H/\D.nx σ H)\/(J.go i H/\∃ N:St->Hp->Prop,(∀ σ' H',N σ' H'->∃ m',m'<m/\W (i+1) m' σ' H')/\∀ x H',J.yld i H x H'->g x σ H' λ σ2 H2=>tb { D with nx:=N,ct:=N,bk:=D.nx } σ2 H2)
noncomputable def ax8 (fp:List Addr)(h:Heap):List (Addr×Obj):=fp.filterMap λ b=>(h.get? b).map λ o=>(b,o)
theorem qK {B:List Addr}{h:Heap}{b:Addr}{o:Obj}(hb:b∈B)(e:h.get? b=some o):(b,o)∈ax8 B h:=cz.mpr ⟨b,hb,by rw[e];rfl⟩
theorem aZ5 {B:List Addr}{h:Heap}{p:Addr×Obj}(F:p∈ax8 B h):p.1∈B/\h.get? p.1=some p.2:=by
 obtain⟨b,hb,e⟩:=cz.mp F
 cases q:h.get? b with
 | none=>rw[q]at e;cases e
 | some o =>
  rw[q]at e
  have e':(b,o)=p:=ax e
  subst e'
  exact⟨hb,q⟩
theorem Inv.pinned {h:List (Addr×Obj)}{σ:St}{H:Hp}{s:ae}{B:List Addr}(I:Inv X h σ H s)(hf:∀ b∈B,FpOk X h H b)(ho:∀ b∈B,∃ o,s.heap.get? b=some o/\∀ v,o.data≠.cell v):Inv X (h++ax8 B s.heap) σ H s :=
 I.pins_of λ p J=>(aZ.mp J).elim (λ z=>I.pin p (aJ _ z)) λ z=>by
  obtain⟨hb,e⟩:=aZ5 z
  obtain⟨F,G,Y,_⟩:=hf p.1 hb
  obtain⟨o,e',d⟩:=ho p.1 hb
  rw[e]at e';cases e'
  exact⟨e,F,G,Y,d⟩
theorem Inv.unpinned {h B:List (Addr×Obj)}{σ:St}{H:Hp}{s:ae}(I:Inv X (h++B) σ H s):Inv X h σ H s:=I.pins_of λ p F=>I.pin p (aJ _ (b8 _ F))
theorem bl8 {iter:Expr}{body:List Stmt}{wi:TI}{g:TG}{tb:TS}{pos:Pos}(hp:iu (model X.prog X.w) X.A X.env X.xe)(hc:X.calm=true)(hi:PI X tg iter wi)(hg:PG X tg g)(hb:PSs X body tb)
  (hs:∀ x,db iter X.env x=pure x:=by intro _;rfl):PS X (.For tg iter body [] pos) (bW3 wi g tb):=by
 intro B s σ H D I h
 refine wpAny_For (thn (hi B s σ H _ I h) λ v s1 h1=>thn h1 λ a6 s2 h2=>?_) hs
 obtain⟨it,fp,tn,J,H2,e,I2,T,a5,f2,W,⟨m0,w0⟩,turn⟩:=h2
 subst e
 have Y:∀ {H':Hp},(∀ b∈fp,H' b=none)->∀ b∈fp,FpOk X B H' b:=λ hn b hb=>⟨hn b hb,(f2 b hb).2⟩
 refine codeAny_forLoop_any (λ n s'=>∃ i σ' H',Inv X B σ' H' s'/\tn i s'.heap/\(∀ b∈fp,H' b=none)/\W i n σ' H') ?_ m0 ⟨0,σ,H2,I2,a5,λ b hb=>(f2 b hb).1,w0⟩
 rintro n s3 ⟨i,σ3,H3,I3,a2,a1,w3⟩
 rcases turn i n σ3 H3 w3 with⟨stop,qn⟩|⟨go,N,hN,step⟩
 ·refine cD hp (thn (T.done X rfl rfl rfl hc i B s3 σ3 H3 X.xe I3 (Y a1) a2 stop) λ r s4 ⟨hr,I4⟩=>?_)
  subst hr
  exact cU ⟨σ3,H3,I4,qn⟩
 ·refine cD hp (thn (T.item X rfl rfl rfl hc i B s3 σ3 H3 X.xe I3 (Y a1) a2 go) λ r s4 ⟨u,hr,h4⟩=>?_)
  subst hr
  refine cD hp (thn h4 λ _ s5 ⟨x,H5,I5,r5,y5,a0,a4⟩=>?_)
  have a3:=I5.pinned (Y a4) (T.obj _ _ a0)
  refine cD hp (thn (hg _ s5 σ3 H5 x u _ a3 r5 (step x H5 y5)) λ _ s6 ⟨σ6,H6,I6,q6⟩=>?_)
  refine cD hp (thn (hb _ s6 σ6 H6 _ I6 q6) λ f s7 Z=>?_)
  have again:∀ {σ7:St} {G:Hp},Inv X (B++ax8 fp s5.heap) σ7 G s7->N σ7 G->∃ m,m<n/\∃ i σ' H',Inv X B σ' H' s7/\tn i s7.heap/\(∀ b∈fp,H' b=none)/\W i m σ' H':=λ {σ7 G} F n7=>by
   obtain⟨m',hm,w7⟩:=hN σ7 G n7
   refine⟨m',hm,i+1,σ7,G,F.unpinned,T.keep _ _ _ a0 λ b hb o e=>(F.pin (b,o) (aJ _ (aJ _ (qK hb e)))).1,λ b hb=>?_,w7⟩
   obtain⟨o,e,d⟩:=T.obj _ _ a0 b hb
   exact(F.pin (b,o) (aJ _ (aJ _ (qK hb e)))).2.1
  cases f with
  | next=>obtain⟨σ7,G,F,n7⟩:=Z;exact again F n7
  | cont=>obtain⟨σ7,G,F,n7⟩:=Z;exact again F n7
  | brk=>obtain⟨σ7,G,F,Z⟩:=Z;exact⟨σ7,G,F.unpinned,Z⟩
  | ret v=>obtain⟨x7,σ7,G,F,r7,Z⟩:=Z;exact⟨x7,σ7,G,F.unpinned,r7,Z⟩
end
abbrev R2:=V->V->Hp->VK->Prop
def OpR (X:Cx)(f:Value->Value->Sem Value)(r:R2):Prop :=
 ∀(pins:List (Addr×Obj)) (s:ae) (σ:St) (H:Hp) (x y:V) (v u:Value) (Q:VK),Inv X pins σ H s->RelV x v->RelV y u->r x y H Q ->
  wpAny (model X.prog X.w) X.A (f v u) (EP X pins σ Q) X.xe s
def UnR (X:Cx)(f:Value->Sem Value)(r:V->Hp->VK->Prop):Prop :=
 ∀(pins:List (Addr×Obj)) (s:ae) (σ:St) (H:Hp) (x:V) (v:Value) (Q:VK),Inv X pins σ H s->RelV x v->r x H Q ->
  wpAny (model X.prog X.w) X.A (f v) (EP X pins σ Q) X.xe s
def ac6 (X:Cx)(f:Value)(r:List V->Hp->VK->Prop):Prop :=
 ∀(pins:List (Addr×Obj)) (s:ae) (σ:St) (H:Hp) (xs:List V) (us:List Value) (Q:VK),Inv X pins σ H s->Vals xs us->r xs H Q ->
  wpAny (model X.prog X.w) X.A (call f us) (EP X pins σ Q) X.xe s
def tOp (r:R2)(ta tb:TE):TE:=λ σ H Q=>ta σ H λ x H1=>tb σ H1 λ y H2=>r x y H2 Q
def tUn (r:V->Hp->VK->Prop)(ta:TE):TE:=λ σ H Q=>ta σ H λ x H1=>r x H1 Q
def rI (C:Int->Int->Prop)(g:Int->Int->V):R2:=λ x y H Q=>∃ i j,x=.int i/\y=.int j/\C i j/\Q (g i j) H
def rI0 (g:Int->Int->V):R2:=λ x y H Q=>∃ i j,x=.int i/\y=.int j/\Q (g i j) H
def rU (g:Int->V):V->Hp->VK->Prop:=λ x H Q=>∃ i,x=.int i/\Q (g i) H
section
variable {X:Cx} {a b c:Expr} {ta tb tc:TE} {pos:Pos}
theorem bX5 (ha:PE X a ta)(hb:PE X b tb){B:List (Addr×Obj)}{s:ae}{σ:St}{H:Hp}{R:V->V->Hp->Prop}(I:Inv X B σ H s)
  (h:ta σ H λ x G=>tb σ G λ y F=>R x y F) {Q:Value->ae->Prop} {f:Value->Value->Sem Value}
  (hf:∀ v u s2 x y F,Inv X B σ F s2->RelV x v->RelV y u->R x y F->wpAny (model X.prog X.w) X.A (f v u) Q X.xe s2) :
  wpAny (model X.prog X.w) X.A (eval a X.env) (λ v Y=>wpAny (model X.prog X.w) X.A (eval b X.env) (λ u J=>wpAny (model X.prog X.w) X.A (f v u) Q X.xe J) X.xe Y) X.xe s:=by
 refine thn (ha B s σ H _ I h) λ v s1 ⟨x,G,I1,r1,Z⟩=>?_
 refine thn (hb B s1 σ G _ I1 Z) λ u s2 ⟨y,F,I2,r2,q2⟩=>?_
 exact hf v u s2 x y F I2 r1 r2 q2
theorem cc2 {op:jW}{r:R2}(ho:OpR X (bS op) r)(ha:PE X a ta)(hb:PE X b tb):PE X (.BinOp a op b pos) (tOp r ta tb):=by
 intro B s σ H Q I h
 exact wpAny_BinOp (bX5 ha hb I h λ v u s2 x y F G Y J q=>ho B s2 σ F x y v u Q G Y J q)
theorem bX7 {op:UnaryOp}{r:V->Hp->VK->Prop}(ho:UnR X (unaryOp op) r)(ha:PE X a ta):PE X (.UnaryOp op a pos) (tUn r ta):=by
 intro B s σ H Q I h
 exact UnaryOp_ (thn (ha B s σ H _ I h) λ v s1 ⟨x,F,J,r1,G⟩=>ho B s1 σ F x v Q J r1 G)
theorem opI {f:Value->Value->Sem Value}{C:Int->Int->Prop}{g:Int->Int->Int}
  (rule:∀(i j:Int) (t u:Tok) (s:ae) (Q:Value->ae->Prop) (E:Value->ae->Prop),C i j->Q (.int (g i j) s.toks) { s with toks:=s.toks+1 }->wpAny (model X.prog X.w) X.A (f (.int i t) (.int j u)) Q E s) :
  OpR X f (rI C λ i j=>.int (g i j)):=by
 intro B s σ H x y v u Q I F G h
 obtain⟨i,j,rfl,rfl,hc,q⟩:=h
 obtain⟨t,rfl⟩:=F
 obtain⟨t',rfl⟩:=G
 exact rule i j t t' s _ _ hc ⟨.int (g i j),H,I.tok _,⟨_,rfl⟩,q⟩
theorem cd5 {f:Value->Value->Sem Value}{g:Int->Int->Int}
  (rule:∀(i j:Int) (t u:Tok) (s:ae) (Q:Value->ae->Prop) (E:Value->ae->Prop),Q (.int (g i j) s.toks) { s with toks:=s.toks+1 }->wpAny (model X.prog X.w) X.A (f (.int i t) (.int j u)) Q E s) :
  OpR X f (rI0 λ i j=>.int (g i j)):=by
 intro B s σ H x y v u Q I G F h
 obtain⟨i,j,rfl,rfl,q⟩:=h
 obtain⟨t,rfl⟩:=G
 obtain⟨t',rfl⟩:=F
 exact rule i j t t' s _ _ ⟨.int (g i j),H,I.tok _,⟨_,rfl⟩,q⟩
theorem bU5 {f:Value->Value->Sem Value}{g:Int->Int->Bool}
  (rule:∀(i j:Int) (t u:Tok) (s:ae) (Q:Value->ae->Prop) (E:Value->ae->Prop),Q (.bool (g i j)) s->wpAny (model X.prog X.w) X.A (f (.int i t) (.int j u)) Q E s) :
  OpR X f (rI0 λ i j=>.bl (g i j)):=by
 intro B s σ H x y v u Q I G F h
 obtain⟨i,j,rfl,rfl,q⟩:=h
 obtain⟨t,rfl⟩:=G
 obtain⟨t',rfl⟩:=F
 exact rule i j t t' s _ _ ⟨.bl (g i j),H,I,rfl,q⟩
def cd3 (i j:Int):Prop:=0<=j/\j<=1000000/\i.natAbs<2^64
def bU3 (i j:Int):Prop:=(-(2^64)<i/\i<2^64)\/(-(2^64)<j/\j<2^64)
theorem bU3.ok {i j:Int}(h:bU3 i j):IntMulOk i j:=by
 rcases h with⟨F,B⟩|⟨F,B⟩
 ·exact .of_left (intBits_le_64 F B)
 ·exact .of_right (intBits_le_64 F B)
theorem aO2 (k:Nat):(0:Int)<=2^k:=by
 rw[two_pow_cast]
 exact Int.natCast_nonneg _
theorem bD7:OpR X (bS .Add) (rI0 λ i j=>.int (i+j)):=cd5 λ _ _ _ _ _ _ _ q=>add_int q
theorem bE6:OpR X (bS .Sub) (rI0 λ i j=>.int (i - j)):=cd5 λ _ _ _ _ _ _ _ q=>sub_int q
theorem bN0:OpR X (bS .Mod) (rI (λ _ j=>0<j) λ i j=>.int (i % j)):=opI λ i j _ _ _ _ _ hc q=>by
 have h:(0:Int)<j:=hc
 exact mod_int' (by omega) (by rw[Int.fmod_eq_emod_of_nonneg i (by omega)];exact q)
theorem bR8:OpR X (bS .Pow) (rI cd3 λ i j=>.int (i^j.toNat)):=opI λ _ _ _ _ _ _ _ hc q=>pow_int_small hc.1 hc.2.1 hc.2.2 q
theorem bT4:OpR X (bS .LShift) (rI cd3 λ i j=>.int (i*2^j.toNat)):=opI λ _ _ _ _ _ _ _ hc q=>lshift_int_small hc.1 hc.2.1 hc.2.2 q
theorem bO0:OpR X (bS .RShift) (rI (λ _ j=>0<=j) λ i j=>.int (i / 2^j.toNat)):=opI λ i j _ _ _ _ _ hc q =>
 rshift_int hc (by rw[fm i (aO2 _)];exact q)
theorem unI {f:Value->Sem Value}{g:Int->Int}
  (rule:∀(i:Int) (t:Tok) (s:ae) (Q:Value->ae->Prop) (E:Value->ae->Prop),Q (.int (g i) s.toks) { s with toks:=s.toks+1 }->wpAny (model X.prog X.w) X.A (f (.int i t)) Q E s) :
  UnR X f (rU λ i=>.int (g i)):=by
 intro B s σ H x v Q I F h
 obtain⟨i,rfl,q⟩:=h
 obtain⟨t,rfl⟩:=F
 exact rule i t s _ _ ⟨.int (g i),H,I.tok _,⟨_,rfl⟩,q⟩
theorem bF7:UnR X (unaryOp .USub) (rU λ i=>.int (-i)):=unI λ _ _ _ _ _ q=>neg_int q
end
section
variable {X:Cx} {a b c:Expr} {ta tb tc:TE} {pos:Pos}
theorem bY4:OpR X (cZ .Lt) (rI0 λ i j=>.bl (decide (i<j))):=bU5 λ _ _ _ _ _ _ _ q=>lt_int q
theorem bW1:OpR X (cZ .LtE) (rI0 λ i j=>.bl (decide (i<=j))):=bU5 λ _ _ _ _ _ _ _ q=>le_int q
theorem ca5:OpR X (cZ .Gt) (rI0 λ i j=>.bl (decide (j<i))):=bU5 λ _ _ _ _ _ _ _ q=>gt_int q
theorem bX9:OpR X (cZ .GtE) (rI0 λ i j=>.bl (decide (j<=i))):=bU5 λ _ _ _ _ _ _ _ q=>ge_int q
theorem bp2 {op:CmpOp}{r:R2}(ho:OpR X (cZ op) r)(ha:PE X a ta)(hb:PE X b tb)(Y:c0 op b=false):PE X (.Compare a [op] [b] pos) (tOp r ta tb):=by
 intro B s σ H Q I h
 exact wpAny_Compare1 (bX5 ha hb I h λ v u s2 x y F G Z J q=>ho B s2 σ F x y v u Q G Z J q) Y
def bN6 (t:TE):TT:=λ σ H Q=>t σ H λ x H'=>∃ k,x=.bl k/\Q k H'
theorem bz1 {op:CmpOp}{r:R2}(ho:OpR X (cZ op) r)(ha:PE X a ta)(hb:PE X b tb)(J:c0 op b=false):PT X (.Compare a [op] [b] pos) (bN6 (tOp r ta tb)):=by
 intro B s σ H Q I h
 refine gS (thn (ha B s σ H _ I h) λ v s1 ⟨x,H1,I1,r1,Y⟩=>thn (hb B s1 σ H1 _ I1 Y) λ u s2 ⟨y,F,I2,r2,q2⟩ =>
  thn (ho B s2 σ F x y v u _ I2 r1 r2 q2) λ c s3 ⟨z,Z,I3,G,k,e,q3⟩=>?_) J
 subst e
 cases G
 exact bR ⟨Z,I3,q3⟩
theorem ak4:(aI:Nat)<2^63:=by rw[eM];decide
theorem aO3:OpR X (bS .Add) (λ x y H Q=>∃ i j,x=.str i/\y=.str j/\i.length+j.length<=aI/\Q (.str (i++j)) H):=by
 intro B s σ H x y v u Q I G F h
 obtain⟨i,j,rfl,rfl,hz,q⟩:=h
 obtain⟨t,rfl⟩:=G
 obtain⟨t',rfl⟩:=F
 exact add_str (λ t' tk=>⟨.str (i++j),H,I.tok _,⟨_,rfl⟩,q⟩) hz
theorem qR {x:V}{us:List Value}(r:Vals [x] us):∃ u,us=[u]/\RelV x u:=by
 cases r with
 | cons r1 r2=>cases r2;exact⟨_,rfl,r1⟩
theorem bz6 {x y:V}{us:List Value}(r:Vals [x,y] us):∃ u h,us=[u,h]/\RelV x u/\RelV y h:=by
 cases r with
 | cons r1 r2 =>
  cases r2 with
  | cons r3 r4=>cases r4;exact⟨_,_,rfl,r1,r3⟩
theorem bh6:ac6 X (.builtin "abs") (λ F H Q=>∃ i,F=[.int i]/\Q (.int (if i<0 then -i else i)) H):=by
 intro B s σ H F us Q I r h
 obtain⟨i,rfl,q⟩:=h
 obtain⟨u,rfl,t,rfl⟩:=qR r
 exact call_abs_int λ u tk=>⟨.int (if i<0 then -i else i),H,I.tok _,⟨_,rfl⟩,q⟩
theorem aT0 (hc:X.calm=true):ac6 X (.builtin "max") (λ F H Q=>∃ i j,F=[.int i,.int j]/\Q (.int (if j > i then j else i)) H):=by
 intro B s σ H F us Q I r h
 obtain⟨i,j,rfl,q⟩:=h
 obtain⟨u,G,rfl,⟨t,rfl⟩,⟨t',rfl⟩⟩:=bz6 r
 refine max_two_ints (I.ok.hd hc) λ h' tk k=>⟨_,H,I.kept k,?_,q⟩
 by_cases hj:j > i
 ·rw[if_pos hj,if_pos hj];exact⟨_,rfl⟩
 ·rw[if_neg hj,if_neg hj];exact⟨_,rfl⟩
theorem aQ2 (hc:X.calm=true):ac6 X (.builtin "min") (λ F H Q=>∃ i j,F=[.int i,.int j]/\Q (.int (if j<i then j else i)) H):=by
 intro B s σ H F us Q I r h
 obtain⟨i,j,rfl,q⟩:=h
 obtain⟨u,G,rfl,⟨t,rfl⟩,⟨t',rfl⟩⟩:=bz6 r
 refine min_two_ints (I.ok.hd hc) λ h' tk k=>⟨_,H,I.kept k,?_,q⟩
 by_cases hj:j<i
 ·rw[if_pos hj,if_pos hj];exact⟨_,rfl⟩
 ·rw[if_neg hj,if_neg hj];exact⟨_,rfl⟩
theorem aT3:ac6 X (.type "int") (λ B H Q=>(∃ i,B=[.int i]/\Q (.int i) H)\/∃ k,B=[.bl k]/\Q (.int (if k then 1 else 0)) H):=by
 intro F s σ H B us Q I r h
 rcases h with⟨i,rfl,q⟩|⟨k,rfl,q⟩
 ·obtain⟨u,rfl,t,rfl⟩:=qR r
  exact call_int_int ⟨.int i,H,I,⟨_,rfl⟩,q⟩
 ·obtain⟨u,rfl,r1⟩:=qR r
  cases r1
  exact call_int_bool ⟨.int (if k then 1 else 0),H,I.tok _,⟨_,rfl⟩,q⟩
end
structure ObjM (h:Heap)(x dx C:Addr)(mA:Str->Option Value):Prop where
 obj:h.get? x=some (gJ C dx)
 ns:h.Ns1 dx mA
 ne:dx≠x
theorem aU1 {h:Heap}{F:Addr}{G:Str->Option Value}(n:h.Ns1 F G):∃ od,h.get? F=some od/\∀ name,hW name od=some (G name):=by
 obtain⟨o,es,ep,ho,hd,hk,_,Y⟩:=n
 refine⟨o,ho,λ name=>?_⟩
 have e:=Y name
 unfold nsFind findBy at e
 rw[<-Array.find?_toList]at e
 unfold hW
 rw[hd]
 dsimp only
 split
 ·rename_i y q
  rw[q]at e
  exact congrArg some e
 ·rename_i q
  rw[q]at e
  have a:es.toList.any (·.refKey)=false:=by
   rw[List.any_eq_false]
   intro y hy
   obtain⟨z,t,B⟩:=hk y (Array.mem_toList_iff.mp hy)
   simp[DictEntry.refKey,B]
  have J:¬ es.toList.any (·.refKey)=true:=by rw[a];exact aQ
  rw[if_neg J]
  exact congrArg some e
theorem ObjM.look {h:Heap}{x B C:Addr}{F:Str->Option Value}(I:ObjM h x B C F):∃ od,PySem.W.InstAt h x (gJ C B) C (some od)/\∀ name,hW name od=some (F name) :=
 let⟨od,ho,hl⟩:=aU1 I.ns
 ⟨od,⟨I.obj,rfl,rfl,ho⟩,hl⟩
section
variable {prog:aA} {w:World} {A:aO} {E:Value->ae->Prop} {s:ae} {K:ac} {x dx C f:Addr} {mA:Str->Option Value} {name:Str} {v:Value}
end
theorem aO4.some_of {v:V}{o:Option Value}(r:aO4 (some v) o):∃ u,o=some u/\RelV v u:=by
 cases o with
 | none=>exact(show False from r).elim
 | some u=>exact⟨u,rfl,r⟩
section
variable {P:aA} {w:World} {H H':Hp} {h h':Heap} {a C dx:Addr} {fs fs':List (Str×V)}
theorem bp3 (hok:HOk P w H h)(e:H a=some (.ins C dx fs)):∃ B,ObjM h a dx C B/\(∀ f,aO4 (fs.lookup f) (B f))/\kA B (fs.map (·.1))/\fs.length<=1000/\H dx=some (.own a):=by
 obtain⟨d,z,ne,ob,B,n,r,q⟩:=(show ab7 P w H h a (.ins C dx fs)from hok a _ e)
 exact⟨B,⟨ob,n,ne⟩,r,q,z,d⟩
end
structure Cls (K:ac)(C:Addr):Prop where
 pg:ju K C Str.empty=true
 hd:PySem.W.hasDictIn K C=true
 po:PySem.W.plainOver K C=true
 sa:di K (.ref C) "__setattr__"=some (some (.builtin "object.__setattr__"))
theorem Cls.get {K:ac}{C:Addr}(c:Cls K C)(f:Str):ju K C f=true:=c.pg
section
variable {X:Cx} {pins:List (Addr×Obj)} {σ:St} {H:Hp} {s:ae} {a C dx:Addr} {fs:List (Str×V)} {f:Str} {v:V} {A:aO} {E:Value->ae->Prop}
end
section
variable {X:Cx} {o e value:Expr} {f:Str} {pos pos' tpos:Pos} {ta tv:TE}
end
section
variable {X:Cx} {pins:List (Addr×Obj)} {σ:St} {H:Hp} {s:ae} {A:aO} {E:Value->ae->Prop} {Q:Value->ae->Prop} {c:Value} {b:Bool}
inductive TyOf (K:ac)(H:Hp):V->Value->Prop where
 | non:TyOf K H .non (.type "NoneType")
 | bl (x:Bool):TyOf K H (.bl x) (.type "bool")
 | int (i:Int):TyOf K H (.int i) (.type "int")
 | str (x:Str):TyOf K H (.str x) (.type "str")
 | flt (x:UInt64):TyOf K H (.flt x) (.type "float")
 | lst {a:Addr} {xs:List V} (e:H a=some (.lst xs)):TyOf K H (.ref a) (.type "list")
 | frz {a:Addr} {o:Obj} {xs:List V} (e:H a=some (.frz o (.lst xs))):TyOf K H (.ref a) (.type "list")
 | tup {a:Addr} {xs:List V} (e:H a=some (.tup xs)):TyOf K H (.ref a) (.type "tuple")
 | dK {a:Addr} {kvs:List (Key×V)} (e:H a=some (.dK kvs)):TyOf K H (.ref a) (.type "dict")
 | dT {a:Addr} {kvs:List (List NI×V)} (e:H a=some (.dT kvs)):TyOf K H (.ref a) (.type "dict")
 | ins {a C dx:Addr} {fs:List (Str×V)} (e:H a=some (.ins C dx fs)) (cl:Cls K C) (ha:di K (.ref C) "__class__"=some (some (.builtin "object.__class__")))
   (hn:jd K (.builtin "object.__class__") "__get__"=some (some (.builtin "getset_descriptor.__get__"))) (htk:jL K (.builtin "object.__class__")=some true)
   (hm:kj K C (.type "object")=some true):TyOf K H (.ref a) (.ref C)
theorem qB {x:V}{u t:Value}(I:Inv X pins σ H s)(B:RelV x u)(Z:TyOf X.K H x t)(e:bI X.K t c=some b)(h:∀ tk,Q (.bool b) { s with toks:=tk }) :
  wpAny (model X.prog X.w) A (call (.builtin "isinstance") [u,c]) Q E s:=by
 cases Z with
 | non=>cases(show u=Value.none from B);exact bC PySem.W.kitx_none I.kIn True.intro e (λ z=>nomatch z) h
 | bl y=>cases(show u=Value.bool y from B);exact bC PySem.W.kitx_bool I.kIn True.intro e (λ z=>nomatch z) h
 | int i=>obtain⟨t,q⟩:=(show ∃ t,u=Value.int i t from B);cases q;exact bC PySem.W.kitx_int I.kIn True.intro e (λ z=>nomatch z) h
 | str y=>obtain⟨t,q⟩:=(show ∃ t,u=Value.str y t from B);cases q;exact bC PySem.W.kitx_str I.kIn True.intro e (λ z=>nomatch z) h
 | flt y=>obtain⟨t,q⟩:=(show ∃ t,u=Value.float y t from B);cases q;exact bC PySem.W.kitx_float I.kIn True.intro e (λ z=>nomatch z) h
 | @lst a G ea =>
  cases(show u=Value.ref a from B)
  obtain⟨_,_,n,_,F⟩:=(show ab7 X.prog X.w H s.heap a (.lst G)from I.hok a _ ea)
  exact bC je I.kIn ⟨_,F,rfl⟩ e (λ z=>nomatch z) h
 | @frz a ob G ea =>
  cases(show u=Value.ref a from B)
  obtain⟨_,_,_,n,_,F⟩:=(show ab7 X.prog X.w H s.heap a (.frz ob (.lst G))from I.hok a _ ea)
  exact bC je I.kIn ⟨_,F,rfl⟩ e (λ z=>nomatch z) h
 | @tup a G ea =>
  cases(show u=Value.ref a from B)
  obtain⟨_,_,_,p⟩:=(show ab7 X.prog X.w H s.heap a (.tup G)from I.hok a _ ea)
  obtain⟨o,F,Y,_⟩:=p
  exact bC iY I.kIn ⟨o,F,Y⟩ e (λ z=>nomatch z) h
 | @dK a kvs ea =>
  cases(show u=Value.ref a from B)
  obtain⟨_,_,vs,_,p⟩:=(show ab7 X.prog X.w H s.heap a (.dK kvs)from I.hok a _ ea)
  obtain⟨o,es,ep,F,Y,_⟩:=p
  exact bC jf I.kIn ⟨o,F,Y.1⟩ e (λ z=>nomatch z) h
 | @dT a kvs ea =>
  cases(show u=Value.ref a from B)
  obtain⟨_,_,G,_,o,es,ep,F,Y,_⟩:=(show ab7 X.prog X.w H s.heap a (.dT kvs)from I.hok a _ ea)
  exact bC jf I.kIn ⟨o,F,Y.1⟩ e (λ z=>nomatch z) h
 | @ins a C dx fs ea cl ha hn htk hm =>
  cases(show u=Value.ref a from B)
  obtain⟨mA,O,_⟩:=bp3 I.hok ea
  obtain⟨od,J,_⟩:=O.look
  exact bC (PySem.W.kitx_own (cl.get _) cl.hd ha hn htk hm) I.kIn J e (λ z=>nomatch z) h
end
structure Room (k:Nat)(A:aO):Prop where
 hd:A.handled=none
 dp:A.depth+3*k+5<recursionLimit
 un:A.units+16*k+200<cLine
theorem Room.mono {j k:Nat}{A:aO}(r:Room k A)(h:j<=k):Room j A:=⟨r.hd,by have:=r.dp;omega,by have:=r.un;omega⟩
theorem Room.deeper {k:Nat}{A:aO}(r:Room (k+1) A)(env:Env):Room k (A.deeper env) :=
 ⟨r.hd,by have:=r.dp;show A.depth+1+3*k+5<_;omega,by have:=r.un;show A.units+3+16*k+200<_;omega⟩
theorem Room.in1 {k:Nat}{A:aO}(r:Room (k+1) A):Room k A.in1 :=
 ⟨r.hd,by have:=r.dp;show A.depth+3*k+5<_;omega,by have:=r.un;show A.units+1+16*k+200<_;omega⟩
theorem Room.depth {k:Nat}{A:aO}(r:Room k A):A.depth<recursionLimit:=by have:=r.dp;omega
theorem Room.units {k:Nat}{A:aO}(r:Room k A):A.units+64<cLine:=by have:=r.un;omega
theorem Room.units0 {k:Nat}{A:aO}(r:Room k A):A.units<cLine:=by have:=r.un;omega
def bc1:TA:=λ _ H Q=>Q [] H
def av1 (ta:TE)(tr:TA):TA:=λ σ H Q=>ta σ H λ x H1=>tr σ H1 λ xs H2=>Q (x::xs) H2
section
variable {X:Cx} {e:Expr} {es:List Expr} {te:TE} {t:TA} {pos:Pos}
theorem ad0:PA X [] bc1:=λ _ _ _ _ H Q I h=>Calls.spliced_nil ⟨[],H,I,.nil,h⟩
theorem zY (ha:PE X e te)(hr:PA X es t)(hs:br (e::es) X.env=(false,eval e X.env)::br es X.env:=by rfl):PA X (e::es) (av1 te t):=by
 intro pos B s σ H Q I h
 rw[hs]
 show wpAny _ _ (spliced ((false,eval e X.env)::dU pos (br es X.env))) _ _ s
 refine Calls.spliced_cons (thn (ha B s σ H _ I h) λ u s1 ⟨x,G,I1,r1,Z⟩=>?_)
 exact thn (hr pos B s1 σ G _ I1 Z) λ us s2 ⟨J,F,Y,r2,q2⟩=>⟨x::J,F,Y,.cons r1 r2,q2⟩
def cf1 (t:TA):TE:=λ σ H Q=>t σ H λ xs H1=>xs.length<=aI/\∀ p,H1 p=none->Q (.ref p) (upd H1 p (.tup xs))
def cg7 (t:TA):TE:=λ σ H Q=>t σ H λ xs H1=>xs.length<=aI/\∀ p,H1 p=none->Q (.ref p) (upd H1 p (.lst xs))
theorem bH4 {x1}(h:PA X es t):PE X (.Tuple es x1 pos) (cf1 t):=by
 intro B s σ H Q I hq
 refine wpAny_Tuple_spliced (thn (h pos B s σ H _ I hq) λ us s1 ⟨J,F,G,r,z,q⟩=>⟨by rw[<-r.length];exact z,?_⟩)
 have hf:F s1.heap.objs.size=none:=G.hok.fresh (ak _)
 refine⟨.ref s1.heap.objs.size,upd F s1.heap.objs.size (.tup J),G.laid (t':=s1.toks) (λ b u e=>ao _ e) (ak _) ?_,rfl,q _ hf⟩
 exact⟨z,us,r,⟨_,aS _ rfl,rfl,_,rfl⟩⟩
theorem aI1 (h:PA X es t):PE X (.List es pos) (cg7 t):=by
 intro B s σ H Q I hq
 refine wpAny_List_spliced (thn (h pos B s σ H _ I hq) λ us s1 ⟨J,F,G,r,z,q⟩=>⟨by rw[<-r.length];exact z,?_⟩)
 have hf:F s1.heap.objs.size=none:=G.hok.fresh (ak _)
 refine⟨.ref s1.heap.objs.size,upd F s1.heap.objs.size (.lst J),G.laid (t':=s1.toks) (λ b u e=>ao _ e) (ak _) ?_,rfl,q _ hf⟩
 exact⟨z,us,0,r,aS _ rfl⟩
end
abbrev Sp:=List V->Hp->VK->XK->Prop
abbrev CXT:=List Env->Hp->ae->XK->Value->ae->Prop
structure Env0 (P:aA)(w:World)(K:ac)(mg:Str->Option Value)(base:Heap)(A:aO)(outer:List Env)(s:ae)(H:Hp):Prop where
 frames:A.frames=some outer
 mod:Mod K mg base
 bs:∀ b o,base.get? b=some o->s.heap.get? b=some o/\H b=none
 bsz:base.objs.size<=s.heap.objs.size
 funs:s.heap.FunFrames base outer
 frf:∀ b∈frs outer,H b=none
 hok:HOk P w H s.heap
 bare:eZ s.gens
def CE (outer:List Env)(P:aA)(w:World)(H:Hp)(s:ae)(Q:VK)(u:Value)(s':ae):Prop :=
 ∃ v H',s'.os=s.os/\eZ s'.gens/\Un (frs outer) [] H H' s.heap s'.heap/\HOk P w H' s'.heap/\RelV v u/\Q v H'
def CR (CX:CXT)(outer:List Env)(P:aA)(w:World)(H:Hp)(s:ae)(Q:VK)(E:XK)(r:jY)(s':ae):Prop :=
 match r with
 | .ok (.ret u)=>CE outer P w H s Q u s'
 | .ok _=>False
 | .error e=>CX outer H s E e s'
structure FnOk (P:aA)(w:World)(K:ac)(mg:Str->Option Value)(base:Heap)(CX:CXT)(k:Nat)(f:Addr)(fd:bH)(ps:List Str)(sp:Sp):Prop where
 len:∀ vs H Q E,sp vs H Q E->vs.length=ps.length
 run:∀(A:aO) (outer:List Env) (s:ae) (H:Hp) (args:Args) (us:List Value) (vs:List V) (Q:VK) (E:XK),Room k A->Env0 P w K mg base A outer s H->jR s fd args (ps.zip us)->Vals vs us->sp vs H Q E ->
  fC (model P w) A (.call (.ref f) args) (CR CX outer P w H s Q E) s
theorem FnOk.imp {P:aA}{w:World}{K:ac}{mg:Str->Option Value}{base:Heap}{Y:CXT}{k:Nat}{f:Addr}{J:bH}{ps:List Str}{sp G:Sp}(F:FnOk P w K mg base Y k f J ps sp)
  (h:∀ vs H Q E,G vs H Q E->sp vs H Q E):FnOk P w K mg base Y k f J ps G :=
 ⟨λ vs H Q E q=>F.len vs H Q E (h _ _ _ _ q),λ A B s H args us vs Q E hr he hb hv hs=>F.run A B s H args us vs Q E hr he hb hv (h _ _ _ _ hs)⟩
section
variable {X:Cx} {pins:List (Addr×Obj)} {σ:St} {H:Hp} {s s':ae}
theorem Inv.env0 (I:Inv X pins σ H s):Env0 X.prog X.w X.K X.mg X.base X.A X.stack s H :=
 ⟨I.ok.frames,I.ok.mod,I.bs,am I.ok.bsz I.sz,I.stack,I.stkFree,I.hok,I.bare⟩
theorem Inv.after {Q:VK}{u:Value}(I:Inv X pins σ H s)(h:CE X.stack X.prog X.w H s Q u s'):EP X pins σ Q u s':=by
 obtain⟨v,H',os,bare,un,hok,r,q⟩:=h
 obtain⟨hh,g,d,t,B⟩:=s'
 obtain rfl:B=s.os:=os
 exact⟨v,H',I.call (h':=hh) (g':=g) (d':=d) (t':=t) (ch:=[]) un hok bare (λ b z=>absurd z (by simp)),r,q⟩
end
def aP9 (sp:Sp)(dvs:List V)(E:XK)(t:TA):TE:=λ σ H Q=>t σ H λ vs H1=>sp (vs++dvs) H1 Q E
def Binds (K:ac)(fd:bH)(ps:List Str)(ds:List Value):Prop :=
 ∀(s:ae) (us:List Value),K.In s.heap->(us++ds).length=ps.length->jR s fd ⟨us,[]⟩ (ps.zip (us++ds))
theorem Binds.all {K:ac}{B:bH}{ps:List Str}(h:∀ us:List Value,us.length=ps.length->dW B ⟨us,[]⟩=pure (ps.zip us)):Binds K B ps []:=λ s us _ hl=>by
 rw[bq]at hl ⊢
 exact .of_eq (h us hl)
def af0 (CX:CXT)(X:Cx)(E:XK):Prop:=∀(pins:List (Addr×Obj)) (σ:St) (H:Hp) (s:ae) (e:Value) (s':ae),Inv X pins σ H s->CX X.stack H s E e s'->X.xe e s'
section
variable {X:Cx} {CX:CXT} {k:Nat} {f C:Addr} {fd:bH} {ps:List Str} {sp:Sp} {dvs:List V} {ds:List Value} {E:XK} {x m:Str} {p pos apos:Pos} {e o:Expr} {es:List Expr} {ta:TE} {t:TA}
theorem bl6 {B:List (Addr×Obj)}{σ:St}{H:Hp}{s:ae}{Q:VK}{us:List Value}{vs:List V}(F:FnOk X.prog X.w X.K X.mg X.base CX k f fd ps sp)(hr:Room k X.A)(hb:Binds X.K fd ps ds)(hd:Vals dvs ds)(hx:af0 CX X E)
  (I:Inv X B σ H s) (r:Vals vs us) (h:sp (vs++dvs) H Q E):wpAny (model X.prog X.w) X.A (call (.ref f) us) (EP X B σ Q) X.xe s:=by
 have r2:Vals (vs++dvs) (us++ds):=r.append hd
 have hl:(us++ds).length=ps.length:=by rw[<-r2.length];exact F.len _ _ _ _ h
 refine wpAny_call (jg (F.run X.A X.stack s H ⟨us,[]⟩ (us++ds) (vs++dvs) Q E hr I.env0 (hb s us I.kIn hl) r2 h) λ r s' hq=>?_)
 cases r with
 | error e=>exact hx B σ H s e s' I hq
 | ok fl =>
  cases fl with
  | ret u=>exact I.after hq
  | next=>exact bn hq
  | brk=>exact bn hq
  | cont=>exact bn hq
theorem aW0 (F:FnOk X.prog X.w X.K X.mg X.base CX k f fd ps sp)(hr:Room k X.A)(hg:Gl X x)(Z:X.mg x=some (.ref f))(hk:b9 X.K (.ref f)=true)(hb:Binds X.K fd ps ds)(hd:Vals dvs ds)(hx:af0 CX X E)
  (ha:PA X (e::es) t) (J:(x==("__debug__":Str))=false:=by decide) (he:br (e::es) X.env=(false,eval e X.env)::br es X.env:=by rfl) (G:(dU pos (br es X.env)).any (·.1)=false:=by rfl) :
  PE X (.Call (.Name x p) (e::es) [] pos) (aP9 sp dvs E t):=by
 intro B s σ H Q I h
 refine cN (aE5 I hg Z ?_ J)
 refine PySem.W.callWith_K (h₀:=X.base) I.ok.mod.kin hk (thn (ha pos B s σ H _ I h) λ us s1 ⟨vs,H1,Y,r,q⟩=>⟨Y.kIn,?_⟩) he G
 exact bl6 F hr hb hd hx Y r q
theorem bf7 (F:FnOk X.prog X.w X.K X.mg X.base CX k f fd ps sp)(hr:Room k X.A)(hg:Gl X x)(J:X.mg x=some (.ref f))(hk:b9 X.K (.ref f)=true)(hb:Binds X.K fd ps ds)(hd:Vals dvs ds)(hx:af0 CX X E)
  (B:(x==("__debug__":Str))=false:=by decide):PE X (.Call (.Name x p) [] [] pos) (aP9 sp dvs E bc1):=by
 intro G s σ H Q I h
 refine cN (aE5 I hg J ?_ B)
 exact PySem.W.callWith_K0 I.kIn hk (bl6 (us:=[]) F hr hb hd hx I .nil h)
structure Mk (K:ac)(C f:Addr):Prop where
 makes:PySem.W.makesIn K C=true
 init:di K (.ref C) "__init__"=some (some (.ref f))
 fn:PySem.W.isFn K (.ref f)=true
 kp:b9 K (.ref C)=true
end
section
variable {X:Cx} {CX:CXT} {k:Nat} {f C:Addr} {fd:bH} {ps ks:List Str} {sp:Sp} {E:XK} {x m:Str} {p pos apos kpos:Pos} {e o:Expr} {es:List Expr} {kws:List iy} {te ta:TE} {t tk:TA} {nm:Option Str}
variable {g:List Value->List Value->List Value} {gV:List V->List V->List V}
end
structure FnScope (N P:List Str)(sc:Scope):Prop where
 kind:sc.kind=.function
 co:sc.isCoroutine=false
 gen:sc.isGenerator=false
 nd:N.Nodup
 pre:N.take P.length=P
 par:∀ x∈P,sc.names.lookup x=some .local\/sc.names.lookup x=some .cell
 nofree:∀ y∈sc.names,y.2≠.free
theorem az1 {eg:Str->Option cb}{x:Str}:∀ {binds:List (Str×Value)} {m:Str->Option Value},(∀ v,(x,v) ∉ binds)->bindL eg binds m x=m x
 | [],_,_=>rfl
 | (n,v)::r,m,h=>by
  unfold bindL
  rw[az1 λ w hw=>h w (ai _ hw)]
  split
  ·have:x≠n:=by rintro rfl;exact h v ar
   simp[this]
  ·rfl
theorem aw3 {eg:Str->Option cb}{x:Str}:∀ {binds:List (Str×Value)} {m:Str->Option Value},(∀ v,(x,v) ∉ binds)->bindC eg binds m x=m x
 | [],_,_=>rfl
 | (n,v)::r,m,h=>by
  unfold bindC
  rw[aw3 λ w hw=>h w (ai _ hw)]
  split
  ·rfl
  ·have:x≠n:=by rintro rfl;exact h v ar
   simp[this]
theorem al0 {eg:Str->Option cb}{x:Str}{v:Value}:∀ {P:List Str} {vs:List Value} {i:Nat} {m:Str->Option Value},P.Nodup->P[i]?=some x->vs[i]?=some v->eg x=some .local ->
  bindL eg (P.zip vs) m x=some v
 | [],_,_,_,_,h,_,_=>by simp at h
 | _::_,[],_,_,_,_,h,_=>by simp at h
 | p::P,w::vs,0,m,nd,h1,h2,hk=>by
  simp at h1 h2;subst h1;subst h2
  show bindL eg ((p,w)::P.zip vs) m p=_
  unfold bindL
  rw[az1 λ v hv=>(eS.mp nd).1 (dF hv).1,if_pos hk]
  simp
 | p::P,w::vs,i+1,m,nd,h1,h2,hk=>by
  show bindL eg ((p,w)::P.zip vs) m x=_
  unfold bindL
  exact al0 (i:=i) (eS.mp nd).2 (by simpa using h1) (by simpa using h2) hk
theorem am1 {eg:Str->Option cb}{x:Str}{v:Value}:∀ {P:List Str} {vs:List Value} {i:Nat} {m:Str->Option Value},P.Nodup->P[i]?=some x->vs[i]?=some v->eg x≠some .local ->
  bindC eg (P.zip vs) m x=some v
 | [],_,_,_,_,h,_,_=>by simp at h
 | _::_,[],_,_,_,_,h,_=>by simp at h
 | p::P,w::vs,0,m,nd,h1,h2,hk=>by
  simp at h1 h2;subst h1;subst h2
  show bindC eg ((p,w)::P.zip vs) m p=_
  unfold bindC
  rw[aw3 λ v hv=>(eS.mp nd).1 (dF hv).1,if_neg hk]
  simp
 | p::P,w::vs,i+1,m,nd,h1,h2,hk=>by
  show bindC eg ((p,w)::P.zip vs) m x=_
  unfold bindC
  exact am1 (i:=i) (eS.mp nd).2 (by simpa using h1) (by simpa using h2) hk
noncomputable def qU (N:List Str)(vs:List V):St:=vs.map some++aq (N.length - vs.length) none
noncomputable def ar2 (CX:CXT)(P:aA)(w:World)(K:ac)(mg:Str->Option Value)(base:Heap)(N:List Str)(qual:Str)(scope:Scope)(f:Addr)(cd:Value)(A:aO)(outer:List Env)(s:ae)(H:Hp)(E:XK):Cx where
 prog:=P
 w:=w
 K:=K
 mg:=mg
 base:=base
 A:=A.deeper (eT qual scope s.heap.objs.size f cd)
 N:=N
 s₀:=s
 H₀:=H
 env:=eT qual scope s.heap.objs.size f cd
 outer:=outer
 stack:=eT qual scope s.heap.objs.size f cd::outer
 ex:=[]
 calm:=true
 fn:=λ _=>true
 pn:=[]
 xe:=λ e s'=>wpAny (model P w) (A.deeper (eT qual scope s.heap.objs.size f cd)) (leaving (eT qual scope s.heap.objs.size f cd) e) (λ _ s''=>CX outer H s E e s'') (λ e' s''=>CX outer H s E e' s'') s'
theorem zS {sc:Scope}{n:Nat}{x:Str}(h:sc.names.lookup x=some .cell):∃ c,(aL n sc.names []).lookup x=some c:=by
 have q:=gm sc.names n [] (.inl h)
 exact fP.mp q
theorem aQ3 {CX:CXT}{P:aA}{w:World}{K:ac}{mg:Str->Option Value}{base:Heap}{N ps:List Str}{qual:Str}{scope:Scope}{f:Addr}{cd:Value}{A:aO}{B:List Env}{s s1:ae}{H:Hp}{E:XK}{us:List Value}{vs:List V}
  (S:FnScope N ps scope) (hd:A.handled=none) (G:Env0 P w K mg base A B s H) (hl:vs.length=ps.length) (r:Vals vs us)
  (x:fD s s.heap.objs.size (bindL (eT qual scope s.heap.objs.size f cd).kindOf (ps.zip us) λ _=>none) (aL (s.heap.objs.size+1) scope.names []) (bindC (eT qual scope s.heap.objs.size f cd).kindOf (ps.zip us) λ _=>none) s1) :
  Inv (ar2 CX P w K mg base N qual scope f cd A B s H E) [] (qU N vs) H s1:=by
 have a0:ps.length<=N.length:=by have:=congrArg kM S.pre;rw[bZ]at this;omega
 obtain⟨h1,tk,rfl,hk⟩:=x.done
 have J:∀ b:Addr,b ∉ (ar2 CX P w K mg base N qual scope f cd A B s H E).ex:=λ b z=>absurd (show b∈([]:List Addr)from z) (by simp)
 refine⟨⟨G.mod,S.kind,rfl,rfl,ak _,λ y z c h1 F=>?_,λ y hy=>?_,λ y c _ h=>?_,λ _=>hd,hZ G.frames,.inr ⟨rfl,rfl⟩,λ b z=>absurd z (J b),G.bs,G.bsz,λ b _ _=>J b,λ b z=>absurd z (J b),G.funs,G.frf⟩,
  rfl,G.bare,Un.kept hk,⟨_,x.toInCall.ns,λ i y v h1 F h3=>?_⟩,λ y c h=>⟨_,x.cell y c h⟩,G.hok.fresh (ak _),λ y c h=>?_,λ p Y=>absurd (show p∈([]:List (Addr×Obj))from Y) (by simp),G.hok.kept hk,?_⟩
 ·exact gr x.apart (aH h1) (aH F)
 ·have hy:scope.names.lookup y=some .cell\/scope.names.lookup y=some .free:=hy
  rcases hy with hy|hy
  ·exact zS hy
  ·exact absurd rfl (S.nofree _ (aH hy))
 ·exact e6 (x.above y c (aH h))
 ·have hi:i<vs.length:=by
   unfold qU at F
   by_cases hi:i<vs.length
   ·exact hi
   ·rw[aB (by simpa using hi)]at F
    rw[f7]at F
    split at F<;>cases F
  have ha:vs[i]?=some v:=by
   unfold qU at F
   rw[aM (by simpa using hi),aF]at F
   cases e:vs[i]? with
   | none=>rw[e]at F;cases F
   | some a=>rw[e]at F;cases F;rfl
  obtain⟨u,hu,rv⟩:=r.get ha
  have Y:ps[i]?=some y:=by
   rw[<-S.pre,List.getElem?_take_of_lt (by omega)];exact h1
  have Z:ps.Nodup:=by rw[<-S.pre];exact S.nd.sublist (List.take_sublist _ _)
  refine⟨u,rv,?_⟩
  rcases S.par y (a7 Y)with k|k
  ·exact .inl ⟨k,al0 Z Y hu k⟩
  ·obtain⟨c,e⟩:=zS (n:=s.heap.objs.size+1) k
   refine .inr ⟨.inl k,c,e,?_⟩
   have q:=x.cell y c e
   rw[am1 Z Y hu (by show scope.names.lookup y≠_;rw[k];decide)]at q
   exact q
 ·exact G.hok.fresh (e6 (x.above y c (aH h)))
 ·unfold qU
  show _=N.length
  rw[aG,aw,List.length_replicate]
  omega
theorem bs8 {CX:CXT}{P:aA}{w:World}{K:ac}{mg:Str->Option Value}{base:Heap}{k:Nat}{f:Addr}{name qual:Str}{params:bX}{body:List Stmt}{scope:Scope}{dV kV Z pm B ct oc:Value}{an od:Option Addr}
  {a1:Array (Option Value)} {N ps:List Str} {sp:Sp} (lk:K.lookup f=some ⟨oc,od,.func (cO name qual params body scope dV kV Z pm an B ct),a1⟩) (a2:fo K B qual=true) (S:FnScope N ps scope)
  (len:∀ vs H Q E,sp vs H Q E->vs.length=ps.length)
  (F:∀(A:aO) (h:List Env) (s:ae) (H:Hp) (vs:List V) (Q:VK) (E:XK),Room k (A.deeper (eT qual scope s.heap.objs.size f B))->sp vs H Q E ->
   ∃ t,PSs (ar2 CX P w K mg base N qual scope f B A h s H E) body t/\t { nx:=λ _ H'=>Q .non H',rt:=Q } (qU N vs) H) :
  FnOk P w K mg base CX (k+1) f (cO name qual params body scope dV kV Z pm an B ct) ps sp:=by
 refine⟨len,λ A h s H args us vs Q E hr e0 hb r Y=>?_⟩
 have hl:=len _ _ _ _ Y
 have KX:K.In s.heap:=e0.mod.kin.keeps λ b o e=>(e0.bs b o e).1
 have a0:s.heap.NoLimit:=e0.mod.nolimit.keeps λ b o e=>(e0.bs b o e).1
 have G:∀ y∈ps.zip us,scope.names.lookup y.1=some .local\/(scope.names.lookup y.1=some .cell/\((aL (s.heap.objs.size+1) scope.names []).lookup y.1).isSome=true):=λ⟨n,v⟩ hy=>by
  rcases S.par n (dF hy).1 with q|q
  ·exact .inl q
  ·exact .inr ⟨q,gm _ _ _ (.inl q)⟩
 refine gT hr.depth (KX _ _ lk) rfl S.co S.gen rfl (PySem.W.codeRec_of KX a2) (hb _ _ _ _ ?_)
 refine wpAny_newFunctionEnv_cells S.kind G λ env he s1 x=>?_
 subst he
 refine⟨a0.keeps x.toInCall.keep,codeAny_func ?_⟩
 obtain⟨t,ht,hq⟩:=F A h s H vs Q E (hr.deeper _) Y
 have I:Inv (ar2 CX P w K mg base N qual scope f B A h s H E) [] (qU N vs) H s1:=aQ3 S hr.hd e0 hl r x
 refine bf (ht [] s1 (qU N vs) H _ I hq) (λ fl s' hs=>?_) λ e s' hs=>hs
 have fin:∀ {σ':St} {H':Hp} {v:V} {u:Value},Inv (ar2 CX P w K mg base N qual scope f B A h s H E) [] σ' H' s'->RelV v u->Q v H'->CE h P w H s Q u s' :=
  λ {σ' H' v u} J rv q=>⟨v,H',J.os,J.bare,J.base,J.hok,rv,q⟩
 cases fl with
 | ret u =>
  obtain⟨v,σ',H',J,rv,q⟩:=hs
  exact fin J rv q
 | next =>
  obtain⟨σ',H',J,q⟩:=hs
  exact fin (v:=V.non) (u:=Value.none) J rfl q
 | brk =>
  obtain⟨_,_,_,q⟩:=hs
  exact bn q
 | cont =>
  obtain⟨_,_,_,q⟩:=hs
  exact bn q
section
variable {X:Cx} {x:Str} {p pos:Pos} {e:Expr} {es:List Expr} {t:TA} {id T:String} {r:List V->Hp->VK->Prop}
def tCB (r:List V->Hp->VK->Prop)(t:TA):TE:=λ σ H Q=>t σ H λ vs H1=>r vs H1 Q
theorem as8 (hc:ac6 X (.builtin id) r)(hg:Gl X x)(Z:X.mg x=none)(hv:be x=some (.builtin id))(ha:PA X (e::es) t)(hn:x ≠ "__name__":=by decide)(G:(x==("__debug__":Str))=false:=by decide)
  (he:br (e::es) X.env=(false,eval e X.env)::br es X.env:=by rfl) (F:(dU pos (br es X.env)).any (·.1)=false:=by rfl):PE X (.Call (.Name x p) (e::es) [] pos) (tCB r t):=by
 intro B s σ H Q I h
 refine cN (av8 I hg Z hv ?_ hn G)
 exact PyProof.Rows.callWith_builtin1 (thn (ha pos B s σ H _ I h) λ us s1 ⟨vs,J,I1,r1,Y⟩=>hc B s1 σ J vs us Q I1 r1 Y) he F
theorem am2 (hc:ac6 X (.type T) r)(hg:Gl X x)(Z:X.mg x=none)(hv:be x=some (.type T))(ha:PA X (e::es) t)(hn:x ≠ "__name__":=by decide)(G:(x==("__debug__":Str))=false:=by decide)
  (he:br (e::es) X.env=(false,eval e X.env)::br es X.env:=by rfl) (F:(dU pos (br es X.env)).any (·.1)=false:=by rfl):PE X (.Call (.Name x p) (e::es) [] pos) (tCB r t):=by
 intro B s σ H Q I h
 refine cN (av8 I hg Z hv ?_ hn G)
 exact e7 (thn (ha pos B s σ H _ I h) λ us s1 ⟨vs,J,I1,r1,Y⟩=>hc B s1 σ J vs us Q I1 r1 Y) he F
end
end L2
end
noncomputable section
namespace HT
open PySem PyProof.Rows
section
open PySem.SeqAt
open PySem.AutoSeq1 (wpAny_loadPart')
open PySem.MeetsSeq PySem.MeetsSeq2 PySem.MeetsSeq3
end
section
variable {prog:aA} {w:World} {A:aO} {E:Value->ae->Prop} {s:ae}
theorem cat_tup {t b:Addr}{vs ws:List Value}{Q:Value->ae->Prop}(ht:IsTup s.heap t vs.toArray)(hb:IsTup s.heap b ws.toArray)(hv:vs≠[])
  (h1:ws=[]->Q (.ref t) s) (h2:ws≠[]->Q (.ref s.heap.objs.size) { s with heap:=s.heap.push { cls:=.type "tuple",data:=.seq (vs++ws).toArray } })
  (hsz:vs.length+ws.length<=aI):wpAny (model prog w) A (bS .Add (.ref t) (.ref b)) Q E s:=by
 obtain⟨⟨cls,dd,data,sl⟩,ho,hc,n,hd⟩:=id ht
 obtain⟨⟨Z,B,Y,J⟩,h,G,n2,F⟩:=id hb
 simp only at hc hd G F
 subst hc hd G F
 have e:vs.toArray++ws.toArray=(vs++ws).toArray:=by simp
 by_cases hw:ws=[]
 ·exact jh ⟨_,ho,rfl⟩ ⟨_,h,rfl⟩ f8 iR dX dL (dB _ _)
   (tuple_addW1 t b vs.toArray ws.toArray n n2 dd B sl J (by simpa using hv) (by simp[hw])) ⟨ho,h,h1 hw⟩
 ·refine jh ⟨_,ho,rfl⟩ ⟨_,h,rfl⟩ f8 iR dX dL (dB _ _)
   (tuple_addW2 t b vs.toArray ws.toArray n n2 dd B sl J (by simpa using hv) (by simpa using hw) (by rw[au,au];exact hsz)) ⟨ho,h,?_⟩
  rw[e]
  exact h2 hw
noncomputable def sIx (n d:Nat):Option Int->Nat
 | none=>d
 | some v=>if v<0 then(v+(n:Int)).toNat else min v.toNat n
theorem sIx_le (n d:Nat)(hd:d<=n)(o:Option Int):sIx n d o<=n:=by
 cases o with
 | none=>exact hd
 | some v =>
  show(if v<0 then(v+(n:Int)).toNat else min v.toNat n)<=n
  by_cases hv:v<0
  ·rw[if_pos hv];omega
  ·rw[if_neg hv];exact Nat.min_le_right _ _
theorem clip_eq (v:Int)(n d:Nat):(if v<0 then max (v+(n:Int)) 0 else min v (n:Int))=((sIx n d (some v):Nat):Int):=by
 show(if v<0 then max (v+(n:Int)) 0 else min v (n:Int))=(((if v<0 then(v+(n:Int)).toNat else min v.toNat n):Nat):Int)
 by_cases hv:v<0
 ·simp only[if_pos hv];omega
 ·simp only[if_neg hv];omega
theorem adjust_gen (h B:Option Int)(n:Nat):dt h B 1 (n:Int)=(((sIx n 0 h:Nat):Int),((sIx n n B:Nat):Int)):=by
 have F:¬((1:Int)<0):=by omega
 unfold dt
 simp only[F,if_false]
 refine Prod.ext ?_ ?_
 ·cases h with
  | none=>rfl
  | some v=>exact clip_eq v n 0
 ·cases B with
  | none=>rfl
  | some v=>exact clip_eq v n n
theorem places_gen (i j:Nat):cC (i:Int) (j:Int) 1=j - i:=by
 unfold cC
 have h:(1:Int) > 0:=by omega
 simp only[h,if_true,Int.ediv_one]
 split<;>omega
theorem slicePart_ {v:Value}{o:Option Int}{Q:Option Int->ae->Prop}(p:fQ v o)(h:Q o s):wpAny (model prog w) A (jM v) Q E s:=by
 cases p with
 | none=>exact slicePart_none h
 | int i t=>exact slicePart_int h
theorem sliceApplied_gen {sl:Addr}{vl vu:Value}{B J:Option Int}{n:Nat}{Q:Int×Int×Nat->ae->Prop}(hs:s.heap.IsSliceOf sl vl vu .none)(Y:fQ vl B)(pu:fQ vu J)
  (h:Q (((sIx n 0 B:Nat):Int),1,sIx n n J - sIx n 0 B) s):wpAny (model prog w) A (fq (.ref sl) (pure (n:Int))) Q E s:=by
 obtain⟨os,F,Z,G⟩:=id hs
 unfold fq ka
 refine af (af (dM F G (x:=vl) rfl (af (dM F G (x:=vu) rfl (af (dM F G (x:=.none) rfl (av ?_)))))))
 refine af (slicePart_none ?_)
 show wpAny _ _ (if((1:Int)==0)=true then _ else _) _ _ s
 rw[if_neg (by decide)]
 refine af (slicePart_ Y (af (slicePart_ pu (af (av ?_)))))
 show wpAny _ _ (match dt B J 1 (n:Int)with|(B,J)=>pure (B,(1:Int),cC B J 1)) _ _ s
 rw[adjust_gen B J n]
 show wpAny _ _ (pure (((sIx n 0 B:Nat):Int),(1:Int),cC ((sIx n 0 B:Nat):Int) ((sIx n n J:Nat):Int) 1)) _ _ s
 rw[places_gen]
 exact av h
theorem pick_gen (h:Array Value)(i k:Nat):((aU k).filterMap λ(m:Nat)=>h[((i:Int)+(m:Int)*1).toNat]?).toArray=((h.toList.drop i).take k).toArray:=by
 have e:(λ(m:Nat)=>h[((i:Int)+(m:Int)*1).toNat]?)=λ m=>h[i+m]?:=by
  funext m
  have:((i:Int)+(m:Int)*1).toNat=i+m:=by omega
  rw[this]
 rw[e]
 have:=pick_run h i k
 rw[cP]at this
 have e2:((λ x=>h[x]?) ∘ λ x=>i+x)=λ m=>h[i+m]?:=rfl
 rw[e2]at this
 rw[this]
theorem getItem_tuple_cut {t sl:Addr}{B:Array Value}{vl vu:Value}{G J:Option Int}{Q:Value->ae->Prop}(Y:IsTup s.heap t B)(hs:s.heap.IsSliceOf sl vl vu .none)(pl:fQ vl G)(pu:fQ vu J)
  (hw:¬(sIx B.size 0 G=0/\sIx B.size B.size J=B.size))
  (h:Q (.ref s.heap.objs.size) { s with heap:=s.heap.push { cls:=.type "tuple",data:=.seq ((B.toList.drop (sIx B.size 0 G)).take (sIx B.size B.size J - sIx B.size 0 G)).toArray } })
  (hsz:B.size<=aI):wpAny (model prog w) A (gu (.ref t) (.ref sl)) Q E s:=by
 have F:sizeOk (.seq ((B.toList.drop (sIx B.size 0 G)).take (sIx B.size B.size J - sIx B.size 0 G)).toArray):=by
  show((B.toList.drop (sIx B.size 0 G)).take (sIx B.size B.size J - sIx B.size 0 G)).toArray.size<=aI
  rw[au,bZ,eA,cI]
  omega
 have hj:sIx B.size B.size J<=B.size:=sIx_le _ _ (ak _) J
 obtain⟨os,Z,a2,a3⟩:=id hs
 have a0:s.TypeIs (.ref sl) "slice":=⟨os,Z,a2⟩
 unfold gu
 try with_reducible refine c5 ?_
 first|refine af (av ?_)|skip
 refine af (ji Y.typeIs (by decide) ?_)
 refine af (cL (name:=bz "__getitem__") Y.typeIs bp
  (cu bp Y.typeIs iI ?_ (iZ _ _)))
 show wpAny _ _ (cx (.ref t) >>= _) _ _ s
 refine af (iT Y ?_)
 refine af (gv a0 ?_)
 rw[if_pos (by decide)]
 refine af (sliceApplied_gen hs pl pu ?_)
 have a1:¬((((sIx B.size 0 G:Nat):Int)==0&&(1:Int)==1&&(sIx B.size B.size J - sIx B.size 0 G)==B.size)=true):=by
  intro q
  rw[ah,ah]at q
  have q1:((sIx B.size 0 G:Nat):Int)=0:=eq_of_beq q.1.1
  have q2:sIx B.size B.size J - sIx B.size 0 G=B.size:=eq_of_beq q.2
  exact hw ⟨by omega,by omega⟩
 show wpAny _ _ (if(((sIx B.size 0 G:Nat):Int)==0&&(1:Int)==1&&(sIx B.size B.size J - sIx B.size 0 G)==B.size)=true then _ else _) _ _ s
 rw[if_neg a1,pick_gen]
 first
  | exact af (m:=cH _) (bw (av ⟨_,rfl,av h⟩) F)
  | exact af (m:=cH _) (bw (af (av (av ⟨_,rfl,av h⟩))) F)
  | exact af (af (m:=cH _) (bw (av (av ⟨_,rfl,av h⟩)) F))
  | exact af (af (m:=cH _) (bw (av ⟨_,rfl,av h⟩) F))
end
end HT
noncomputable section
namespace L2
open PySem PySem.Spec PyProof.Rows
abbrev TO:=St->Hp->(Option Int->Hp->Prop)->Prop
def PO (X:Cx)(e:Option Expr)(t:TO):Prop :=
 ∀(pins:List (Addr×Obj)) (s:ae) (σ:St) (H:Hp) (Q:Option Int->Hp->Prop),Inv X pins σ H s->t σ H Q ->
  wpAny (model X.prog X.w) X.A (evalPart e X.env) (λ u s'=>∃ o H',Inv X pins σ H' s'/\fQ u o/\Q o H') X.xe s
noncomputable def aC8:TO:=λ _ H Q=>Q none H
noncomputable def aZ7 (t:TE):TO:=λ σ H Q=>t σ H λ x H1=>∃ i,x=.int i/\Q (some i) H1
section
variable {X:Cx} {e:Expr} {te:TE} {lo hi:Option Expr} {tl th:TO} {pos p2:Pos}
theorem by7:PO X none aC8:=by
 intro B s σ H Q I h
 rw[evalPart_none]
 exact av ⟨none,H,I,.none,h⟩
theorem bu6 (h:PE X e te):PO X (some e) (aZ7 te):=by
 intro B s σ H Q I hw
 rw[evalPart_some]
 refine thn (h B s σ H _ I hw) λ u s1 ⟨x,F,J,r1,G⟩=>?_
 obtain⟨i,rfl,q⟩:=G
 obtain⟨t,rfl⟩:=r1
 exact⟨some i,F,J,.int i t,q⟩
def SlR (X:Cx)(r:V->Option Int->Option Int->Hp->VK->Prop):Prop :=
 ∀(pins:List (Addr×Obj)) (s:ae) (σ:St) (H:Hp) (x:V) (v vl vu:Value) (lo hi:Option Int) (sl:Addr) (Q:VK),Inv X pins σ H s->RelV x v->s.heap.IsSliceOf sl vl vu .none->fQ vl lo->fQ vu hi->r x lo hi H Q ->
  ∃ T id,typeLookup (.type T) "__getitem__"=pure (some (.builtin id))/\s.TypeIs v T/\wpAny (model X.prog X.w) X.A (gu v (.ref sl)) (EP X pins σ Q) X.xe s
def tSl (r:V->Option Int->Option Int->Hp->VK->Prop)(te:TE)(tl th:TO):TE:=λ σ H Q=>te σ H λ x H1=>tl σ H1 λ l H2=>th σ H2 λ u H3=>r x l u H3 Q
theorem bc8 {r:V->Option Int->Option Int->Hp->VK->Prop}(hr:SlR X r)(he:PE X e te)(hl:PO X lo tl)(hu:PO X hi th):PE X (.Subscript e (.Slice lo hi none p2) pos) (tSl r te tl th):=by
 intro B s σ H Q I h
 refine Subscript_ (thn (he B s σ H _ I h) λ v s1 ⟨x,H1,Z,r1,Y⟩=>?_)
 refine wpAny_Slice (thn (hl B s1 σ H1 _ Z Y) λ vl s2 ⟨l,J,I2,pl,q2⟩=>thn (hu B s2 σ J _ I2 q2) λ vu s3 ⟨u,F,I3,pu,q3⟩=>?_)
 rw[evalPart_none]
 refine av ?_
 have I4:Inv X B σ F { s3 with heap:=s3.heap.push { cls:=.type "slice",data:=.fields #[vl,vu,.none] } }:=I3.kept (t':=s3.toks) λ b ob q=>ao _ q
 obtain⟨T,id,hT,G,hg⟩:=hr B { s3 with heap:=s3.heap.push { cls:=.type "slice",data:=.fields #[vl,vu,.none] } } σ F x v vl vu l u s3.heap.objs.size Q I4 r1 (kR ..) pl pu q3
 show wpAny (model X.prog X.w) X.A (subscriptTail e (.Slice lo hi none p2) v (.ref s3.heap.objs.size)) (EP X B σ Q) X.xe { s3 with heap:=s3.heap.push { cls:=.type "slice",data:=.fields #[vl,vu,.none] } }
 exact jZ (ops:=[.ref s3.heap.objs.size,v]) G hT hg (by with_unfolding_all rfl)
noncomputable def aN0 (xs:List V)(lo hi:Option Int):List V:=(xs.drop (HT.sIx xs.length 0 lo)).take (HT.sIx xs.length xs.length hi - HT.sIx xs.length 0 lo)
theorem aj7 (h:List V)(F B:Option Int):(aN0 h F B).length<=h.length:=by
 unfold aN0
 rw[bZ,eA]
 omega
def ch5 (K:ac):V->Option Int->Option Int->Hp->VK->Prop:=λ x lo hi H Q=>∃ a xs,x=.ref a/\SqT K H a xs /\
 ¬(HT.sIx xs.length 0 lo=0/\HT.sIx xs.length xs.length hi=xs.length)/\∀ p,H p=none->Q (.ref p) (upd H p (.tup (aN0 xs lo hi)))
theorem bR0:SlR X (ch5 X.K):=by
 intro Z s σ H x v vl vu G J sl Q I rx hs pl pu h
 obtain⟨a,F,rfl,hx,hw,q⟩:=h
 cases rx
 obtain⟨its,r,Y,hz⟩:=I.tuple hx
 have B:its.toArray.size=F.length:=by rw[au];exact r.length.symm
 refine⟨"tuple",_,bp.lookup,Y.typeIs,?_⟩
 refine HT.getItem_tuple_cut Y hs pl pu (by rw[B];exact hw) ?_ (by rw[B];exact hz)
 rw[B]
 refine⟨.ref s.heap.objs.size,_,I.laid (t':=s.toks) (o:=.tup (aN0 F G J)) (λ b ob q=>ao _ q) (ak _) ?_,rfl,q _ (I.hok.fresh (ak _))⟩
 exact⟨am (aj7 F G J) hz,_,(r.drop (HT.sIx F.length 0 G)).take (HT.sIx F.length F.length J - HT.sIx F.length 0 G),jv _ _⟩
def cb0 (K:ac):R2:=λ x y H Q=>∃ a b xs ys,x=.ref a/\y=.ref b/\SqT K H a xs/\SqT K H b ys/\xs≠[]/\xs.length+ys.length<=aI /\
 (ys=[]->Q (.ref a) H)/\(ys≠[]->∀ p,H p=none->Q (.ref p) (upd H p (.tup (xs++ys))))
theorem Vals.nil_iff {h:List V}{us:List Value}(r:Vals h us):us=[]↔h=[]:=by
 cases r with
 | nil=>simp
 | cons _ _=>simp
theorem bt2:OpR X (bS .Add) (cb0 X.K):=by
 intro B s σ H x y v u Q I Y Z h
 obtain⟨a,b,G,ys,rfl,rfl,ha,hb,hx,hz,J,q2⟩:=h
 cases Y
 cases Z
 obtain⟨its,r1,p1,_⟩:=I.tuple ha
 obtain⟨F,r2,p2,_⟩:=I.tuple hb
 refine HT.cat_tup p1 p2 (λ z=>hx (r1.nil_iff.mp z)) (λ z=>⟨.ref a,H,I,rfl,J (r2.nil_iff.mp z)⟩) (λ z=>?_) (by rw[<-r1.length,<-r2.length];exact hz)
 refine⟨.ref s.heap.objs.size,_,I.laid (t':=s.toks) (o:=.tup (G++ys)) (λ b ob q=>ao _ q) (ak _) ?_,rfl,q2 (λ w=>z (r2.nil_iff.mpr w)) _ (I.hok.fresh (ak _))⟩
 exact⟨by rw[aG];exact hz,_,r1.append r2,jv _ _⟩
end
noncomputable def ixN (n:Nat)(i:Int):Option Nat:=if 0<=i then(if i<n then some i.toNat else none)else if -(n:Int)<=i then some (i+n).toNat else none
noncomputable def atI {α:Type}(xs:List α)(i:Int):Option α:=(ixN xs.length i).bind λ j=>xs[j]?
theorem aU3 {n:Nat}{i:Int}{j:Nat}(h:ixN n i=some j):seqIndex? i n=some j/\j<n/\-(n:Int)<=i/\i<n:=by
 unfold ixN at h
 by_cases h0:0<=i
 ·rw[if_pos h0]at h
  by_cases h1:i<n
  ·rw[if_pos h1]at h
   have e:i.toNat=j:=ax h
   exact⟨by rw[jG h0 h1,e],by omega,by omega,h1⟩
  ·rw[if_neg h1]at h;cases h
 ·rw[if_neg h0]at h
  by_cases h1:-(n:Int)<=i
  ·rw[if_pos h1]at h
   have e:(i+n).toNat=j:=ax h
   exact⟨by rw[jj (by omega) h1,e],by omega,h1,by omega⟩
  ·rw[if_neg h1]at h;cases h
theorem aE7 {α:Type}{B:List α}{i:Int}{v:α}(h:atI B i=some v):∃ j,seqIndex? i B.length=some j/\B[j]?=some v/\j<B.length/\-(B.length:Int)<=i/\i<B.length:=by
 unfold atI at h
 cases e:ixN B.length i with
 | none=>rw[e]at h;cases h
 | some j =>
  rw[e]at h
  obtain⟨J,F,h3,G⟩:=aU3 e
  exact⟨j,J,h,F,h3,G⟩
def aQ9 (b:Expr):Prop:=∀ o i,subscripted b false o i=operate [o,i] (gu o i)
def IxR (X:Cx)(r:R2):Prop :=
 ∀(value slice:Expr) (pins:List (Addr×Obj)) (s:ae) (σ:St) (H:Hp) (x y:V) (v u:Value) (Q:VK),Inv X pins σ H s->RelV x v->RelV y u->r x y H Q ->
  subscripted slice false v u=operate [v,u] (gu v u)->wpAny (model X.prog X.w) X.A (subscriptTail value slice v u) (EP X pins σ Q) X.xe s
def MtR (X:Cx)(id:String)(r:V->List V->Hp->VK->Prop):Prop :=
 ∀(pins:List (Addr×Obj)) (s:ae) (σ:St) (H:Hp) (x:V) (xs:List V) (v:Value) (us:List Value) (Q:VK),Inv X pins σ H s->RelV x v->Vals xs us->r x xs H Q ->
  wpAny (model X.prog X.w) X.A (call (.builtin id) (v::us)) (EP X pins σ Q) X.xe s
section
variable {X:Cx} {a b:Expr} {ta tb:TE} {pos:Pos}
theorem bS7 {r:R2}(hr:IxR X r)(ha:PE X a ta)(hb:PE X b tb)(hs:aQ9 b):PE X (.Subscript a b pos) (tOp r ta tb):=by
 intro B s σ H Q I h
 exact Subscript_ (bX5 ha hb I h λ v u s2 x y F G Y J q=>hr a b B s2 σ F x y v u Q G Y J q (hs _ _))
def ce3 (K:ac):R2:=λ x y H Q=>∃ p xs i v,x=.ref p/\y=.int i/\SqL K H p xs/\atI xs i=some v/\Q v H
def ce7 (K:ac):R2:=λ x y H Q=>∃ p xs i v,x=.ref p/\y=.int i/\SqT K H p xs/\atI xs i=some v/\Q v H
def ch1:R2:=λ x y H Q=>∃ z i c,x=.str z/\y=.int i/\z.length<=aI/\atI z.cps.toList i=some c/\Q (.str ⟨#[c]⟩) H
theorem bt6:IxR X (ce3 X.K):=by
 intro Y G B s σ H x y v u Q I rx ry h hs
 obtain⟨p,xs,i,z,rfl,rfl,hq,he,q⟩:=h
 cases rx
 obtain⟨t,rfl⟩:=ry
 obtain⟨its,r,Z,hz⟩:=I.list hq
 obtain⟨j,F,h2,h3,h4,h5⟩:=aE7 he
 obtain⟨w,ew,J⟩:=r.get h2
 have hl:=r.length
 have hn:=ak4
 have fin:EP X B σ Q w s:=⟨z,H,I,J,q⟩
 by_cases h0:0<=i
 ·have hj:i.toNat=j:=by
   rw[jG h0 h5]at F
   exact ax F
  exact item_listR Z.isList h0 (by omega) (by rw[hj];simpa using ew) fin hs
 ·have hj:(i+(its.toArray.size:Int)).toNat=j:=by
   rw[jj (by omega) h4]at F
   rw[au,<-hl]
   exact ax F
  exact gy (x:=w) Z.isList.typeIs jk.lookup
   (wpAny_getItem_list_neg (Q:=λ r s'=>r=w/\EP X B σ Q r s') Z.isList (by omega) (by rw[au]<;>omega) (by omega) (by rw[hj];simpa using ew) ⟨rfl,fin⟩) hs
theorem ix_tup:IxR X (ce7 X.K):=by
 intro J F B s σ H x y v u Q I rx ry h hs
 obtain⟨p,xs,i,z,rfl,rfl,hq,he,q⟩:=h
 cases rx
 obtain⟨t,rfl⟩:=ry
 obtain⟨its,r,Y,hz⟩:=I.tuple hq
 obtain⟨j,h1,Z,h3,h4,h5⟩:=aE7 he
 obtain⟨w,ew,G⟩:=r.get Z
 have hl:=r.length
 have hn:=ak4
 have fin:EP X B σ Q w s:=⟨z,H,I,G,q⟩
 exact gy (x:=w) Y.typeIs bp.lookup
  (getItem_tuple (j:=j) (Q:=λ r s'=>r=w/\EP X B σ Q r s') Y (by omega) (by omega) (by rw[au,<-hl];exact h1) (by simpa using ew) ⟨rfl,fin⟩) hs
theorem ix_str:IxR X ch1:=by
 intro F B G s σ H x y v u Q I rx ry h hs
 obtain⟨z,i,c,rfl,rfl,hz,he,q⟩:=h
 obtain⟨t,rfl⟩:=rx
 obtain⟨t',rfl⟩:=ry
 obtain⟨j,J,Z,h3,h4,Y⟩:=aE7 he
 have hl:z.cps.toList.length=z.length:=by simp[j0]
 rw[hl]at J h4 Y
 have hn:=ak4
 exact jZ (fu s z t) slot_str_getitem.lookup (getItem_str (c:=c) (by
  have e1:decide (i < -(2^63:Int))=false:=decide_eq_false (by omega)
  have e2:decide (i ≥ 2^63)=false:=decide_eq_false (by omega)
  rw[e1,e2,Bool.or_false]) (by rw[J];simpa using Z) ⟨.str ⟨#[c]⟩,H,I.tok _,⟨_,rfl⟩,q⟩) hs
theorem aM5 (its:List Value)(n j:Nat)(u:Value):gz (·.setIfInBounds j u) { cls:=.type "list",data:=.seq its.toArray n }={ cls:=.type "list",data:=.seq (its.set j u).toArray n }:=by
 simp[gz]
theorem Inv.lst {B:List (Addr×Obj)}{σ:St}{H:Hp}{s:ae}{p:Addr}{F:List V}(I:Inv X B σ H s)(h:H p=some (.lst F)) :
  ∃(its:List Value) (n:Nat),Vals F its/\s.heap.get? p=some { cls:=.type "list",data:=.seq its.toArray n }/\F.length<=aI:=by
 obtain⟨z,its,n,r,e⟩:=I.hok p _ h
 exact⟨its,n,r,e,z⟩
theorem Inv.lstUpd {B:List (Addr×Obj)}{σ:St}{H:Hp}{s:ae}{p:Addr}{G ys:List V}{its its':List Value}{n F:Nat}{f:Obj->Obj}(I:Inv X B σ H s)(h:H p=some (.lst G))
  (ho:s.heap.get? p=some { cls:=.type "list",data:=.seq its.toArray n }) (hf:f { cls:=.type "list",data:=.seq its.toArray n }={ cls:=.type "list",data:=.seq its'.toArray F }) (r:Vals ys its') (hz:ys.length<=aI) (t:Nat) :
  Inv X B σ (upd H p (.lst ys)) { s with heap:=s.heap.update p f,toks:=t }:=by
 have e:(s.heap.update p f).get? p=some { cls:=.type "list",data:=.seq its'.toArray F }:=by
  rw[c7 f ho (by rw[hf]<;>rfl),hf]
 refine I.write (x:=p) (e:=p) (by rw[h];trivial) (.inl rfl) (λ b u hb q=>(bK _ _ (cq hb)).trans q) ⟨_,e⟩ ?_
 exact⟨hz,its',F,r,e⟩
def bV9:V->V->V->Hp->(Hp->Prop)->Prop:=λ o i v H Q=>∃ p xs k j,o=.ref p/\i=.int k/\H p=some (.lst xs)/\ixN xs.length k=some j/\Q (upd H p (.lst (xs.set j v)))
theorem bg9:bZ1 X bV9:=by
 intro B s σ H o i v ov iv u Q I ro ri rv h
 obtain⟨p,Z,k,j,rfl,rfl,G,hj,q⟩:=h
 cases ro
 obtain⟨t,rfl⟩:=ri
 obtain⟨its,n,r,ho,hz⟩:=I.lst G
 obtain⟨F,h2,h3,J⟩:=aU3 hj
 have hl:=r.length
 have hn:=ak4
 have Y:Inv X B σ (upd H p (.lst (Z.set j v))) { s with heap:=s.heap.update p (gz (·.setIfInBounds j u)) } :=
  I.lstUpd G ho (aM5 its n j u) (r.set rv j) (by rw[bj];exact hz) s.toks
 by_cases h0:0<=k
 ·have hk:k.toNat=j:=by
   rw[jG h0 J]at F
   exact ax F
  exact PySem.W.ki_setAt ho h0 (by omega) (by rw[au,<-hl];exact J) (by rw[hk];exact⟨_,Y,q⟩)
 ·have hk:(k+(its.toArray.size:Int)).toNat=j:=by
   rw[jj (by omega) h3]at F
   rw[au,<-hl]
   exact ax F
  exact PySem.W.ki_setBack ho (by omega) (by rw[au,<-hl];exact h3) (by omega) (by rw[hk];exact⟨_,Y,q⟩)
theorem az9 (B F:Option Int)(n:Nat):(dN B F none n).1=((HT.sIx n 0 B:Nat):Int)/\(dN B F none n).2.1=((HT.sIx n n F:Nat):Int)/\(dN B F none n).2.2=1:=by
 refine⟨?_,?_,rfl⟩
 ·cases B with
  | none=>simp[dN,HT.sIx]
  | some i =>
   simp only[dN,HT.sIx,jw,show(1:Int) > 0 by decide,if_true]
   by_cases h:i<0
   ·simp only[h,if_true]<;>omega
   ·simp only[h,if_false]<;>omega
 ·cases F with
  | none=>simp[dN,HT.sIx]
  | some i =>
   simp only[dN,HT.sIx,jw,show(1:Int) > 0 by decide,if_true]
   by_cases h:i<0
   ·simp only[h,if_true]<;>omega
   ·simp only[h,if_false]<;>omega
theorem aq5 (its:List Value)(h B:Option Int):slicePick its.toArray h B none=((its.drop (HT.sIx its.length 0 h)).take (HT.sIx its.length its.length B - HT.sIx its.length 0 h)).toArray:=by
 obtain⟨G,F,h3⟩:=az9 h B its.toArray.size
 unfold slicePick
 rw[G,F,h3]
 simp only[sliceRange_one,pick_run,au]<;>rfl
def cf5 (K:ac):V->Option Int->Option Int->Hp->VK->Prop:=λ x lo hi H Q=>∃ a xs,x=.ref a/\SqL K H a xs/\∀ p,H p=none->Q (.ref p) (upd H p (.lst (aN0 xs lo hi)))
theorem bz9:SlR X (cf5 X.K):=by
 intro Z s σ H x v vl vu G J sl Q I rx hs pl pu h
 obtain⟨a,B,rfl,hx,q⟩:=h
 cases rx
 obtain⟨its,r,Y,hz⟩:=I.list hx
 have F:=r.length
 refine⟨"list",_,jk.lookup,Y.isList.typeIs,?_⟩
 refine wpAny_getItem_list_slice Y.isList hs pl pu .none (by simp) ?_ (by rw[au]<;>omega)
 rw[aq5,<-F]
 refine⟨.ref s.heap.objs.size,_,I.laid (t':=s.toks) (o:=.lst (aN0 B G J)) (λ b ob q=>ao _ q) (ak _) ?_,rfl,q _ (I.hok.fresh (ak _))⟩
 exact⟨am (aj7 B G J) hz,_,0,(r.drop (HT.sIx B.length 0 G)).take (HT.sIx B.length B.length J - HT.sIx B.length 0 G),aS _ rfl⟩
theorem az0:ac6 X (.builtin "len") (λ Y H Q=>∃ p ys,Y=[.ref p]/\(SqL X.K H p ys\/SqT X.K H p ys)/\Q (.int ys.length) H):=by
 intro J s σ H Y us Q I r h
 obtain⟨p,ys,rfl,hq,q⟩:=h
 obtain⟨u,rfl,Z⟩:=qR r
 cases Z
 have hn:=ak4
 rcases hq with hq|hq
 ·obtain⟨its,G,F,hz⟩:=I.list hq
  have B:=G.length
  exact Calls.call_len_list F.isList (by simp only[au]<;>omega) ⟨.int ys.length,H,I.tok _,⟨s.toks+1,by rw[au,B]⟩,q⟩
 ·obtain⟨its,G,F,hz⟩:=I.tuple hq
  have B:=G.length
  exact len_tuple F (by simp only[au]<;>omega) ⟨.int ys.length,H,I.tok _,⟨s.toks+1,by rw[au,B]⟩,q⟩
theorem az8:ac6 X (.builtin "len") (λ F H Q=>∃ z,F=[.str z]/\z.length<=aI/\Q (.int z.length) H):=by
 intro B s σ H F us Q I r h
 obtain⟨z,rfl,hz,q⟩:=h
 obtain⟨u,rfl,t,rfl⟩:=qR r
 have hn:=ak4
 exact len_str (by omega) ⟨.int z.length,H,I.tok _,⟨_,rfl⟩,q⟩
theorem ac6.or {f:Value}{r G:List V->Hp->VK->Prop}(h:ac6 X f r)(h':ac6 X f G):ac6 X f (λ F H Q=>r F H Q\/G F H Q):=by
 intro B s σ H F us Q I J q
 rcases q with q|q
 ·exact h B s σ H F us Q I J q
 ·exact h' B s σ H F us Q I J q
theorem aw9:ac6 X (.type "list") (λ Z H Q=>∃ p ys,Z=[.ref p]/\(SqL X.K H p ys\/SqT X.K H p ys)/\∀ l,H l=none->Q (.ref l) (upd H l (.lst ys))):=by
 intro J s σ H Z us Q I r h
 obtain⟨p,ys,rfl,hq,q⟩:=h
 obtain⟨u,rfl,rx⟩:=qR r
 cases rx
 have fin:∀(its:List Value),Vals ys its->ys.length<=aI->∀(h':Heap) (F:Nat),(∀ b o',s.heap.get? b=some o'->h'.get? b=some o') ->
   h'.get? s.heap.objs.size=some { cls:=.type "list",dict:=none,data:=.seq its.toArray F,slots:=#[] }->EP X J σ Q (.ref s.heap.objs.size) { s with heap:=h' }:=λ its B hz h' F kp e =>
  ⟨.ref s.heap.objs.size,_,I.laid (t':=s.toks) kp (ak _) (show ab7 X.prog X.w _ h' _ (.lst ys)from⟨hz,its,F,B,e⟩),rfl,q _ (I.hok.fresh (ak _))⟩
 rcases hq with hq|hq
 ·obtain⟨its,B,Y,hz⟩:=I.list hq
  have G:=B.length
  obtain⟨o,ho,hc,n,hd⟩:=Y.isList
  exact call_list_seq p (.inl rfl) ho hc hd (λ h' F kp e=>fin its B hz h' F kp e) (by simp only[au]<;>omega)
 ·obtain⟨its,B,Y,hz⟩:=I.tuple hq
  have G:=B.length
  obtain⟨o,ho,hc,n,hd⟩:=Y
  exact call_list_seq p (.inr rfl) ho hc hd (λ h' F kp e=>fin its B hz h' F kp e) (by simp only[au]<;>omega)
theorem ar6:ac6 X (.type "tuple") (λ Y H Q=>∃ p ys,Y=[.ref p]/\((SqL X.K H p ys/\∀ l,H l=none->Q (.ref l) (upd H l (.tup ys)))\/(SqT X.K H p ys/\Q (.ref p) H))):=by
 intro B s σ H Y us Q I r h
 obtain⟨p,ys,rfl,h⟩:=h
 obtain⟨u,rfl,rx⟩:=qR r
 cases rx
 rcases h with⟨hq,q⟩|⟨hq,q⟩
 ·obtain⟨its,F,G,hz⟩:=I.list hq
  have J:=F.length
  refine call_tuple_list G.isList (λ h' kp=>?_) (by simp only[au]<;>omega)
  have Z:Inv X B σ H { s with heap:=h' }:=I.kept (t':=s.toks) kp
  have I2:Inv X B σ (upd H h'.objs.size (.tup ys)) { s with heap:=h'.push { cls:=.type "tuple",data:=.seq its.toArray } } :=
   Z.laid (t':=s.toks) (λ b o e=>ao _ e) (ak _) (show ab7 X.prog X.w _ _ _ (.tup ys)from⟨hz,its,F,jv _ _⟩)
  exact⟨.ref h'.objs.size,_,I2,rfl,q _ (Z.hok.fresh (ak _))⟩
 ·obtain⟨its,F,G,hz⟩:=I.tuple hq
  exact call_tuple_same G ⟨.ref p,H,I,rfl,q⟩
def tyV (K:ac)(T:String)(x:V)(H:Hp):Prop:=match x with
 | .str _=>T = "str"
 | .int _=>T = "int"
 | .ref p=>(T = "list"/\∃ xs,SqL K H p xs)\/(T = "tuple"/\∃ o,K.lookup p=some o/\o.cls=.type "tuple"/\o.dict=none) \/
   (T = "dict"/\((∃ kvs,H p=some (.dK kvs))\/∃ kvs,H p=some (.dT kvs)))\/(T = "set"/\∃ S n,H p=some (.set S n))
 | _=>False
theorem bk6 {h:List (Addr×Obj)}{σ:St}{H:Hp}{s:ae}{T:String}{x:V}{v:Value}(I:Inv X h σ H s)(r:RelV x v)(B:tyV X.K T x H) :
  s.TypeIs v T/\∀ a,v=.ref a->∃ ob,s.heap.get? a=some ob/\ob.dict=none:=by
 cases x with
 | str z =>
  obtain⟨t,rfl⟩:=r
  cases(show T = "str" from B)
  exact⟨fu s z t,λ _ e=>nomatch e⟩
 | int i =>
  obtain⟨t,rfl⟩:=r
  cases(show T = "int" from B)
  exact⟨gC s i t,λ _ e=>nomatch e⟩
 | ref p =>
  cases r
  rcases B with⟨rfl,J,hq⟩|⟨rfl,o,hk,hc,hd⟩|⟨rfl,hk⟩|⟨rfl,S,n,hk⟩
  ·obtain⟨its,_,G,_⟩:=I.list hq
   refine⟨G.isList.typeIs,λ a e=>?_⟩
   cases e
   obtain⟨o,n,e,c,hd,_⟩:=G
   exact⟨o,e,hd⟩
  ·refine⟨⟨o,I.kIn p o hk,hc⟩,λ a e=>?_⟩
   cases e
   exact⟨o,I.kIn _ o hk,hd⟩
  ·have z:∃ o,s.heap.get? p=some o/\o.ExactDict:=by
    rcases hk with⟨F,hk⟩|⟨F,hk⟩
    ·obtain⟨_,_,_,_,o,_,_,e,ex,_⟩:=I.hok p _ hk
     exact⟨o,e,ex⟩
    ·obtain⟨_,_,_,_,o,_,_,e,ex,_⟩:=I.hok p _ hk
     exact⟨o,e,ex⟩
   obtain⟨o,e,ex⟩:=z
   refine⟨⟨o,e,ex.1⟩,λ a e2=>?_⟩
   cases e2
   exact⟨o,e,ex.2.1⟩
  ·obtain⟨o,_,_,_,e,ex,_⟩:=I.hok p _ hk
   refine⟨⟨o,e,ex.1⟩,λ a e2=>?_⟩
   cases e2
   exact⟨o,e,ex.2.1⟩
 | _=>exact bn B
def cg1 (K:ac)(T:String)(r:V->List V->Hp->VK->Prop)(to:TE):TE:=λ σ H Q=>to σ H λ x H1=>tyV K T x H1/\r x [] H1 Q
def tBM (K:ac)(T:String)(r:V->List V->Hp->VK->Prop)(to:TE)(t:TA):TE:=λ σ H Q=>to σ H λ x H1=>tyV K T x H1/\t σ H1 λ xs H2=>r x xs H2 Q
variable {o e:Expr} {es:List Expr} {to:TE} {t:TA} {name:Str} {apos cpos:Pos} {T id:String} {r:V->List V->Hp->VK->Prop}
theorem bP8 (pa:j1 T)(slot:Slot T name id)(J:kC (.builtin id)=pure (.type "method_descriptor"))(hm:MtR X id r)(ho:PE X o to)
  (G:eI o name X.env (eval o X.env)=eval o X.env:=by rfl) (F:(apos.endLine==cpos.line)=true:=by rfl):PE X (.Call (.Attribute o name apos) [] [] cpos) (cg1 X.K T r to):=by
 intro B s σ H Q I h
 refine wpAny_Call_method0_late G F (thn (ho B s σ H _ I h) λ v s1 ⟨x,Z,Y,r1,ty,q1⟩=>?_)
 obtain⟨h1,h2⟩:=bk6 Y r1 ty
 exact⟨T,id,pa,slot,J,h1,h2,gD rfl (PySem.evalArgs_none (hm B s1 σ Z x [] v [] Q Y r1 .nil q1))⟩
theorem bZ0 (pa:j1 T)(slot:Slot T name id)(Z:kC (.builtin id)=pure (.type "method_descriptor"))(hm:MtR X id r)(ho:PE X o to)(ha:PA X (e::es) t)
  (J:eI o name X.env (eval o X.env)=eval o X.env:=by rfl)
  (Y:((dU cpos (br (e::es) X.env)).all (λ x=>!x.1)&&(backToKw cpos (jH [] X.env)).all (λ x=>x.1.isSome)
   && decide ((e::es).length+([]:List iy).length+(if([]:List iy).isEmpty then 0 else 1)<30))=true:=by rfl)
  (G:(apos.endLine==cpos.line)=true:=by rfl) (hs:br (e::es) X.env=(false,eval e X.env)::br es X.env:=by rfl) (F:(dU cpos (br es X.env)).any (·.1)=false:=by rfl) :
  PE X (.Call (.Attribute o name apos) (e::es) [] cpos) (tBM X.K T r to t):=by
 intro B s σ H Q I h
 refine wpAny_Call_method_late J Y G rfl (thn (ho B s σ H _ I h) λ v s1 ⟨x,H1,I1,r1,ty,q1⟩=>?_)
 obtain⟨h1,h2⟩:=bk6 I1 r1 ty
 refine⟨T,id,pa,slot,Z,h1,h2,?_⟩
 have hA:=ha cpos B s1 σ H1 _ I1 q1
 rw[hs]at hA ⊢
 refine gD (by show(false||(dU cpos (br es X.env)).any (·.1))=false;rw[F]<;>rfl) (ic ?_)
 exact thn hA λ us s2 ⟨vs,H2,I2,r2,q2⟩=>hm B s2 σ H2 x vs v us Q I2 r1 r2 q2
end
def MtM (X:Cx)(id:String)(r:V->List V->Hp->VK->Prop):Prop :=
 ∀(pins:List (Addr×Obj)) (s:ae) (σ:St) (H:Hp) (x:V) (xs:List V) (v:Value) (us:List Value) (Q:VK),Inv X pins σ H s->RelV x v->Vals xs us->r x xs H Q ->
  wpAny (model X.prog X.w) X.A (call (.builtin id) (v::us)) (EP X pins σ Q) X.xe s
theorem Vals.one:∀ {x:V} {us:List Value},Vals [x] us->∃ u,us=[u]/\RelV x u
 | _,_,.cons r .nil=>⟨_,rfl,r⟩
theorem Vals.zero:∀ {us:List Value},Vals [] us->us=[]
 | _,.nil=>rfl
theorem Vals.dropLast {B:List V}{us:List Value}(h:Vals B us):Vals B.dropLast us.dropLast:=by
 induction h with
 | nil=>exact .nil
 | cons r t ih =>
  cases t with
  | nil=>exact .nil
  | cons q t'=>exact .cons r ih
theorem Vals.reverse {B:List V}{us:List Value}(h:Vals B us):Vals B.reverse us.reverse:=by
 induction h with
 | nil=>exact .nil
 | cons r t ih=>rw[dY,dY];exact Vals.append ih (.cons r .nil)
theorem Vals.rep {B:List V}{us:List Value}(h:Vals B us):∀ k:Nat,Vals (aq k B).flatten (aq k us).flatten
 | 0=>.nil
 | k+1=>by
  rw[bF,bF,cE,cE]
  exact Vals.append h (Vals.rep h k)
theorem ay2 (its:List Value):∀(k:Nat) (h:List Value),
  j2 (λ x1 B=>x1++B) h.toArray (aq k its.toArray)=(h++(aq k its).flatten).toArray
 | 0,h=>by simp
 | k+1,h=>by
  have e:h.toArray++its.toArray=(h++its).toArray:=by simp
  have e2:(h++its)++(aq k its).flatten=h++(aq (k+1) its).flatten:=by
   rw[bF,cE,cf]
  rw[<-e2,<-ay2 its k (h++its),<-e,bF,cV]
section
variable {X:Cx} {pins:List (Addr×Obj)} {σ:St} {H:Hp} {s:ae} {l b:Addr} {xs ys zs:List V}
theorem Inv.lset {its its':List Value}{n:Nat}{f:Array Value->Array Value}{t':Nat}(I:Inv X pins σ H s)(h:H l=some (.lst xs))
  (e:s.heap.get? l=some { cls:=.type "list",data:=.seq its.toArray n }) (hf:f its.toArray=its'.toArray) (hv:Vals ys its') (hz:ys.length<=aI) :
  Inv X pins σ (upd H l (.lst ys)) { s with heap:=s.heap.update l (gz f),toks:=t' }:=by
 have q:=PySem.IsL.update e f
 rw[hf]at q
 refine I.write (x:=l) (e:=l) (by rw[h];exact trivial) (.inl rfl) (λ B u hb hu=>(bK s.heap (gz f) (cq hb)).trans hu) ⟨_,q⟩ ?_
 exact⟨hz,its',_,hv,q⟩
theorem Inv.lnew {its:List Value}{t':Nat}(I:Inv X pins σ H s)(hv:Vals ys its)(hz:ys.length<=aI) :
  Inv X pins σ (upd H s.heap.objs.size (.lst ys)) { s with heap:=s.heap.push { cls:=.type "list",data:=.seq its.toArray },toks:=t' } :=
 I.laid (λ _ _ q=>ao _ q) (ak _) ⟨hz,its,0,hv,aS _ rfl⟩
theorem Inv.fresh (I:Inv X pins σ H s):H s.heap.objs.size=none:=I.hok.fresh (ak _)
theorem Inv.lstM (I:Inv X pins σ H s)(h:H l=some (.lst xs)):xs.length<=aI/\∃(its:List Value) (n:Nat),Vals xs its/\xs.length=its.length/\s.heap.get? l=some { cls:=.type "list",data:=.seq its.toArray n }:=by
 obtain⟨z,its,n,r,e⟩:=I.hok l _ h
 exact⟨z,its,n,r,r.length,e⟩
theorem bj2 {n:Nat}(h:n<=aI):dC n=false:=by
 unfold dC
 exact decide_eq_false (by omega)
end
section
variable {X:Cx}
def br7:V->List V->Hp->VK->Prop:=λ x vs H Q=>∃ l xs y,x=.ref l/\vs=[y]/\H l=some (.lst xs)/\xs.length<aI/\Q .non (upd H l (.lst (xs++[y])))
theorem au5:MtM X "list.append" br7:=by
 intro G s σ H x vs v us Q I Z Y h
 obtain⟨l,xs,y,rfl,rfl,B,hz,q⟩:=h
 cases Z
 obtain⟨u,rfl,J⟩:=Y.one
 obtain⟨z,its,n,r,hl,e⟩:=I.lstM B
 refine eB gW ⟨_,e,rfl⟩ F.entry_list_append (F.args_list_append_2 _ _) (PySem.list_append l its.toArray n u (by rw[au];omega)) ⟨e,?_⟩
 refine⟨.non,_,I.lset (its':=its++[u]) B e (by simp) (r.append (.cons J .nil)) ?_,rfl,q⟩
 rw[aG,c8]
 omega
def ci4:R2:=λ x y H Q=>∃ l b xs zs,x=.ref l/\y=.ref b/\H l=some (.lst xs)/\H b=some (.lst zs)/\xs.length+zs.length<=aI/\∀ p,H p=none->Q (.ref p) (upd H p (.lst (xs++zs)))
theorem bN3:OpR X (bS .Add) ci4:=by
 intro F s σ H x y v u Q I Z ry h
 obtain⟨l,b,xs,zs,rfl,rfl,G,hB,hz,q⟩:=h
 cases Z
 cases ry
 obtain⟨z,its,n,r,hl,e⟩:=I.lstM G
 obtain⟨z2,B,n2,r2,Y,e2⟩:=I.lstM hB
 refine PySem.P.add_list e e2 ?_ (by rw[au,au];omega)
 have J:its.toArray++B.toArray=(its++B).toArray:=by simp
 rw[J]
 exact⟨.ref _,_,I.lnew (t':=s.toks) (r.append r2) (by rw[aG];omega),rfl,q _ I.fresh⟩
def ci1:R2:=λ x y H Q=>∃ l k xs,x=.ref l/\y=.int k/\H l=some (.lst xs)/\-(2^63)<=k/\k<2^63/\xs.length*k.toNat<=aI /\
 ∀ p,H p=none->Q (.ref p) (upd H p (.lst (aq k.toNat xs).flatten))
theorem bs4 {α:Type}(h:List α)(k:Nat):(aq k h).flatten.length=k*h.length:=by
 induction k with
 | zero=>simp
 | succ k ih=>rw[bF,cE,aG,ih,Nat.succ_mul,e8]
theorem bP5:OpR X (bS .Mult) ci1:=by
 intro a0 s σ H x y v u Q I rx ry h
 obtain⟨l,k,xs,rfl,rfl,hH,h1,h2,hz,q⟩:=h
 cases rx
 obtain⟨t,rfl⟩:=ry
 obtain⟨z,its,n,r,hl,e⟩:=I.lstM hH
 have J:its.toArray.size*k.toNat<=aI:=by rw[au,<-hl];exact hz
 have G:¬ its.toArray.size*k.toNat > (2^63 - 1) / 8:=by
  have:(aI:Nat)<=(2^63 - 1) / 8:=by decide
  omega
 have Z:¬(!Builtin.List.listFitsIndex k)=true:=by
  rw[fitsIndex_both h1 h2]
  exact aQ
 have B:¬ dC (its.toArray.size*k.toNat)=true:=by
  rw[bj2 J]
  exact aQ
 have Y:j2 (λ x1 x2=>x1++x2) #[] (aq (if its.toArray.isEmpty=true then 0 else k.toNat) its.toArray)=(aq k.toNat its).flatten.toArray:=by
  have f0:∀ m:Nat,j2 (λ x1 x2=>x1++x2) #[] (aq m its.toArray)=(aq m its).flatten.toArray:=λ m=>by
   have:=ay2 its m []
   rw[gK]at this
   exact this
  rw[f0]
  cases its with
  | nil=>simp
  | cons a r'=>rw[if_neg (by simp)]
 refine fz (T := "list") (U := "int") (by decide) ⟨_,e,rfl⟩ (λ s'=>gC s' k t) noFill_list_mul i3 dJ repeat_list iJ.lookup
  (eB dJ (gC s k t) iK (ie _ _) (int___rmul___int_list k t l its.toArray n)
   ⟨e,rfl,⟨_,e,rfl⟩,eB F.slot_list_mul ⟨_,e,rfl⟩ F.entry_list_mul (F.args_list_mul_2 _ _) (AutoListH.list___mul___list_int_3 l its.toArray n k t Z G B) ⟨e,?_⟩⟩)
 rw[Y]
 exact⟨.ref _,_,I.lnew (t':=s.toks) (r.rep k.toNat) (by rw[bs4,kD];exact hz),rfl,q _ I.fresh⟩
end
section
variable {prog:aA} {w:World} {A:aO} {E:Value->ae->Prop} {s:ae}
end
section
variable {X:Cx}
end
end L2
end
noncomputable section
namespace Att
open PySem PySem.W PySem.Calls PyProof.Rows
theorem ints_of_wellAll {P:Params}{h:Heap}:∀(ns:List Int) (vs:List Value),WellAll P h vs (ns.map WData.int)->jS vs ns:=by
 intro ns
 induction ns with
 | nil =>
  intro vs w
  rw[dm]at w
  cases w
  exact .nil
 | cons n ns ih =>
  intro vs w
  rw[aN]at w
  cases w with
  | cons a b =>
   cases a
   exact .cons _ _ (ih _ b)
theorem script_of {l:OpenLaw}{n:Nat}(hn:l.most=some n){P:Params}{h:Heap}{args:List WData}{B:List Value}
  (F:l.row.toRowW.claim.pre args=true) (a0:WellAll P h B args) :
  ∃ a vs ns,B=[Value.ref a]/\args=[WData.list (ns.map WData.int)]/\h.get? a=some { cls:=.type "list",data:=.seq vs.toArray }/\jS vs ns/\ns.length<=n:=by
 have Z:WShape.hasAll [] args [.list .int]=true:=(pre_splitW F).1
 have hc:l.pre.holds [] { args:=args }=true:=(pre_splitW F).2
 obtain⟨d,r,rfl,h1,h2⟩:=hasAllW_cons Z
 obtain rfl:=hasAllW_nil h2
 obtain⟨xs,rfl,h3⟩:=hasW_list h1
 obtain⟨ns,rfl⟩:=items_int h3
 have G:ns.length<=n:=by
  unfold OpenLaw.pre at hc
  have Y:(WTm.not (.lt (.lit (.int (n:Int))) (.len (.arg 0)))).holds [] { args:=[.list (ns.map .int)] }=true:=by
   have Y:=(holds_andW hc).1
   rw[hn]at Y
   exact Y
  have J:=condW_of Y (w_not (w_lt w_lit (w_len_list (w_arg rfl))))
  rw[aw]at J
  refine jx λ q=>?_
  have q':(n:Int)<((ns.length:Nat):Int):=by omega
  first
   | (rw[decide_eq_true q']at J;exact absurd J (by decide))
   | (simp at J;omega)
 cases a0 with
 | cons w1 w2 =>
  cases w2
  cases w1 with
  | list ho hall=>exact⟨_,_,ns,rfl,rfl,ho,ints_of_wellAll ns _ hall,G⟩
theorem post_true (l:OpenLaw)(args:List WData):l.row.toRowW.claim.post args (.bool true) args=true :=
 postW_of (r:=l.row.toRowW) (X:=(true==true))
  (show WShape.has [] (.bool true) .bool=true by first|rfl|decide|simp[WShape.has,WShape.arms,WShape.armsAll])
  (show(WTm.eq .res (.lit (.bool true))).value [] { args:=args,res:=some (.bool true),after:=args }=some (.bool (true==true))from w_eq_bool (w_res rfl) w_lit) rfl
theorem attach_call {l:OpenLaw}{n:Nat}{q:aA}{loose:List Str}{XP:(Str->Option Value)->Heap->Prop}{YP:World->Heap->Prop}{d:DefRec}
  (hn:l.most=some n) (a2:d.params.defaults=[])
  (call:∀(w:World) (s₀ h:ae) (mg mb:Str->Option Value) (fa:Addr) (o:Obj) (pm cd B:Value) (a:Addr) (vs:List Value) (ns:List Int),
   Ground q loose [] XP w s₀ mg mb h.heap->YP w h.heap ->
   h.heap.get? fa=some o->o.data=.func (docDef d.name d.params d.body d.scope pm cd B)->h.heap.CodeRec cd d.name->mg d.name=some (.ref fa) ->
   h.heap.get? a=some { cls:=.type "list",data:=.seq vs.toArray }->jS vs ns->ns.length<=n->h.gens=#[] ->
   fC (model l.prog w) iz (.call (.ref fa) ⟨[.ref a],[]⟩) (λ r s'=>r=.ok (.ret (.bool true))/\OldK h.heap s'.heap/\s'.os=h.os/\eZ s'.gens) h) :
  WalkO q loose XP YP l.row.toRowW d [] (λ f vs=>jT f vs):=by
 intro w s₀ h mg mb G Y fa o pm cd B dV kV ho hd a3 hD a1 hg args a5 as Z a6 b1 a4 b0
 obtain rfl:dV=.none:=Dflts.none hD a2
 obtain rfl:kV=.none:=Dflts.noKw hD
 obtain⟨a,vs,ns,rfl,rfl,a0,F,J⟩:=script_of hn Z a4
 refine enter_call (jg (call w s₀ h mg mb fa o pm cd B a vs ns G Y ho (fd_plain hd) a3 a1 a0 F J hg) λ r s' hq=>?_)
 obtain⟨rfl,h2,h3,h4⟩:=hq
 exact⟨.inl ⟨.bool true,.bool true,[],rfl,λ _=>rfl,.bool true,post_true l _,λ _=>⟨List.Pairwise.nil,λ _ hm=>(nomatch hm)⟩⟩,h2,h3,h4⟩
section
variable {prog:aA} {w:World} {A:aO} {E:Value->ae->Prop} {s:ae} {K:Frag}
end
end Att
noncomputable section
namespace L2
open PySem PySem.Spec PyProof.Rows
theorem ay1:∀ {vs:List Value} {ns:List Int},jS vs ns->Vals (ns.map V.int) vs
 | _,_,.nil=>.nil
 | _,_,.cons n t h=>.cons ⟨t,rfl⟩ (ay1 h)
noncomputable def defArgs (s:Stmt):bX:=match s with
 | .FunctionDef _ a _ _ _ _ _ _ _ _=>a
 | _=>{ posonlyargs:=[],args:=[],vararg:=none,kwonlyargs:=[],kw_defaults:=[],kwarg:=none,defaults:=[] }
noncomputable def zt (s:Stmt):List Stmt:=match s with
 | .FunctionDef _ _ b _ _ _ _ _ _ _=>b
 | _=>[]
noncomputable def defScope (s:Stmt):Scope:=match s with
 | .FunctionDef _ _ _ _ _ _ sc _ _ _=>sc
 | _=>{ kind:=.function,names:=[],isGenerator:=false,isCoroutine:=false }
noncomputable abbrev CX0:CXT:=λ _ _ _ _ _ _=>False
abbrev E0:XK:=λ _ _ _=>False
theorem bT0 {X:Cx}:af0 CX0 X E0:=λ _ _ _ _ _ _ _ h=>h.elim
structure Fun (K:ac)(x qual:Str)(st:Stmt)(f:Addr)(fd:bH):Prop where
 ex:∃(oc:Value) (od:Option Addr) (kV doc pm:Value) (an:Option Addr) (cdv ct:Value) (osl:Array (Option Value)),
  fd=cO x qual (defArgs st) (zt st) (defScope st) .none kV doc pm an cdv ct/\K.lookup f=some ⟨oc,od,.func fd,osl⟩/\fo K cdv qual=true
 kp:b9 K (.ref f)=true
section
variable {P:aA} {w:World} {K:ac} {mg:Str->Option Value} {base:Heap}
theorem Fun.ok {x qual:Str}{st:Stmt}{f:Addr}{fd:bH}{N ps:List Str}{k:Nat}{sp:Sp}(F:Fun K x qual st f fd)(S:FnScope N ps (defScope st))(len:∀ vs H Q E,sp vs H Q E->vs.length=ps.length)
  (J:∀(G:Value) (A:aO) (B:List Env) (s:ae) (H:Hp) (vs:List V) (Q:VK) (E:XK),Room k (A.deeper (eT qual (defScope st) s.heap.objs.size f G))->sp vs H Q E ->
   ∃ t,PSs (ar2 CX0 P w K mg base N qual (defScope st) f G A B s H E).nox (zt st) t/\t { nx:=λ _ H'=>Q .non H',rt:=Q } (qU N vs) H):FnOk P w K mg base CX0 (k+1) f fd ps sp:=by
 obtain⟨oc,od,kV,a0,pm,an,G,ct,a1,rfl,lk,Z⟩:=F.ex
 refine bs8 lk Z S len λ A B s H vs Q E hr Y=>?_
 obtain⟨t,h,q⟩:=J G A B s H vs Q E hr Y
 exact⟨t,h.nox,q⟩
theorem Fun.binds {x qual:Str}{st:Stmt}{f:Addr}{Z:bH}{ps:List Str}(F:Fun K x qual st f Z)
  (h:∀(kV G Y:Value) (J:Option Addr) (B ct:Value) (us:List Value),us.length=ps.length->dW (cO x qual (defArgs st) (zt st) (defScope st) .none kV G Y J B ct) ⟨us,[]⟩=pure (ps.zip us)):Binds K Z ps []:=by
 obtain⟨oc,od,kV,G,Y,J,B,ct,a1,rfl,lk,a0⟩:=F.ex
 exact .all (h kV G Y J B ct)
theorem bn0 {x qual:Str}{st:Stmt}{f:Addr}{oc:Value}{od G:Option Addr}{F:Array (Option Value)}{kV B J h ct:Value}(l:K.lookup f=some ⟨oc,od,.func (cO x qual (defArgs st) (zt st) (defScope st) .none kV B J G h ct),F⟩)
  (c:fo K h qual=true) (k:b9 K (.ref f)=true):Fun K x qual st f (cO x qual (defArgs st) (zt st) (defScope st) .none kV B J G h ct):=⟨⟨oc,od,kV,B,J,G,h,ct,F,rfl,l,c⟩,k⟩
end
section
variable {X:Cx}
end
theorem ch3 {A B:Prop}(h:B):if false=true then A else B:=by
 rw[if_neg aQ]
 exact h
theorem iteT {A B:Prop}(h:A):if true=true then A else B:=by
 rw[if_pos rfl]
 exact h
def ae3 (H H':Hp):Prop:=∀ b o,H b=some o->H' b=some o
theorem ae3.refl (H:Hp):ae3 H H:=λ _ _ h=>h
theorem ae3.trans {H F B:Hp}(a:ae3 H F)(b:ae3 F B):ae3 H B:=λ c o h=>b c o (a c o h)
theorem aR3 {prog:aA}{w:World}{A:aO}{R:jY->ae->Prop}{s:ae}{G B iter:Expr}{F:List Expr}{scope:Scope}{pos:Pos}{it J:Value}{env:Env}(I:Nat->ae->Prop)
  (turn:∀ n s,I n s->wpAny (model prog w) A (jt it) (λ r Z=>match r with
   | none=>R (.ok .next) Z
   | some v=>wpAny (model prog w) A (eR B it v) (λ _ Y=>wpAny (model prog w) A (gk B env v) (λ _ s₂ =>
     wpAny (model prog w) A (forIn F true λ c r=>if r=true then do let ok <- dI c env (eval c env);pure (ForInStep.yield ok)else pure (ForInStep.yield r)) (λ ok s₃ =>
      if ok=true then wpAny (model prog w) A (eval G env) (λ x s₄ =>
       wpAny (model prog w) A (call (.builtin "list.append") [J,x]) (λ _ s₅=>∃ m,m<n/\I m s₅) (jl (model prog w) A env λ e s'=>R (.error e) s') s₄) (jl (model prog w) A env λ e s'=>R (.error e) s') s₃
      else ∃ m,m<n/\I m s₃) (jl (model prog w) A env λ e s'=>R (.error e) s') s₂) (jl (model prog w) A env λ e s'=>R (.error e) s') Y) (jl (model prog w) A env λ e s'=>R (.error e) s') Z) (jl (model prog w) A env λ e s'=>R (.error e) s') s)
  (n:Nat) (h:I n s) :
  fC (model prog w) A (.compLoop (.ListComp G [⟨B,iter,F,0⟩] scope pos) 0 it J env) R s:=by
 refine codeAny_loop rfl I (λ n s hI=>?_) n h
 show wpAny _ A ((compTurn (.ListComp G [⟨B,iter,F,0⟩] scope pos) 0 it J env).onRaise (λ x=>do jy x env;theTreesLotGoes x)) _ _ s
 refine wpAny_noted ?_
 rw[compTurn_list]
 refine af (iQ (af (bf (turn n s hI) (λ r Z h₁=>?_) λ _ _ h'=>h')))
 cases r with
 | none=>exact av h₁
 | some v =>
  refine af (bf h₁ (λ _ Y a0=>?_) λ _ _ h'=>h')
  refine af (bf a0 (λ _ s₂ h₂=>af (bf h₂ (λ ok s₃ h₃=>?_) λ _ _ h'=>h')) λ _ _ h'=>h')
  cases ok with
  | false=>exact av ⟨rfl,h₃⟩
  | true =>
   exact af (af (bf h₃ (λ x s₄ h₄=>af (bf h₄ (λ _ s₅ h₅=>av (av ⟨rfl,h₅⟩)) λ _ _ h'=>h')) λ _ _ h'=>h'))
noncomputable def an1 (cells:List (Str×Addr)):List (Str×cb)->List (Str×Addr)->List (Str×Addr)
 | [],acc=>acc
 | (n,k)::r,acc=>an1 cells r (if k==.free then(match cells.lookup n with|some c=>(n,c)::acc|none=>acc)else acc)
theorem ag0 {env:Env}:∀(names:List (Str×cb)) (B:List (Str×Addr)),(∀ y∈names,y.2=.free->∃ c,env.cells.lookup y.1=some c) ->
  (forIn names B λ(x:Str×cb) (cs:List (Str×Addr))=>(if x.2==.free then do let c <- cellOf env x.1;pure (ForInStep.yield ((x.1,c)::cs))else pure (ForInStep.yield cs):Sem (ForInStep (List (Str×Addr)))))=pure (an1 env.cells names B)
 | [],B,_=>by rw[fv];rfl
 | (n,k)::r,B,h=>by
  have F:=λ a=>ag0 r a λ y hy=>h y (ai _ hy)
  rw[gL]
  unfold an1
  cases e:(k==NameKind.free)with
  | false =>
   simp only[bB,if_false]
   exact F B
  | true =>
   have hk:k=.free:=by simpa using e
   obtain⟨c,hc⟩:=h (n,k) ar hk
   have e1:cellOf env n=pure c:=by unfold cellOf;rw[hc]
   simp only[if_true,e1,hc]
   exact F _
theorem af4 {scope:Scope}{env:Env}(h:∀ y∈scope.names,y.2=.free->∃ c,env.cells.lookup y.1=some c):closureFor scope env=pure (an1 env.cells scope.names []):=by
 have:=ag0 (env:=env) scope.names [] h
 show(forIn scope.names [] (λ(x:Str×cb) (cs:List (Str×Addr))=>(if x.2==.free then do let c <- cellOf env x.1;pure (ForInStep.yield ((x.1,c)::cs))else pure (ForInStep.yield cs):Sem (ForInStep (List (Str×Addr))))) >>= λ cs=>pure cs)=_
 rw[this]
 rfl
theorem clOf_mem {cells:List (Str×Addr)}{n:Str}{c:Addr}:∀ {names:List (Str×cb)} {B:List (Str×Addr)},(n,c)∈an1 cells names B->cells.lookup n=some c\/(n,c)∈B
 | [],_,h=>.inr h
 | (m,k)::r,B,h=>by
  unfold an1 at h
  rcases clOf_mem h with z|z
  ·exact .inl z
  ·cases e:(k==NameKind.free)with
   | false=>simp only[e,bB,if_false]at z;exact .inr z
   | true =>
    simp only[e,if_true]at z
    cases q:cells.lookup m with
    | none=>rw[q]at z;exact .inr z
    | some d =>
     rw[q]at z
     rcases aC.mp z with y|y
     ·cases y;exact .inl q
     ·exact .inr y
theorem aH6 {cells:List (Str×Addr)}{n:Str}{c:Addr}(hc:cells.lookup n=some c):∀ {names:List (Str×cb)} {B:List (Str×Addr)},((n,NameKind.free)∈names\/(n,c)∈B)->(n,c)∈an1 cells names B
 | [],_,h=>by rcases h with h|h;(exact absurd h (by simp));exact h
 | (m,k)::r,B,h=>by
  unfold an1
  refine aH6 hc ?_
  rcases h with h|h
  ·rcases aC.mp h with e|h
   ·cases e
    right
    simp[hc]
   ·exact .inl h
  ·right
   cases e:(k==NameKind.free)with
   | false=>simpa using h
   | true =>
    simp only[if_true]
    cases q:cells.lookup m with
    | none=>exact h
    | some d=>exact ai _ h
theorem ag4 {α:Type}{n:Str}{c:α}:∀ {l:List (Str×α)},(n,c)∈l->(∀ d,(n,d)∈l->d=c)->l.lookup n=some c
 | (m,d)::r,h,u=>by
  rw[aY]
  cases e:n==m with
  | true =>
   have e':=beq_iff_eq.mp e
   subst e'
   rw[u d ar]
  | false =>
   rcases aC.mp h with z|z
   ·cases z;simp at e
   ·exact ag4 z λ d' h'=>u d' (ai _ h')
theorem aF9 {cells:List (Str×Addr)}{n:Str}{c:Addr}{names:List (Str×cb)}(hc:cells.lookup n=some c)(h:(n,NameKind.free)∈names):(an1 cells names []).lookup n=some c:=by
 refine ag4 (aH6 hc (.inl h)) λ d hd=>?_
 rcases clOf_mem hd with z|z
 ·rw[hc]at z;exact(ax z).symm
 ·exact absurd z (by simp)
theorem ze:∀(names:List (Str×cb)) (n:Nat) (h:List (Str×Addr)),aL n names h=aL n names []++h
 | [],_,h=>by simp[aL]
 | (x,k)::r,n,h=>by
  unfold aL
  split
  ·rw[ze r (n+1) ((x,n)::h),ze r (n+1) [(x,n)]]
   simp
  ·exact ze r n h
theorem zy:∀ {names:List (Str×cb)} {n:Nat} {B:List (Str×Addr)} {x:Str} {c:Addr},(x,c)∈aL n names B->(x,NameKind.cell)∈names\/(x,c)∈B
 | [],_,_,_,_,h=>.inr h
 | (y,k)::r,n,B,x,c,h=>by
  unfold aL at h
  split at h
  ·rename_i hk
   rcases zy h with z|z
   ·exact .inl (ai _ z)
   ·rcases aC.mp z with e|z
    ·cases e
     have:k=.cell:=by simpa using hk
     subst this
     exact .inl ar
    ·exact .inr z
  ·rcases zy h with z|z
   ·exact .inl (ai _ z)
   ·exact .inr z
theorem zF {α:Type}(x:Str):∀(l r:List (Str×α)),(l++r).lookup x=(l.lookup x).or (r.lookup x)
 | [],r=>by simp
 | (y,v)::l,r=>by
  rw[d9,aY,aY]
  cases x==y with
  | true=>rfl
  | false=>exact zF x l r
noncomputable def zU (N':List Str)(src:List (Option Nat))(scope:Scope)(XN:List Str)(xs:Scope):Bool :=
 (scope.kind==.function) &&
 (scope.names.all λ y=>!(y.2==.free)||(xs.names.lookup y.1==some .cell||xs.names.lookup y.1==some .free)) &&
 (scope.names.all λ y=>!(y.2==.local)||scope.names.lookup y.1==some .local) &&
 (scope.names.all λ y=>!(y.2==.cell)||(scope.names.all λ z=>!(z.1==y.1)||z.2==.cell)) &&
 (src.length==N'.length) &&
 ((N'.zip src).all λ y=>match y.2 with|none=>true|some j=>XN[j]?==some y.1&&scope.names.lookup y.1==some .free)
structure CompCk (N':List Str)(src:List (Option Nat))(scope:Scope)(XN:List Str)(xs:Scope):Prop where
 kind:scope.kind=.function
 fr:∀ y∈scope.names,y.2=.free->xs.names.lookup y.1=some .cell\/xs.names.lookup y.1=some .free
 loc:∀ y∈scope.names,y.2=.local->scope.names.lookup y.1=some .local
 cel:∀ y∈scope.names,y.2=.cell->∀ z∈scope.names,z.1=y.1->z.2=.cell
 len:src.length=N'.length
 sr:∀(i j:Nat) (x:Str),src[i]?=some (some j)->N'[i]?=some x->XN[j]?=some x/\scope.names.lookup x=some .free
theorem bl0 {B:List Str}{src:List (Option Nat)}{scope:Scope}{F:List Str}{G:Scope}(h:zU B src scope F G=true):CompCk B src scope F G:=by
 unfold zU at h
 simp only[ah]at h
 obtain⟨⟨⟨⟨⟨h1,h2⟩,h3⟩,h4⟩,Y⟩,h6⟩:=h
 refine⟨by simpa using h1,λ y hy e=>?_,λ y hy e=>?_,λ y hy e z hz Z=>?_,by simpa using Y,λ i j x e1 e2=>?_⟩
 ·have:=aK.mp h2 y hy
  simpa [e]using this
 ·have:=aK.mp h3 y hy
  simpa [e]using this
 ·have:=aK.mp h4 y hy
  simp only[e,beq_self_eq_true,dA,km]at this
  have:=aK.mp this z hz
  simpa [Z]using this
 ·have J:(x,some j)∈B.zip src:=by
   refine a7 (i:=i) ?_
   rw[List.getElem?_zip_eq_some]
   exact⟨e2,e1⟩
  have:=aK.mp h6 _ J
  simpa using this
noncomputable abbrev zG (X:Cx)(N':List Str)(scope:Scope)(C:Addr)(cells:List (Str×Addr))(s:ae)(H:Hp)(ex:List Addr):Cx where
 prog:=X.prog
 w:=X.w
 K:=X.K
 mg:=X.mg
 base:=X.base
 A:=X.A
 N:=N'
 s₀:=s
 H₀:=H
 env:={ scope:=eJ scope X.env,locals:=C,globals:=X.env.globals,cells:=cells,qual:=X.env.qual,func:=none,code:=X.env.code,frame:=X.env.frame,builtins:=X.env.builtins }
 outer:=X.stack
 stack:=X.stack
 ex:=ex
 fn:=λ x=>scope.names.lookup x==some .cell
 calm:=X.calm
 pn:=[]
 xe:=λ _ _=>False
def PIf (X:Cx)(ifs:List Expr)(t:TT):Prop :=
 ∀(pins:List (Addr×Obj)) (s:ae) (σ:St) (H:Hp) (Q:Bool->Hp->Prop),Inv X pins σ H s->t σ H Q ->
  wpAny (model X.prog X.w) X.A (forIn ifs true λ c r=>if r=true then do let ok <- dI c X.env (eval c X.env);pure (ForInStep.yield ok)else pure (ForInStep.yield r)) (TP X pins σ Q) X.xe s
def cg8:TT:=λ _ H Q=>Q true H
theorem bC7 {X:Cx}:PIf X [] cg8:=λ _ _ _ H _ I h=>wpAny_tests_nil ⟨H,I,h⟩
theorem bs3 {X:Cx}{c:Expr}{t:TT}(h:PT X c t):PIf X [c] t:=λ B s σ H Q I hw=>wpAny_tests_one (h B s σ H Q I hw)
noncomputable def au4 (src:List (Option Nat))(σ:St):St:=src.map λ o=>match o with|none=>none|some j=>(σ[j]?).join
def tComp (src:List (Option Nat))(wi:TI)(g:TG)(tc:TT)(te:TE):TE:=λ σ H Q=>wi σ H λ J H1=>∀ D,H1 D=none ->
 ∃ W:Nat->Nat->St->Hp->Prop,(∃ m,W 0 m (au4 src σ) (upd H1 D (.lst [])))/\∀ i m σ' H',W i m σ' H' ->
  (J.stop i H'/\Q (.ref D) H')\/(J.go i H'/\∃ N:St->Hp->Prop,(∀ σ2 H2,N σ2 H2->∃ m',m'<m/\W (i+1) m' σ2 H2) /\
   ∀ x H2,J.yld i H' x H2->g x σ' H2 λ σ3 H3=>tc σ3 H3 λ b H4=>if b=true then te σ3 H4 λ v H5=>∃ ys,H5 D=some (.lst ys)/\ys.length<aI/\N σ3 (upd H5 D (.lst (ys++[v])))else N σ3 H4)
theorem qi {env:Env}:∀ {names:List (Str×cb)} {x:Str} {k:cb},names.lookup x=some k ->
  (names.map λ(n,k)=>if(k==NameKind.free&&env.scope.kind==.function&&env.kindOf n==some .cell)then(n,NameKind.cell)else(n,k)).lookup x =
   some (if(k==NameKind.free&&env.scope.kind==.function&&env.kindOf x==some .cell)then NameKind.cell else k)
 | [],_,_,h=>by simp at h
 | (n,k)::r,x,k',h=>by
  have B:=@qi env r x k'
  show kN x ((if(k==NameKind.free&&env.scope.kind==.function&&env.kindOf n==some .cell)=true then(n,NameKind.cell)else(n,k))::_)=_
  cases hx:x==n with
  | true =>
   have e:=beq_iff_eq.mp hx
   subst e
   simp only[aY,hx]at h
   cases h
   by_cases hc:(k==NameKind.free&&env.scope.kind==.function&&env.kindOf x==some .cell)=true
   ·rw[if_pos hc,if_pos hc];simp only[aY,hx]
   ·rw[if_neg hc,if_neg hc];simp only[aY,hx]
  | false =>
   simp only[aY,hx]at h
   by_cases hc:(k==NameKind.free&&env.scope.kind==.function&&env.kindOf n==some .cell)=true
   ·rw[if_pos hc];simp only[aY,hx];exact B h
   ·rw[if_neg hc];simp only[aY,hx];exact B h
theorem qa {env:Env}:∀ {names:List (Str×cb)} {x:Str},names.lookup x=none ->
  (names.map λ(n,k)=>if(k==NameKind.free&&env.scope.kind==.function&&env.kindOf n==some .cell)then(n,NameKind.cell)else(n,k)).lookup x=none
 | [],_,_=>rfl
 | (n,k)::r,x,h=>by
  have B:=@qa env r x
  show kN x ((if(k==NameKind.free&&env.scope.kind==.function&&env.kindOf n==some .cell)=true then(n,NameKind.cell)else(n,k))::_)=_
  cases hx:x==n with
  | true=>simp only[aY,hx]at h;cases h
  | false =>
   simp only[aY,hx]at h
   by_cases hc:(k==NameKind.free&&env.scope.kind==.function&&env.kindOf n==some .cell)=true
   ·rw[if_pos hc];simp only[aY,hx];exact B h
   ·rw[if_neg hc];simp only[aY,hx];exact B h
theorem ap3 {X:Cx}{N':List Str}{src:List (Option Nat)}{scope:Scope}{a4:List (Addr×Obj)}{σ:St}{H:Hp}{s s4:ae}{fp:List Addr}
  (F:CompCk N' src scope X.N X.env.scope) (I:Inv X a4 σ H s) (hf:∀ b∈fp,FpOk X a4 H b) (a6:∀ b∈fp,b<s.heap.objs.size)
  (e4:∃ tk,s4={ s with heap:=eD (s.heap.push { cls:=.type "dict",data:=.dict #[] }) scope.names,toks:=tk }) :
  Inv (zG X N' scope s.heap.objs.size (aL (s.heap.objs.size+1) scope.names (an1 X.env.cells scope.names [])) s H fp) [] (au4 src σ) H s4:=by
 obtain⟨tk,rfl⟩:=e4
 have hk:∀ b o,s.heap.get? b=some o->(eD (s.heap.push { cls:=.type "dict",data:=.dict #[] }) scope.names).get? b=some o:=λ b o e=>cW _ _ b o (ao _ e)
 have ok:=cellsFrom_ok scope.names (s.heap.push { cls:=.type "dict",data:=.dict #[] }) (s.heap.objs.size+1) [] ⟨λ _ _ hm=>(nomatch hm),List.Pairwise.nil⟩ (by rw[bT];exact ak _)
 rw[bT]at ok
 have Z:=ze scope.names (s.heap.objs.size+1) (an1 X.env.cells scope.names [])
 have lk:∀ x c,(aL (s.heap.objs.size+1) scope.names (an1 X.env.cells scope.names [])).lookup x=some c ->
   ((x,c)∈aL (s.heap.objs.size+1) scope.names []/\(x,NameKind.cell)∈scope.names)\/(X.env.cells.lookup x=some c/\(aL (s.heap.objs.size+1) scope.names []).lookup x=none):=λ x c e=>by
  rw[Z,zF]at e
  cases q:(aL (s.heap.objs.size+1) scope.names []).lookup x with
  | some d =>
   rw[q]at e
   have e':d=c:=ax e
   subst e'
   have hm:=aH q
   refine .inl ⟨hm,?_⟩
   rcases zy hm with z|z
   ·exact z
   ·exact absurd z (by simp)
  | none =>
   rw[q]at e
   have e':(an1 X.env.cells scope.names []).lookup x=some c:=e
   rcases clOf_mem (aH e')with z|z
   ·exact .inr ⟨z,rfl⟩
   ·exact absurd z (by simp)
 have up:∀ x c,(x,c)∈aL (s.heap.objs.size+1) scope.names []->s.heap.objs.size+1<=c:=λ x c h=>(ok.empty x c h).2
 have b0:∀ x c,X.env.cells.lookup x=some c->c<s.heap.objs.size:=λ x c h=>by
  obtain⟨v,q⟩:=I.cell x c h
  exact q.lt
 have a0:∀ b,b<s.heap.objs.size->b≠s.heap.objs.size:=λ b h=>aD h
 have b2:∀ b∈fp,H b=none/\b≠X.env.locals/\b ∉ X.fs:=λ b hb=>⟨(hf b hb).1,(hf b hb).2.1,(hf b hb).2.2.1⟩
 have b4:(eD (s.heap.push { cls:=.type "dict",data:=.dict #[] }) scope.names).Ns s.heap.objs.size (λ _=>none):=(kO s.heap (.type "dict")).keeps (cW _ _)
 have Y:∀ x k,scope.names.lookup x=some k->(eJ scope X.env).names.lookup x=some (if(k==NameKind.free&&X.env.scope.kind==.function&&X.env.kindOf x==some .cell)then NameKind.cell else k):=λ x k e=>qi (env:=X.env) e
 have a3:∀ x,scope.names.lookup x=none->(eJ scope X.env).names.lookup x=none:=λ x e=>qa (env:=X.env) e
 have b1:∀ x c,(x,NameKind.free)∈scope.names->X.env.cells.lookup x=some c->(aL (s.heap.objs.size+1) scope.names (an1 X.env.cells scope.names [])).lookup x=some c:=λ x c hx hc=>by
  rw[Z,zF]
  cases q:(aL (s.heap.objs.size+1) scope.names []).lookup x with
  | some d =>
   rcases zy (aH q)with z|z
   ·have:=F.cel _ z rfl _ hx rfl
    cases this
   ·exact absurd z (by simp)
  | none=>exact aF9 hc hx
 have a5:∀ x,(x,NameKind.free)∈scope.names->∃ c,X.env.cells.lookup x=some c:=λ x hx=>I.ok.has x (F.fr _ hx rfl)
 refine⟨⟨I.ok.mod,F.kind,I.ok.glob,I.ok.blt,ak _,λ x y c e1 e2=>?_,λ x hx=>?_,λ x c hx e=>?_,I.ok.hd,I.ok.frames,.inl rfl,λ b hb=>⟨a0 b (a6 b hb),λ x c e z=>?_⟩,I.bs,am I.ok.bsz I.sz,λ b o e hb=>?_,λ b hb z=>?_,I.stack,I.stkFree⟩,
  rfl,I.bare,Un.kept hk,⟨_,b4,λ i x v e1 e2 e3=>?_⟩,λ x c e=>?_,I.hok.fresh (ak _),λ x c e=>?_,λ p hp=>absurd (show p∈([]:List (Addr×Obj))from hp) (by simp),I.hok.kept hk,by unfold au4;rw[aw];exact F.len⟩
 ·rcases lk x c e1 with⟨a1,_⟩|⟨a1,_⟩<;>rcases lk y c e2 with⟨a2,_⟩|⟨a2,_⟩
  ·exact gr ok.apart a1 a2
  ·exact absurd (ay (b0 _ _ a2) (fF (up _ _ a1))) (bu _)
  ·exact absurd (ay (b0 _ _ a1) (fF (up _ _ a2))) (bu _)
  ·exact I.ok.inj x y c a1 a2
 ·cases q:scope.names.lookup x with
  | none =>
   have B:(eJ scope X.env).names.lookup x=some .cell\/(eJ scope X.env).names.lookup x=some .free:=hx
   rw[a3 x q]at B
   rcases B with z|z<;>cases z
  | some k =>
   have B:(eJ scope X.env).names.lookup x=some .cell\/(eJ scope X.env).names.lookup x=some .free:=hx
   rw[Y x k q]at B
   cases k with
   | free =>
    obtain⟨c,hc⟩:=a5 x (aH q)
    exact⟨c,b1 x c (aH q) hc⟩
   | cell =>
    obtain⟨c,hc⟩:=zS (n:=s.heap.objs.size+1) q
    exact⟨c,by show(aL _ _ _).lookup x=_;rw[Z,zF,hc];rfl⟩
   | _=>rcases B with z|z<;>cases z
 ·have B:(scope.names.lookup x==some .cell)=true:=hx
  have q:scope.names.lookup x=some .cell:=by simpa using B
  rcases lk x c e with⟨a,_⟩|⟨a,b⟩
  ·have:=up _ _ a;show s.heap.objs.size<=c;omega
  ·obtain⟨d,hd⟩:=zS (n:=s.heap.objs.size+1) q
   rw[hd]at b;cases b
 ·subst z
  rcases lk x c e with⟨a,_⟩|⟨a,_⟩
  ·exact absurd (ay (a6 c hb) (fF (up _ _ a))) (bu _)
  ·exact(hf c hb).2.2.2.2.1 x c a rfl
 ·rcases(hf b hb).2.2.2.1 with z|z
  ·exact I.ok.noex b o e z
  ·exact absurd (ay (aE e) (am I.ok.bsz z)) (bu _)
 ·rcases aC.mp (I.stkSub b z)with y|y
  ·exact(b2 b hb).2.1 y
  ·exact(b2 b hb).2.2 y
 ·have G:(au4 src σ)[i]?=some (some v):=e2
  unfold au4 at G
  rw[aF]at G
  cases q:src[i]? with
  | none=>rw[q]at G;cases G
  | some o =>
   rw[q]at G
   cases o with
   | none=>cases G
   | some j =>
    have J:(σ[j]?).join=some v:=ax G
    have ej:σ[j]?=some (some v):=by
     cases q2:σ[j]? with
     | none=>rw[q2]at J;cases J
     | some o2=>rw[q2]at J;exact congrArg some J
    obtain⟨h1,h2⟩:=F.sr i j x q e1
    have hm:=aH h2
    obtain⟨mX,b6,b5⟩:=I.loc
    have b3:Vis X.env.scope x:=by
     rcases F.fr _ hm rfl with z|z
     ·exact .inr (.inl z)
     ·exact .inr (.inr z)
    obtain⟨u,ru,look⟩:=b5 j x v h1 ej b3
    refine⟨u,ru,.inr ?_⟩
    have hcell:∃ c,X.env.cells.lookup x=some c/\s.heap.IsCell c (some u):=by
     rcases look with⟨z,_⟩|⟨_,c,z1,z2⟩
     ·have z':X.env.scope.names.lookup x=some .local:=z
      rcases F.fr _ hm rfl with y|y<;>(rw[z']at y;cases y)
     ·exact⟨c,z1,z2⟩
    obtain⟨c,c1,c2⟩:=hcell
    refine⟨?_,c,b1 x c hm c1,c2.keeps hk⟩
    show(eJ scope X.env).names.lookup x=some .cell\/(eJ scope X.env).names.lookup x=some .free
    rw[Y x _ h2]
    by_cases hc:(NameKind.free==NameKind.free&&X.env.scope.kind==.function&&X.env.kindOf x==some .cell)=true
    ·rw[if_pos hc];exact .inl rfl
    ·rw[if_neg hc];exact .inr rfl
 ·rcases lk x c e with⟨a,_⟩|⟨a,_⟩
  ·exact⟨_,(ok.empty x c a).1⟩
  ·obtain⟨v,q⟩:=I.cell x c a
   exact⟨v,q.keeps hk⟩
 ·rcases lk x c e with⟨a,_⟩|⟨a,_⟩
  ·exact I.hok.fresh (by have:=up _ _ a;omega)
  ·exact I.freeC x c a
theorem aK8 {X:Cx}{Z:List Str}{scope:Scope}{h:List (Addr×Obj)}{σ σ':St}{H G:Hp}{s s5:ae}{F:List Addr}{cells:List (Str×Addr)}{h':Heap}
  (I:Inv X h σ H s) (hf:∀ b∈F,FpOk X h H b) (J:Inv (zG X Z scope s.heap.objs.size cells s H F) [] σ' G s5) (hs:dS s.heap.objs.size s5.heap h') :
  Inv X h σ G { s5 with heap:=h' }:=by
 have B:∀ b o,s.heap.get? b=some o->b≠s.heap.objs.size:=λ b o e=>aD (aE e)
 have u:Un (frs X.stack) F H G s.heap s5.heap:=J.base
 refine I.call' (s':={ s5 with heap:=h' }) (ch:=F) J.os ⟨λ b o e n hb hx=>?_,λ b o e n hb hx=>?_,λ b o e n hx=>u.free b o e n hx,λ b o e hx=>?_,u.tups,u.frzs,u.tbls⟩ (λ b o e=>?_) J.bare λ b hb=>⟨(hf b hb).2.2.2.1,(hf b hb).2.1,(hf b hb).2.2.2.2.1,(hf b hb).2.2.2.2.2⟩
 ·exact(hs.2 b (B b o e)).trans (u.keep b o e n hb hx)
 ·obtain⟨sl,q⟩:=u.slot b o e n hb hx
  exact⟨sl,(hs.2 b (B b o e)).trans q⟩
 ·obtain⟨Y,q⟩:=u.there b o e hx
  exact⟨Y,(hs.2 b (B b o e)).trans q⟩
 ·have fr:G s.heap.objs.size=none:=J.free
  refine(J.hok b o e).stay (λ c w' hc q=>(hs.2 c ?_).trans q) (λ _ q=>q) λ _ _ q=>q
  rintro rfl
  rcases hc with z|hc
  ·rw[<-z,fr]at e;cases e
  ·rw[fr]at hc;cases hc
theorem af5 {M:Model}{A:aO}{E:Value->ae->Prop}{s:ae}{scope:Scope}{globals:Addr}{F:List (Str×Addr)}{qual:Str}{B:Env}{Q:Env->ae->Prop}
  (h:Q { scope:=scope,locals:=s.heap.objs.size,globals:=globals,cells:=aL (s.heap.objs.size+1) scope.names F,qual:=qual,func:=none,code:=B.code,frame:=B.frame,builtins:=B.builtins }
   { s with heap:=eD (s.heap.push { cls:=.type "dict",data:=.dict #[] }) scope.names }) :
  wpAny M A (fw scope globals F [] qual none .none (some B)) Q E s:=by
 simp only[fw,i4,if_true]
 refine af (wpAny_alloc ?_)
 refine af (wpAny_layCells _ (λ name kind cells=>by cases hkc:kind==NameKind.cell<;>simp[hkc]) _ _ _ _ ?_)
 rw[show({ s with heap:=s.heap.push { cls:=.type "dict",data:=.dict #[] } }:ae).heap.objs.size=s.heap.objs.size+1 from bT ..]
 refine af ?_
 rw[fv]
 exact av (av h)
theorem aw0 {X':Cx}{R:jY->ae->Prop}{a4 tg iter:Expr}{a3:List Expr}{scope:Scope}{pos:Pos}{g:TG}{tc:TT}{te:TE}{J:It}{fp:List Addr}{it D:Addr}{tn:Nat->Heap->Prop}{W:Nat->Nat->St->Hp->Prop}
  {QD:Hp->Prop} {σ0:St} {H0:Hp} {s4:ae} {m0:Nat} (hx:X'.xe=λ _ _=>False) (B:X'.calm=true) (I4:Inv X' [] σ0 H0 s4) (T:Turn X'.prog X'.w X'.K tg J fp it tn) (b1:tn 0 s4.heap)
  (F:∀ H':Hp,(∀ b∈fp,H' b=none)->∀ b∈fp,FpOk X' [] H' b) (b0:∀ b∈fp,H0 b=none) (w0:W 0 m0 σ0 H0)
  (turn:∀ i m σ' H',W i m σ' H'->(J.stop i H'/\QD H')\/(J.go i H'/\∃ N:St->Hp->Prop,(∀ σ2 H2,N σ2 H2->∃ m',m'<m/\W (i+1) m' σ2 H2) /\
   ∀ x H2,J.yld i H' x H2->g x σ' H2 λ σ3 G=>tc σ3 G λ b H4=>if b=true then te σ3 H4 λ v H5=>∃ ys,H5 D=some (.lst ys)/\ys.length<aI/\N σ3 (upd H5 D (.lst (ys++[v])))else N σ3 H4))
  (hg:PG X' tg g) (hif:PIf X' a3 tc) (he:PE X' a4 te) (a1:∀ σ' H' s',Inv X' [] σ' H' s'->QD H'->R (.ok .next) s') :
  fC (model X'.prog X'.w) X'.A (.compLoop (.ListComp a4 [⟨tg,iter,a3,0⟩] scope pos) 0 (.ref it) (.ref D) X'.env) R s4:=by
 have nox:∀ {α:Type} {t:Sem α} {Q Q':α->ae->Prop} {E:Value->ae->Prop} {s:ae},wpAny (model X'.prog X'.w) X'.A t Q X'.xe s->(∀ a s,Q a s->Q' a s)->wpAny (model X'.prog X'.w) X'.A t Q' E s :=
  λ h hQ=>bf h hQ λ _ _ z=>by rw[hx]at z;exact z.elim
 refine aR3 (λ n s'=>∃ i σ' H',Inv X' [] σ' H' s'/\tn i s'.heap/\(∀ b∈fp,H' b=none)/\W i n σ' H') ?_ m0 ⟨0,σ0,H0,I4,b1,b0,w0⟩
 rintro n s3 ⟨i,σ3,G,I3,a2,a0,w3⟩
 rcases turn i n σ3 G w3 with⟨stop,qn⟩|⟨go,N,hN,step⟩
 ·refine nox (T.done X' rfl rfl rfl B i [] s3 σ3 G X'.xe I3 (F G a0) a2 stop) λ r s4 ⟨hr,I4⟩=>?_
  subst hr
  exact a1 σ3 G s4 I4 qn
 ·refine nox (T.item X' rfl rfl rfl B i [] s3 σ3 G X'.xe I3 (F G a0) a2 go) λ r s4 ⟨u,hr,h4⟩=>?_
  subst hr
  refine nox h4 λ _ s5 ⟨x,H5,I5,r5,y5,Z,a5⟩=>?_
  have a6:=I5.pinned (F H5 a5) (T.obj _ _ Z)
  refine nox (hg _ s5 σ3 H5 x u _ a6 r5 (step x H5 y5)) λ _ s6 ⟨σ6,H6,I6,q6⟩=>?_
  have again:∀ {σ7:St} {Y:Hp} {s7:ae},Inv X' ([]++ax8 fp s5.heap) σ7 Y s7->N σ7 Y->∃ m,m<n/\∃ i σ' H',Inv X' [] σ' H' s7/\tn i s7.heap/\(∀ b∈fp,H' b=none)/\W i m σ' H':=λ {σ7 Y s7} I7 n7=>by
   obtain⟨m',hm,w7⟩:=hN σ7 Y n7
   refine⟨m',hm,i+1,σ7,Y,I7.unpinned,T.keep _ _ _ Z λ b hb o e=>(I7.pin (b,o) (aJ _ (aJ _ (qK hb e)))).1,λ b hb=>?_,w7⟩
   obtain⟨o,e,d⟩:=T.obj _ _ Z b hb
   exact(I7.pin (b,o) (aJ _ (aJ _ (qK hb e)))).2.1
  refine nox (hif _ s6 σ6 H6 _ I6 q6) λ b s7 ⟨Y,I7,q7⟩=>?_
  cases b with
  | false =>
   rw[if_neg aQ]at q7 ⊢
   exact again I7 q7
  | true =>
   rw[if_pos rfl]at q7 ⊢
   refine nox (he _ s7 σ6 Y _ I7 q7) λ v s8 ⟨y,H8,I8,r8,ys,hy,hz,q8⟩=>?_
   refine nox (au5 _ s8 σ6 H8 (.ref D) [y] (.ref D) [v] (λ _ H9=>N σ6 H9) I8 rfl (.cons r8 .nil) ⟨D,ys,y,rfl,rfl,hy,hz,q8⟩) λ v9 s9 ⟨_,H9,I9,_,q9⟩=>?_
   exact again I9 q9
theorem aZ6 {X:Cx}{a3 tg iter:Expr}{a0:List Expr}{scope:Scope}{pos:Pos}{wi:TI}{g:TG}{tc:TT}{te:TE}(Z:List Str)(src:List (Option Nat))
  (b1:zU Z src scope X.N X.env.scope=true) (hi:PI X tg iter wi) (G:X.calm=true)
  (a6:∀(C:Addr) (cells:List (Str×Addr)) (s:ae) (H:Hp) (ex:List Addr),PG (zG X Z scope C cells s H ex) tg g/\PIf (zG X Z scope C cells s H ex) a0 tc/\PE (zG X Z scope C cells s H ex) a3 te)
  (hs:∀ x,db iter X.env x=pure x:=by intro _;rfl):PE X (.ListComp a3 [⟨tg,iter,a0,0⟩] scope pos) (tComp src wi g tc te):=by
 intro B s σ H Q I h
 have ck:=bl0 b1
 rw[eval_ListComp]
 have hcl:=af4 (scope:=scope) (env:=X.env) λ y hy e=>I.ok.has y.1 (ck.fr y hy e)
 refine fR (use:=none) rfl hs hcl ck.kind ck.loc (thn (hi B s σ H _ I h) λ v s1 h1=>thn h1 λ b5 s2 h2=>?_)
 obtain⟨it,F,tn,J,H2,e,I2,T,a4,f2,W⟩:=h2
 subst e
 have hD:=I2.fresh
 obtain⟨W,⟨m0,w0⟩,turn⟩:=W _ hD
 have I3:=I2.lnew (its:=[]) (ys:=[]) (t':=s2.toks) .nil (cc _)
 have a1:∀ b∈F,b<s2.heap.objs.size:=λ b hb=>by obtain⟨o,q,_⟩:=T.obj _ _ a4 b hb;exact aE q
 have f3:∀ b∈F,FpOk X B (upd H2 s2.heap.objs.size (.lst [])) b:=λ b hb=>⟨by rw[zn (aD (a1 b hb))];exact(f2 b hb).1,(f2 b hb).2⟩
 refine bw (af5 ?_)
 generalize Y:({ s2 with heap:=s2.heap.push { cls:=.type "list",data:=.seq ([]:List Value).toArray },toks:=s2.toks }:ae)=s3 at I3
 have b4:({ s2 with heap:=s2.heap.push { cls:=.type "list",data:=.seq ([]:List Value).toArray } }:ae)=s3:=Y
 have b3:∀ b∈F,b<s3.heap.objs.size:=λ b hb=>by
  rw[<-Y]
  show b<(s2.heap.push _).objs.size
  rw[bT]
  exact fG (a1 b hb)
 have I4:=ap3 (s4:={ s3 with heap:=eD (s3.heap.push { cls:=.type "dict",data:=.dict #[] }) scope.names }) ck I3 f3 b3 ⟨_,rfl⟩
 have a2:tn 0 (eD (s3.heap.push { cls:=.type "dict",data:=.dict #[] }) scope.names):=T.keep _ _ _ a4 λ b hb o e=>cW _ _ b o (ao _ (by rw[<-Y];exact ao _ e))
 obtain⟨hg,hif,he⟩:=a6 s3.heap.objs.size (aL (s3.heap.objs.size+1) scope.names (an1 X.env.cells scope.names [])) s3 (upd H2 s2.heap.objs.size (.lst [])) F
 have a5:∀ H':Hp,(∀ b∈F,H' b=none)->∀ b∈F,FpOk (zG X Z scope s3.heap.objs.size (aL (s3.heap.objs.size+1) scope.names (an1 X.env.cells scope.names [])) s3 (upd H2 s2.heap.objs.size (.lst [])) F) [] H' b:=λ H' hn b hb =>
  ⟨hn b hb,(I4.ok.exf b hb).1,I4.ok.exfs b hb,.inl hb,λ x c e=>(I4.ok.exf b hb).2 x c e,λ p hp=>absurd (show p∈([]:List (Addr×Obj))from hp) (by simp)⟩
 have T':Turn X.prog X.w X.K tg J F it tn:=T
 have b2:∀ b∈F,upd H2 s2.heap.objs.size (.lst []) b=none:=λ b hb=>(f3 b hb).1
 have L:=aw0 (X':=zG X Z scope s3.heap.objs.size (aL (s3.heap.objs.size+1) scope.names (an1 X.env.cells scope.names [])) s3 (upd H2 s2.heap.objs.size (.lst [])) F) (R:=compPost (model X.prog X.w) X.A X.xe none (EP X B σ Q) (Value.ref s2.heap.objs.size) s3.heap.objs.size) (iter:=iter) (scope:=scope) (pos:=pos) (QD:=λ H'=>Q (.ref s2.heap.objs.size) H') rfl G I4 T' a2 a5 b2 w0 turn hg hif he
  (λ σ' H' s' J' q=>by
   obtain⟨mm,hn,_⟩:=J'.loc
   exact⟨mm,hn,λ h' b0=>⟨.ref s2.heap.objs.size,H',aK8 I3 f3 J' b0,rfl,q⟩⟩)
 exact gE L (T.self _ _ _ _ _ a2 L)
section
variable {X:Cx}
theorem cb6:be "abs"=some (.builtin "abs"):=by decide +kernel
theorem cc4:be "len"=some (.builtin "len"):=by decide +kernel
theorem by1:be "min"=some (.builtin "min"):=by decide +kernel
theorem cc3:be "max"=some (.builtin "max"):=by decide +kernel
theorem bZ3:be "all"=some (.builtin "all"):=by decide +kernel
theorem au2:be "isinstance"=some (.builtin "isinstance"):=by decide +kernel
theorem bT1:be "int"=some (.type "int"):=by decide +kernel
theorem bP0:be "bool"=some (.type "bool"):=by decide +kernel
theorem bJ1:be "str"=some (.type "str"):=by decide +kernel
theorem aR5:be "tuple"=some (.type "tuple"):=by decide +kernel
theorem bm6:be "list"=some (.type "list"):=by decide +kernel
def bZ9 (i j:Int):Prop:=0<j/\j<2^4096
theorem aP3 {y:Int}(h0:0<y)(h:y<2^4096):y.natAbs.log2<9000:=by
 have hn:y.natAbs<2^4096:=by
  have:(y.natAbs:Int)=y:=by omega
  have B:(y.natAbs:Int)<((2^4096:Nat):Int):=by rw[this];simpa using h
  exact jm.mp B
 have:=(Nat.log2_lt (by omega)).mpr hn
 omega
theorem bh0:OpR X (bS .FloorDiv) (rI bZ9 λ i j=>.int (i / j)):=opI λ i j _ _ _ _ _ hc q=>by
 refine floordiv_int (by have:=hc.1;omega) ?_ (.inl (PyProof.noPylong_of_log2 (aP3 hc.1 hc.2)))
 rw[fm i (by have:=hc.1;omega)]
 exact q
theorem aI3 {K:ac}(hK:X.K=K):IxR X (ce3 K):=by subst hK;exact bt6
theorem bC6 {K:ac}(hK:X.K=K):IxR X (ce7 K):=by subst hK;exact ix_tup
theorem al6 {K:ac}(hK:X.K=K):ac6 X (.builtin "len") (λ h H Q=>∃ p ys,h=[.ref p]/\(SqL K H p ys\/SqT K H p ys)/\Q (.int ys.length) H):=by subst hK;exact az0
theorem aE2 {K:ac}(hK:X.K=K):ac6 X (.type "tuple") (λ h H Q=>∃ p ys,h=[.ref p]/\((SqL K H p ys/\∀ l,H l=none->Q (.ref l) (upd H l (.tup ys)))\/(SqT K H p ys/\Q (.ref p) H))):=by subst hK;exact ar6
theorem aM8 {K:ac}(hK:X.K=K):ac6 X (.type "list") (λ h H Q=>∃ p ys,h=[.ref p]/\(SqL K H p ys\/SqT K H p ys)/\∀ l,H l=none->Q (.ref l) (upd H l (.lst ys))):=by subst hK;exact aw9
theorem bj7 {K:ac}{tg l:Expr}{h:TE}(hK:X.K=K)(hl:PE X l h):PI X tg l (bw6 K h):=by subst hK;exact br2 hl
theorem bB2 {K:ac}{tg l:Expr}{h:TE}(hK:X.K=K)(hl:PE X l h):PI X tg l (bW6 K h):=by subst hK;exact bH3 hl
theorem bB3 {K:ac}{pos:Pos}{es:List Expr}{k:Nat}{t:TGs}{n:Nat}(hK:X.K=K)(hc:X.calm=true)(h:PGs X es t)
  (hn:(cy es X.env).length=n:=by rfl) (B:(cy es X.env).findIdx? (·.1)=none:=by rfl):PG X (.Tuple es k pos) (cb8 K n t):=by subst hK;exact bO8 hc h hn B
end
structure DefAt (K:ac)(mg:Str->Option Value)(x:Str)(st:Stmt)(ps:List Str)(f:Addr)(fd:bH):Prop where
 fn:Fun K x x st f fd
 mg:mg x=some (.ref f)
 bi:Binds K fd ps []
@[irreducible] noncomputable def ci6 (p:Prop):Prop:=p
theorem ae3.new {p:Addr}{H B:Hp}{o:HO}(h:ae3 H B)(F:B p=none):ae3 H (L2.upd B p o):=λ x o e=>by
 have e1:=h x o e
 rw[zn (zz e1 F)]
 exact e1
section
variable {prog:aA} {w:World} {A:aO} {R:jY->ae->Prop} {I:Addr} {fp wr:List Addr} {n:Nat} {P:Nat->Value->Prop} {St:Nat->Heap->Prop} {kw:List (Str×Value)}
theorem ba4 (W:Walks prog w A.in1 I fp wr n P St)(bt:Nat->Nat->Bool)(b0:CmpOf prog w A.in1 .Lt P bt)(S:Addr)(a6:S ∉ fp) :
  ∀(k j:Nat) (s:ae) (vb:Value) (c:Nat),n - (j+1)=k->j+1<=n->St (j+1) s.heap->P (dq bt j) vb ->
  s.heap.get? S=some { cls:=.type "list",dict:=none,data:=.seq #[vb,vb] c,slots:=#[] } ->
  (∀ v h' tk,P (dq bt (n - 1)) v->(∀ b o,b ∉ wr->b≠S->s.heap.get? b=some o->h'.get? b=some o)->R (.ok (.ret v)) { s with heap:=h',toks:=tk }) ->
  fC (model prog w) A (.builtin "min.loop" ⟨[.ref I,.none,.ref S],kw⟩) R s:=by
 have b1:S ∉ wr:=λ h=>a6 (W.sub _ h)
 have a0:(toString "min"++toString ".loop":String) = "min.loop":=by decide
 intro k
 induction k with
 | zero =>
  intro j s vb c hk hj a5 a1 hS hR
  have b2:j+1=n:=by omega
  refine gM f9 ?_
  rw[eN cw _]
  show wpAny _ A.in1 (iA (.ref S) >>= _) _ _ s
  refine af (cK hS rfl ?_)
  show wpAny _ A.in1 (tryCatch (jt (.ref I)) _ >>= _) _ _ s
  refine af (dZ (W.done s _ _ (b2▸a5) λ h' tk F=>?_))
  have Z:=F S _ b1 hS
  show wpAny _ A.in1 (updateSeq S (λ _=>#[]) >>= _) _ _ _
  refine af ?_
  refine gN Z rfl (af (ig (av ?_)))
  refine hR vb _ tk (by rw[<-b2];exact a1) λ b o B G e=>(bK _ _ (cq G)).trans (F b o B e)
 | succ k ih =>
  intro j s vb c hk hj a5 a1 hS hR
  have hlt:j+1<n:=by omega
  refine gM f9 ?_
  rw[eN cw _]
  show wpAny _ A.in1 (iA (.ref S) >>= _) _ _ s
  refine af (cK hS rfl ?_)
  show wpAny _ A.in1 (tryCatch (jt (.ref I)) _ >>= _) _ _ s
  refine af (dZ (W.item (j+1) s _ _ hlt a5 λ v h' tk hP a2 F=>?_))
  have Z:=F S _ b1 hS
  show wpAny _ A.in1 (tryCatch (i9 [v,v] (richCompare .Lt v vb >>= _)) _ >>= _) _ _ _
  refine af (dZ (c5 (af (b0 (j+1) (dq bt j) v vb _ _ _ hP a1 ?_))))
  refine af (c5 (bR ?_))
  refine af (ig (av ?_))
  cases hb:bt (j+1) (dq bt j)with
  | true =>
   simp only[if_true]
   refine af ?_
   refine gN Z rfl (af (ig ?_))
   rw[a0]
   refine av ⟨fS cw _,ih (j+1) _ v _ (by omega) hlt (W.frame _ _ _ a2 λ b b3 o e=>?_) (by simp only[dq,hb,if_true];exact hP) (c7 _ Z rfl)
    λ v' a4 J a3 Y=>?_⟩
   ·exact(bK _ _ (λ h:S=b=>a6 (by rw[h];exact b3))).trans e
   ·exact hR v' a4 J a3 λ b o B G e=>Y b o B G ((bK _ _ (cq G)).trans (F b o B e))
  | false =>
   simp only[bB,if_false]
   refine af (ig ?_)
   rw[a0]
   refine av ⟨fS cw _,ih (j+1) _ vb c (by omega) hlt a2 (by simp only[dq,hb,bB,if_false];exact a1) Z λ v' a4 J a3 Y=>?_⟩
   exact hR v' a4 J a3 λ b o B G e=>Y b o B G (F b o B e)
theorem aM4 (W:Walks prog w A.in1 I fp wr n P St)(bt:Nat->Nat->Bool)(Y:CmpOf prog w A.in1 .Lt P bt)(S:Addr)(G:S ∉ fp){s:ae}{c:Nat}{d:Value}(a4:St 0 s.heap)
  (hS:s.heap.get? S=some { cls:=.type "list",dict:=none,data:=.seq #[] c,slots:=#[] })
  (h0:n=0->∀ h' tk,(∀ b o,b ∉ wr->b≠S->s.heap.get? b=some o->h'.get? b=some o)->R (.ok (.ret d)) { s with heap:=h',toks:=tk })
  (hR:0<n->∀ v h' tk,P (dq bt (n - 1)) v->(∀ b o,b ∉ wr->b≠S->s.heap.get? b=some o->h'.get? b=some o)->R (.ok (.ret v)) { s with heap:=h',toks:=tk }) :
  fC (model prog w) A (.builtin "min.loop" ⟨[.ref I,.none,.ref S],[(bz "default",d)]⟩) R s:=by
 have a6:S ∉ wr:=λ h=>G (W.sub _ h)
 have J:(toString "min"++toString ".loop":String) = "min.loop":=by decide
 refine gM f9 ?_
 rw[eN cw _]
 show wpAny _ A.in1 (iA (.ref S) >>= _) _ _ s
 refine af (cK hS rfl ?_)
 show wpAny _ A.in1 (tryCatch (jt (.ref I)) _ >>= _) _ _ s
 rcases Nat.eq_zero_or_pos n with hn|hn
 ·refine af (dZ (W.done s _ _ (hn▸a4) λ h' tk F=>?_))
  show wpAny _ A.in1 (rule _ >>= _) _ _ _
  refine af (gi (av ?_))
  exact h0 hn h' tk λ b o B _ e=>F b o B e
 ·refine af (dZ (W.item 0 s _ _ hn a4 λ v h' tk hP Z F=>?_))
  have a3:=F S _ a6 hS
  show wpAny _ A.in1 (updateSeq S (λ _=>#[v,v]) >>= _) _ _ _
  refine af ?_
  refine gN a3 rfl ?_
  rw[J]
  refine av ⟨fS cw _,ba4 W bt Y S G _ 0 _ v _ rfl hn (W.frame _ _ _ Z λ b b0 o e=>?_) hP (c7 _ a3 rfl) λ v' b1 a0 a5 a1=>?_⟩
  ·exact(bK _ _ (λ h:S=b=>G (by rw[h];exact b0))).trans e
  ·exact hR hn v' b1 a0 a5 λ b o B a2 e=>a1 b o B a2 ((bK _ _ (cq a2)).trans (F b o B e))
end
theorem aY4 (a d:Value):argsOk "min" ⟨[a],[(bz "default",d)]⟩:=by unfold argsOk;kernel_rfl
theorem qS (val : Nat -> Int) : ∀ k j, j <= k -> val (dq (λ i j => decide (val i < val j)) k) <= val j
  | 0, j, h => by have : j = 0 := by omega
                  subst this; exact fI _
  | k + 1, j, h => by
    have ih := qS val k
    unfold dq
    by_cases hb : val (k + 1) < val (dq (λ i j => decide (val i < val j)) k)
    · rw[if_pos (by simpa using hb)]
      by_cases hj : j = k + 1
      · subst hj; exact fI _
      · have := ih j (by omega); omega
    · rw[if_neg (by simpa using hb)]
      by_cases hj : j = k + 1
      · subst hj; omega
      · exact ih j (by omega)
def bq0 (K:ac):V->V->Hp->VK->Prop:=λ x d H Q=>∃ a ns,x=.ref a/\SqL K H a (ns.map V.int)/\(ns=[]->Q d H)/\∀ m∈ns,(∀ y∈ns,m<=y)->Q (.int m) H
theorem ar8 {ns:List Int}{its:List Value}(r:Vals (ns.map V.int) its){i:Nat}{v:Value}(h:its[i]?=some v):∃ z t,ns[i]?=some z/\v=Value.int z t:=by
 have hl:=r.length
 rw[aw]at hl
 have B:i<its.length:=(ag.mp h).1
 obtain⟨u,e1,q⟩:=r.get (i:=i) (x:=.int ns[i]) (by rw[aF,aj (by omega)];rfl)
 rw[h]at e1;cases e1
 obtain⟨t,rfl⟩:=q
 exact⟨_,t,aj (by omega),rfl⟩
theorem bf1 {X:Cx}{B:List (Addr×Obj)}{σ:St}{H:Hp}{s:ae}{x d:V}{u Z:Value}{Q:VK}(hc:X.calm=true)(I:Inv X B σ H s)(rx:RelV x u)(rd:RelV d Z)(h:bq0 X.K x d H Q) :
  wpAny (model X.prog X.w) X.A (call (.builtin "min") [u] [(bz "default",Z)]) (EP X B σ Q) X.xe s:=by
 obtain⟨a,ns,rfl,hS,q0,qm⟩:=h
 cases rx
 obtain⟨its,rv,pl,hz⟩:=I.list hS
 have hl:=rv.length
 rw[aw]at hl
 have Y:(toString "min"++toString ".loop":String) = "min.loop":=by decide
 refine kmb_tree F.kind_min F.plain_min F.entry_min (aY4 _ _) ?_
 show wpAny _ X.A.in1 (e9 "min" ["key", "default"] 0 ⟨[],[(bz "default",Z)]⟩ >>= _) _ _ s
 refine af (wpAny_of_eq (show e9 "min" ["key", "default"] 0 ⟨[],[(bz "default",Z)]⟩=pure [none,some Z]from rfl) ?_)
 refine af (av ?_)
 refine af (da pl.isList ?_)
 have a0:a<s.heap.objs.size:=by obtain⟨o,_,e,_⟩:=pl;exact aE e
 have W:=j3 (prog:=X.prog) (w:=X.w) (A:=X.A.in1) (I.ok.hd hc) s.heap.objs.size a (aD a0) its.toArray
 refine af (bw ?_)
 generalize J:s.heap.push _=h2
 have G:h2.objs.size=s.heap.objs.size+1:=by rw[<-J,bT]
 have a1:∀ b o,s.heap.get? b=some o->h2.get? b=some o:=λ b o e=>by rw[<-J];exact ao _ e
 have a3:h2.objs.size ∉ [s.heap.objs.size,a]:=by
  rw[G]
  intro z
  rcases aC.mp z with z|z
  ·exact absurd z (Nat.succ_ne_self _)
  ·have z':s.heap.objs.size+1=a:=by simpa using z
   exact absurd (ay a0 (by rw[<-z'];exact dj _)) (bu _)
 have a4:(h2.push { cls:=.type "list",data:=.seq ([]:List Value).toArray }).IsListIter s.heap.objs.size a 0/\(h2.push { cls:=.type "list",data:=.seq ([]:List Value).toArray }).IsList a its.toArray:=by
  refine⟨⟨_,ao _ (by rw[<-J];exact aS _ rfl),rfl,rfl⟩,?_⟩
  obtain⟨o,e,r⟩:=pl.isList
  exact⟨o,ao _ (a1 _ _ e),r⟩
 let val:Nat->Int:=λ i=>ns.getD i 0
 have a2:∀ i v,its.toArray[i]?=some v->∃ t,v=Value.int (val i) t:=λ i v e=>by
  obtain⟨z,t,e1,e2⟩:=ar8 rv (i:=i) (v:=v) (by rw[cB]at e;exact e)
  refine⟨t,?_⟩
  rw[e2]
  show Value.int z t=Value.int (ns.getD i 0) t
  rw[aW,e1]
  rfl
 rw[Y]
 have nx:∀(h':Heap) (tk:Nat),(∀ b o,b ∉ [s.heap.objs.size]->b≠h2.objs.size->(h2.push { cls:=.type "list",data:=.seq ([]:List Value).toArray }).get? b=some o->h'.get? b=some o)->Inv X B σ H { s with heap:=h',toks:=tk }:=λ h' tk k=>I.kept λ b o e=>by
  refine k b o ?_ ?_ (ao _ (a1 b o e))
  ·intro z
   have z':b=s.heap.objs.size:=by simpa using z
   exact absurd (aE e) (by rw[z'];exact bu _)
  ·intro z
   exact absurd (aE e) (by rw[z,G];exact j4.mpr (dj _))
 refine av ⟨fS cw _,aM4 (d:=Z) W _ (kn val a2) h2.objs.size a3 a4 (aS _ rfl) (λ hn h' tk k=>?_) λ hn v h' tk hP k=>?_⟩
 ·have e:ns=[]:=by
   have:its.toArray.size=0:=hn
   have:its.length=0:=by simpa using this
   exact ci.mp (by omega)
  exact⟨d,H,nx h' tk k,rd,q0 e⟩
 ·obtain⟨z,t,e1,e2⟩:=ar8 rv (i:=dq (λ i j=>decide (val i<val j)) (its.toArray.size - 1)) (v:=v) (by rw[cB]at hP;exact hP)
  subst e2
  have hv:val (dq (λ i j=>decide (val i<val j)) (its.toArray.size - 1))=z:=by
   show ns.getD _ 0=z
   rw[aW,e1]
   rfl
  refine⟨.int z,H,nx h' tk k,⟨t,rfl⟩,qm z (a7 e1) λ y hy=>?_⟩
  obtain⟨j,hj,e3⟩:=cF.mp hy
  have:=qS val (its.toArray.size - 1) j (by simp only[au];omega)
  rw[hv]at this
  have e4:val j=y:=by
   show ns.getD j 0=y
   rw[aW,aj hj]
   exact e3
  omega
def cb2 (K:ac)(ta td:TE):TE:=λ σ H Q=>ta σ H λ x H1=>td σ H1 λ d H2=>bq0 K x d H2 Q
theorem bv4 {X:Cx}{K:ac}{e de:Expr}{J G:TE}{p pos kp:Pos}(hK:X.K=K)(hc:X.calm=true)(hg:Gl X "min")(hm:X.mg "min"=none)(ha:PE X e J)(hd:PE X de G)
  (hs:br [e] X.env=[(false,eval e X.env)]:=by rfl) :
  PE X (.Call (.Name "min" p) [e] [⟨some "default",de,kp⟩] pos) (cb2 K J G):=by
 subst hK
 intro B s σ H Q I h
 refine cN (av8 I hg hm by1 ?_)
 have h':av1 J bc1 σ H (λ vs Y=>match vs with|[x]=>G σ Y λ d Z=>bq0 X.K x d Z Q|_=>False):=h
 refine callWith_kw (env:=X.env) (thn ((zY ha ad0 hs) pos B s σ H _ I h') λ us s1 ⟨vs,Y,I1,r1,F⟩=>?_) (by rw[hs];rfl) (by rw[hs];rfl)
 match vs,F,r1 with
 | [x],F,r1 =>
  obtain⟨u,rfl,ru⟩:=qR r1
  refine kws_cons (thn (hd B s1 σ Y _ I1 F) λ v s2 ⟨d,Z,I2,rd,q2⟩=>kws_nil ?_)
  exact bf1 hc I2 ru rd q2
inductive D where
 | non|bl (b:Bool)|int (i:Int)|str (x:Str)|tup (l:List D)|lst (l:List D)
mutual
noncomputable def D.deep:D->Nat
 | .tup l=>D.deepL l+1
 | .lst l=>D.deepL l+1
 | _=>0
noncomputable def D.deepL:List D->Nat
 | []=>0
 | d::l=>max (D.deep d) (D.deepL l)
end
section
variable {X:Cx}
end
section
variable {X:Cx}
def bZ6 (K:ac):R2:=λ x y H Q=>∃ a b xs ys,x=.ref a/\y=.ref b/\SqT K H a xs/\SqT K H b ys/\xs.length+ys.length<=aI/\∀ p H',ae3 H H'->SqT K H' p (xs++ys)->(H' p=some (.tup (xs++ys))\/(p=a/\ys=[])\/(p=b/\xs=[]))->Q (.ref p) H'
theorem bu1 {prog:aA}{w:World}{A:aO}{E:Value->ae->Prop}{s:ae}{t b:Addr}{ws:List Value}{Q:Value->ae->Prop}(ht:IsTup s.heap t ([]:List Value).toArray)(hb:IsTup s.heap b ws.toArray)(h1:Q (.ref b) s) :
  wpAny (model prog w) A (bS .Add (.ref t) (.ref b)) Q E s:=by
 obtain⟨⟨cls,dd,data,sl⟩,ho,hc,n,hd⟩:=id ht
 obtain⟨⟨Z,G,J,Y⟩,h,F,n2,B⟩:=id hb
 simp only at hc hd F B
 subst hc hd F B
 exact jh ⟨_,ho,rfl⟩ ⟨_,h,rfl⟩ f8 iR dX dL (dB _ _)
   (tuple_addW0 t b _ ws.toArray n n2 dd G sl Y rfl) ⟨ho,h,h1⟩
theorem bu5 {K:ac}(hK:X.K=K):OpR X (bS .Add) (bZ6 K):=by
 subst hK
 intro B s σ H x y v u Q I G Y h
 obtain⟨a,b,F,ys,e1,e2,ha,hb,hz,q⟩:=h
 by_cases hx:F=[]
 ·subst e1;subst e2;subst hx
  cases G;cases Y
  obtain⟨its,r1,p1,_⟩:=I.tuple ha
  obtain⟨J,r2,p2,_⟩:=I.tuple hb
  obtain rfl:its=[]:=r1.nil_iff.mpr rfl
  exact bu1 p1 p2 ⟨.ref b,H,I,rfl,q b H (ae3.refl H) hb (.inr (.inr ⟨rfl,rfl⟩))⟩
 ·refine bt2 B s σ H x y v u Q I G Y ⟨a,b,F,ys,e1,e2,ha,hb,hx,hz,λ z=>?_,λ z p Z=>?_⟩
  ·subst z
   exact q a H (ae3.refl H) (by rw[bq];exact ha) (.inr (.inl ⟨rfl,rfl⟩))
  ·exact q p _ ((ae3.refl H).new Z) (SqT.of zB) (.inl zB)
def ch4 (K:ac):V->Option Int->Option Int->Hp->VK->Prop:=λ x lo hi H Q=>∃ a xs,x=.ref a/\SqT K H a xs/\∀ p H',ae3 H H'->SqT K H' p (aN0 xs lo hi)->(H' p=some (.tup (aN0 xs lo hi))\/(p=a/\aN0 xs lo hi=xs))->Q (.ref p) H'
theorem ar9 {prog:aA}{w:World}{A:aO}{E:Value->ae->Prop}{s:ae}{t sl:Addr}{B:Array Value}{vl vu:Value}{F Y:Option Int}{Q:Value->ae->Prop}(G:IsTup s.heap t B)(hs:s.heap.IsSliceOf sl vl vu .none)(pl:fQ vl F)(pu:fQ vu Y)
  (hw:HT.sIx B.size 0 F=0/\HT.sIx B.size B.size Y=B.size) (h:Q (.ref t) s):wpAny (model prog w) A (gu (.ref t) (.ref sl)) Q E s:=by
 obtain⟨os,Z,a1,a2⟩:=id hs
 have a0:s.TypeIs (.ref sl) "slice":=⟨os,Z,a1⟩
 unfold gu
 try with_reducible refine c5 ?_
 first|refine af (av ?_)|skip
 refine af (ji G.typeIs (by decide) ?_)
 refine af (cL (name:=bz "__getitem__") G.typeIs bp
  (cu bp G.typeIs iI ?_ (iZ _ _)))
 show wpAny _ _ (cx (.ref t) >>= _) _ _ s
 refine af (iT G ?_)
 refine af (gv a0 ?_)
 rw[if_pos (by decide)]
 refine af (HT.sliceApplied_gen hs pl pu ?_)
 have J:((((HT.sIx B.size 0 F:Nat):Int)==0&&(1:Int)==1&&(HT.sIx B.size B.size Y - HT.sIx B.size 0 F)==B.size)=true):=by
  rw[hw.1,hw.2]
  simp
 show wpAny _ _ (if(((HT.sIx B.size 0 F:Nat):Int)==0&&(1:Int)==1&&(HT.sIx B.size B.size Y - HT.sIx B.size 0 F)==B.size)=true then _ else _) _ _ s
 rw[if_pos J]
 refine af (af (gv G.typeIs (av ?_)))
 rw[if_pos (by decide)]
 exact af (gi (av ⟨_,rfl,av h⟩))
theorem ao9 {B:List V}{G F:Option Int}(h:HT.sIx B.length 0 G=0/\HT.sIx B.length B.length F=B.length):aN0 B G F=B:=by
 unfold aN0
 rw[h.1,h.2]
 simp
theorem br3 {K:ac}(hK:X.K=K):SlR X (ch4 K):=by
 subst hK
 intro G s σ H x v vl vu Y hi sl Q I Z hs pl pu h
 obtain⟨a,B,e1,hx,q⟩:=h
 by_cases hw:HT.sIx B.length 0 Y=0/\HT.sIx B.length B.length hi=B.length
 ·subst e1
  cases Z
  obtain⟨its,r,J,hz⟩:=I.tuple hx
  have F:its.toArray.size=B.length:=by rw[au];exact r.length.symm
  refine⟨"tuple",_,bp.lookup,J.typeIs,?_⟩
  exact ar9 J hs pl pu (by rw[F];exact hw) ⟨.ref a,H,I,rfl,q a H (ae3.refl H) (by rw[ao9 hw];exact hx) (.inr ⟨rfl,ao9 hw⟩)⟩
 ·exact bR0 G s σ H x v vl vu Y hi sl Q I Z hs pl pu ⟨a,B,e1,hx,hw,λ p hp=>q p _ ((ae3.refl H).new hp) (SqT.of zB) (.inl zB)⟩
theorem bh9 {K:ac}(hK:X.K=K):SlR X (cf5 K):=by subst hK;exact bz9
end
noncomputable def Its (x:Str):It:=⟨λ i _=>i<x.cps.size,λ i H v H'=>H'=H/\∃ c,x.cps[i]?=some c/\v=.str ⟨#[c]⟩,λ i _=>x.cps.size<=i⟩
theorem aI2 {P:aA}{w:World}{K:ac}{tg:Expr}{G:String}{x:Str}{t:Tok}(it:Addr)(hn:["enumerate", "zip", "dict_itemiterator", "dict_reverseitemiterator", "odict_iterator", "itertools.zip_longest", "itertools.pairwise"].contains G=false)
  (W:∀ A:aO,A.handled=none->Walks P w A it [it] [it] x.cps.size (SignAt x) (λ i h=>h.IsStrIter it G x t i))
  (J:∀(A:aO) (s:ae) (i:Nat) (Q:Option Value->ae->Prop) (E:Value->ae->Prop),A.handled=none->s.heap.IsStrIter it G x t i->x.cps[i]?=none->(∀ h',jI it s.heap h'->Q none { s with heap:=h' })->wpAny (model P w) A (jt (.ref it)) Q E s)
  (F:∀(A:aO) (i:Nat) (s:ae) (Q:Value->ae->Prop) (E:Value->ae->Prop),s.heap.IsStrIter it G x t i->Q (.ref it) s->wpAny (model P w) A (kB (.ref it)) Q E s):Turn P w K tg (Its x) [it] it (λ i h=>h.IsStrIter it G x t i) where
 mem:=by simp
 obj:=λ i h st b hb=>by
  have e:b=it:=by simpa using hb
  subst e
  obtain⟨o,ho,hc,hd⟩:=st
  exact⟨o,ho,λ v z=>by rw[hd]at z;cases z⟩
 keep:=λ i h h' st k=>by
  obtain⟨o,ho,r⟩:=st
  exact⟨o,k it (by simp) _ ho,r⟩
 item:=by
  intro X hP hw hK hc i B s σ H E I hf st hg
  subst hP hw hK
  obtain⟨f0,f1,f2,f3,Z,f5⟩:=hf it (by simp)
  refine(W X.A (I.ok.hd hc)).item i s _ _ hg st λ v h' tk hv Y kk=>?_
  obtain⟨c,u,a0,rfl⟩:=hv
  have I1:Inv X B σ H { s with heap:=h',toks:=tk }:=I.turned (λ b o hb e=>kk b o (by simpa using hb) e) f0 f1 f3 Z f5
  obtain⟨o,ho,hcl,hd⟩:=id Y
  exact⟨_,rfl,bj8 (s:={ s with heap:=h',toks:=tk }) (n:=G) ho hcl hd hn ⟨.str ⟨#[c]⟩,H,I1,⟨u,rfl⟩,⟨rfl,c,a0,rfl⟩,Y,λ b hb=>(hf b hb).1⟩⟩
 done:=by
  intro X hP hw hK hc i B s σ H E I hf st hg
  subst hP hw hK
  obtain⟨f0,f1,f2,f3,Z,f5⟩:=hf it (by simp)
  have a1:x.cps.size<=i:=hg
  exact J X.A s i _ E (I.ok.hd hc) st (by simp;omega) λ h' eb=>⟨rfl,I.turned (t':=s.toks) (λ b o hb e=>eb b o hb e) f0 f1 f3 Z f5⟩
 self:=λ A i s Q E st h=>F A i s Q E st h
def cd9 (tl:TE):TI:=λ σ H R=>tl σ H λ v H1=>∃ x,v=.str x/\R (Its x) H1
theorem bQ5 {X:Cx}{tg l:Expr}{Z:TE}(hl:PE X l Z):PI X tg l (cd9 Z):=by
 intro B s σ H R I h
 refine thn (hl B s σ H _ I h) λ v s1 ⟨v0,H1,Y,r1,q1⟩=>?_
 obtain⟨x,e,q⟩:=q1
 subst e
 obtain⟨t,rfl⟩:=r1
 have fin:∀(J:String) (o:Obj),o={ cls:=.type J,data:=.fields #[.str x t,.int 0 0] }->Turn X.prog X.w X.K tg (Its x) [s1.heap.objs.size] s1.heap.objs.size (λ i h=>h.IsStrIter s1.heap.objs.size J x t i)->PIE X B σ tg R (.ref s1.heap.objs.size) { s1 with heap:=s1.heap.push o }:=λ J o eo T=>by
  subst eo
  refine⟨s1.heap.objs.size,[s1.heap.objs.size],_,_,H1,rfl,Y.kept (t':=s1.toks) λ b o e=>ao _ e,T,⟨_,aS _ rfl,rfl,rfl⟩,λ b hb=>?_,q⟩
  have e:b=s1.heap.objs.size:=by simpa using hb
  subst e
  exact Y.fpOk (ak _) (Y.hok.fresh (ak _))
 cases ha:x.cps.all (·<128)
 ·exact wpAny_pyIter_wide ha (fin "str_iterator" _ rfl (aI2 _ (by decide) (λ A F=>Walks.strWide F _ x t) (λ A s i Q E F st hx G=>wpAny_pyNext_wide_end F st hx G) λ A i s Q E st h=>wpAny_pyIter_striter_wide st h))
 ·exact wpAny_pyIter_ascii ha (fin "str_ascii_iterator" _ rfl (aI2 _ (by decide) (λ A F=>Walks.strAscii F _ x t) (λ A s i Q E F st hx G=>wpAny_pyNext_ascii_end F st hx G) λ A i s Q E st h=>wpAny_pyIter_striter_ascii st h))
section
variable {X:Cx} {K:ac} {T id:String} {name:Str} {o e:Expr} {es:List Expr} {to:TE} {t:TA} {r:V->List V->Hp->VK->Prop} {apos cpos:Pos}
theorem bm2 (hK:X.K=K)(pa:j1 T)(slot:Slot T name id)(J:kC (.builtin id)=pure (.type "method_descriptor"))(Y:MtR X id r)(ho:PE X o to)(ha:PA X (e::es) t)
  (F:eI o name X.env (eval o X.env)=eval o X.env:=by rfl)
  (G:((dU cpos (br (e::es) X.env)).all (λ x=>!x.1)&&(backToKw cpos (jH [] X.env)).all (λ x=>x.1.isSome)
   && decide ((e::es).length+([]:List iy).length+(if([]:List iy).isEmpty then 0 else 1)<30))=true:=by rfl)
  (B:(apos.endLine==cpos.line)=true:=by rfl) (hs:br (e::es) X.env=(false,eval e X.env)::br es X.env:=by rfl) (h:(dU cpos (br es X.env)).any (·.1)=false:=by rfl) :
  PE X (.Call (.Attribute o name apos) (e::es) [] cpos) (tBM K T r to t):=by
 subst hK
 exact bZ0 pa slot J Y ho ha F G B hs h
end
structure Mach where
 letters:Int
 rooms:Int
 begins:List Int
 ends:List Int
 doors:List (Int×Str×Int×Int)
noncomputable def bX2 (q:Int×Str×Int×Int):D:=.tup [.int q.1,.str q.2.1,.int q.2.2.1,.int q.2.2.2]
noncomputable def Mach.D (M:Mach):D:=.tup [.int M.letters,.int M.rooms,.tup (M.begins.map .int),.tup (M.ends.map .int),.tup (M.doors.map bX2)]
noncomputable def ltr (i:Nat):Str:=⟨#[97+i]⟩
structure DoorOk (letters rooms:Int)(q:Int×Str×Int×Int):Prop where
 s0:0<=q.1
 s1:q.1<rooms
 l:∃ i:Nat,(i:Int)<letters/\q.2.1=ltr i
 g0:0<=q.2.2.1
 g1:q.2.2.1<rooms
 t0:0<=q.2.2.2
 t1:q.2.2.2<=3
structure RoomsOk (rooms:Int)(l:List Int):Prop where
 mem:∀ r∈l,0<=r/\r<rooms
 up:l.Pairwise (· < ·)
structure Mach.Ok (most:Nat)(M:Mach):Prop where
 l0:1<=M.letters
 l1:M.letters<=3
 r0:1<=M.rooms
 r1:M.rooms<=5
 b:RoomsOk M.rooms M.begins
 e:RoomsOk M.rooms M.ends
 d:∀ q∈M.doors,DoorOk M.letters M.rooms q
 m:M.doors.length<=most
mutual
noncomputable def D.tups:D->Bool
 | .lst _=>false
 | .tup l=>D.tupsL l
 | _=>true
noncomputable def D.tupsL:List D->Bool
 | []=>true
 | d::l=>D.tups d&&D.tupsL l
end
end L2
end
noncomputable section
namespace L2
end L2
end
noncomputable section
namespace L2
open PySem PySem.Spec PyProof.Rows
noncomputable def addO:Option Int->Option Int->Option Int
 | some a,some b=>some (a+b)
 | _,_=>none
noncomputable def cutO (k:Int):Option Int->Option Int
 | none=>none
 | some p=>some (if p<=k then p else k+1)
noncomputable def minO:List Int->Option Int
 | []=>none
 | a::l=>some (match minO l with|none=>a|some b=>if b<a then b else a)
theorem aM2 {X:Cx}{Y tg iter:Expr}{G:List Expr}{scope:Scope}{pos Z py:Pos}{y:Str}{i:Nat}{wi:TI}{g:TG}{tc:TT}{te:TE}(N':List Str)(src:List (Option Nat))
  (hN:X.N.Nodup) (b0:X.N[i]?=some y) (a3:X.env.scope.names.lookup y=some .local)
  (b2:zU N' src scope X.N X.env.scope=true) (hi:PI X tg iter wi) (a0:X.calm=true)
  (b5:∀(C:Addr) (cells:List (Str×Addr)) (s:ae) (H:Hp) (ex:List Addr),PG (zG X N' scope C cells s H ex) tg g/\PIf (zG X N' scope C cells s H ex) G tc/\PE (zG X N' scope C cells s H ex) Y te)
  (hs:∀ x,db iter X.env x=pure x:=by intro _;rfl)
  (b6:ed (.ListComp Y [⟨tg,iter,G,0⟩] scope pos) (some (.Name y py)) Z.line X.env=pure true:=by rfl) :
  PS X (.Assign [.Name y py] (.ListComp Y [⟨tg,iter,G,0⟩] scope pos) Z) (bi3 (tComp src wi g tc te) (ax3 i)):=by
 intro B s σ H D0 I h
 have ck:=bl0 b2
 rw[exec_Assign_Name_used _ _ _ _ b6]
 refine af (iQ (af ?_))
 show wpAny _ X.A (do let _ <- comprehension (.ListComp Y [⟨tg,iter,G,0⟩] scope pos) scope X.env _ (newList []) false (eval iter X.env) (some (gk (.Name y py) X.env))) _ _ s
 have hcl:=af4 (scope:=scope) (env:=X.env) λ y hy e=>I.ok.has y.1 (ck.fr y hy e)
 refine af (bf (fR (use:=some (gk (.Name y py) X.env)) (Q:=λ _ s'=>SP X B D0 .next s') rfl hs hcl ck.kind ck.loc (thn (hi B s σ H _ I h) λ v s1 h1=>thn h1 λ c2 s2 h2=>?_)) (λ _ s' hq=>av (av hq)) λ _ _ e=>e)
 obtain⟨it,F,tn,J,H2,e,I2,T,a6,f2,W⟩:=h2
 subst e
 have hD:=I2.fresh
 obtain⟨W,⟨m0,w0⟩,turn⟩:=W _ hD
 have I3:=I2.lnew (its:=[]) (ys:=[]) (t':=s2.toks) .nil (cc _)
 have a2:∀ b∈F,b<s2.heap.objs.size:=λ b hb=>by obtain⟨o,q,_⟩:=T.obj _ _ a6 b hb;exact aE q
 have f3:∀ b∈F,FpOk X B (upd H2 s2.heap.objs.size (.lst [])) b:=λ b hb=>⟨by rw[zn (aD (a2 b hb))];exact(f2 b hb).1,(f2 b hb).2⟩
 refine bw (af5 ?_)
 generalize a1:({ s2 with heap:=s2.heap.push { cls:=.type "list",data:=.seq ([]:List Value).toArray },toks:=s2.toks }:ae)=s3 at I3
 have c1:({ s2 with heap:=s2.heap.push { cls:=.type "list",data:=.seq ([]:List Value).toArray } }:ae)=s3:=a1
 have b1:∀ b∈F,b<s3.heap.objs.size:=λ b hb=>by
  rw[<-a1]
  show b<(s2.heap.push _).objs.size
  rw[bT]
  exact fG (a2 b hb)
 have I4:=ap3 (s4:={ s3 with heap:=eD (s3.heap.push { cls:=.type "dict",data:=.dict #[] }) scope.names }) ck I3 f3 b1 ⟨_,rfl⟩
 have a5:tn 0 (eD (s3.heap.push { cls:=.type "dict",data:=.dict #[] }) scope.names):=T.keep _ _ _ a6 λ b hb o e=>cW _ _ b o (ao _ (by rw[<-a1];exact ao _ e))
 obtain⟨hg,hif,he⟩:=b5 s3.heap.objs.size (aL (s3.heap.objs.size+1) scope.names (an1 X.env.cells scope.names [])) s3 (upd H2 s2.heap.objs.size (.lst [])) F
 have a4:∀ H':Hp,(∀ b∈F,H' b=none)->∀ b∈F,FpOk (zG X N' scope s3.heap.objs.size (aL (s3.heap.objs.size+1) scope.names (an1 X.env.cells scope.names [])) s3 (upd H2 s2.heap.objs.size (.lst [])) F) [] H' b:=λ H' hn b hb =>
  ⟨hn b hb,(I4.ok.exf b hb).1,I4.ok.exfs b hb,.inl hb,λ x c e=>(I4.ok.exf b hb).2 x c e,λ p hp=>absurd (show p∈([]:List (Addr×Obj))from hp) (by simp)⟩
 have T':Turn X.prog X.w X.K tg J F it tn:=T
 have b4:∀ b∈F,upd H2 s2.heap.objs.size (.lst []) b=none:=λ b hb=>(f3 b hb).1
 have L:=aw0 (X':=zG X N' scope s3.heap.objs.size (aL (s3.heap.objs.size+1) scope.names (an1 X.env.cells scope.names [])) s3 (upd H2 s2.heap.objs.size (.lst [])) F) (R:=compPost (model X.prog X.w) X.A X.xe (some (gk (.Name y py) X.env)) (λ _ s'=>SP X B D0 .next s') (Value.ref s2.heap.objs.size) s3.heap.objs.size) (iter:=iter) (scope:=scope) (pos:=pos) (QD:=λ H'=>D0.nx (σ.set i (some (.ref s2.heap.objs.size))) H') rfl a0 I4 T' a5 a4 b4 w0 turn hg hif he
  (λ σ' H' s' J' q=>by
   have J2:=aK8 I3 f3 J' (Heap.SameBut.refl _ _)
   obtain⟨mm,hn,_⟩:=J'.loc
   have nL:s3.heap.objs.size≠X.env.locals:=jc I3.lt
   have nC:∀ x c,X.env.cells.lookup x=some c->c≠s3.heap.objs.size:=λ x c e=>by
    obtain⟨v,z⟩:=I3.cell x c e
    exact aD z.lt
   show wpAny _ X.A (gk (.Name y py) X.env (.ref s2.heap.objs.size)) _ _ _
   refine jb (ax0 (v:=.ref s2.heap.objs.size) J2 hN b0 (.inl a3) rfl (λ s5 I5 sb=>?_) (.inr a3))
   obtain⟨aa,sb,ha⟩:=sb
   have na:s3.heap.objs.size≠aa:=by
    rcases ha with z|z
    ·rw[z];exact nL
    ·exact λ e=>nC _ _ z e.symm
   refine⟨mm,hn.sameBut sb na,λ h' b3=>⟨_,H',I5.turned (t':=s5.toks) (λ b o hb e=>(b3.2 b hb).trans e) J'.free nL (.inr I3.sz) nC λ p hp z=>?_,q⟩⟩
   exact absurd (aE (I3.pin p hp).1) (by rw[z];exact bu _))
 exact gE L (T.self _ _ _ _ _ a5 L)
def ch6:V->Option Int->Option Int->Hp->VK->Prop:=λ x lo hi H Q=>∃ z,x=.str z/\z.length<=aI/\Q (.str (eU z lo hi)) H
theorem ax2 {v:Value}{o:Option Int}(p:fQ v o):∃ q:Option (Int×Tok),v=partValue q/\q.map (·.1)=o:=by
 cases p with
 | none=>exact⟨none,rfl,rfl⟩
 | int i t=>exact⟨some (i,t),rfl,rfl⟩
theorem bQ0 {X:Cx}:SlR X ch6:=by
 intro Z s σ H x v vl vu G J sl Q I rx hs pl pu h
 obtain⟨z,rfl,hz,q⟩:=h
 obtain⟨t,rfl⟩:=rx
 obtain⟨l,rfl,el⟩:=ax2 pl
 obtain⟨u,rfl,eu⟩:=ax2 pu
 refine⟨"str",_,F.slot_str_getitem.lookup,fu s z t,?_⟩
 refine wpAny_getItem_str_slice (l:=l) (u:=u) (st:=none) hs rfl ?_
 unfold sliceMade
 have e:slicePicked z l u none=bv G J 1 z.length:=by
  unfold slicePicked
  rw[el,eu]
  rfl
 rw[e]
 unfold eU at q
 split
 ·rename_i hc
  have B:((1:Int)==1&&(bv G J 1 z.length).length==z.length)=true:=hc
  rw[if_pos B]at q
  exact⟨.str z,H,I,⟨t,rfl⟩,q⟩
 ·rename_i hc
  have B:¬((1:Int)==1&&(bv G J 1 z.length).length==z.length)=true:=hc
  rw[if_neg B]at q
  have Y:(Str.mk (ii (λ x=>z.cps[x]?) (bv G J 1 z.length)).toArray).length<=aI:=by
   show(ii (λ x=>z.cps[x]?) (bv G J 1 z.length)).toArray.size<=aI
   rw[au]
   exact am (List.length_filterMap_le _ _) (am (sliceIndices_le G J z.length) hz)
  exact⟨Y,.str _,H,I.tok _,⟨_,rfl⟩,q⟩
section
variable {M:Model} {A:aO} {E:Value->ae->Prop} {s₀ s:ae} {m cm:Str->Option Value} {env:Env} {cs:List (Str×Addr)}
theorem by5 {n:Str}{v:Value}{Q:Unit->ae->Prop}(z:fD s₀ env.locals m cs cm s)(h:env.scope.kind=.function)(kl:env.kindOf n=some .local)
  (go:∀ s',fD s₀ env.locals (λ y=>if y=n then some v else m y) cs cm s'->Q () s'):wpAny M A (f6 env n v) Q E s:=by
 refine gR kl z.toInCall.ns (λ g B gs=>go _ ⟨⟨?a,B,λ b o e=>?b,z.toInCall.fresh⟩,λ k c e=>?c,z.apart,z.above⟩) (by rw[h];rfl)
 case a=>obtain⟨F,tk,e⟩:=z.toInCall.same;subst e;exact⟨g,_,rfl⟩
 case b=>exact gs.extBut b o (aD (ay (aE e) z.toInCall.fresh)) (z.toInCall.keep b o e)
 case c=>exact(z.cell k c e).sameBut gs (jc (z.above k c (aH e)))
theorem bs2 {n:Str}{c:Addr}{v:Value}{Q:Unit->ae->Prop}(z:fD s₀ env.locals m cs cm s)(B:env.scope.kind=.function)(F:env.kindOf n=some .cell)
  (e1:env.cells.lookup n=some c) (e2:cs.lookup n=some c) (go:∀ s',fD s₀ env.locals m cs (λ y=>if y=n then some v else cm y) s'->Q () s'):wpAny M A (f6 env n v) Q E s:=by
 have up:=z.above n c (aH e2)
 refine hG B F e1 (z.cell n c e2) λ g h gs=>go _ ⟨⟨?a,z.toInCall.ns.sameBut gs (aD up),λ b o e=>?b,z.toInCall.fresh⟩,λ k G e=>?c,z.apart,z.above⟩
 case a=>obtain⟨J,tk,e⟩:=z.toInCall.same;subst e;exact⟨g,_,rfl⟩
 case b=>exact gs.extBut b o (aD (gF (ay (aE e) z.toInCall.fresh) up)) (z.toInCall.keep b o e)
 case c =>
  by_cases q:k=n
  ·subst q
   rw[e2]at e;cases e
   simpa using h
  ·rw[if_neg q]
   exact(z.cell k G e).sameBut gs λ y=>q (gr z.apart (aH e) (y▸aH e2))
theorem aC6 (f:Str×Value->PUnit->Sem (ForInStep PUnit))(hf:∀ n v u,f (n,v) u=(do f6 env n v;pure (.yield ⟨⟩)))(F:env.scope.kind=.function)(sub:∀ n c,cs.lookup n=some c->env.cells.lookup n=some c) :
  ∀(bs:List (Str×Value)) (m G:Str->Option Value) (s:ae) (Q:PUnit->ae->Prop),fD s₀ env.locals m cs G s ->
   (∀ y∈bs,env.kindOf y.1=some .local\/(env.kindOf y.1=some .cell/\∃ c,cs.lookup y.1=some c)) ->
   (∀ s',fD s₀ env.locals (bindL env.kindOf bs m) cs (bindC env.kindOf bs G) s'->Q ⟨⟩ s')->wpAny M A (forIn bs ⟨⟩ f) Q E s
 | [],m,G,s,Q,z,_,go=>by rw[fv];exact av (go s z)
 | (n,v)::r,m,G,s,Q,z,hy,go=>by
  rw[gL,hf]
  have hr:=λ y (q:y∈r)=>hy y (ai _ q)
  rcases hy (n,v) ar with kl|⟨J,c,e2⟩
  ·refine af (af (by5 z F kl λ s' z'=>av (aC6 f hf F sub r _ _ s' Q z' hr λ h B=>go h ?_)))
   unfold bindL bindC;rw[if_pos kl,if_pos kl];exact B
  ·have Y:¬ env.kindOf n=some .local:=by rw[J];decide
   refine af (af (bs2 z F J (sub n c e2) e2 λ s' z'=>av (aC6 f hf F sub r _ _ s' Q z' hr λ h B=>go h ?_)))
   unfold bindL bindC;rw[if_neg Y,if_neg Y];exact B
end
theorem ao0 {M:Model}{A:aO}{E:Value->ae->Prop}{s:ae}{scope:Scope}{globals:Addr}{h:List (Str×Addr)}{binds:List (Str×Value)}{qual:Str}{func:Option Addr}{code:Value}{builtins:Addr}{Q:Env->ae->Prop}
  (G:scope.kind=.function) (hy:∀ y∈binds,scope.names.lookup y.1=some .local\/(scope.names.lookup y.1=some .cell/\∃ c,(aL (s.heap.objs.size+1) scope.names []).lookup y.1=some c))
  (go:∀ env,env=newEnv scope s.heap.objs.size globals (aL (s.heap.objs.size+1) scope.names h) qual func code none builtins ->
   ∀ s',fD s env.locals (bindL env.kindOf binds λ _=>none) (aL (s.heap.objs.size+1) scope.names []) (bindC env.kindOf binds λ _=>none) s'->Q env s') :
  wpAny M A (fw scope globals h binds qual func code none builtins) Q E s:=by
 simp only[fw,Option.isSome_none,bB,if_false]
 refine af (wpAny_alloc (af (wpAny_layCells _ (λ nm kd J=>by cases q:kd==NameKind.cell<;>simp[q]) _ _ _ _ ?_)))
 have ok:=cellsFrom_ok scope.names (s.heap.push { cls:=.type "frame",data:=.dict #[] }) (s.heap.objs.size+1) [] ⟨λ _ _ F=>(nomatch F),List.Pairwise.nil⟩ (by rw[bT];exact ak _)
 have B:({ s with heap:=s.heap.push { cls:=.type "frame",data:=.dict #[] } }:ae).heap.objs.size=s.heap.objs.size+1:=bT ..
 rw[bT]at ok
 rw[B]
 refine af (aC6 (s₀:=s) (cs:=aL (s.heap.objs.size+1) scope.names []) (env:=newEnv scope s.heap.objs.size globals (aL (s.heap.objs.size+1) scope.names h) qual func code none builtins)
  _ (λ _ _ _=>rfl) G (λ n c e=>?sub) binds (λ _=>none) (λ _=>none) _ _ ⟨⟨⟨_,_,rfl⟩,?ns,λ b o e=>?k,ak _⟩,λ n c e=>(ok.empty n c (aH e)).1,ok.apart,λ n c e=>(ok.empty n c e).2⟩ hy λ s' x=>av (go _ rfl s' x))
 case sub =>
  show(aL _ _ _).lookup n=some c
  rw[ze,zF,e];rfl
 case ns=>exact(kO s.heap (.type "frame")).keeps (cW _ _)
 case k=>exact cW _ _ b o (ao _ e)
noncomputable def aw1 (c:Addr)(qual:Str):HO:=.ext λ h=>h.CodeRec (.ref c) qual
noncomputable def bD1 (f:Addr)(fd:bH):HO:=.ext λ h=>h.get? f=some { cls:=.type "function",data:=.func fd }
theorem aA1 {P:aA}{w:World}{H:Hp}{h:Heap}{c:Addr}{q:Str}(x:HOk P w H h)(e:H c=some (aw1 c q)):h.CodeRec (.ref c) q:=(x c _ e).1
theorem at9 {P:aA}{w:World}{H:Hp}{h:Heap}{f:Addr}{B:bH}(x:HOk P w H h)(e:H f=some (bD1 f B)):h.get? f=some { cls:=.type "function",data:=.func B }:=(x f _ e).1
noncomputable def isC (cells:List (Str×Addr))(b:Addr):Bool:=cells.any λ p=>cells.lookup p.1==some b
theorem ba6 {cells:List (Str×Addr)}{b:Addr}:isC cells b=true↔∃ x,cells.lookup x=some b:=by
 unfold isC
 rw[jz]
 constructor
 ·rintro⟨p,_,e⟩;exact⟨p.1,by simpa using e⟩
 ·rintro⟨x,e⟩;exact⟨(x,b),aH e,by simpa using e⟩
noncomputable def ac3 (cells:List (Str×Addr))(H:Hp):Hp:=λ b=>if isC cells b=true then none else H b
noncomputable def Put (cells:List (Str×Addr))(H H':Hp):Hp:=λ b=>if isC cells b=true then H b else H' b
theorem ac3.cell {cells:List (Str×Addr)}{H:Hp}{b:Addr}(h:isC cells b=true):ac3 cells H b=none:=if_pos h
theorem ac3.ne {cells:List (Str×Addr)}{H:Hp}{b:Addr}(h:isC cells b≠true):ac3 cells H b=H b:=if_neg h
theorem ac3.some {cells:List (Str×Addr)}{H:Hp}{b:Addr}{o:HO}(h:ac3 cells H b=some o):isC cells b≠true/\H b=some o:=by
 unfold ac3 at h
 split at h
 ·cases h
 ·rename_i z;exact⟨z,h⟩
theorem ac3.none {cells:List (Str×Addr)}{H:Hp}{b:Addr}(h:H b=none):ac3 cells H b=none:=by
 unfold ac3
 split
 ·rfl
 ·exact h
theorem Put.cell {cells:List (Str×Addr)}{H H':Hp}{b:Addr}(h:isC cells b=true):Put cells H H' b=H b:=if_pos h
theorem Put.ne {cells:List (Str×Addr)}{H H':Hp}{b:Addr}(h:isC cells b≠true):Put cells H H' b=H' b:=if_neg h
def Cells (clos:List (Str×Addr))(H:Hp):Prop:=∀ x c,clos.lookup x=some c->∃ o v,H c=some (.frz o (.own c))/\o.data=.cell v
theorem Cells.at {B:List (Str×Addr)}{H:Hp}(z:Cells B H){b:Addr}(h:isC B b=true):∃ o v,H b=some (.frz o (.own b))/\o.data=.cell v:=by
 obtain⟨x,e⟩:=ba6.mp h
 exact z x b e
def Cap (clos:List (Str×Addr))(H:Hp)(fr:List Str)(cap:List V):Prop:=∀(i:Nat) (x:Str) (v:V),fr[i]?=some x->cap[i]?=some v->∃ c o u,clos.lookup x=some c/\H c=some (.frz o (.own c))/\o.data=.cell (some u)/\RelV v u
structure LamScope (N ps fr:List Str)(sc:Scope):Prop where
 kind:sc.kind=.function
 co:sc.isCoroutine=false
 gen:sc.isGenerator=false
 nd:N.Nodup
 app:N=ps++fr
 par:∀ x∈ps,sc.names.lookup x=some .local\/sc.names.lookup x=some .cell
 frs:∀ x∈fr,sc.names.lookup x=some .free
 cel:∀ y∈sc.names,y.2=.cell->sc.names.lookup y.1=some .cell
noncomputable def aF8 (P:aA)(w:World)(K:ac)(mg:Str->Option Value)(base:Heap)(N:List Str)(qual:Str)(scope:Scope)(f:Addr)(cd:Value)(clos:List (Str×Addr))(A:aO)(outer:List Env)(s:ae)(H:Hp):Cx where
 prog:=P
 w:=w
 K:=K
 mg:=mg
 base:=base
 A:=A.deeper (cQ qual scope s.heap.objs.size f cd (aL (s.heap.objs.size+1) scope.names clos))
 N:=N
 s₀:=s
 H₀:=ac3 clos H
 env:=cQ qual scope s.heap.objs.size f cd (aL (s.heap.objs.size+1) scope.names clos)
 outer:=outer
 stack:=cQ qual scope s.heap.objs.size f cd (aL (s.heap.objs.size+1) scope.names clos)::outer
 ex:=[]
 fn:=λ x=>scope.names.lookup x==some .cell
 calm:=true
 pn:=[]
 xe:=λ _ _=>False
theorem HOk.drop {P:aA}{w:World}{H:Hp}{h:Heap}{B:List (Str×Addr)}(x:HOk P w H h)(z:Cells B H):HOk P w (ac3 B H) h:=λ b o e=>by
 obtain⟨_,e'⟩:=ac3.some e
 have G:∀ c u,H c=some u->(∀ o v,u≠.frz o v)->isC B c≠true:=λ c u q d y=>by
  obtain⟨o,v,F,_⟩:=z.at y
  rw[q]at F;cases F
  exact d _ _ rfl
 exact(x b o e').stay (λ _ _ _ q=>q) (λ c q=>by rw[ac3.ne (G c _ q λ _ _=>by nofun)];exact q) λ c J q=>by rw[ac3.ne (G c _ q λ _ _=>by nofun)];exact q
theorem aW2 {P:aA}{w:World}{K:ac}{mg:Str->Option Value}{base:Heap}{N ps fr:List Str}{qual:Str}{scope:Scope}{f:Addr}{cd:Value}{h:List (Str×Addr)}{A:aO}{B:List Env}{s s1:ae}{H:Hp}{us:List Value}{vs cap:List V}
  (S:LamScope N ps fr scope) (hd:A.handled=none) (F:Env0 P w K mg base A B s H) (hl:vs.length=ps.length) (a4:cap.length=fr.length) (r:Vals vs us)
  (hc:Cells h H) (inj:∀ x y c,h.lookup x=some c->h.lookup y=some c->x=y) (a3:∀ x,scope.names.lookup x=some .free->∃ c,h.lookup x=some c) (a0:Cap h H fr cap)
  (x:fD s s.heap.objs.size (bindL (cQ qual scope s.heap.objs.size f cd (aL (s.heap.objs.size+1) scope.names h)).kindOf (ps.zip us) λ _=>none) (aL (s.heap.objs.size+1) scope.names [])
   (bindC (cQ qual scope s.heap.objs.size f cd (aL (s.heap.objs.size+1) scope.names h)).kindOf (ps.zip us) λ _=>none) s1) :
  Inv (aF8 P w K mg base N qual scope f cd h A B s H) [] (vs.map some++cap.map some) (ac3 h H) s1:=by
 obtain⟨h1,tk,rfl,hk⟩:=x.done
 have J:∀ b:Addr,b ∉ (aF8 P w K mg base N qual scope f cd h A B s H).ex:=λ b z=>absurd (show b∈([]:List Addr)from z) (by simp)
 have lk:∀ y c,(aL (s.heap.objs.size+1) scope.names h).lookup y=some c->(aL (s.heap.objs.size+1) scope.names []).lookup y=some c\/((aL (s.heap.objs.size+1) scope.names []).lookup y=none/\h.lookup y=some c):=λ y c e=>by
  rw[ze,zF]at e
  cases q:(aL (s.heap.objs.size+1) scope.names []).lookup y with
  | some d=>rw[q]at e;left;simpa using e
  | none=>rw[q]at e;right;exact⟨rfl,by simpa using e⟩
 have own:∀ y c,(aL (s.heap.objs.size+1) scope.names []).lookup y=some c->s.heap.objs.size<c:=λ y c e=>x.above y c (aH e)
 have Z:∀ y c,h.lookup y=some c->c<s.heap.objs.size:=λ y c e=>by
  obtain⟨o,v,q,_⟩:=hc y c e
  exact F.hok.lt q
 have hx:∀ y c,h.lookup y=some c->scope.names.lookup y=some .free->(aL (s.heap.objs.size+1) scope.names h).lookup y=some c:=λ y c e k=>by
  rw[ze,zF]
  cases q:(aL (s.heap.objs.size+1) scope.names []).lookup y with
  | none=>exact e
  | some d =>
   rcases zy (aH q)with z|z
   ·rw[S.cel _ z rfl]at k;cases k
   ·exact absurd z (by simp)
 have dn:∀ b,H b=none->ac3 h H b=none:=λ b e=>ac3.none e
 refine⟨⟨F.mod,S.kind,rfl,rfl,ak _,λ y z c a b=>?inj,λ y hy=>?has,λ y c hy e=>?cab,λ _=>hd,hZ F.frames,.inr ⟨rfl,rfl⟩,λ b z=>absurd z (J b),λ b o e=>⟨(F.bs b o e).1,dn b (F.bs b o e).2⟩,F.bsz,λ b _ _=>J b,λ b z=>absurd z (J b),F.funs,λ b hb=>dn b (F.frf b hb)⟩,
  rfl,F.bare,Un.kept hk,⟨_,x.toInCall.ns,λ i y v q1 q2 q3=>?loc⟩,λ y c e=>?cell,dn _ (F.hok.fresh (ak _)),λ y c e=>?freeC,λ p Y=>absurd (show p∈([]:List (Addr×Obj))from Y) (by simp),(F.hok.drop hc).kept hk,?len⟩
 case inj =>
  rcases lk y c a with a|⟨_,a⟩<;>rcases lk z c b with b|⟨_,b⟩
  ·exact gr x.apart (aH a) (aH b)
  ·exact absurd (gF (own _ _ a) (Z _ _ b)) (bu _)
  ·exact absurd (gF (own _ _ b) (Z _ _ a)) (bu _)
  ·exact inj y z c a b
 case has =>
  have hy:scope.names.lookup y=some .cell\/scope.names.lookup y=some .free:=hy
  rcases hy with hy|hy
  ·obtain⟨c,e⟩:=zS (n:=s.heap.objs.size+1) hy
   refine⟨c,?_⟩
   show(aL (s.heap.objs.size+1) scope.names h).lookup y=some c
   rw[ze,zF,e];rfl
  ·obtain⟨c,e⟩:=a3 y hy
   exact⟨c,hx y c e hy⟩
 case cab =>
  have hy:(scope.names.lookup y==some .cell)=true:=hy
  have a2:scope.names.lookup y=some .cell:=by simpa using hy
  rcases lk y c e with a|⟨a,_⟩
  ·exact e6 (own y c a)
  ·obtain⟨d,q⟩:=zS (n:=s.heap.objs.size+1) a2
   rw[q]at a;cases a
 case loc =>
  have a1:ps.Nodup:=by have:=S.nd;rw[S.app]at this;exact(List.nodup_append.mp this).1
  by_cases hi:i<vs.length
  ·have ha:vs[i]?=some v:=by
    rw[aM (by simpa using hi),aF]at q2
    cases e:vs[i]? with
    | none=>rw[e]at q2;cases q2
    | some a=>rw[e]at q2;cases q2;rfl
   obtain⟨u,hu,rv⟩:=r.get ha
   have Y:ps[i]?=some y:=by
    have G:N[i]?=some y:=q1
    rw[S.app,aM (by omega)]at G;exact G
   refine⟨u,rv,?_⟩
   rcases S.par y (a7 Y)with k|k
   ·exact .inl ⟨k,al0 a1 Y hu k⟩
   ·obtain⟨c,e⟩:=zS (n:=s.heap.objs.size+1) k
    refine .inr ⟨.inl k,c,?_,?_⟩
    ·show(aL (s.heap.objs.size+1) scope.names h).lookup y=some c
     rw[ze,zF,e];rfl
    ·have q:=x.cell y c e
     rw[am1 a1 Y hu (by show scope.names.lookup y≠_;rw[k];decide)]at q
     exact q
  ·have hf:fr[i - vs.length]?=some y:=by
    have G:N[i]?=some y:=q1
    rw[S.app,aB (by omega)]at G;rw[hl];exact G
   have hv:cap[i - vs.length]?=some v:=by
    rw[aB (by simpa using hi),aF,aw]at q2
    cases e:cap[i - vs.length]? with
    | none=>rw[e]at q2;cases q2
    | some a=>rw[e]at q2;cases q2;rfl
   obtain⟨c,o,u,e1,e2,e3,e4⟩:=a0 _ y v hf hv
   have kf:=S.frs y (a7 hf)
   refine⟨u,e4,.inr ⟨.inr kf,c,hx y c e1 kf,?_⟩⟩
   exact⟨o,hk c o (F.hok c _ e2).1,e3⟩
 case cell =>
  rcases lk y c e with a|⟨_,a⟩
  ·exact⟨_,x.cell y c a⟩
  ·obtain⟨o,v,q,d⟩:=hc y c a
   exact⟨v,o,hk c o (F.hok c _ q).1,d⟩
 case freeC =>
  rcases lk y c e with a|⟨_,a⟩
  ·exact dn c (F.hok.fresh (e6 (own y c a)))
  ·exact ac3.cell (ba6.mpr ⟨y,a⟩)
 case len =>
  show _=N.length
  rw[S.app]
  simp[hl,a4]
theorem aX8 {P:aA}{w:World}{B:List Env}{H H':Hp}{s s':ae}{h:List (Str×Addr)}(hok:HOk P w H s.heap)(hc:Cells h H)(frf:∀ b∈frs B,H b=none)
  (un:Un (frs B) [] (ac3 h H) H' s.heap s'.heap) (J:HOk P w H' s'.heap):Un (frs B) [] H (Put h H H') s.heap s'.heap/\HOk P w (Put h H H') s'.heap:=by
 have nc:∀ b,H b=none->isC h b≠true:=λ b e y=>by
  obtain⟨o,v,q,_⟩:=hc.at y
  rw[e]at q;cases q
 have F:∀ c u,H c=some u->(∀ o v,u≠.frz o v)->isC h c≠true:=λ c u q d y=>by
  obtain⟨o,v,Z,_⟩:=hc.at y
  rw[q]at Z;cases Z
  exact d _ _ rfl
 have G:∀ b,isC h b=true->H' b=none:=λ b y=>by
  obtain⟨o,v,q,_⟩:=hc.at y
  exact un.free b o (hok b _ q).1 (ac3.cell y) (by simp)
 refine⟨⟨λ b o e n hb hx=>un.keep b o e (ac3.none n) hb hx,λ b o e n hb hx=>un.slot b o e (ac3.none n) hb hx,λ b o e n hx=>?_,λ b o e hx=>un.there b o e hx,λ b Y e=>?_,λ b o u e=>?_,λ b ps e=>?_⟩,λ b o e=>?_⟩
 ·rw[Put.ne (nc b n)];exact un.free b o e (ac3.none n) hx
 ·have z:=F b _ e λ _ _=>by nofun
  rw[Put.ne z];exact un.tups b Y (by rw[ac3.ne z];exact e)
 ·by_cases z:isC h b=true
  ·rw[Put.cell z];exact e
  ·rw[Put.ne z];exact un.frzs b o u (by rw[ac3.ne z];exact e)
 ·have z:=F b _ e λ _ _=>by nofun
  rw[Put.ne z];exact un.tbls b ps (by rw[ac3.ne z];exact e)
 ·by_cases z:isC h b=true
  ·rw[Put.cell z]at e
   obtain⟨ob,v,q,d⟩:=hc.at z
   rw[q]at e;cases e
   have g:=(hok b _ q).1
   have g':=un.keep b ob g (ac3.cell z) (λ y=>by rw[frf b y]at q;cases q) (by simp)
   exact⟨g',ob,g'⟩
  ·rw[Put.ne z]at e
   have np:∀ c u,H' c=some u->Put h H H' c=some u:=λ c u q=>by
    rw[Put.ne λ y=>by rw[G c y]at q;cases q];exact q
   exact(J b o e).stay (λ _ _ _ q=>q) (λ c q=>np c _ q) λ c Y q=>np c _ q
structure ClOk (P:aA)(w:World)(K:ac)(mg:Str->Option Value)(base:Heap)(k:Nat)(R:Hp->Prop)(f:Addr)(sp:Sp):Prop where
 run:∀(A:aO) (outer:List Env) (s:ae) (H:Hp) (us:List Value) (vs:List V) (Q:VK),Room k A->Env0 P w K mg base A outer s H->R H->Vals vs us->sp vs H Q E0 ->
  fC (model P w) A (.call (.ref f) ⟨us,[]⟩) (CR CX0 outer P w H s Q E0) s
def aE1 (H:Hp)(f:Addr)(qual:Str)(params:bX)(body:Expr)(scope:Scope)(fr:List Str)(cap:List V)(clos:List (Str×Addr)):Prop :=
 ∃ pm c' ctv,H f=some (bD1 f (dk "<lambda>" qual params body scope clos pm (.ref c') ctv))/\H c'=some (aw1 c' qual)/\Cells clos H /\
  (∀ x y c,clos.lookup x=some c->clos.lookup y=some c->x=y)/\(∀ x,scope.names.lookup x=some .free->∃ c,clos.lookup x=some c)/\Cap clos H fr cap
def BM (mg:Str->Option Value)(base:Heap):Prop:=∃ bm ob,mg "__builtins__"=some (.ref bm)/\bm≠gj/\base.get? bm=some ob/\ob.cls=.type "module"/\ob.dict=some gj/\ob.data=.plain
noncomputable def lamCheck (scope xs:Scope):Bool:=scope.names.all λ y=>!(y.2==.free)||(xs.names.lookup y.1==some .cell||xs.names.lookup y.1==some .free)
structure Caught (cl:List (Str×Addr))(N:List Str)(kd:Str->Option cb)(σ:St)(H1 H2:Hp):Prop where
 ne:∀ b,isC cl b≠true->H2 b=H1 b
 free:∀ b,isC cl b=true->H1 b=none
 cells:Cells cl H2
 cap:∀(i:Nat) (x:Str) (v:V) (c:Addr),N[i]?=some x->σ[i]?=some (some v)->(kd x=some .cell\/kd x=some .free)->cl.lookup x=some c->∃ o u,H2 c=some (.frz o (.own c))/\o.data=.cell (some u)/\RelV v u
 inj:∀ x y c,cl.lookup x=some c->cl.lookup y=some c->x=y
def bU2 (K:ac)(H:Hp)(f:Addr):Prop:=(∃ fd,H f=some (bD1 f fd))\/∃ oc od fd sl,K.lookup f=some ⟨oc,od,.func fd,sl⟩
theorem bU2.at {X:Cx}{B:List (Addr×Obj)}{σ:St}{H:Hp}{s:ae}{f:Addr}(h:bU2 X.K H f)(I:Inv X B σ H s):PySem.W.FnAt f s.heap:=by
 rcases h with⟨F,h⟩|⟨oc,od,F,sl,h⟩
 ·exact⟨_,_,_,_,at9 I.hok h⟩
 ·exact⟨_,_,_,_,I.kIn _ _ h⟩
noncomputable def au3 (K:ac)(names:List Str):List (Str×Addr×Addr):=names.filterMap λ x=>(a8 K x).map λ p=>(x,p)
theorem ao4 {K:ac}{names:List Str}{y:Str×Addr×Addr}:y∈au3 K names↔y.1∈names/\a8 K y.1=some y.2:=by
 unfold au3
 rw[cz]
 constructor
 ·rintro⟨x,hx,e⟩
  obtain⟨p,h,rfl⟩:=bU.mp e
  exact⟨hx,h⟩
 ·rintro⟨hx,e⟩
  exact⟨y.1,hx,by rw[e];rfl⟩
def bB8 (K:ac)(names:List Str)(base:Heap):Prop:=∀ x∈names,∀ c P,a8 K x=some (c,P)->bO base c P
def bA9 (K:ac)(names:List Str)(H:Hp):Prop:=∀ x∈names,∀ c P,a8 K x=some (c,P)->H P=some (.tbl #[])
noncomputable def bJ4 (K:ac)(names:List Str)(ts:List Addr):Bool:=names.all λ x=>match a8 K x with
 | some (c,P)=>jA K c P&&ts.contains P
 | none=>true
theorem at2 {K:ac}{x:Str}(h:(a8 K x).isSome=true):a8 K x=some (((a8 K x).getD (0,0)).1,((a8 K x).getD (0,0)).2):=by
 obtain⟨p,e⟩:=fP.mp h
 rw[e]
 rfl
def bM5 (H:Hp)(P:Addr)(q:Str):Prop:=∃ ps:Array Value,H P=some (.tbl ps)/\TriplesOk ps.toList/\∀ pos cv,codeAmong pos ps.toList=some cv->∃ c',cv=.ref c'/\H c'=some (aw1 c' q)
def TabsH (T:List (Addr×Str))(H:Hp):Prop:=∀ y∈T,bM5 H y.1 y.2
def bN9 (H H':Hp):Prop:=∀ b o,(∀ ps,o≠.tbl ps)->H b=some o->H' b=some o
theorem bN9.of {H B:Hp}(a:ae3 H B):bN9 H B:=λ c o _ h=>a c o h
theorem TabsH.keep {T:List (Addr×Str)}{H H':Hp}(h:TabsH T H)(k:∀ b o,(∀ B,o≠.lst B)->H b=some o->H' b=some o):TabsH T H':=λ y hy=>by
 obtain⟨ps,e,t,c⟩:=h y hy
 refine⟨ps,k _ _ (λ _=>by nofun) e,t,λ pos F q=>?_⟩
 obtain⟨G,e1,e2⟩:=c pos F q
 exact⟨G,e1,k _ _ (λ _=>by unfold aw1;nofun) e2⟩
theorem TabsH.same {T:List (Addr×Str)}{H H':Hp}(h:TabsH T H)(s:ae3 H H'):TabsH T H':=h.keep λ b o _ e=>s b o e
theorem TabsH.new {T:List (Addr×Str)}{H:Hp}{a:Addr}{o:HO}(h:TabsH T H)(n:H a=none):TabsH T (upd H a o):=h.same ((ae3.refl H).new n)
theorem TabsH.put {T:List (Addr×Str)}{H:Hp}{a:Addr}{o:HO}{B:List V}(h:TabsH T H)(n:H a=some (.lst B)):TabsH T (upd H a o):=h.keep λ b u d e=>by
 rw[zn λ z=>by subst z;rw[n]at e;cases e;exact d _ rfl];exact e
theorem TabsH.init {T:List (Addr×Str)}{H:Hp}(h:∀ p∈T.map (·.1),H p=some (.tbl #[])):TabsH T H:=λ y hy =>
 ⟨#[],h _ (bN hy),trivial,λ pos B e=>by simp[codeAmong]at e⟩
theorem Caught.same {cells:List (Str×Addr)}{N:List Str}{kd:Str->Option cb}{σ:St}{B h:Hp}(F:Caught cells N kd σ B h):ae3 B h:=λ b o e=>by
 rw[F.ne b λ z=>by rw[F.free b z]at e;cases e];exact e
theorem Fun.okC {P:aA}{w:World}{K:ac}{mg:Str->Option Value}{base:Heap}{x qual:Str}{st:Stmt}{f c:Addr}{Z:bH}{N ps:List Str}{k:Nat}{sp:Sp}(F:Fun K x qual st f Z)(a0:Z.code=.ref c)(S:FnScope N ps (defScope st))(len:∀ vs H Q E,sp vs H Q E->vs.length=ps.length)
  (G:∀(A:aO) (B:List Env) (s:ae) (H:Hp) (vs:List V) (Q:VK) (E:XK),Room k (A.deeper (eT qual (defScope st) s.heap.objs.size f (.ref c)))->sp vs H Q E ->
   ∃ t,PSs (ar2 CX0 P w K mg base N qual (defScope st) f (.ref c) A B s H E).nox (zt st) t/\t { nx:=λ _ H'=>Q .non H',rt:=Q } (qU N vs) H):FnOk P w K mg base CX0 (k+1) f Z ps sp:=by
 obtain⟨oc,od,kV,a1,pm,an,Y,ct,a2,rfl,lk,hc⟩:=F.ex
 have e:Y=.ref c:=a0
 subst e
 refine bs8 lk hc S len λ A B s H vs Q E hr J=>?_
 obtain⟨t,h,q⟩:=G A B s H vs Q E hr J
 exact⟨t,h.nox,q⟩
theorem bb2 {X:Cx}{K:ac}(hc:X.calm=true)(hK:X.K=K):ac6 X (.builtin "min") (λ xs H Q=>∃ a ns,xs=[.ref a]/\SqL K H a (ns.map V.int)/\ns≠[]/\∀ m∈ns,(∀ y∈ns,m<=y)->Q (.int m) H):=by
 subst hK
 intro a0 s σ H xs us Q I r h
 obtain⟨a,ns,rfl,hS,G,q⟩:=h
 obtain⟨u,rfl,ru⟩:=qR r
 cases ru
 obtain⟨its,J,Y,hz⟩:=I.list hS
 have hl:=J.length
 rw[aw]at hl
 have a1:0<ns.length:=iL.mpr G
 refine call_min_walk (da Y.isList ?_)
 have B:a<s.heap.objs.size:=by obtain⟨o,_,e,_⟩:=Y;exact aE e
 have W:=j3 (prog:=X.prog) (w:=X.w) (A:=X.A.in1) (I.ok.hd hc) s.heap.objs.size a (aD B) its.toArray
 let val:Nat->Int:=λ i=>ns.getD i 0
 have F:∀ i v,its.toArray[i]?=some v->∃ t,v=Value.int (val i) t:=λ i v e=>by
  obtain⟨z,t,e1,e2⟩:=ar8 J (i:=i) (v:=v) (by rw[cB]at e;exact e)
  refine⟨t,?_⟩
  rw[e2]
  show Value.int z t=Value.int (ns.getD i 0) t
  rw[aW,e1]
  rfl
 refine⟨_,_,_,_,_,_,_,rfl,W,⟨⟨_,aS _ rfl,rfl,rfl⟩,?_⟩,λ b hb=>?_,by rw[au];omega,kn val F,λ v h' tk Z k=>?_⟩
 ·obtain⟨o,e,r⟩:=Y.isList
  exact⟨o,ao _ e,r⟩
 ·show b<(s.heap.push _).objs.size
  rw[bT]
  rcases aC.mp hb with z|z
  ·rw[z];exact dr _
  ·have z':b=a:=by simpa using z
   rw[z'];exact fG B
 ·obtain⟨z,t,e1,e2⟩:=ar8 J (i:=dq (λ i j=>decide (val i<val j)) (its.toArray.size - 1)) (v:=v) (by rw[cB]at Z;exact Z)
  subst e2
  have hv:val (dq (λ i j=>decide (val i<val j)) (its.toArray.size - 1))=z:=by
   show ns.getD _ 0=z
   rw[aW,e1]
   rfl
  refine⟨.int z,H,I.kept (h':=h') (t':=tk) λ b o q=>k b o ?_ (ao _ q),⟨t,rfl⟩,q z (a7 e1) λ y hy=>?_⟩
  ·intro z
   have z':b=s.heap.objs.size:=by simpa using z
   exact absurd (aE q) (by rw[z'];exact bu _)
  ·obtain⟨j,hj,e3⟩:=cF.mp hy
   have:=qS val (its.toArray.size - 1) j (by simp only[au];omega)
   rw[hv]at this
   have e4:val j=y:=by
    show ns.getD j 0=y
    rw[aW,aj hj]
    exact e3
   omega
noncomputable def mx (a b:Int):Int:=if b > a then b else a
section
variable {X:Cx}
end
noncomputable def mx3 (a b c:Int):Int:=mx (mx a b) c
noncomputable def rnd (x:Int):Int:=if x=0\/x=3 then x else 2
noncomputable def sharp (n:Nat)(s:Nat->Nat->Int)(i j:Nat):Int:=(minO ((aU n).map λ k=>mx3 (s i k) (rnd (s k k)) (s k j))).getD 3
section
variable {n:Nat} {s:Nat->Nat->Int}
end
def am6 (H:Hp)(f:Addr)(name qual:Str)(params:bX)(body:List Stmt)(scope:Scope)(fr:List Str)(cap:List V)(clos:List (Str×Addr)):Prop :=
 ∃ doc pm c' ctv,H f=some (bD1 f (fJ name qual params body scope clos .none .none doc pm none (.ref c') ctv))/\H c'=some (aw1 c' qual)/\Cells clos H /\
  (∀ x y c,clos.lookup x=some c->clos.lookup y=some c->x=y)/\(∀ x,scope.names.lookup x=some .free->∃ c,clos.lookup x=some c)/\Cap clos H fr cap
theorem am6.fn {K:ac}{H:Hp}{f:Addr}{name qual:Str}{params:bX}{body:List Stmt}{scope:Scope}{fr:List Str}{cap:List V}{B:List (Str×Addr)}(h:am6 H f name qual params body scope fr cap B):bU2 K H f:=by
 obtain⟨F,Y,Z,G,J,_⟩:=h
 exact .inl ⟨_,J⟩
end L2
end
noncomputable section
namespace L2
open PySem PySem.Spec PyProof.Rows Builtin
section
variable {P:aA} {w:World} {A:aO} {E:Value->ae->Prop} {s:ae}
theorem aG1 {it t:Addr}{i:Nat}{l:Array Value}{v:Value}{Q:Value->ae->Prop}(h:s.heap.IsTupleIter it t i)(F:s.heap.IsTuple t l)(hv:l[i]?=some v)
  (k:∀ h',h'.IsTupleIter it t (i+1)->dS it s.heap h'->Q v { s with heap:=h' }):wpAny (model P w) A (bM (.ref it)) Q E s:=by
 obtain⟨o,e1,e2,e3⟩:=id h
 obtain⟨p,p1,_,n,B⟩:=F
 unfold bM
 refine af (cL (name:=bz "__next__") h.typeIs cA (cu cA h.typeIs fe ?_ (eV _)))
 show wpAny _ _ (field (.ref it) 0 >>= _) _ _ _
 refine af (dM e1 e3 (x:=.ref t) rfl ?_)
 show wpAny _ _ (if(Value.ref t==Value.none)=true then _ else _) _ _ _
 rw[if_neg (show ¬((Value.ref t==Value.none)=true)from λ z=>nomatch z)]
 show wpAny _ _ (field (.ref it) 1 >>= _) _ _ _
 refine af (dM e1 e3 (x:=.int i 0) rfl ?_)
 show wpAny _ _ (iA (.ref t) >>= _) _ _ _
 refine af (cK p1 B ?_)
 simp only[bV,hv]
 refine af (wpAny_setField e1 e3 (by simp) (av ⟨v,rfl,av (k _ ⟨_,c7 _ e1 (Obj.isFreed_of_fields (i5 e3 _)),(Obj.cls_mapFields ..).trans e2,by rw[i5 e3];simp[rawInt]⟩ (iM ..))⟩))
theorem aN4 {it t:Addr}{i:Nat}{l:Array Value}{Q:Value->ae->Prop}(hh:A.handled=none)(h:s.heap.IsTupleIter it t i)(F:s.heap.IsTuple t l)(hv:l[i]?=none)
  (k:∀ h' e,jI it s.heap h'->(∃ o,h'.get? e=some o/\o.cls=.type "StopIteration")->E (.ref e) { s with heap:=h' }):wpAny (model P w) A (bM (.ref it)) Q E s:=by
 obtain⟨o,e1,e2,e3⟩:=id h
 obtain⟨p,p1,_,n,B⟩:=F
 unfold bM
 refine af (cL (name:=bz "__next__") h.typeIs cA (cu cA h.typeIs fe ?_ (eV _)))
 show wpAny _ _ (field (.ref it) 0 >>= _) _ _ _
 refine af (dM e1 e3 (x:=.ref t) rfl ?_)
 show wpAny _ _ (if(Value.ref t==Value.none)=true then _ else _) _ _ _
 rw[if_neg (show ¬((Value.ref t==Value.none)=true)from λ z=>nomatch z)]
 show wpAny _ _ (field (.ref it) 1 >>= _) _ _ _
 refine af (dM e1 e3 (x:=.int i 0) rfl ?_)
 show wpAny _ _ (iA (.ref t) >>= _) _ _ _
 refine af (cK p1 B ?_)
 simp only[bV,hv]
 refine af (gi (af (wpAny_setField e1 e3 (by simp) ?_)))
 show wpAny _ _ (newExc (.type "StopIteration") [] >>= _) _ _ (_:ae)
 refine af ?_
 simp only[newExc,newTuple]
 refine af (bw ?_ (by size_fits))
 refine af (m:=firstArgMember _ _) (wpAny_of_eq (a:=Value.none) (by first|rfl|(simp only[firstArgMember];rfl)) (bw ?_ (by size_fits)))
 simp only[raiseNew]
 refine af (wpAny_handled ?_)
 first|rw[show A.in1.handled=none from hh]|rw[hh]
 exact af (av (wpAny_throw (k _ _ (((iM ..).extBut.push _).push _) ⟨_,aS _ rfl,rfl⟩)))
end
structure Dw (P:aA)(w:World)(K:ac)(J:It)(it:Addr)(tn:Nat->Heap->Prop):Prop where
 obj:∀ i h,tn i h->∃ o,h.get? it=some o/\∀ v,o.data≠.cell v
 keep:∀ i h h',tn i h->(∀ o,h.get? it=some o->h'.get? it=some o)->tn i h'
 item:∀(X:Cx),X.prog=P->X.w=w->X.K=K->∀(A:aO) (i:Nat) (pins:List (Addr×Obj)) (s:ae) (σ:St) (H:Hp) (Q:Value->ae->Prop) (E:Value->ae->Prop),Inv X pins σ H s->tn i s.heap->J.go i H ->
  (∀ x u h' tk,RelV x u->J.yld i H x H->tn (i+1) h'->dS it s.heap h'->Q u { s with heap:=h',toks:=tk })->wpAny (model P w) A (bM (.ref it)) Q E s
 done:∀(X:Cx),X.prog=P->X.w=w->X.K=K->∀(A:aO) (i:Nat) (pins:List (Addr×Obj)) (s:ae) (σ:St) (H:Hp) (Q:Value->ae->Prop) (E:Value->ae->Prop),A.handled=none->Inv X pins σ H s->tn i s.heap->J.stop i H ->
  (∀ h' e,jI it s.heap h'->(∃ o,h'.get? e=some o/\o.cls=.type "StopIteration")->E (.ref e) { s with heap:=h' })->wpAny (model P w) A (bM (.ref it)) Q E s
theorem bx1 {P:aA}{w:World}{K:ac}(a it:Addr):Dw P w K (Itl K a) it (λ i h=>h.IsListIter it a i) where
 obj:=λ i h st=>by
  obtain⟨o,e,c,d⟩:=st
  exact⟨o,e,λ v z=>by rw[d]at z;cases z⟩
 keep:=λ i h h' st k=>st.at k
 item:=by
  intro X F hw hK A i B s σ H Q E I st hg k
  subst F hw hK
  obtain⟨xs,x,hq,hx⟩:=hg
  obtain⟨its,G,p,hz⟩:=I.list hq
  obtain⟨u,hu,Y⟩:=G.get hx
  exact wpAny_nextOf_list_item st p.isList (x:=u) (by simpa using hu) λ h' J sb=>k x u h' s.toks Y ⟨rfl,λ ys hy=>by rw[I.list_inj hy hq];exact hx⟩ J sb
 done:=by
  intro X F hw hK A i B s σ H Q E Z I st hg k
  subst F hw hK
  obtain⟨xs,hq,hx⟩:=hg
  obtain⟨its,G,p,hz⟩:=I.list hq
  have hl:=G.length
  exact wpAny_nextOf_list_end Z st p.isList (by simp;omega) k
theorem bN8 {P:aA}{w:World}{K:ac}(a it:Addr):Dw P w K (Itt K a) it (λ i h=>h.IsTupleIter it a i) where
 obj:=λ i h st=>by
  obtain⟨o,e,c,d⟩:=st
  exact⟨o,e,λ v z=>by rw[d]at z;cases z⟩
 keep:=λ i h h' st k=>st.at k
 item:=by
  intro X F hw hK A i B s σ H Q E I st hg k
  subst F hw hK
  obtain⟨xs,x,hq,hx⟩:=hg
  obtain⟨its,G,p,hz⟩:=I.tuple hq
  obtain⟨u,hu,Y⟩:=G.get hx
  exact aG1 st (show s.heap.IsTuple a its.toArray from p) (v:=u) (by simpa using hu) λ h' J sb=>k x u h' s.toks Y ⟨rfl,λ ys hy=>by rw[I.tuple_inj hy hq];exact hx⟩ J sb
 done:=by
  intro X F hw hK A i B s σ H Q E Z I st hg k
  subst F hw hK
  obtain⟨xs,hq,hx⟩:=hg
  obtain⟨its,G,p,hz⟩:=I.tuple hq
  have hl:=G.length
  exact aN4 Z st (show s.heap.IsTuple a its.toArray from p) (by simp;omega) k
theorem bG9 {P:aA}{w:World}{K:ac}(x:Str)(t:Tok)(it:Addr):Dw P w K (Its x) it (λ i h=>h.IsStrIter it (ik x) x t i) where
 obj:=λ i h st=>by
  obtain⟨o,e,c,d⟩:=st
  exact⟨o,e,λ v z=>by rw[d]at z;cases z⟩
 keep:=λ i h h' st k=>by
  obtain⟨o,ho,r⟩:=st
  exact⟨o,k _ ho,r⟩
 item:=by
  intro X J hw hK A i G s σ H Q E I st hg k
  subst J hw hK
  have B:i<x.cps.size:=hg
  have hc:x.cps[i]?=some x.cps[i]:=by simp[B]
  unfold ik at st k
  cases ha:x.cps.all (·<128)
  ·rw[ha]at st k
   exact wpAny_nextOf_wide_item st hc λ h' F Y=>k (.str ⟨#[x.cps[i]]⟩) _ h' (s.toks+1) ⟨_,rfl⟩ ⟨rfl,_,hc,rfl⟩ F Y
  ·rw[ha]at st k
   exact wpAny_nextOf_ascii_item st hc λ h' F Y=>k (.str ⟨#[x.cps[i]]⟩) _ h' (s.toks+1) ⟨_,rfl⟩ ⟨rfl,_,hc,rfl⟩ F Y
 done:=by
  intro X J hw hK A i G s σ H Q E Z I st hg k
  subst J hw hK
  have B:x.cps.size<=i:=hg
  have hc:x.cps[i]?=none:=by simp[B]
  unfold ik at st
  cases ha:x.cps.all (·<128)
  ·rw[ha]at st
   exact wpAny_nextOf_wide_end Z st hc k
  ·rw[ha]at st
   exact wpAny_nextOf_ascii_end Z st hc k
section
variable {X:Cx} {pins:List (Addr×Obj)} {σ:St} {H:Hp} {s:ae} {A:aO} {E:Value->ae->Prop} {J1 J2:It} {t1 t2:Nat->Heap->Prop} {z ti to i1 i2:Addr} {n:Nat} {a b:Value}
end
def Mkr (v:Value)(o:Obj)(h:Heap):Prop:=∀(P:aA) (w:World) (A:aO) (E:Value->ae->Prop) (s:ae) (Q:Value->ae->Prop),(∀ b u,h.get? b=some u->s.heap.get? b=some u) ->
 Q (.ref s.heap.objs.size) { s with heap:=s.heap.push o }->wpAny (model P w) A (kB v) Q E s
def Sr (K:ac)(H:Hp)(x:V)(J:It):Prop:=(∃ a,x=.ref a/\(∃ xs,SqL K H a xs)/\J=Itl K a)\/(∃ a,x=.ref a/\(∃ xs,SqT K H a xs)/\J=Itt K a)\/∃ y,x=.str y/\J=Its y
theorem Sr.mk {X:Cx}{B:List (Addr×Obj)}{σ:St}{H:Hp}{s:ae}{x:V}{u:Value}{J:It}(I:Inv X B σ H s)(h:Sr X.K H x J)(r:RelV x u) :
  ∃(o:Obj) (F:Addr->Nat->Heap->Prop),o.isFreed=false/\Mkr u o s.heap/\(∀ it,Dw X.prog X.w X.K J it (F it))/\∀ it h',h'.get? it=some o->F it 0 h':=by
 rcases h with⟨a,e,⟨G,hq⟩,e'⟩|⟨a,e,⟨G,hq⟩,e'⟩|⟨y,e,e'⟩
 ·subst e e';cases r
  obtain⟨its,Y,p,hz⟩:=I.list hq
  exact⟨_,λ it i h=>h.IsListIter it a i,rfl,λ P w A E s' Q hk q=>da (p.isList.at λ o e=>hk _ _ e) q,λ it=>bx1 a it,λ it h' e=>⟨_,e,rfl,rfl⟩⟩
 ·subst e e';cases r
  obtain⟨its,Y,p,hz⟩:=I.tuple hq
  exact⟨_,λ it i h=>h.IsTupleIter it a i,rfl,λ P w A E s' Q hk q=>iX (Heap.IsTuple.at (show s.heap.IsTuple a its.toArray from p) λ o e=>hk _ _ e) q,λ it=>bN8 a it,λ it h' e=>⟨_,e,rfl,rfl⟩⟩
 ·subst e e';obtain⟨t,rfl⟩:=r
  exact⟨_,λ it i h=>h.IsStrIter it (ik y) y t i,rfl,λ P w A E s' Q hk q=>wpAny_pyIter_strU q,λ it=>bG9 y t it,λ it h' e=>⟨_,e,rfl,rfl⟩⟩
end L2
end
noncomputable section
namespace L2
open PySem PySem.Spec PyProof.Rows Builtin
open AutoSeq1 (wpAny_loadPart')
section
variable {X:Cx} {pins:List (Addr×Obj)} {σ:St} {H:Hp} {s:ae} {A:aO} {E:Value->ae->Prop} {J1:It} {t1:Nat->Heap->Prop} {z it:Addr} {n:Nat} {old:Value}
end
end L2
end
noncomputable section
namespace L2
open PySem PySem.Spec PyProof.Rows Builtin
open AutoSeq1 (wpAny_loadPart')
theorem aD0:fillsNumberSlot (.type "tuple") "mul"=pure false :=
 PySem.fillsNumberSlot_seq (id := "tuple.__mul__") (r:=some (.builtin "tuple.__rmul__")) d3.lookup (by decide +kernel) ga.lookup (by decide +kernel)
theorem aN5:seqRepeat? (.type "tuple")=pure (some (.builtin "tuple.__mul__")):=by
 unfold seqRepeat?
 rw[jB (T := "tuple") (name := "__mul__") (id := "tuple.__mul__") d3.lookup (by decide +kernel),jB (T := "tuple") (name := "__rmul__") (id := "tuple.__rmul__") ga.lookup (by decide +kernel)]
 rfl
theorem az7 (a:Int)(t:Tok)(l:Addr)(o:Obj)(B:Array Value)(n:Nat)(F:Option Addr)(sl:Array (Option Value)) :
  Meets (Builtin.«int.__rmul__» ⟨[.int a t,.ref l],[]⟩) (λ _ R s=>s.heap.get? l=some { cls:=.type "tuple",dict:=F,data:=.seq B n,slots:=sl }/\R (.ok (.ret Value.notImplemented)) s) :=
 .of_wp λ prog w A R s h=>by obtain⟨G,g,d,tk,os⟩:=s;obtain⟨hl,h⟩:=h;wp_walk;exact⟨_,rfl,h⟩
noncomputable def am5 {α:Type}:Nat->List α->List α
 | 0,_=>[]
 | n+1,a=>a++am5 n a
theorem aI8 {α:Type}(l:List α):∀(n:Nat) (h:Array α),(aq n l.toArray).foldl (·++·) h=h++(am5 n l).toArray
 | 0,h=>by simp[am5]
 | n+1,h=>by rw[bF,cV,aI8 l n];simp[am5]
theorem ay3 {α:Type}(a:Array α):∀(n:Nat) (h:Array α),((aq n a).foldl (·++·) h).size=h.size+a.size*n
 | 0,h=>by simp
 | n+1,h=>by rw[bF,cV,ay3 a n,Array.size_append,Nat.mul_succ];omega
def TmA (items:Array Value)(k:Int)(l:Addr)(R:Value->ae->Prop)(s:ae):Prop :=
 ((items.isEmpty||k==1)=true->R (.ref l) s)/\((items.isEmpty||k==1)=false->R (.ref s.heap.objs.size) { s with heap:=s.heap.push { cls:=.type "tuple",data:=.seq ((aq k.toNat items).foldl (·++·) #[]) } })
theorem aQ7 {P:aA}{w:World}{A:aO}{E:Value->ae->Prop}{s:ae}{l:Addr}{B:Array Value}{k:Int}{t:Tok}{Q:Value->ae->Prop}(h0:0<=k)(Y:k<=1000000)(hz:B.size*k.toNat<=1000000)(hl:IsTup s.heap l B)
  (h:TmA B k l Q s):wpAny (model P w) A (call (.builtin "tuple.__mul__") [.ref l,.int k t]) Q E s:=by
 refine cu d3 hl.typeIs PySem.F.entry_tuple_mul ?_ (PySem.F.args_tuple_mul_2 _ _)
 obtain⟨J,q2⟩:=h
 show wpAny _ _ (asIndex (.int k t) >>= _) _ _ _
 refine af (av ?_)
 rw[if_neg (by rw[decide_eq_false (by omega),decide_eq_false (by omega)];decide)]
 show wpAny _ _ (cx (.ref l) >>= _) _ _ _
 refine af (iT hl ?_)
 have G:(B.size:Int)*k<=1000000:=by
  have:((B.size*k.toNat:Nat):Int)<=1000000:=by omega
  rw[jN,eY h0]at this
  exact this
 cases hb:(B.isEmpty||k==1)with
 | true =>
  rw[if_pos rfl]
  unfold j5
  refine af (af (gv hl.typeIs (av ?_)))
  rw[if_pos (by decide)]
  exact af (gi (av ⟨_,rfl,J hb⟩))
 | false =>
  rw[if_neg aQ]
  have he:B.isEmpty=false:=by
   rw[eO]at hb;exact hb.1
  have q:=q2 hb
  show wpAny _ _ (if(decide (k<=0)||B.isEmpty)=true then _ else _) _ _ _
  by_cases hk:k<=0
  ·rw[if_pos (by rw[decide_eq_true hk];rfl)]
   have:k.toNat=0:=by omega
   rw[this]at q
   exact af (bw (av ⟨_,rfl,q⟩) (by size_fits))
  ·rw[if_neg (by rw[decide_eq_false hk,he];decide)]
   show wpAny _ _ (if(B.size:Int)*k > (2^63 - 1) / 8 then _ else _) _ _ _
   rw[if_neg (by omega)]
   show wpAny _ _ (if fy ((B.size:Int)*k)=true then _ else _) _ _ _
   rw[if_neg (by unfold fy;rw[decide_eq_false (by unfold aI;omega)];decide)]
   refine af (bw (av ⟨_,rfl,q⟩) ?_)
   show Array.size _<=aI
   rw[ay3]
   show 0+_<=_
   rw[d4]
   have h3:B.size*k.toNat<=aI:=am hz (by decide)
   exact h3
theorem aJ6 {α:Type}:∀ n,am5 n ([]:List α)=[]
 | 0=>rfl
 | n+1=>by simp[am5,aJ6 n]
theorem bd8 {α:Type}(l:List α):am5 1 l=l:=by simp[am5]
theorem aG9 {α:Type}(l:List α):∀ n,(am5 n l).length=l.length*n
 | 0=>by simp[am5]
 | n+1=>by simp[am5,aG9 l n,jJ];omega
theorem Vals.repT {h:List V}{us:List Value}(r:Vals h us):∀ n,Vals (am5 n h) (am5 n us)
 | 0=>.nil
 | n+1=>r.append (Vals.repT r n)
def bZ2 (K:ac):R2:=λ x y H Q=>∃ a xs n,x=.ref a/\y=.int n/\SqT K H a xs/\(0<=n/\n<=1000000/\xs.length*n.toNat<=1000000)/\∀ p H',ae3 H H'->SqT K H' p (am5 n.toNat xs)->(H' p=some (.tup (am5 n.toNat xs))\/(p=a/\am5 n.toNat xs=xs))->Q (.ref p) H'
theorem bu7 {X:Cx}{K:ac}(hK:X.K=K):OpR X (bS .Mult) (bZ2 K):=by
 subst hK
 intro G s σ H x y v u Q I Y ry h
 obtain⟨a,F,n,rfl,rfl,ha,⟨h0,h1,hz⟩,q⟩:=h
 cases Y
 obtain⟨t,rfl⟩:=ry
 obtain⟨its,r1,p1,Z⟩:=I.tuple ha
 have B:=r1.length
 obtain⟨⟨cls,dd,data,sl⟩,ho,hc,n1,hd⟩:=id p1
 simp only at hc hd
 subst hc hd
 refine fz (T := "tuple") (U := "int") (by decide) p1.typeIs (λ s'=>gC s' n t) aD0 i3 dJ aN5 iJ.lookup
  (eB dJ (gC s n t) iK (ie _ _) (az7 n t a default its.toArray n1 dd sl) ⟨ho,⟨rfl,p1.typeIs,aQ7 h0 h1 (by rw[au,<-B];exact hz) p1 ⟨λ hb=>?_,λ hb=>?_⟩⟩⟩)
 ·have ex:am5 n.toNat F=F:=by
   rw[bJ]at hb
   rcases hb with hb|hb
   ·have hi:its=[]:=by simpa using hb
    have hx:F=[]:=r1.nil_iff.mp hi
    rw[hx,aJ6]
   ·have:n=1:=by simpa using hb
    subst this
    exact bd8 _
  exact⟨.ref a,H,I,rfl,q a H (ae3.refl H) (by rw[ex];exact ha) (.inr ⟨rfl,ex⟩)⟩
 ·have J:=I.hok.fresh (ak s.heap.objs.size)
  refine⟨.ref s.heap.objs.size,_,I.laid (t':=s.toks) (o:=.tup (am5 n.toNat F)) (λ b ob q=>ao _ q) (ak _) ?_,rfl,q _ _ ((ae3.refl H).new J) (SqT.of zB) (.inl zB)⟩
  refine⟨by rw[aG9];exact am hz (by decide),am5 n.toNat its,r1.repT _,?_⟩
  rw[show(am5 n.toNat its).toArray=(aq n.toNat its.toArray).foldl (·++·) #[]by rw[aI8];simp]
  exact⟨_,aS _ rfl,rfl,_,rfl⟩
end L2
end
noncomputable section
namespace L2
open PySem PySem.Spec PyProof.Rows
noncomputable def bq6 (x:List Nat):V:=.str ⟨x.toArray⟩
theorem ah6 {A:aO}{k:Nat}(hr:Room k A):A.units+2<cLine:=Nat.lt_of_le_of_lt (Nat.add_le_add_left (by decide:2<=64) _) hr.units
section
variable {κ:Type} [DecidableEq κ]
noncomputable def aA5 (kvs:List (κ×V))(k:κ):Option V:=(kvs.find? λ kv=>decide (kv.1=k)).map (·.2)
noncomputable def ao1 (kvs:List (κ×V))(k:κ)(v:V):List (κ×V) :=
 if(kvs.any λ kv=>decide (kv.1=k))=true then kvs.map (λ kv=>if kv.1=k then(kv.1,v)else kv)else kvs++[(k,v)]
theorem ai9 {p:κ×V}{r:List (κ×V)}{k:κ}(e:p.1=k):aA5 (p::r) k=some p.2:=by simp[aA5,cX,e]
theorem ai3 {p:κ×V}{r:List (κ×V)}{k:κ}(e:¬ p.1=k):aA5 (p::r) k=aA5 r k:=by simp[aA5,cX,e]
theorem at8 (k:κ):∀ h:List (κ×V),(h.any λ B=>decide (B.1=k))=(aA5 h k).isSome
 | []=>rfl
 | p::r=>by
  rw[fT]
  by_cases e:p.1=k
  ·simp only[ai9 e,decide_eq_true e,Bool.true_or,i4]
  ·rw[ai3 e,decide_eq_false e,km];exact at8 k r
theorem qQ (h:List (κ×V))(k:κ)(v:V):(ao1 h k v).length<=h.length+1:=by
 unfold ao1
 split
 ·rw[aw];omega
 ·rw[aG,aX,eW];omega
theorem aO4.isSome_eq {o:Option V}{u:Option Value}(r:aO4 o u):o.isSome=u.isSome:=by
 cases o with
 | none=>cases u with
  | none=>rfl
  | some _=>exact(show False from r).elim
 | some _=>cases u with
  | none=>exact(show False from r).elim
  | some _=>rfl
theorem aO4.getD {o:Option V}{u:Option Value}{d:V}{d':Value}(r:aO4 o u)(h:RelV d d'):RelV (o.getD d) (u.getD d'):=by
 cases o with
 | none=>cases u with
  | none=>exact h
  | some _=>exact(show False from r).elim
 | some _=>cases u with
  | none=>exact(show False from r).elim
  | some _=>exact r
theorem KV.val {B:List (κ×V)}{vs:List (κ×Value)}(r:KV B vs)(k:κ):aO4 (aA5 B k) (iB vs k):=by
 unfold KV at r
 induction r with
 | nil=>exact True.intro
 | @cons p q ps qs h t ih =>
  obtain⟨F,G⟩:=h
  by_cases e:p.1=k
  ·have e':q.1=k:=F.symm.trans e
   have b:iB (q::qs) k=some q.2:=by simp[iB,cX,e']
   rw[ai9 e,b];exact G
  ·have e':¬ q.1=k:=λ z=>e (F.trans z)
   have b:iB (q::qs) k=iB qs k:=by simp[iB,cX,e']
   rw[ai3 e,b];exact ih
theorem KV.any {B:List (κ×V)}{vs:List (κ×Value)}(r:KV B vs)(k:κ):(B.any λ F=>decide (F.1=k))=vs.any λ F=>decide (F.1=k):=by
 unfold KV at r
 induction r with
 | nil=>rfl
 | cons h t ih=>rw[fT,fT,ih,h.1]
theorem KV.repl {F:List (κ×V)}{vs:List (κ×Value)}(r:KV F vs)(k:κ){y:V}{u:Value}(Y:RelV y u) :
  KV (F.map λ B=>if B.1=k then(B.1,y)else B) (vs.map λ B=>if B.1=k then(B.1,u)else B):=by
 unfold KV at r ⊢
 induction r with
 | nil=>exact .nil
 | @cons p q ps qs h t ih =>
  rw[aN,aN]
  refine .cons ?_ ih
  obtain⟨G,J⟩:=h
  by_cases e:p.1=k
  ·rw[if_pos e,if_pos (G.symm.trans e)];exact⟨G,Y⟩
  ·rw[if_neg e,if_neg (λ z=>e (G.trans z))];exact⟨G,J⟩
theorem KV.put {h:List (κ×V)}{vs:List (κ×Value)}(r:KV h vs)(k:κ){y:V}{u:Value}(B:RelV y u):KV (ao1 h k y) (stored vs k u):=by
 unfold ao1 stored
 rw[r.any k]
 by_cases e:(vs.any λ F=>decide (F.1=k))=true
 ·rw[if_pos e,if_pos e];exact r.repl k B
 ·rw[if_neg e,if_neg e];exact kP r ⟨rfl,B⟩
theorem KV.length {h:List (κ×V)}{vs:List (κ×Value)}(r:KV h vs):h.length=vs.length:=eG r
end
theorem aO8 {P:aA}{w:World}{k:Key}{u:Value}(r:RelV (kV k) u):(zM P w).is k u=true:=by
 cases k with
 | inl i=>obtain⟨t,e⟩:=(show ∃ t,u=Value.int i t from r);subst e;exact aF5 P w i t
 | inr x=>obtain⟨t,e⟩:=(show ∃ t,u=Value.str x t from r);subst e;exact aF7 P w x t
theorem bO7 {P:aA}{w:World}{f:FK}{u:Value}(h:RelV (fV f) u):fIs f u=true:=by
 cases f with
 | none=>cases(show u=Value.none from h);rfl
 | some k=>exact aO8 (P:=P) (w:=w) h
theorem ay6 {P:aA}{w:World}:∀ {ks:List FK} {us:List Value},Vals (ks.map fV) us->ItemsAre (qA P w) ks us
 | [],_,r=>by rw[dm]at r;cases r;exact .nil
 | k::ks,_,r=>by
  rw[aN]at r
  cases r with
  | cons h t=>exact .cons (bO7 (P:=P) (w:=w) h) (ay6 t)
theorem bT2 {P:aA}{w:World}{H:Hp}{h:Heap}(ok:HOk P w H h):∀ {ks:List NI} {F:List V} {us:List Value},cJ (NAt H) ks F->Vals F us->cJ (NIs P w h) ks us
 | _,_,_,.nil,r=>by cases r;exact .nil
 | _,_,_,.cons (a:=k) q t,r=>by
  cases r with
  | cons B t1 =>
   refine .cons ?_ (bT2 ok t t1)
   cases k with
   | inl f=>cases q;exact bO7 (P:=P) (w:=w) B
   | inr l =>
    obtain⟨c,rfl,e⟩:=q
    cases B
    obtain⟨_,its,r,o,B,G,n,h3⟩:=(show ab7 P w H h c (.tup (l.map fV))from ok c _ e)
    exact⟨c,rfl,o,its.toArray,n,B,G,h3,by simpa using ay6 r⟩
abbrev KT (H:Hp):List (List NI×V)->List (List NI×Addr×Value)->Prop:=cJ λ p q=>p.1=q.1/\NK H p.1 q.2.1/\RelV p.2 q.2.2
theorem KT.val {H:Hp}{B:List (List NI×V)}{F:List (List NI×Addr×Value)}(r:KT H B F)(k:List NI):aO4 (aA5 B k) ((atKey F k).map (·.2)):=by
 induction r with
 | nil=>exact True.intro
 | @cons p q ps qs h t ih =>
  obtain⟨G,_,J⟩:=h
  by_cases e:p.1=k
  ·have e':q.1=k:=G.symm.trans e
   have b:atKey (q::qs) k=some q.2:=by simp[atKey,cX,e']
   rw[ai9 e,b];exact J
  ·have e':¬ q.1=k:=λ z=>e (G.trans z)
   have b:atKey (q::qs) k=atKey qs k:=by simp[atKey,cX,e']
   rw[ai3 e,b];exact ih
theorem KT.repl {H:Hp}{B:List (List NI×V)}{Y:List (List NI×Addr×Value)}(r:KT H B Y)(k:List NI){y:V}{u:Value}(Z:RelV y u) :
  KT H (B.map λ G=>if G.1=k then(G.1,y)else G) (Y.map (putAt k u)):=by
 induction r with
 | nil=>exact .nil
 | @cons p q ps qs h t ih =>
  rw[aN,aN]
  refine .cons ?_ ih
  obtain⟨F,J,h3⟩:=h
  unfold putAt
  by_cases e:p.1=k
  ·rw[if_pos e,if_pos (F.symm.trans e)];exact⟨F,J,Z⟩
  ·rw[if_neg e,if_neg (λ z=>e (F.trans z))];exact⟨F,J,h3⟩
theorem KT.put {H:Hp}{h:List (List NI×V)}{B:List (List NI×Addr×Value)}(r:KT H h B)(k:List NI){b:Addr}{y:V}{u:Value}(hb:NK H k b)(F:RelV y u) :
  KT H (ao1 h k y) (storedH B k b u):=by
 have e:(h.any λ G=>decide (G.1=k))=(atKey B k).isSome:=by
  rw[at8,(r.val k).isSome_eq,fK]
 unfold ao1 storedH
 rw[e]
 by_cases q:(atKey B k).isSome=true
 ·rw[if_pos q,if_pos q];exact r.repl k F
 ·rw[if_neg q,if_neg q];exact kP r ⟨rfl,hb,F⟩
theorem KT.keeps {H H':Hp}{h:List (List NI×V)}{B:List (List NI×Addr×Value)}(r:KT H h B)(F:∀ b ys,H b=some (.tup ys)->H' b=some (.tup ys)):KT H' h B :=
 cJ.mapP r λ _ _ z=>⟨z.1,z.2.1.mono F,z.2.2⟩
section
variable {P:aA} {w:World} {H:Hp} {h:Heap} {a:Addr}
theorem bQ1 {u:HO}(ok:HOk P w H h)(e:Rd H a u):ab7 P w H h a u:=e.ok ok
theorem aV7 {B:List (Key×V)}(ok:HOk P w H h)(e:Rd H a (.dK B)):B.length<=aI/\(a==cM)=false/\∃ vs,KV B vs/\h.DictOf (zM P w) a vs :=
 show ab7 P w H h a (.dK B)from bQ1 ok e
theorem bS2 {B:List (Key×V)}(ok:HOk P w H h)(e:H a=some (.dK B)):B.length<=aI/\(a==cM)=false/\∃ vs,KV B vs/\h.DictOf (zM P w) a vs:=aV7 ok (.inl e)
theorem ao5 {ks:List NI}(ok:HOk P w H h)(e:NK H ks a):(an6 P w).is h ks a:=by
 obtain⟨F,e,p⟩:=e
 obtain⟨_,its,r,o,G,B,n,h3⟩:=(show ab7 P w H h a (.tup F)from ok a _ e)
 exact⟨o,its.toArray,n,G,B,h3,by simpa using bT2 ok p r⟩
theorem aX6 {B:List (List NI×V)}(ok:HOk P w H h)(e:Rd H a (.dT B)):B.length<=aI/\(a==cM)=false /\
  ∃ F,KT H B F/\h.DictOfH (an6 P w) a F:=by
 obtain⟨z,y,F,r,o,es,ep,Z,J,h3,Y,G⟩:=(show ab7 P w H h a (.dT B)from bQ1 ok e)
 refine⟨z,y,F,r,o,es,ep,Z,J,h3,Y,λ x hx=>?_,G⟩
 have all:∀ {l:List (List NI×V)} {m:List (List NI×Addr×Value)},KT H l m->∀ x∈m,(an6 P w).is h x.1 x.2.1:=by
  intro l m q
  induction q with
  | nil=>intro x hx;exact nomatch hx
  | @cons p q ps qs hq t ih =>
   intro x hx
   rcases aC.mp hx with e|hx
   ·subst e
    exact ao5 ok (by rw[<-hq.1];exact hq.2.1)
   ·exact ih x hx
 exact all r x hx
theorem bG2 {B:List (List NI×V)}(ok:HOk P w H h)(e:H a=some (.dT B)):B.length<=aI/\(a==cM)=false /\
  ∃ F,KT H B F/\h.DictOfH (an6 P w) a F:=aX6 ok (.inl e)
end
def aA6 (H:Hp)(a:Addr)(y:V)(r:Option V):Prop :=
 (∃ kvs k,Rd H a (.dK kvs)/\y=kV k/\r=aA5 kvs k)\/∃ kvs k b,Rd H a (.dT kvs)/\y=.ref b/\NK H k b/\r=aA5 kvs k
def by6 (H:Hp)(a:Addr)(y v:V)(H':Hp):Prop :=
 (∃ kvs k,H a=some (.dK kvs)/\y=kV k/\kvs.length<aI/\H'=upd H a (.dK (ao1 kvs k v))) \/
 ∃ kvs k b,H a=some (.dT kvs)/\y=.ref b/\NK H k b/\kvs.length<aI/\H'=upd H a (.dT (ao1 kvs k v))
theorem aA6.k {H:Hp}{a:Addr}{h:List (Key×V)}{k:Key}(e:H a=some (.dK h)):aA6 H a (kV k) (aA5 h k):=.inl ⟨h,k,.inl e,rfl,rfl⟩
theorem aA6.t {H:Hp}{a b:Addr}{h:List (List NI×V)}{k:List NI}(e:H a=some (.dT h))(eb:NK H k b):aA6 H a (.ref b) (aA5 h k):=.inr ⟨h,k,b,.inl e,rfl,eb,rfl⟩
theorem by6.k {H:Hp}{a:Addr}{h:List (Key×V)}{k:Key}{v:V}(e:H a=some (.dK h))(hl:h.length<aI):by6 H a (kV k) v (upd H a (.dK (ao1 h k v))):=.inl ⟨h,k,e,rfl,hl,rfl⟩
theorem by6.t {H:Hp}{a b:Addr}{h:List (List NI×V)}{k:List NI}{v:V}(e:H a=some (.dT h))(eb:NK H k b)(hl:h.length<aI) :
  by6 H a (.ref b) v (upd H a (.dT (ao1 h k v))):=.inr ⟨h,k,b,e,rfl,eb,hl,rfl⟩
section
variable {X:Cx} {pins:List (Addr×Obj)} {σ:St} {H:Hp} {s:ae} {a:Addr} {y v:V} {u r:Value} {o:Option V} {A:aO} {E:Value->ae->Prop}
theorem Inv.big (I:Inv X pins σ H s):cM<s.heap.objs.size:=by
 have h:bh<s.heap.objs.size:=(I.mod.glob.keeps I.bk).lt
 exact gF (by decide) h
theorem aw4 {Q:Value->ae->Prop}(hu:A.units+2<cLine)(I:Inv X pins σ H s)(g:aA6 H a y (some v))(ry:RelV y u)(h:∀ G s',Inv X pins σ H s'->RelV v G->Q G s') :
  wpAny (model X.prog X.w) A (gu (.ref a) u) Q E s:=by
 rcases g with⟨J,k,e,Z,l⟩|⟨J,k,b,e,Z,eb,l⟩
 ·subst Z
  obtain⟨z,hd,vs,B,dd⟩:=aV7 I.hok e
  obtain⟨G,hw,F⟩:=aO4.some_of (v:=v) (o:=iB vs k) (by rw[l];exact B.val k)
  exact wpAny_getItem_of (aO8 ry) dd.mapOf hw (h G _ (I.tok _) F)
 ·subst Z
  cases(show u=Value.ref b from ry)
  obtain⟨z,hd,xs,B,dd⟩:=aX6 I.hok e
  obtain⟨G,hw,F⟩:=aO4.some_of (v:=v) (o:=(atKey xs k).map (·.2)) (by rw[l];exact B.val k)
  obtain⟨p,hp,Y⟩:=bU.mp hw
  refine wpAny_getItem_heap (show _<_ from hu) (ao5 I.hok eb) dd hp ?_
  rw[Y]
  exact h G _ (I.tok _) F
theorem ce8 {Q:Value->ae->Prop}(hu:A.units+2<cLine)(I:Inv X pins σ H s)(g:aA6 H a y o)(J:RelV y u)(h:∀ s',Inv X pins σ H s'->Q (.bool o.isSome) s') :
  wpAny (model X.prog X.w) A (cZ .In u (.ref a)) Q E s:=by
 rcases g with⟨F,k,e,G,l⟩|⟨F,k,b,e,G,eb,l⟩
 ·subst G
  obtain⟨z,hd,vs,B,dd⟩:=aV7 I.hok e
  refine wpAny_in_of (aO8 J) hd dd.mapOf ?_
  rw[<-(B.val k).isSome_eq,<-l]
  exact h _ (I.tok _)
 ·subst G
  cases(show u=Value.ref b from J)
  obtain⟨z,hd,Y,B,dd⟩:=aX6 I.hok e
  refine wpAny_in_heap (show _<_ from hu) (ao5 I.hok eb) hd dd ?_
  have q:=(B.val k).isSome_eq
  rw[fK]at q
  rw[<-q,<-l]
  exact h _ (I.tok _)
theorem ba7 {Q:Value->ae->Prop}(hu:A.units+2<cLine)(I:Inv X pins σ H s)(g:aA6 H a y o)(J:RelV y u)(h:∀ s',Inv X pins σ H s'->Q (.bool (!o.isSome)) s') :
  wpAny (model X.prog X.w) A (cZ .NotIn u (.ref a)) Q E s:=by
 rcases g with⟨F,k,e,G,l⟩|⟨F,k,b,e,G,eb,l⟩
 ·subst G
  obtain⟨z,hd,vs,B,dd⟩:=aV7 I.hok e
  refine wpAny_notIn_of (aO8 J) hd dd.mapOf ?_
  rw[<-(B.val k).isSome_eq,<-l]
  exact h _ (I.tok _)
 ·subst G
  cases(show u=Value.ref b from J)
  obtain⟨z,hd,Y,B,dd⟩:=aX6 I.hok e
  refine wpAny_notIn_heap (show _<_ from hu) (ao5 I.hok eb) hd dd ?_
  have q:=(B.val k).isSome_eq
  rw[fK]at q
  rw[<-q,<-l]
  exact h _ (I.tok _)
theorem aq8 {h':Heap}{t':Nat}{ob:HO}(I:Inv X pins σ H s)(mu:Mut (H a))(hs:dS a s.heap h')(he:∃ q,h'.get? a=some q)(new:ab7 X.prog X.w (upd H a ob) h' a ob) :
  Inv X pins σ (upd H a ob) { s with heap:=h',toks:=t' } :=
 I.write (x:=a) (e:=a) mu (.inl rfl) (λ b q hb z=>(hs.2 b hb).trans z) he new
theorem bm4 {P:aA}{w:World}{H':Hp}{h':Heap}{h:List (Key×V)}{vs:List (Key×Value)}(z:h.length<=aI)(hd:(a==cM)=false)(B:KV h vs)(dd:h'.DictOf (zM P w) a vs) :
  ab7 P w H' h' a (.dK h):=⟨z,hd,vs,B,dd⟩
theorem aA0 {H':Hp}{Q:Unit->ae->Prop}(hu:A.units+2<cLine)(I:Inv X pins σ H s)(g:by6 H a y v H')(ry:RelV y u)(Z:RelV v r)(h:∀ s',Inv X pins σ H' s'->Q () s') :
  wpAny (model X.prog X.w) A (setItem (.ref a) u r) Q E s:=by
 rcases g with⟨F,k,e,Y,l,J⟩|⟨F,k,b,e,Y,eb,l,J⟩
 ·subst Y J
  obtain⟨z,hd,vs,B,dd⟩:=bS2 I.hok e
  have hz:vs.length<=aI:=by rw[<-B.length];exact z
  have hl:(ao1 F k v).length<=aI:=by have:=qQ F k v;omega
  refine wpAny_setItem_pairs (hsz:=hz) (aO8 ry) dd λ h' G hs=>h _ ?_
  have he:∃ q,h'.get? a=some q:=let⟨q,_,_,hq,_⟩:=G;⟨q,hq⟩
  exact aq8 I (by rw[e];exact True.intro) hs he (bm4 hl hd (B.put k Z) G)
 ·subst Y J
  cases(show u=Value.ref b from ry)
  obtain⟨z,hd,xs,B,dd⟩:=bG2 I.hok e
  have hz:xs.length<=aI:=by rw[<-eG B];exact z
  have hl:(ao1 F k v).length<=aI:=by have:=qQ F k v;omega
  refine wpAny_setItem_heap (hsz:=hz) (show _<_ from hu) (ao5 I.hok eb) dd λ h' G hs=>h _ ?_
  obtain⟨q,es,ep,hq,h2,h3,h4,_,h5⟩:=G
  refine aq8 I (by rw[e];exact True.intro) hs ⟨q,hq⟩ ⟨hl,hd,_,(B.put k eb Z).keeps λ c ys ec=>?_,q,es,ep,hq,h2,h3,h4,h5⟩
  rw[zn (bK4 ec e (λ z=>nomatch z))]
  exact ec
end
section
variable {X:Cx} {pins:List (Addr×Obj)} {σ:St} {H:Hp} {s:ae} {a:Addr} {kvs:List (Key×V)} {k:Key} {u:Value} {A:aO} {E:Value->ae->Prop}
end
theorem am3 {X:Cx}{h:List (Addr×Obj)}{σ:St}{H:Hp}{s:ae}{a:Addr}{y:V}{o:Option V}(I:Inv X h σ H s)(g:aA6 H a y o):s.TypeIs (.ref a) "dict":=by
 rcases g with⟨B,k,e,_,_⟩|⟨B,k,b,e,_,_,_⟩
 ·obtain⟨_,_,vs,_,dd⟩:=aV7 I.hok e
  exact dd.typeIs
 ·obtain⟨_,_,F,_,dd⟩:=aX6 I.hok e
  exact dd.typeIs
section
variable {X:Cx} {o i e value:Expr} {pos pos' tpos:Pos} {td ty tv:TE}
end
theorem aJ9 {P:aA}{w:World}{H:Hp}(h:Heap)(hb:cM<h.objs.size):ab7 P w H (h.push { cls:=.type "dict",data:=.dict #[] }) h.objs.size (.dK []) :=
 ⟨cc _,beq_eq_false_iff_ne.mpr (cq (aD hb)),[],.nil,Heap.DictOf.new h⟩
theorem bf5 {P:aA}{w:World}{H:Hp}(h:Heap)(hb:cM<h.objs.size):ab7 P w H (h.push { cls:=.type "dict",data:=.dict #[] }) h.objs.size (.dT []) :=
 ⟨cc _,beq_eq_false_iff_ne.mpr (cq (aD hb)),[],.nil,_,#[],0,aS _ rfl,⟨rfl,rfl,rfl⟩,rfl,rfl,List.nodup_nil⟩
def bn6:TE:=λ _ H Q=>∀ p,H p=none->Q (.ref p) (upd H p (.dK []))
section
variable {X:Cx} {pos:Pos}
theorem bc5:PE X (.Dict [] [] pos) bn6:=λ B s σ H Q I h =>
 wpAny_Dict_empty ⟨.ref s.heap.objs.size,_,I.laid (a:=s.heap.objs.size) (o:=.dK []) (t':=s.toks) (λ _ _ q=>ao _ q) (ak _) (aJ9 s.heap I.big),rfl,h _ (I.hok.fresh (ak _))⟩
end
noncomputable def aS1:List (TE×TE)->St->Hp->(List (V×V)->Hp->Prop)->Prop
 | [],_,H,Q=>Q [] H
 | (tk,tv)::r,σ,H,Q=>tk σ H λ x H1=>tv σ H1 λ y H2=>aS1 r σ H2 λ ps H3=>Q ((x,y)::ps) H3
abbrev VV:List (V×V)->List (Value×Value)->Prop:=cJ λ p q=>RelV p.1 q.1/\RelV p.2 q.2
def PPs (X:Cx)(pos:Pos)(keys:List (Option Expr))(values:List Expr)(trs:List (TE×TE)):Prop :=
 ∀(pins:List (Addr×Obj)) (s:ae) (σ:St) (H:Hp) (Q:List (V×V)->Hp->Prop),Inv X pins σ H s->aS1 trs σ H Q ->
  wpAny (model X.prog X.w) X.A (evalPairs (pairTrees keys values X.env pos)) (λ vs s'=>∃ ps H',Inv X pins σ H' s'/\VV ps vs/\Q ps H') X.xe s
theorem aQ5 {X:Cx}{pos:Pos}:PPs X pos [] [] []:=λ B s σ H Q I h=>pairTrees_nil_walk ⟨[],H,I,.nil,h⟩
theorem aI4 {X:Cx}{pos:Pos}{k v:Expr}{ks:List (Option Expr)}{vs:List Expr}{tk J:TE}{F:List (TE×TE)}(hk:PE X k tk)(hv:PE X v J)(hr:PPs X pos ks vs F) :
  PPs X pos (some k::ks) (v::vs) ((tk,J)::F):=λ B s σ H Q I h =>
 pairTrees_cons_walk (thn (hk B s σ H _ I h) λ u s1 ⟨x,H1,I1,rx,Z⟩=>thn (hv B s1 σ H1 _ I1 Z) λ w2 s2 ⟨y,Y,I2,ry,q2⟩ =>
  thn (hr B s2 σ Y _ I2 q2) λ ws s3 ⟨ps,H3,I3,G,q3⟩=>⟨(x,y)::ps,H3,I3,.cons ⟨rx,ry⟩ G,q3⟩)
noncomputable def ax6 (kvs more:List (Key×V)):List (Key×V):=more.foldl (λ acc kv=>ao1 acc kv.1 kv.2) kvs
theorem KV.merge:∀ {B:List (Key×V)} {G:List (Key×Value)} {F:List (Key×V)} {vs:List (Key×Value)},KV B G->KV F vs->KV (ax6 F B) (merged vs G):=by
 intro B G F vs r
 unfold KV at r
 induction r generalizing F vs with
 | nil=>intro q;exact q
 | @cons p q ps qs h t ih =>
  intro J
  have e:KV (ao1 F p.1 p.2) (stored vs q.1 q.2):=by
   have:=J.put p.1 h.2
   rw[<-h.1];exact this
  exact ih e
theorem af7:∀(B h:List (Key×V)),(ax6 h B).length<=h.length+B.length
 | [],h=>by show h.length<=h.length+0;omega
 | p::r,h=>by
  have F:=af7 r (ao1 h p.1 p.2)
  have G:=qQ h p.1 p.2
  show(ax6 (ao1 h p.1 p.2) r).length<=_
  rw[aX];omega
theorem ao6 {P:aA}{w:World}:∀ {B:List (Key×V)} {ws:List (Value×Value)},VV (B.map λ G=>(kV G.1,G.2)) ws->∃ F,Carries (zM P w) ws F/\KV B F
 | [],_,r=>by rw[dm]at r;cases r;exact⟨[],True.intro,.nil⟩
 | p::B,_,r=>by
  rw[aN]at r
  cases r with
  | @cons a b as bs h t =>
   obtain⟨F,c,q⟩:=ao6 (P:=P) (w:=w) t
   obtain⟨Y,J⟩:=b
   exact⟨(p.1,J)::F,⟨aO8 h.1,rfl,c⟩,.cons ⟨rfl,h.2⟩ q⟩
def bU0 (trs:List (TE×TE)):TE:=λ σ H Q=>∀ p,H p=none->aS1 trs σ (upd H p (.dK [])) λ ps H2=>H2 p=some (.dK [])/\∃ kvs:List (Key×V),ps=kvs.map (λ kv=>(kV kv.1,kv.2))/\kvs.length<=15/\Q (.ref p) (upd H2 p (.dK (ax6 [] kvs)))
theorem bw7 {X:Cx}{pos:Pos}{keys:List (Option Expr)}{B:List Expr}{F:List (TE×TE)}(h:PPs X pos keys B F)(G:keys.all (·.isSome)=true)(hl:keys.length=B.length)(h0:keys≠[])
  (a1:keys.length<=15):PE X (.Dict keys B pos) (bU0 F):=by
 intro Y s σ H Q I q
 have hn:=I.hok.fresh (ak s.heap.objs.size)
 have I1:=I.laid (a:=s.heap.objs.size) (o:=.dK []) (h':=s.heap.push { cls:=.type "dict",data:=.dict #[] }) (t':=s.toks) (λ _ _ q=>ao _ q) (ak _) (aJ9 s.heap I.big)
 refine wpAny_Dict_walk (knd:=zM X.prog X.w) G hl h0 a1 (thn (h Y _ σ _ _ I1 (q _ hn)) λ ws s2 ⟨ps,H2,I2,a0,e,J,ep,lk,q2⟩=>?_)
 subst ep
 obtain⟨rs,c,rk⟩:=ao6 (P:=X.prog) (w:=X.w) a0
 obtain⟨z,hd,a2,r0,dd⟩:=bS2 I2.hok e
 cases r0
 refine⟨rs,c,dd,λ h' Z hs=>⟨.ref s.heap.objs.size,_,?_,rfl,q2⟩⟩
 have hz:(ax6 [] J).length<=aI:=by
  have h1:=af7 J []
  rw[eW]at h1
  rw[eM];omega
 have he:∃ q,h'.get? s.heap.objs.size=some q:=let⟨q,_,_,hq,_⟩:=Z;⟨q,hq⟩
 exact aq8 I2 (by rw[e];exact True.intro) hs he (bm4 hz hd (rk.merge .nil) Z)
structure M2 (X:Cx)(o:Expr)(m:Str)(apos:Pos)(e f:Expr)(cpos:Pos):Prop where
 base:eI o m X.env (eval o X.env)=eval o X.env
 few:((dU cpos (br [e,f] X.env)).all (λ x=>!x.1)&&(backToKw cpos (jH [] X.env)).all (λ x=>x.1.isSome)
  && decide (([e,f]:List Expr).length+([]:List iy).length+(if([]:List iy).isEmpty then 0 else 1)<30))=true
 line:(apos.endLine==cpos.line)=true
 trees:dU cpos (br [e,f] X.env)=[(false,eval e X.env),(false,eval f X.env)]
section
variable {X:Cx} {pins:List (Addr×Obj)} {σ:St} {H:Hp} {s:ae} {a:Addr} {y d:V} {u r:Value} {o:Option V} {A:aO} {E:Value->ae->Prop}
end
section
variable {X:Cx} {o e f:Expr} {apos cpos:Pos} {td ty tx:TE}
end
section
variable {P:aA} {w:World} {A:aO} {E:Value->ae->Prop} {s:ae}
end
section
variable {X:Cx} {pins:List (Addr×Obj)} {σ:St} {H:Hp} {s:ae}
end
section
variable {prog:aA} {w:World} {A:aO} {R:jY->ae->Prop} {I:Addr} {fp wr:List Addr} {n:Nat} {P:Nat->Value->Prop} {St:Nat->Heap->Prop} {kw:List (Str×Value)}
end
theorem bv5 (i:Int)(h:0<=i):j6 i 1=i % 2:=by
 unfold j6
 rw[decide_eq_true h]
 show((i.toNat &&& (1:Int).toNat:Nat):Int)=_
 rw[show(1:Int).toNat=1 from rfl,Nat.and_one_is_mod]
 omega
theorem bB4 {X:Cx}:OpR X (bS .BitAnd) (rI (λ i j=>0<=i/\j=1) λ i j=>.int (i % 2)):=opI λ i j _ _ _ _ _ hc q=>by
 obtain⟨h0,rfl⟩:=hc
 refine and_int ?_
 rw[bv5 i h0]
 exact q
def XAt (h:Heap)(x C:Addr):Prop:=∃ ox,h.get? x=some ox/\ox.cls=Value.ref C
theorem XAt.type {M:Model}{h:Heap}{x C:Addr}(I:XAt h x C):PySem.W.Looks M h (kC (Value.ref x)) (Value.ref C):=by
 obtain⟨G,F,B⟩:=I
 exact B▸kJ (kU F) kT
noncomputable def zA (h:Heap)(l:List Addr):Heap:={ h with objs:=h.objs.mapIdx λ i o=>if i∈l then { o with data:=.freed } else o }
theorem zp {h:Heap}{l:List Addr}{b:Addr}(hb:b∈l):(zA h l).get? b=none:=by
 unfold Heap.get? zA
 simp only[gX]
 cases e:h.objs[b]? with
 | none=>rfl
 | some o=>simp only[dG,if_pos hb]
theorem qu {h:Heap}{l:List Addr}{b:Addr}(hb:b ∉ l):(zA h l).get? b=h.get? b:=by
 unfold Heap.get? zA
 simp only[gX]
 cases e:h.objs[b]? with
 | none=>rfl
 | some o=>simp only[dG,if_neg hb]
theorem zZ {h:Heap}{l:List Addr}:(zA h l).StaysIn h:=λ b o e=>by
 by_cases hb:b∈l
 ·rw[zp hb]at e;cases e
 ·rwa [qu hb]at e
theorem without_none {h:Heap}{l:List Addr}{b:Addr}(e:(zA h l).get? b=none):b∈l\/h.get? b=none:=by
 by_cases hb:b∈l
 ·exact .inl hb
 ·rw[qu hb]at e;exact .inr e
theorem al3 {h base B:Heap}:∀ {l:List Env},h.FunFrames base l->(∀ b∈frs l,B.get? b=none)->h.FunFrames B l
 | [],_,_=>True.intro
 | env::l,⟨k,⟨L,o,hf,_,ho,hd⟩,r⟩,hb=>by
  have F:frs (env::l)=L::frs l:=by unfold frs;rw[aR,hf]
  rw[F]at hb
  exact⟨k,⟨L,o,hf,hb L (ar ..),ho,hd⟩,al3 r λ b z=>hb b (ai _ z)⟩
theorem HOk.part {P:aA}{w:World}{H:Hp}{h h':Heap}(x:HOk P w H h)(k:∀ b u o,H b=some u->h.get? b=some o->h'.get? b=some o):HOk P w H h':=λ a o e =>
 (x a o e).stay (λ b u hb q=>by
  rcases hb with rfl|hb
  ·exact k _ _ _ e q
  ·exact k _ _ _ hb q) (λ _ q=>q) λ _ _ q=>q
theorem ab7.at_ {P:aA}{w:World}{H:Hp}{h:Heap}{a:Addr}{o:HO}(x:ab7 P w H h a o):∃ u,h.get? a=some u:=by
 cases o with
 | lst xs=>obtain⟨_,_,_,_,e⟩:=x;exact⟨_,e⟩
 | tup xs=>obtain⟨_,_,_,ob,e,_⟩:=x;exact⟨_,e⟩
 | dK kvs=>obtain⟨_,_,_,_,o,_,_,e,_⟩:=x;exact⟨_,e⟩
 | dT kvs=>obtain⟨_,_,_,_,o,_,_,e,_⟩:=x;exact⟨_,e⟩
 | set S n=>obtain⟨o,_,_,_,e,_⟩:=x;exact⟨_,e⟩
 | ins C dx fs=>obtain⟨_,_,_,e,_⟩:=x;exact⟨_,e⟩
 | own y=>exact x
 | xd fs=>obtain⟨_,⟨_,_,_,e,_⟩,_⟩:=x;exact⟨_,e⟩
 | rng lo hi=>obtain⟨_,_,_,e⟩:=x;exact⟨_,e⟩
 | frz ob u=>obtain⟨e,_⟩:=x;exact⟨_,e⟩
 | tbl ps=>exact⟨_,(show h.get? a=some _ from x)⟩
 | met f y=>exact⟨_,(show h.get? a=some _ from x)⟩
 | ext φ=>obtain⟨_,e,_⟩:=x;exact e
structure Fly (h0:Heap)(H:Hp)(h:Heap)(a C:Addr):Prop where
 new:h0.get? a=none
 free:H a=none
 at_:∃ a0 oe vs T oT ts,h.get? a=some oe/\(oe.cls=.ref C/\vs[0]?=some a0)/\oe.data=.fields vs/\vs[1]?=some (.ref T)/\h0.get? T=none/\H T=none/\T≠a/\h.get? T=some oT/\oT.data=.fields ts/\ts[3]?=some .none
section
variable {X:Cx} {pins:List (Addr×Obj)} {σ:St} {H:Hp} {s:ae} {a C:Addr} {a0:Value}
theorem aZ3 (I:Inv X pins σ H s)(F:X.ex=[]){bs:List Addr}(a2:∀ b∈frs X.stack,b∈bs)(hb:∀ b∈bs,b∈frs X.stack\/(X.s₀.heap.get? b=none/\H b=none))(n0:X.s₀.heap.get? a=none)(nH:H a=none)(B:∀ b∈X.fs,b∈frs X.stack)
  {h':Heap} (L:Heap.LeftW (zA s.heap bs) X.stack a (.ref C) a0 s.heap h'):Un X.fs [] X.H₀ H X.s₀.heap h'/\HOk X.prog X.w H h'/\Fly X.s₀.heap H h' a C:=by
 obtain⟨st,ff,tr,sl⟩:=L
 have un:=I.base
 rw[F]at un
 have keep:∀ b o,b ∉ bs->s.heap.get? b=some o->h'.get? b=some o:=λ b o n e=>st b o (by rw[qu n];exact e)
 have slot:∀ b o,b∈frs X.stack->s.heap.get? b=some o->∃ sl,h'.get? b=some { o with slots:=sl }:=λ b o n e=>by
  obtain⟨_,Z,e',d⟩:=I.stack.mem n
  rw[e]at e';cases e'
  exact sl b o e d
 have out:∀ b o,X.s₀.heap.get? b=some o->b ∉ frs X.stack->b ∉ bs:=λ b o e n z=>by
  rcases hb b z with q|⟨q,_⟩
  ·exact n q
  ·rw[e]at q;cases q
 have G:∀ b o,X.s₀.heap.get? b=some o->b ∉ X.fs->b ∉ frs X.stack:=λ b o e n z=>by
  rcases aC.mp (I.stkSub b z)with q|q
  ·subst q
   exact absurd (aE e) (j4.mpr I.ok.above)
  ·exact n q
 refine⟨⟨λ b o e n h nx=>?_,λ b o e n h nx=>?_,un.free,λ b o e nx=>?_,un.tups,un.frzs,un.tbls⟩,I.hok.part λ b u o e q=>?_,⟨n0,nH,?_⟩⟩
 ·exact keep b o (out b o e (G b o e h)) (un.keep b o e n h nx)
 ·obtain⟨a1,e1⟩:=un.slot b o e n h nx
  obtain⟨J,e2⟩:=slot b _ (B b h) e1
  exact⟨J,e2⟩
 ·obtain⟨o1,e1⟩:=un.there b o e nx
  by_cases z:b∈frs X.stack
  ·obtain⟨_,e2⟩:=slot b _ z e1
   exact⟨_,e2⟩
  ·exact⟨_,keep b o1 (out b o e z) e1⟩
 ·refine keep b o (λ z=>?_) q
  rcases hb b z with y|⟨_,y⟩
  ·rw[I.stkFree b y]at e;cases e
  ·rw[y]at e;cases e
 ·obtain⟨oe,vs,T,oT,ts,h1,h2,h3,h4,h5,h6,h7,Y,h9⟩:=tr
  have key:X.s₀.heap.get? T=none/\H T=none:=by
   rcases without_none h5 with z|z
   ·rcases hb T z with y|y
    ·obtain⟨_,Z,e',d⟩:=ff.mem y
     rw[h7]at e';cases e'
     exact absurd Y (d _)
    ·exact y
   ·refine⟨?_,?_⟩
    ·cases e:X.s₀.heap.get? T with
     | none=>rfl
     | some o=>obtain⟨Z,e'⟩:=un.there T o e (by simp);rw[z]at e';cases e'
    ·cases e:H T with
     | none=>rfl
     | some o=>obtain⟨u,e'⟩:=(I.hok T o e).at_;rw[z]at e';cases e'
  exact⟨a0,oe,vs,T,oT,ts,h1,h2,h3,h4,key.1,key.2,h6,h7,Y,h9⟩
theorem aZ1 {Y:Obj}{vs:Array Value}(I:Inv X pins σ H s)(Z:X.ex=[])(h:X.stack=X.env::X.outer)(B:X.env.frame=some X.env.locals)(n0:X.s₀.heap.get? a=none)(nH:H a=none)
  (h1:s.heap.get? a=some Y) (h2:Y.cls=.ref C) (h3:Y.data=.fields vs) (h4:vs[1]?=some .none) (h5:vs[0]?=some a0) {Q:Unit->ae->Prop} {E:Value->ae->Prop}
  (k:∀ h',Un X.fs [] X.H₀ H X.s₀.heap h'->HOk X.prog X.w H h'->Fly X.s₀.heap H h' a C->Q () { s with heap:=h' }):wpAny (model X.prog X.w) X.A (leaving X.env (.ref a)) Q E s:=by
 have J:s.heap.FunFrames (zA s.heap (a::frs X.stack)) X.stack:=al3 I.stack λ b hb=>zp (ai _ hb)
 have G:∀ b∈X.fs,b∈frs X.stack:=λ b hb=>by rw[h];unfold frs;rw[aR,B];exact ai _ hb
 have F:=I.ok.frames
 rw[h]at F
 refine wpAny_leaving_firstW (base:=zA s.heap (a::frs X.stack)) F (by rw[<-h];exact J) B h1 zZ (zp (ar ..)) h3 h4 h5 λ h' L=>?_
 rw[h2,<-h]at L
 obtain⟨u,o,f⟩:=aZ3 I Z (λ b hb=>ai _ hb) (λ b hb=>by
  rcases aC.mp hb with q|q
  ·subst q;exact .inr ⟨n0,nH⟩
  ·exact .inl q) n0 nH G L
 exact k h' u o f
theorem aP4 (I:Inv X pins σ H s)(Z:X.ex=[])(h:X.stack=X.env::X.outer)(B:X.env.frame=some X.env.locals)(F:Fly X.s₀.heap H s.heap a C){Q:Unit->ae->Prop}{E:Value->ae->Prop}
  (k:∀ h',Un X.fs [] X.H₀ H X.s₀.heap h'->HOk X.prog X.w H h'->Fly X.s₀.heap H h' a C->Q () { s with heap:=h' }):wpAny (model X.prog X.w) X.A (leaving X.env (.ref a)) Q E s:=by
 obtain⟨n0,nH,a0,oe,vs,T,oT,ts,h1,h2,h3,h4,h5,h6,h7,h8,h9,a1⟩:=F
 have Y:s.heap.FunFrames (zA s.heap (a::T::frs X.stack)) X.stack:=al3 I.stack λ b hb=>zp (ai _ (ai _ hb))
 have J:∀ b∈X.fs,b∈frs X.stack:=λ b hb=>by rw[h];unfold frs;rw[aR,B];exact ai _ hb
 have G:=I.ok.frames
 rw[h]at G
 refine wpAny_leaving_nextW (base:=zA s.heap (a::T::frs X.stack)) G (by rw[<-h];exact Y) B ⟨oe,vs,T,oT,ts,h1,h2,h3,h4,zp (by simp),h7,h8,h9,a1⟩ zZ (zp (ar ..)) λ h' L=>?_
 rw[<-h]at L
 obtain⟨u,o,f⟩:=aZ3 I Z (λ b hb=>ai _ (ai _ hb)) (λ b hb=>by
  rcases aC.mp hb with q|q
  ·subst q;exact .inr ⟨n0,nH⟩
  ·rcases aC.mp q with q|q
   ·subst q;exact .inr ⟨h5,h6⟩
   ·exact .inl q) n0 nH J L
 exact k h' u o f
end
noncomputable def CX1 (P:aA)(w:World):CXT:=λ outer H s E e s'=>∃ a C H',e=.ref a/\s'.os=s.os/\eZ s'.gens/\Un (frs outer) [] H H' s.heap s'.heap/\HOk P w H' s'.heap/\Fly s.heap H' s'.heap a C/\E e (some C) H'
theorem CX1.inv {X:Cx}{B:List (Addr×Obj)}{σ:St}{H:Hp}{s s':ae}{E:XK}{e:Value}(I:Inv X B σ H s)(J:X.ex=[])(h:CX1 X.prog X.w X.stack H s E e s') :
  ∃ a C H',e=.ref a/\Inv X B σ H' s'/\Fly X.s₀.heap H' s'.heap a C/\E e (some C) H':=by
 obtain⟨a,C,H',rfl,os,bare,un,hok,F,q⟩:=h
 have G:∀ b,s.heap.get? b=none->X.s₀.heap.get? b=none:=λ b z=>by
  cases e:X.s₀.heap.get? b with
  | none=>rfl
  | some o=>obtain⟨o',e'⟩:=I.base.there b o e (by rw[J];simp);rw[z]at e';cases e'
 obtain⟨n0,nH,a0,Z,vs,T,Y,ts,h1,h2,h3,h4,h5,h6,h7⟩:=F
 exact⟨a,C,H',rfl,I.call' os un hok bare (ch:=[]) (λ b z=>absurd z (by simp)),⟨G _ n0,nH,a0,Z,vs,T,Y,ts,h1,h2,h3,h4,G _ h5,h6,h7⟩,q⟩
section
variable {P:aA} {w:World} {K:ac} {mg:Str->Option Value} {base:Heap} {N:List Str} {qual:Str} {scope:Scope} {f:Addr} {cd:Value} {A:aO} {outer:List Env} {s0:ae} {H0:Hp} {E:XK}
theorem bY9:af0 (CX1 P w) (ar2 (CX1 P w) P w K mg base N qual scope f cd A outer s0 H0 E) E:=by
 intro B σ H s e s' I h
 obtain⟨a,C,H',rfl,J,F,q⟩:=CX1.inv I rfl h
 exact aP4 J rfl rfl rfl F λ h' u o G=>⟨a,C,H',rfl,J.os,J.bare,u,o,G,q⟩
def aO7 (X:Cx)(E:XK):Prop:=∀(pins:List (Addr×Obj)) (σ:St) (H:Hp) (s:ae) (h':Heap) (a C:Addr) (args:List Value),Inv X pins σ H s->Heap.MadeExcOf s.heap h' a (.ref C) args->E (.ref a) (some C) H->X.xe (.ref a) { s with heap:=h' }
theorem bW4:aO7 (ar2 (CX1 P w) P w K mg base N qual scope f cd A outer s0 H0 E) E:=by
 intro h σ H s h' a C args I M q
 have J:Inv (ar2 (CX1 P w) P w K mg base N qual scope f cd A outer s0 H0 E) h σ H { s with heap:=h' }:=I.kept (t':=s.toks) M.keeps
 obtain⟨t,B,_⟩:=M.there
 refine aZ1 (a0:=.ref t) J rfl rfl rfl ?_ ?_ B rfl rfl rfl rfl λ G u o F=>⟨a,C,H,rfl,J.os,J.bare,u,o,F,q⟩
 ·show s0.heap.get? a=none
  cases e:s0.heap.get? a with
  | none=>rfl
  | some o =>
   obtain⟨Y,e'⟩:=I.base.there a o e (by show a ∉ ([]:List Addr);simp)
   rw[M.new]at e';cases e'
 ·cases e:H a with
  | none=>rfl
  | some o =>
   obtain⟨u,e'⟩:=(I.hok a o e).at_
   rw[M.new]at e';cases e'
end
noncomputable def excTail:List Value:=[.type "ValueError",.type "Exception",.type "BaseException",.type "object"]
noncomputable def nsQ (K:ac)(N:Addr):Bool:=match K.lookup N with
 | some ⟨_,_,.dict es _,_⟩=>(es.all λ e=>match e.key with|.str _ _=>true|_=>false)&&j7.all λ n=>(nsFind es n).isNone
 | _=>false
noncomputable def bc6 (K:ac):List Value->Bool
 | .ref A::tl=>(match K.lookup A with|some ⟨_,_,.cls cd,_⟩=>nsQ K cd.ns|_=>false)&&bc6 K tl
 | l=>l==excTail
noncomputable def bV7 (K:ac)(C:Addr):Bool:=match K.lookup C with
 | some ⟨c,_,.cls cd,⟨[_,_,_,_,k4,_]⟩⟩=>c==.type "type"&&(!cd.hasDel&&(nsQ K cd.ns&&((match cd.mro with|m::tl=>m==.ref C&&bc6 K tl|[]=>false)&&k4==some (.builtin "ValueError.__new__"))))
 | _=>false
theorem bm8 {K:ac}{N:Addr}(h:nsQ K N=true):∃ B:Str->Option Value,(∀ n∈j7,B n=none)/\∀ h:Heap,K.In h->h.Ns N B:=by
 unfold nsQ at h
 split at h
 ·rename_i c d es ep sl e
  rw[ah]at h
  refine⟨nsFind es,λ n hn=>?_,λ F hK=>⟨_,es,ep,hK _ _ e,rfl,λ x hx=>?_,λ _=>rfl⟩⟩
  ·have:=aK.mp h.2 n hn
   exact Option.isNone_iff_eq_none.mp this
  ·have:=Array.all_eq_true'.mp h.1 x hx
   split at this
   ·rename_i q;exact⟨_,_,q⟩
   ·cases this
 ·cases h
theorem aJ2 {K:ac}:∀ {l:List Value},bc6 K l=true->∀ h:Heap,K.In h->OwnTailQ h excTail l
 | l,h,hp,hK=>by
  unfold bc6 at h
  split at h
  ·rename_i A G
   rw[ah]at h
   obtain⟨B,F⟩:=h
   split at B
   ·rename_i c d J sl e
    obtain⟨Y,q,n⟩:=bm8 B
    exact .own (hK _ _ e) (n hp hK) q (aJ2 F hp hK)
   ·cases B
  ·have:=eq_of_beq h
   subst this
   exact .base
structure ExcCls (K:ac)(C:Addr):Prop where
 obj:∃ bm N nm q bs hdct sn sub ab col dd k0 k1 k2 k3 k5 mN,K.lookup C=some (excClassObj nm q C N bs bm hdct sn sub ab col dd k0 k1 k2 k3 k5 "ValueError.__new__")/\(∀ n∈j7,mN n=none)/\∀ h:Heap,K.In h->h.Ns N mN/\OwnTailQ h excTail bm
theorem bq2 {K:ac}{C:Addr}(h:bV7 K C=true):ExcCls K C:=by
 unfold bV7 at h
 split at h
 ·rename_i c dd cd k0 k1 k2 k3 k4 k5 e
  obtain⟨nm,bs,Y,N,q,hdct,sn,sub,ab,col,G⟩:=cd
  simp only[ah,d5]at h
  obtain⟨h1,F,h3,B,h5⟩:=h
  split at B
  ·rename_i m tl
   rw[ah]at B
   have e1:=eq_of_beq h1
   have e5:=eq_of_beq h5
   have e4:=eq_of_beq B.1
   subst e1 e5 e4
   have F:G=false:=F
   subst F
   obtain⟨Z,q',n⟩:=bm8 h3
   exact⟨tl,N,nm,q,bs,hdct,sn,sub,ab,col,dd,k0,k1,k2,k3,k5,Z,e,q',λ J hK=>⟨n J hK,aJ2 B.2 J hK⟩⟩
  ·cases B
 ·cases h
noncomputable def excI (K:ac)(C:Addr):Bool:=di K (.ref C) (bz "__getattribute__")==some (some (.builtin "BaseException.__getattribute__"))&&(di K (.ref C) (bz "__getattr__")==some none&&(di K (.ref C) (bz "__class__")==some (some (.builtin "object.__class__"))&&(jd K (.builtin "object.__class__") (bz "__get__")==some (some (.builtin "getset_descriptor.__get__"))&&(jL K (.builtin "object.__class__")==some true&&kj K C (.type "object")==some true))))
section
variable {X:Cx} {E:XK} {C:Addr} {x:Str}
theorem bd7 {np B pos p:Pos}{y:Str}{j:Nat}(T:aO7 X E)(hc:ExcCls X.K C)(hg:Gl X x)(Z:X.mg x=some (.ref C))(hh:X.A.handled=none)(hd:(x==("__debug__":Str))=false) :
  PS X (.Raise (some (.Call (.Name x np) [.Constant (.str y) j p] [] B)) none pos) (λ D σ H=>∀ a,E (.ref a) (some C) H):=by
 intro h s σ H D I q
 obtain⟨bm,N,nm,q',bs,hdct,sn,sub,ab,col,dd,k0,k1,k2,k3,k5,mN,e,hq,hN⟩:=hc.obj
 have Y:=hN _ I.kIn
 refine wpAny_Raise_call_subT (nm:=nm) (q:=q') (C:=C) (N:=N) (bs:=bs) (hdct:=hdct) (sn:=sn) (sub:=sub) (ab:=ab) (col:=col) (dd:=dd) (k0:=k0) (k1:=k1) (k2:=k2) (k3:=k3) (k5:=k5) il (OwnTail.hasType Y.2.tail il.hasBase) hh rfl (hq _ (ar ..)) ?_
 refine thn (aB5 (v:=.ref C) hg Z rfl hd h s σ H (λ v F=>v=.ref C/\F=H) I ⟨rfl,rfl⟩) λ u s1 ⟨v,F,I1,r,e1,e2⟩=>?_
 subst e1 e2
 refine⟨r,ic ?_⟩
 have pa:PA X [.Constant (.str y) j p] (av1 (tC (.str y)) bc1):=zY aV8 ad0
 refine thn (pa B h s1 σ F (λ vs J=>vs.length=1/\J=F) I1 ⟨rfl,rfl⟩) λ us s2 ⟨vs,J,G,r2,e3,e4⟩=>?_
 subst e4
 have hl:us.length=1:=by rw[<-r2.length];exact e3
 refine⟨rfl,by show us.length<=_;rw[hl];decide,G.kIn _ _ e,(hN _ G.kIn).1,(hN _ G.kIn).2.tail,λ h' a M=>?_⟩
 exact T h σ J s2 h' a C us G M (q a)
end
structure Tr (X:Cx)(pins:List (Addr×Obj))(σ:St)(H:Hp)(s:ae)(a C:Addr)(fl:Value):Prop where
 inv:Inv X pins σ H s
 n0:X.s₀.heap.get? a=none
 nH:H a=none
 np:∀ p∈X.pn++pins,p.1≠a
 tr:∃ a0 oe vs T oT ts,s.heap.get? a=some oe/\(oe.cls=.ref C/\vs[0]?=some a0)/\oe.data=.fields vs/\vs[1]?=some (.ref T)/\X.s₀.heap.get? T=none/\H T=none/\(∀ p∈X.pn++pins,p.1≠T)/\T≠a/\s.heap.get? T=some oT/\oT.data=.fields ts/\ts[3]?=some fl
section
variable {X:Cx} {pins:List (Addr×Obj)} {σ:St} {H:Hp} {s:ae} {a C T:Addr} {fl fl' a0:Value} {h':Heap}
theorem Tr.stk (B:X.stack=X.env::X.outer)(h:X.env.frame=some X.env.locals):∀ b∈X.fs,b∈frs X.stack:=λ b hb=>by rw[B];unfold frs;rw[aR,h];exact ai _ hb
theorem Tr.moved (t:Tr X pins σ H s a C fl)(a1:X.ex=[])(c3:X.stack=X.env::X.outer)(b2:X.env.frame=some X.env.locals){oT:Obj}{ts:Array Value}(a2:X.s₀.heap.get? T=none)(J:H T=none)(a4:∀ p∈X.pn++pins,p.1≠T)(c2:s.heap.get? T=some oT)(c1:oT.data=.fields ts)
  (st:(zA s.heap (a::T::frs X.stack)).StaysIn h') (ff:h'.FunFrames (zA s.heap (a::T::frs X.stack)) X.stack) (tr:h'.TracedAtW (zA s.heap (a::T::frs X.stack)) a (.ref C) a0 fl')
  (sl:∀ b o,s.heap.get? b=some o->(∀ vs,o.data≠.fields vs)->∃ sl,h'.get? b=some { o with slots:=sl }):Tr X pins σ H { s with heap:=h' } a C fl':=by
 have I:=t.inv
 have un:=I.base
 rw[a1]at un
 have a5:=Tr.stk c3 b2
 obtain⟨b0,oe,vs,_,_,_,g1,_,g3,_⟩:=t.tr
 have G:∀ b,b∈a::T::frs X.stack->b=a\/b=T\/b∈frs X.stack:=λ b hb=>by
  rcases aC.mp hb with q|q
  ·exact .inl q
  ·exact .inr (aC.mp q)
 have keep:∀ b o,b≠a->b≠T->b ∉ frs X.stack->s.heap.get? b=some o->h'.get? b=some o:=λ b o n1 n2 n3 e=>st b o (by
  rw[qu λ z=>(G b z).elim n1 λ z=>z.elim n2 n3];exact e)
 have slot:∀ b o,b∈frs X.stack->s.heap.get? b=some o->∃ sl,h'.get? b=some { o with slots:=sl }:=λ b o n e=>by
  obtain⟨_,o',e',d⟩:=I.stack.mem n
  rw[e]at e';cases e'
  exact sl b o e d
 have b6:∀ b o,X.s₀.heap.get? b=some o->b ∉ X.fs->b ∉ frs X.stack:=λ b o e n z=>by
  rcases aC.mp (I.stkSub b z)with q|q
  ·subst q
   exact absurd (aE e) (j4.mpr I.ok.above)
  ·exact n q
 have h:∀ b o,X.s₀.heap.get? b=some o->b≠a/\b≠T:=λ b o e=>⟨λ z=>(by rw[z,t.n0]at e;cases e),λ z=>(by rw[z,a2]at e;cases e)⟩
 have c4:∀ b o,s.heap.get? b=some o->(∀ vs,o.data≠.fields vs)->b≠a/\b≠T:=λ b o e d=>⟨λ z=>(by rw[z,g1]at e;cases e;exact d _ g3),λ z=>(by rw[z,c2]at e;cases e;exact d _ c1)⟩
 have up:∀ b o,s.heap.get? b=some o->(∀ vs,o.data≠.fields vs)->∃ sl,h'.get? b=some { o with slots:=sl }:=sl
 have a3:Inv X pins σ H { s with heap:=h' }:=by
  refine⟨I.ok,I.os,I.bare,?_,?_,λ x c e=>?_,I.free,I.freeC,λ p Y=>?_,I.hok.part λ b u o e q=>?_,I.len⟩
  ·rw[a1]
   refine⟨λ b o e n Z nx=>?_,λ b o e n Z nx=>?_,un.free,λ b o e nx=>?_,un.tups,un.frzs,un.tbls⟩
   ·exact keep b o (h b o e).1 (h b o e).2 (b6 b o e Z) (un.keep b o e n Z nx)
   ·obtain⟨b1,e1⟩:=un.slot b o e n Z nx
    obtain⟨F,e2⟩:=slot b _ (a5 b Z) e1
    exact⟨F,e2⟩
   ·obtain⟨o1,e1⟩:=un.there b o e nx
    by_cases z:b∈frs X.stack
    ·obtain⟨_,e2⟩:=slot b _ z e1
     exact⟨_,e2⟩
    ·exact⟨_,keep b o1 (h b o e).1 (h b o e).2 z e1⟩
  ·obtain⟨m,⟨o,es,ep,ho,hd,hr⟩,hl⟩:=I.loc
   obtain⟨b1,e1⟩:=up _ o ho (λ vs z=>by rw[hd]at z;cases z)
   refine⟨m,⟨_,es,ep,e1,hd,hr⟩,λ i x v h1 h2 h3=>?_⟩
   obtain⟨u,r,lk⟩:=hl i x v h1 h2 h3
   refine⟨u,r,?_⟩
   rcases lk with z|⟨z1,c,z2,oc,z3,z4⟩
   ·exact .inl z
   ·obtain⟨F,e2⟩:=up c oc z3 (λ vs z=>by rw[z4]at z;cases z)
    exact .inr ⟨z1,c,z2,_,e2,z4⟩
  ·obtain⟨v,oc,z3,z4⟩:=I.cell x c e
   obtain⟨F,e2⟩:=up c oc z3 (λ vs z=>by rw[z4]at z;cases z)
   exact⟨v,_,e2,z4⟩
  ·obtain⟨q1,q2,q3,q4,q5⟩:=I.pin p Y
   refine⟨keep _ _ (t.np p Y) (a4 p Y) (λ z=>?_) q1,q2,q3,q4,q5⟩
   rcases aC.mp (I.stkSub _ z)with q|q
   ·exact q3 q
   ·exact q4 q
  ·refine keep b o (λ z=>?_) (λ z=>?_) (λ z=>?_) q
   ·rw[z,t.nH]at e;cases e
   ·rw[z,J]at e;cases e
   ·rw[I.stkFree b z]at e;cases e
 refine⟨a3,t.n0,t.nH,t.np,?_⟩
 obtain⟨a6,b3,B,b5,b4,h1,h2,h3,h4,h5,h6,h7,h8,h9⟩:=tr
 have key:X.s₀.heap.get? B=none/\H B=none/\∀ p∈X.pn++pins,p.1≠B:=by
  rcases without_none h5 with z|z
  ·rcases G B z with y|y|y
   ·exact absurd y h6
   ·subst y;exact⟨a2,J,a4⟩
   ·obtain⟨_,o',e',d⟩:=ff.mem y
    rw[h7]at e';cases e'
    exact absurd h8 (d _)
  ·refine⟨?_,?_,λ p Y y=>?_⟩
   ·cases e:X.s₀.heap.get? B with
    | none=>rfl
    | some o=>obtain⟨o',e'⟩:=un.there B o e (by simp);rw[z]at e';cases e'
   ·cases e:H B with
    | none=>rfl
    | some o=>obtain⟨u,e'⟩:=(I.hok B o e).at_;rw[z]at e';cases e'
   ·have:=(I.pin p Y).1
    rw[y,z]at this;cases this
 exact⟨a0,a6,b3,B,b5,b4,h1,h2,h3,h4,key.1,key.2.1,key.2.2,h6,h7,h8,h9⟩
theorem Tr.noted (t:Tr X pins σ H s a C .none)(Y:X.ex=[])(h:X.stack=X.env::X.outer)(B:X.env.frame=some X.env.locals){Q:Unit->ae->Prop}{E:Value->ae->Prop}
  (k:∀ h' fl,Tr X pins σ H { s with heap:=h' } a C fl->Q () { s with heap:=h' }):wpAny (model X.prog X.w) X.A (jy (.ref a) X.env) Q E s:=by
 have I:=t.inv
 obtain⟨a0,oe,vs,T,oT,ts,h1,h2,h3,h4,h5,h6,J,h7,h8,h9,Z⟩:=t.tr
 have G:s.heap.FunFrames (zA s.heap (a::T::frs X.stack)) X.stack:=al3 I.stack λ b hb=>zp (ai _ (ai _ hb))
 have F:=I.ok.frames
 rw[h]at F
 refine wpAny_noteFrame_onW (base:=zA s.heap (a::T::frs X.stack)) F (by rw[<-h];exact G) B ⟨oe,vs,T,oT,ts,h1,h2,h3,h4,zp (by simp),h7,h8,h9,Z⟩ zZ (zp (ar ..)) λ h' L=>?_
 rw[<-h]at L
 obtain⟨st,ff,tr,sl⟩:=L
 exact k h' _ (t.moved Y h B h5 h6 J h8 h9 st ff tr sl)
theorem Tr.down (t:Tr X pins σ H s a C fl)(G:X.ex=[])(Y:X.stack=X.env::X.outer)(B:X.env.frame=some X.env.locals){A:aO}{Q:Unit->ae->Prop}{E:Value->ae->Prop}
  (k:∀ h',Tr X pins σ H { s with heap:=h' } a C .none->Q () { s with heap:=h' }):wpAny (model X.prog X.w) A (kt (.ref a) none) Q E s:=by
 have I:=t.inv
 obtain⟨a0,oe,vs,T,oT,ts,h1,h2,h3,h4,h5,h6,F,h7,h8,Z,J⟩:=t.tr
 have h:s.heap.FunFrames (zA s.heap (a::T::frs X.stack)) X.stack:=al3 I.stack λ b hb=>zp (ai _ (ai _ hb))
 refine wpAny_setFlight_noneW (base:=zA s.heap (a::T::frs X.stack)) zZ h ⟨oe,vs,T,oT,ts,h1,h2,h3,h4,zp (by simp),h7,h8,Z,J⟩ λ h' st ff tr sl=>?_
 exact k h' (t.moved G Y B h5 h6 F h8 Z st ff tr.at λ b o e d=>⟨o.slots,sl b o e d⟩)
theorem CX1.tr {s':ae}{E:XK}{e:Value}(I:Inv X pins σ H s)(Y:X.ex=[])(h:CX1 X.prog X.w X.stack H s E e s') :
  ∃ a C H',e=.ref a/\Tr X pins σ H' s' a C .none/\E e (some C) H':=by
 have h0:=h
 obtain⟨a,C,H',rfl,os,bare,un,hok,F,q⟩:=h
 obtain⟨a',C',a1,e,J,G,q'⟩:=CX1.inv I Y h0
 have B:∀ b,s.heap.get? b=none->X.s₀.heap.get? b=none:=λ b z=>by
  cases e:X.s₀.heap.get? b with
  | none=>rfl
  | some o=>obtain⟨o',e'⟩:=I.base.there b o e (by rw[Y];simp);rw[z]at e';cases e'
 have pn:∀ b,s.heap.get? b=none->∀ p∈X.pn++pins,p.1≠b:=λ b z p hp y=>by
  have:=(I.pin p hp).1
  rw[y,z]at this;cases this
 obtain⟨n0,nH,a0,oe,vs,T,oT,ts,h1,h2,h3,h4,Z,h6,h7⟩:=F
 exact⟨a,C,H',rfl,⟨I.call' os un hok bare (ch:=[]) (λ b z=>absurd z (by simp)),B _ n0,nH,pn _ n0,a0,oe,vs,T,oT,ts,h1,h2,h3,h4,B _ Z,h6,pn _ Z,h7⟩,q⟩
end
noncomputable abbrev Cx.hnd (X:Cx)(a:Addr)(oe:Obj):Cx:={ X with A:=X.A.mark (some (.ref a)),calm:=false,pn:=(a,oe)::X.pn,xe:=λ _ _=>False }
section
variable {X:Cx} {pins:List (Addr×Obj)} {σ:St} {H:Hp} {s:ae} {a C:Addr} {oe:Obj} {fl:Value}
theorem Cx.Ok.hnd (ok:X.Ok)(a:Addr)(h:Obj):(X.hnd a h).Ok:=⟨ok.mod,ok.kind,ok.glob,ok.blt,ok.above,ok.inj,ok.has,ok.cab,(λ z=>by cases z),ok.frames,ok.stk,ok.exf,ok.bs,ok.bsz,ok.noex,ok.exfs,ok.funs,ok.frf⟩
theorem Inv.apart (I:Inv X pins σ H s){b:Addr}{o:Obj}{vs:Array Value}(e:s.heap.get? b=some o)(d:o.data=.fields vs):b≠X.env.locals/\b ∉ X.fs/\∀ v,o.data≠.cell v:=by
 refine⟨λ z=>?_,λ z=>?_,λ v z=>by rw[d]at z;cases z⟩
 ·obtain⟨m,⟨h,es,ep,ho,hd,_⟩,_⟩:=I.loc
  rw[<-z,e]at ho;cases ho
  rw[d]at hd;cases hd
 ·obtain⟨_,h,e',d'⟩:=I.funs.mem z
  rw[e]at e';cases e'
  exact d' _ d
theorem Inv.hnd {vs:Array Value}(I:Inv X pins σ H s)(e:s.heap.get? a=some oe)(n:H a=none)(d:oe.data=.fields vs):Inv (X.hnd a oe) pins σ H s :=
 ⟨I.ok.hnd a oe,I.os,I.bare,I.base,I.loc,I.cell,I.free,I.freeC,λ p h=>by
  rcases aC.mp h with z|z
  ·subst z;exact⟨e,n,I.apart e d⟩
  ·exact I.pin p z,I.hok,I.len⟩
theorem Inv.unhnd (ok:X.Ok)(I:Inv (X.hnd a oe) pins σ H s):Inv X pins σ H s:=⟨ok,I.os,I.bare,I.base,I.loc,I.cell,I.free,I.freeC,λ p h=>I.pin p (ai _ h),I.hok,I.len⟩
theorem Tr.own (t:Tr X pins σ H s a C fl):∃ h vs,s.heap.get? a=some h/\h.cls=.ref C/\h.data=.fields vs:=by
 obtain⟨a0,h,vs,T,G,ts,F,B,h3,_⟩:=t.tr
 exact⟨h,vs,F,B.1,h3⟩
theorem Tr.again (t:Tr X pins σ H s a C fl){Q:V->Hp->Prop}{e:Expr}{v:V}(he:∀ h,PE (X.hnd a h) e (tC v)){E:Value->ae->Prop}{R:Value->ae->Prop}
  (k:∀ u s',RelV v u->Tr X pins σ H s' a C fl->R u s'):wpAny (model X.prog X.w) (X.A.mark (some (.ref a))) (eval e X.env) R E s:=by
 obtain⟨a0,h,vs,T,B,ts,h1,h2,h3,h4,h5,h6,Y,h7,h8,h9,Z⟩:=t.tr
 have I:=t.inv
 have J:Inv (X.hnd a h) ((T,B)::pins) σ H s:=(I.hnd h1 t.nH h3).pins_of λ p G=>by
  rcases aC.mp G with z|z
  ·subst z;exact⟨h8,h6,I.apart h8 h9⟩
  ·exact I.pin p (aJ _ z)
 refine bf (he h ((T,B)::pins) s σ H (λ w H1=>w=v/\H1=H) J ⟨rfl,rfl⟩) (λ u s1 ⟨w,H1,F,r,e1,e2⟩=>?_) (λ _ _ z=>bn z)
 subst e1 e2
 refine k u s1 r ⟨(F.pins_of λ p G=>F.pin p (aJ _ (ai _ G))).unhnd I.ok,t.n0,t.nH,t.np,a0,h,vs,T,B,ts,(F.pin (a,h) (ar ..)).1,h2,h3,h4,h5,h6,Y,h7,(F.pin (T,B) (aJ _ (ar ..))).1,h9,Z⟩
end
section
variable {prog:aA} {w:World} {A:aO} {R:jY->ae->Prop} {I:Addr} {fp wr:List Addr} {n:Nat} {P:Nat->Value->Prop} {St:Nat->Heap->Prop} {h₀:Heap}
end
def bo3 (tk tv:TE):TE:=λ σ H Q=>∀ p,H p=none->tk σ (upd H p (.dT [])) λ x H1=>tv σ H1 λ y H2=>H2 p=some (.dT [])/\∃ b k,x=.ref b/\NK H2 k b/\Q (.ref p) (upd H2 p (.dT [(k,y)]))
theorem bd9 {X:Cx}{pos:Pos}{e f:Expr}{tk Z:TE}(hu:X.A.units+1<cLine)(hk:PE X e tk)(hv:PE X f Z):PE X (.Dict [some e] [f] pos) (bo3 tk Z):=by
 intro F s σ H Q I q
 have hn:=I.hok.fresh (ak s.heap.objs.size)
 have I1:=I.laid (a:=s.heap.objs.size) (o:=.dT []) (h':=s.heap.push { cls:=.type "dict",data:=.dict #[] }) (t':=s.toks) (λ _ _ q=>ao _ q) (ak _) (bf5 s.heap I.big)
 refine wpAny_Dict_any rfl rfl (by nofun) (by show 1<=15;decide) (thn (aI4 hk hv aQ5 F _ σ _ (λ ps B=>match ps with
  | [(x,y)]=>B s.heap.objs.size=some (.dT [])/\∃ b k,x=.ref b/\NK B k b/\Q (.ref s.heap.objs.size) (upd B s.heap.objs.size (.dT [(k,y)]))
  | _=>False) I1 (q _ hn)) λ ws s2 ⟨ps,B,J,h,r⟩=>?_)
 obtain⟨x,y,eps,e2,b,k,ex,nk,r2⟩:∃ x y,ps=[(x,y)]/\B s.heap.objs.size=some (.dT [])/\∃ b k,x=.ref b/\NK B k b/\Q (.ref s.heap.objs.size) (upd B s.heap.objs.size (.dT [(k,y)])):=by
  split at r
  ·exact⟨_,_,rfl,r⟩
  ·exact r.elim
 subst eps ex
 cases h with
 | @cons _ w _ _ h1 t =>
  cases t
  obtain⟨w1,w2⟩:=w
  cases(show w1=Value.ref b from h1.1)
  unfold storeAll
  rw[gL]
  obtain⟨z,hd,xs,h,dd⟩:=bG2 J.hok e2
  cases h
  refine af (af (wpAny_dictSet_heap (knd:=an6 X.prog X.w) (show _<_ from hu) (ao5 J.hok nk) dd λ h' G hs=>?_))
  refine av ?_
  show wpAny _ _ (forIn ([]:List (Value×Value)) _ _) _ _ _
  rw[fv]
  refine av ⟨.ref _,_,?_,rfl,r2⟩
  obtain⟨Y,es,ep,hq,h2,h3,h4,_,h5⟩:=G
  refine aq8 J (by rw[e2];exact True.intro) hs ⟨Y,hq⟩ ⟨by show 1<=aI;rw[eM];omega,hd,_,.cons ⟨rfl,nk.mono λ c ys ec=>?_,h1.2⟩ .nil,Y,es,ep,hq,h2,h3,h4,h5⟩
  rw[zn (bK4 ec e2 (λ z=>nomatch z))]
  exact ec
section
variable {X:Cx} {pins:List (Addr×Obj)} {σ:St} {H:Hp} {s:ae} {a C:Addr} {oe:Obj} {fl:Value}
theorem aV6 {x:Str}{np pos:Pos}{b₀:Stmt}{h:List Stmt}{rest:List fU}{th:TS}{D:Ends}(t:Tr X pins σ H s a C .none)(F:X.ex=[])(G:X.stack=X.env::X.outer)(B:X.env.frame=some X.env.locals)
  (hc:ExcCls X.K C) (hg:Gl X x) (hm:X.mg x=some (.ref C)) (hd:(x==("__debug__":Str))=false)
  (hb:∀ Y,Y.cls=.ref C->PSs (X.hnd a Y) (b₀::h) th) (hq:th { nx:=λ _ _=>False,rt:=D.rt } σ H) :
  wpAny (model X.prog X.w) X.A (jy (.ref a) X.env) (λ _ s₂=>wpAny (model X.prog X.w) X.A (kt (.ref a) none) (λ _ s₃=>wpAny (model X.prog X.w) X.A (handleBy (.ref a) X.env (.ExceptHandler (some (.Name x np)) none (b₀::h) pos::rest)) (SP X pins D) X.xe s₃) X.xe s₂) X.xe s:=by
 obtain⟨bm,N,nm,q,bs,hdct,sn,sub,ab,col,dd,k0,k1,k2,k3,k5,mN,e,a4,b0⟩:=hc.obj
 refine t.noted F G B λ h2 fl t2=>t2.down F G B λ h3 t3=>?_
 refine handleBy_own (bmB:=excTail) (newId := "ValueError.__new__") (mg:=X.mg) (x:=x) (C:=C) rfl ?_
 refine t3.again (Q:=λ _ _=>True) (v:=.ref C) (λ Y=>aB5 (X:=X.hnd a Y) hg hm rfl hd) λ u s4 r Z=>?_
 have K4:=b0 _ Z.inv.kIn
 obtain⟨a1,b2,a5,a3,b3⟩:=Z.own
 refine⟨r,⟨hm,bm,N,nm,q,bs,hdct,sn,sub,ab,col,dd,k0,k1,k2,k3,k5,mN,Z.inv.kIn _ _ e,K4.1,a4,K4.2⟩,⟨a1,a5,a3⟩,?_⟩
 refine Z.down F G B λ h5 t5=>?_
 obtain⟨J,b1,a6,a0,a2⟩:=t5.own
 have J7:Inv (X.hnd a J) pins σ H { s4 with heap:=h5 }:=t5.inv.hnd a6 t5.nH a2
 refine bf (hb J a0 pins _ _ H { nx:=λ _ _=>False,rt:=D.rt } J7 hq) (λ f s8 z=>?_) (λ _ _ z=>bn z)
 cases f with
 | next=>obtain⟨_,_,_,z⟩:=z;exact bn z
 | brk=>obtain⟨_,_,_,z⟩:=z;exact bn z
 | cont=>obtain⟨_,_,_,z⟩:=z;exact bn z
 | ret u8 =>
  obtain⟨v8,σ8,H8,J8,r8,q8⟩:=z
  exact⟨v8,σ8,H8,J8.unhnd t5.inv.ok,r8,q8⟩
end
theorem bk3 {X:Cx}{e:Expr}:PE X e (λ _ _ _=>False):=λ _ _ _ _ _ _ z=>z.elim
theorem bg0 {X:Cx}{e:Expr}:PG X e (λ _ _ _ _=>False):=λ _ _ _ _ _ _ _ _ _ z=>z.elim
theorem PG.nox {X:Cx}{e:Expr}{t:TG}(h:PG X.nox e t):PG X e t:=λ B s σ H v u Q I r hw =>
 bf (h B s σ H v u Q (I.wish _) r hw) (λ _ _ ⟨σ',H',F,q⟩=>⟨σ',H',F.unwish,q⟩) λ _ _ z=>bn z
theorem PI.nox {X:Cx}{tg e:Expr}{t:TI}(h:PI X.nox tg e t):PI X tg e t:=λ B s σ H R I hw =>
 bf (h B s σ H R (I.wish _) hw) (λ _ _ z=>bf z (λ _ _ z=>by
  obtain⟨it,fp,Z,J,G,e,I2,T,F,Y,q⟩:=z
  exact⟨it,fp,Z,J,G,e,I2.unwish,T,F,Y,q⟩) λ _ _ z=>bn z) λ _ _ z=>bn z
end L2
end
noncomputable section
namespace DV
inductive D where
 | non|bl (b:Bool)|int (i:Int)|str (x:List Nat)|tup (l:List D)|ref (n:Nat)|fn (f:String)|clo (f:String) (cs:List D)
noncomputable instance:DecidableEq D:=λ a b=>gd (a=b)
noncomputable instance (x:D):Decidable (x=.non):=match x with
 | .non=>.isTrue rfl
 | .bl _=>.isFalse nofun
 | .int _=>.isFalse nofun
 | .str _=>.isFalse nofun
 | .tup _=>.isFalse nofun
 | .ref _=>.isFalse nofun
 | .fn _=>.isFalse nofun
 | .clo _ _=>.isFalse nofun
inductive O where
 | lst (l:List D)|ro (l:List D)|dic (l:List (D×D))|ins (c:String) (fs:List (String×D))|dit (l:List (D×D))
noncomputable instance:DecidableEq O:=λ a b=>gd (a=b)
noncomputable abbrev Sto:=List O
noncomputable def O.kd:O->Nat
 | .lst _=>0|.ro _=>1|.dic _=>2|.ins _ _=>3|.dit _=>4
inductive R (α:Type) where
 | ok (a:α) (s:Sto)|exc (e:D) (s:Sto)|bad
noncomputable abbrev M (α:Type):=Sto->R α
noncomputable def R.bind {α β:Type}(r:R α)(f:α->Sto->R β):R β:=match r with
 | .ok a s=>f a s
 | .exc e s=>.exc e s
 | .bad=>.bad
@[simp] theorem R.bind_ok {α β:Type} (a:α) (s:Sto) (f:α->Sto->R β):(R.ok a s).bind f=f a s:=rfl
@[simp] theorem R.bind_bad {α β:Type} (f:α->Sto->R β):(R.bad:R α).bind f=.bad:=rfl
@[simp] theorem R.bind_exc {α β:Type} (e:D) (s:Sto) (f:α->Sto->R β):(R.exc e s:R α).bind f=.exc e s:=rfl
theorem R.bind_inv {α β:Type}{r:R α}{f:α->Sto->R β}{b:β}{t:Sto}(h:r.bind f=.ok b t):∃ a s,r=.ok a s/\f a s=.ok b t:=by
 cases r with
 | ok a s=>exact⟨a,s,rfl,h⟩
 | exc e s=>cases h
 | bad=>cases h
@[simp] theorem R.bind_assoc {α β γ:Type} (r:R α) (f:α->Sto->R β) (g:β->Sto->R γ):(r.bind f).bind g=r.bind λ a s=>(f a s).bind g:=by cases r<;>rfl
mutual
noncomputable def D.bnd (n:Nat):D->Bool
 | .tup l=>D.bndL n l
 | .ref k=>decide (k<n)
 | .clo _ l=>D.bndL n l
 | _=>true
noncomputable def D.bndL (n:Nat):List D->Bool
 | []=>true
 | d::l=>D.bnd n d&&D.bndL n l
end
noncomputable def O.bnd (n:Nat):O->Bool
 | .lst l=>D.bndL n l
 | .ro l=>D.bndL n l
 | .dic l=>D.bndL n (l.map (·.1))&&D.bndL n (l.map (·.2))
 | .ins _ fs=>D.bndL n (fs.map (·.2))
 | .dit l=>D.bndL n (l.map (·.1))&&D.bndL n (l.map (·.2))
mutual
noncomputable def D.plain:D->Bool
 | .non=>true|.int _=>true|.str _=>true
 | .tup l=>D.plainL l
 | _=>false
noncomputable def D.plainL:List D->Bool
 | []=>true
 | d::l=>D.plain d&&D.plainL l
end
mutual
noncomputable def D.ncl:D->Bool
 | .tup l=>D.nclL l
 | .clo _ _=>false
 | _=>true
noncomputable def D.nclL:List D->Bool
 | []=>true
 | d::l=>D.ncl d&&D.nclL l
end
noncomputable def O.ncl:O->Bool
 | .lst l=>D.nclL l
 | .ro l=>D.nclL l
 | .dic l=>D.nclL (l.map (·.2))
 | .dit l=>D.nclL (l.map (·.2))
 | _=>false
noncomputable def D.key:D->Bool
 | .int _=>true|.str _=>true|_=>false
noncomputable def D.hdI:List D->Bool
 | .int _::_=>true|.non::_=>true|.tup _::_=>true|_=>false
noncomputable def D.keyF:D->Bool
 | .int _=>true|.non=>true|.str x=>decide (x.length<=1000)|_=>false
noncomputable def D.keyS:D->Bool
 | .tup l=>D.hdI l&&(l.all D.keyF&&decide (l.length<=1000))|d=>D.keyF d
noncomputable def D.keyT:D->Bool
 | .tup l=>D.hdI l&&(l.all D.keyS&&decide (l.length<=1000))|_=>false
noncomputable def LIM:Nat:=1000000
@[irreducible] noncomputable def BIG:Nat:=2^60000
@[irreducible] noncomputable def DIVL:Nat:=2^4096
inductive BOp where
 | add|sub|mul|fdiv|mod|pow|shl|shr|band|bor
 deriving DecidableEq
inductive COp where
 | eq|ne|lt|le|gt|ge|isin|notin
 deriving DecidableEq
inductive Cn where
 | non|bl (b:Bool)|int (i:Int)|str (x:List Nat)
 deriving DecidableEq
noncomputable def Cn.d:Cn->D
 | .non=>.non|.bl b=>.bl b|.int i=>.int i|.str x=>.str x
inductive Bi where
 | len|abs|int|str|min2|max2|max3|min3|isInt|isBool|isStr|isTup|isList|ord
 deriving DecidableEq
inductive Mk where
 | tuple|list|all|any|sum|min|max|sorted|lenset
 deriving DecidableEq
inductive Mt where
 | append|pop|index|count|reverse|clear|bitlen|get1|get2|setdefault|update|split|partition
 deriving DecidableEq
inductive Tg where
 | one (i:Nat)|tup (is:List Nat)
 deriving DecidableEq
mutual
inductive E where
 | var (i:Nat)|cst (c:Cn)|glob (x:String)
 | bin (op:BOp) (a b:E)|neg (a:E)|not (a:E)
 | cmp (op:COp) (a b:E)|chain (o p:COp) (a b c:E)
 | isN (a:E)|notN (a:E)|isB (a:E) (b:Bool)|notB (a:E) (b:Bool)
 | and (a b:E)|or (a b:E)|ite (c a b:E)
 | tup (es:Es)|lst (es:Es)|dic (ks vs:Es)|dicT|dicU (k v:E)|get2 (o k d:E)|bitl (a:E)|lrng (a:E)|fstr (es:Es)|inC (e:E) (c:String)|getC (c:String) (e:E)
 | ix (a b:E)|slL (a lo:E)|slU (a hi:E)|slLU (a lo hi:E)|rev (a:E)
 | call (f:String) (as:As)|callC (f:String) (as:As)|callV (i:Nat) (es:Es)
 | bi (b:Bi) (es:Es)|mk (k:Mk) (l:L)|mkD (k:Mk) (l:L) (d:E)
 | meth (m:Mt) (o:E) (es:Es)|ext (o:E) (l:L)|extS (o e:E)|join (o e:E)|mks (k:Mk) (e:E)|mkDs (k:Mk) (e d:E)|minK (id:String) (e:E) (j:Int)|spl (o:E) (c:Nat)
inductive Es where
 | nil|cons (e:E) (es:Es)
inductive As where
 | nil|ex (e:E) (as:As)|lam (id:String) (caps:List Nat) (as:As)|fn (f:String) (as:As)
inductive I where
 | seq (e:E)|rng1 (a:E)|rng2 (a b:E)|rng3 (a b:E) (c:Int)|rngD (a:E)|enum (it:I)|zip (a b:I)|items (e:E)
inductive L where
 | comp (tg:Tg) (it:I) (e:E) (caps:List (Option Nat))|compIf (tg:Tg) (it:I) (c e:E) (caps:List (Option Nat))|disp (es:Es)|seq (e:E)|itm (e:E)
end
mutual
inductive S where
 | asg (tg:Tg) (e:E)|setIx (o i e:E)|aug (i:Nat) (e:E)|ex (e:E)|ret (e:E)|retN
 | ite (c:E) (a b:Ss)|whl (c:E) (b:Ss)|for_ (tg:Tg) (it:I) (b:Ss)|pass|cont|brk|raise|und (i:Nat)
inductive Ss where
 | nil|cons (s:S) (ss:Ss)
end
noncomputable abbrev Env:=List (Option D)
noncomputable def ac7 (o:O):M D:=λ s=>.ok (.ref s.length) (s++[o])
noncomputable def pur (d:D):M D:=λ s=>.ok d s
noncomputable def bad {α:Type}:M α:=λ _=>.bad
noncomputable def mulOk (a b:Int):Bool:=decide (a.natAbs<2^64)||decide (b.natAbs<2^64)||(decide (a.natAbs<BIG)&&decide (b.natAbs<BIG))
noncomputable def rep:Nat->List Nat->List Nat
 | 0,_=>[]
 | n+1,a=>a++rep n a
noncomputable def aQ1:Nat->List D->List D
 | 0,_=>[]
 | n+1,a=>a++aQ1 n a
noncomputable def ai2:BOp->D->D->M D
 | .add,.int a,.int b=>pur (.int (a+b))
 | .add,.str a,.str b=>if a.length+b.length<=LIM then pur (.str (a++b))else bad
 | .add,.tup a,.tup b=>if a.length+b.length<=LIM then pur (.tup (a++b))else bad
 | .add,.ref a,.ref b=>λ s=>match s[a]?,s[b]? with
  | some (.lst l),some (.lst m)=>if l.length+m.length<=LIM then ac7 (.lst (l++m)) s else .bad
  | _,_=>.bad
 | .sub,.int a,.int b=>pur (.int (a - b))
 | .mul,.int a,.int b=>if mulOk a b then pur (.int (a*b))else bad
 | .mul,.str a,.int n=>if 0<=n/\n<=1000000/\a.length*n.toNat<=LIM then pur (.str (rep n.toNat a))else bad
 | .mul,.tup a,.int n=>if 0<=n/\n<=1000000/\a.length*n.toNat<=LIM then pur (.tup (aQ1 n.toNat a))else bad
 | .mul,.ref a,.int n=>λ s=>match s[a]? with
  | some (.lst l)=>if 0<=n/\n<=1000000/\l.length*n.toNat<=LIM then ac7 (.lst (aQ1 n.toNat l)) s else .bad
  | _=>.bad
 | .fdiv,.int a,.int b=>if 0<b/\b<(DIVL:Int)then pur (.int (a / b))else bad
 | .mod,.int a,.int b=>if 0<b then pur (.int (a % b))else bad
 | .pow,.int a,.int b=>if 0<=b/\b<=1000000/\a.natAbs<2^64 then pur (.int (a^b.toNat))else bad
 | .shl,.int a,.int b=>if 0<=b/\b<=1000000/\a.natAbs<2^64 then pur (.int (a*2^b.toNat))else bad
 | .shr,.int a,.int b=>if 0<=b then pur (.int (a / 2^b.toNat))else bad
 | .band,.int a,.int b=>if 0<=a/\b=1 then pur (.int (a % 2))else bad
 | _,_,_=>bad
noncomputable def kd (s:Sto):D->Nat
 | .non=>0|.bl _=>1|.int _=>1|.str _=>2|.tup _=>3
 | .ref r=>match s[r]? with|some (.lst _)=>4|_=>9
 | _=>9
noncomputable def aD1 (a b:Nat):Bool:=a==9||b==9||a==b
noncomputable def b2i (b:Bool):Int:=if b then 1 else 0
noncomputable def ba3:D->D->Option Bool
 | .non,.non=>some true
 | .bl a,.bl b=>some (a==b)
 | .int a,.int b=>some (a==b)
 | .bl a,.int b=>some (b2i a==b)
 | .int a,.bl b=>some (a==b2i b)
 | .str a,.str b=>some (a==b)
 | _,_=>none
noncomputable def ac9 (s:Sto)(a b:D):Option Bool:=match ba3 a b with
 | some z=>some z
 | none=>if aD1 (kd s a) (kd s b)then none else some false
noncomputable def eqL (f:D->D->Option Bool):List D->List D->Option Bool
 | [],[]=>some true
 | [],_::_=>some false
 | _::_,[]=>some false
 | a::l,b::m=>match f a b,eqL f l m with
  | some x,some y=>some (x&&y)
  | _,_=>none
noncomputable def eqv (s:Sto):Nat->D->D->Option Bool
 | 0,a,b=>ac9 s a b
 | n+1,a,b=>match a,b with
  | .tup l,.tup m=>eqL (eqv s n) l m
  | .ref x,.ref y=>match s[x]?,s[y]? with
   | some (.lst l),some (.lst m)=>if l.length=m.length then eqL (eqv s n) l m else some false
   | _,_=>none
  | a,b=>ac9 s a b
noncomputable def DEEP:Nat:=30
noncomputable def eqM (a b:D):M D:=λ s=>match eqv s DEEP a b with
 | some r=>.ok (.bl r) s
 | none=>.bad
noncomputable def inL (s:Sto)(x:D):List D->Option Bool
 | []=>some false
 | y::l=>match eqv s DEEP y x,inL s x l with
  | some a,some b=>some (a||b)
  | _,_=>none
noncomputable def look (k:D):List (D×D)->Option D
 | []=>none
 | (a,v)::l=>if a=k then some v else look k l
noncomputable def inM (a b:D):M Bool:=λ s=>match b with
 | .tup l=>match inL s a l with|some r=>.ok r s|none=>.bad
 | .ref r=>match s[r]? with
  | some (.lst l)=>match inL s a l with|some r=>.ok r s|none=>.bad
  | some (.dic l)=>if a.key then .ok (look a l).isSome s else .bad
  | some (.dit l)=>if a.keyT then .ok (look a l).isSome s else .bad
  | _=>.bad
 | .str y=>match a with|.str [c]=>.ok (decide (c∈y)) s|_=>.bad
 | _=>.bad
noncomputable def ql:COp->D->D->M D
 | .eq,a,b=>eqM a b
 | .ne,a,b=>λ s=>match eqv s DEEP a b with|some r=>.ok (.bl (!r)) s|none=>.bad
 | .lt,.int a,.int b=>pur (.bl (decide (a<b)))
 | .le,.int a,.int b=>pur (.bl (decide (a<=b)))
 | .gt,.int a,.int b=>pur (.bl (decide (b<a)))
 | .ge,.int a,.int b=>pur (.bl (decide (b<=a)))
 | .isin,a,b=>λ s=>(inM a b s).bind λ r s=>.ok (.bl r) s
 | .notin,a,b=>λ s=>(inM a b s).bind λ r s=>.ok (.bl (!r)) s
 | _,_,_=>bad
noncomputable def ixn (n:Nat)(i:Int):Option Nat:=if 0<=i then(if i<n then some i.toNat else none)else if -(n:Int)<=i then some (i+n).toNat else none
noncomputable def sbd (n:Nat)(i:Int):Nat:=if 0<=i then min i.toNat n else(i+n).toNat
noncomputable def loB (n:Nat):Option Int->Nat
 | none=>0
 | some i=>sbd n i
noncomputable def hiB (n:Nat):Option Int->Nat
 | none=>n
 | some i=>sbd n i
noncomputable def aA4 {α:Type}(l:List α)(lo hi:Option Int):List α:=(l.drop (loB l.length lo)).take (hiB l.length hi - loB l.length lo)
noncomputable def ixM (a b:D):M D:=λ s=>match a,b with
 | .tup l,.int i=>match(ixn l.length i).bind λ j=>l[j]? with|some d=>.ok d s|none=>.bad
 | .str l,.int i=>match(ixn l.length i).bind λ j=>l[j]? with|some c=>.ok (.str [c]) s|none=>.bad
 | .ref r,b=>match s[r]? with
  | some (.lst l)=>match b with
   | .int i=>match(ixn l.length i).bind λ j=>l[j]? with|some d=>.ok d s|none=>.bad
   | _=>.bad
  | some (.ro l)=>match b with
   | .int i=>match(ixn l.length i).bind λ j=>l[j]? with|some d=>.ok d s|none=>.bad
   | _=>.bad
  | some (.dic l)=>if b.key then match look b l with|some d=>.ok d s|none=>.bad else .bad
  | some (.dit l)=>if b.keyT then match look b l with|some d=>.ok d s|none=>.bad else .bad
  | _=>.bad
 | _,_=>.bad
noncomputable def slM (a:D)(lo hi:Option Int):M D:=λ s=>match a with
 | .tup l=>.ok (.tup (aA4 l lo hi)) s
 | .str l=>.ok (.str (aA4 l lo hi)) s
 | .ref r=>match s[r]? with
  | some (.lst l)=>ac7 (.lst (aA4 l lo hi)) s
  | _=>.bad
 | _=>.bad
noncomputable def cc6 (a:D):M D:=λ s=>match a with
 | .str l=>.ok (.str l.reverse) s
 | .ref r=>match s[r]? with
  | some (.lst l)=>ac7 (.lst l.reverse) s
  | _=>.bad
 | _=>.bad
noncomputable def am4:List D->Option (List Bool)
 | []=>some []
 | .bl b::l=>(am4 l).map (b::·)
 | _=>none
noncomputable def qk:List D->Option (List Int)
 | []=>some []
 | .int i::l=>(qk l).map (i::·)
 | _=>none
noncomputable def ag1:List D->Option (List (List Nat))
 | []=>some []
 | .str i::l=>(ag1 l).map (i::·)
 | _=>none
noncomputable def bu2 (d:D):M D:=λ s=>match d with
 | .tup l=>.ok (.int l.length) s
 | .str l=>.ok (.int l.length) s
 | .ref r=>match s[r]? with
  | some (.lst l)=>.ok (.int l.length) s
  | some (.ro l)=>.ok (.int l.length) s
  | _=>.bad
 | _=>.bad
noncomputable def isK (k:Nat)(d:D):M D:=λ s=>match d with
 | .non=>.ok (.bl false) s
 | .bl _=>.ok (.bl (k==1||k==2)) s
 | .int _=>.ok (.bl (k==1)) s
 | .str _=>.ok (.bl (k==3)) s
 | .tup _=>.ok (.bl (k==4)) s
 | .ref r=>match s[r]? with
  | some (.lst _)=>.ok (.bl (k==5)) s
  | _=>.bad
 | _=>.bad
noncomputable def bi1 (f:D->M D):List D->M D
 | [d]=>f d
 | _=>bad
noncomputable def aL9:List D->M D
 | [.str [c]]=>λ s=>if 48<=c/\c<=57 then .ok (.int ((c - 48:Nat):Int)) s else .bad
 | _=>bad
noncomputable def aW3:List D->M D
 | [.int i]=>λ s=>if 0<=i/\i<=9 then .ok (.str [48+i.toNat]) s else .bad
 | [.str w]=>λ s=>.ok (.str w) s
 | _=>bad
noncomputable def bi:Bi->List D->M D
 | .len,l=>bi1 bu2 l
 | .abs,l=>λ s=>match qk l with|some [i]=>.ok (.int (if i<0 then -i else i)) s|_=>.bad
 | .int,l=>λ s=>match am4 l with|some [b]=>.ok (.int (if b then 1 else 0)) s|some _=>.bad|none=>aL9 l s
 | .str,l=>aW3 l
 | .min2,l=>λ s=>match qk l with|some [a,b]=>.ok (.int (if b<a then b else a)) s|_=>.bad
 | .max2,l=>λ s=>match qk l with|some [a,b]=>.ok (.int (if b > a then b else a)) s|_=>.bad
 | .max3,l=>λ s=>match qk l with|some [a,b,c]=>.ok (.int (max (max a b) c)) s|_=>.bad
 | .isInt,l=>bi1 (isK 1) l
 | .isBool,l=>bi1 (isK 2) l
 | .isStr,l=>bi1 (isK 3) l
 | .isTup,l=>bi1 (isK 4) l
 | .isList,l=>bi1 (isK 5) l
 | _,_=>bad
noncomputable def minI:List Int->Option Int
 | []=>none
 | a::l=>some (l.foldl min a)
noncomputable def cg6:List Int->Option Int
 | []=>none
 | a::l=>some (l.foldl max a)
noncomputable def ins (a:Int):List Int->List Int
 | []=>[a]
 | b::l=>if a<=b then a::b::l else b::ins a l
noncomputable def bH9:List Int->List Int
 | []=>[]
 | a::l=>ins a (bH9 l)
noncomputable def ch7 (is:List Int):Bool:=is.all (λ i=>decide (-1000000000<=i/\i<=1000000000))&&decide (is.length<=1000000)
noncomputable def mk:Mk->List D->M D
 | .tuple,l=>λ s=>.ok (.tup l) s
 | .list,l=>ac7 (.lst l)
 | .all,l=>λ s=>match am4 l with|some bs=>.ok (.bl (bs.all id)) s|none=>.bad
 | .any,l=>λ s=>match am4 l with|some bs=>.ok (.bl (bs.any id)) s|none=>.bad
 | .sum,l=>λ s=>match qk l with|some is=>if ch7 is then .ok (.int is.sum) s else .bad|none=>.bad
 | .min,l=>λ s=>match(qk l).bind minI with|some m=>.ok (.int m) s|none=>.bad
 | .max,l=>λ s=>match(qk l).bind cg6 with|some m=>.ok (.int m) s|none=>.bad
 | .sorted,l=>λ s=>match qk l with|some is=>ac7 (.lst ((bH9 is).map D.int)) s|none=>.bad
 | .lenset,l=>bad
noncomputable def mkD (k:Mk)(l:List D)(d:D):M D:=λ s=>match k with
 | .min=>match qk l with|some is=>(match minI is with|some m=>.ok (.int m) s|none=>.ok d s)|none=>.bad
 | .max=>match qk l with|some is=>(match cg6 is with|some m=>.ok (.int m) s|none=>.ok d s)|none=>.bad
 | _=>.bad
noncomputable def ar0 (k v:D)(l:List (D×D)):List (D×D):=if(look k l).isSome then l.map (λ p=>if p.1=k then(p.1,v)else p)else l++[(k,v)]
noncomputable def setIx (o i v:D):Sto->R Unit:=λ s=>match o with
 | .ref r=>match s[r]? with
  | some (.lst l)=>match i with
   | .int i=>match ixn l.length i with|some j=>.ok () (s.set r (.lst (l.set j v)))|none=>.bad
   | _=>.bad
  | some (.dic l)=>if i.key&&decide (l.length<LIM)then .ok () (s.set r (.dic (ar0 i v l)))else .bad
  | some (.dit l)=>if i.keyT&&decide (l.length<LIM)then .ok () (s.set r (.dit (ar0 i v l)))else .bad
  | _=>.bad
 | _=>.bad
noncomputable def cb5 (o k e:D):M D:=λ s=>match o with
 | .ref r=>match s[r]? with
  | some (.dit l)=>if k.keyT then .ok ((look k l).getD e) s else .bad
  | _=>.bad
 | _=>.bad
noncomputable def idx (s:Sto)(x:D):Nat->List D->Option Nat
 | _,[]=>none
 | n,y::l=>match eqv s DEEP y x with
  | some true=>some n
  | some false=>idx s x (n+1) l
  | none=>none
noncomputable def meth:Mt->D->List D->M D
 | .append,.ref r,[d]=>λ s=>match s[r]? with
  | some (.lst l)=>if l.length<LIM then .ok .non (s.set r (.lst (l++[d])))else .bad
  | _=>.bad
 | .pop,.ref r,[]=>λ s=>match s[r]? with
  | some (.lst l)=>match l.getLast? with|some d=>.ok d (s.set r (.lst l.dropLast))|none=>.bad
  | _=>.bad
 | .reverse,.ref r,[]=>λ s=>match s[r]? with
  | some (.lst l)=>.ok .non (s.set r (.lst l.reverse))
  | _=>.bad
 | .clear,.ref r,[]=>λ s=>match s[r]? with
  | some (.lst l)=>.ok .non (s.set r (.lst []))
  | _=>.bad
 | .index,.ref r,[d]=>λ s=>match s[r]? with
  | some (.lst l)=>match inL s d l,idx s d 0 l with|some true,some n=>.ok (.int n) s|_,_=>.bad
  | _=>.bad
 | _,_,_=>bad
noncomputable def bG5 (o:D)(l:List D):M D:=λ s=>match o with
 | .ref r=>match s[r]? with
  | some (.lst m)=>if m.length+l.length<=LIM then .ok .non (s.set r (.lst (m++l)))else .bad
  | _=>.bad
 | _=>.bad
noncomputable def az4 (sep:List Nat):List (List Nat)->List Nat
 | []=>[]
 | [p]=>p
 | p::q::ps=>p++(sep++az4 sep (q::ps))
noncomputable def ab6 (c:Nat):List Nat->List (List Nat)
 | []=>[[]]
 | x::l=>if x=c then[]::ab6 c l else match ab6 c l with
  | p::ps=>(x::p)::ps
  | []=>[[x]]
noncomputable def bE1 (c:Nat)(x:D):M D:=λ s=>match x with
 | .str w=>if w.length+2<=LIM then ac7 (.lst ((ab6 c w).map D.str)) s else .bad
 | _=>.bad
noncomputable def bq8 (x y:D):M D:=λ s=>match x with
 | .str []=>match y with
  | .ref r=>match s[r]? with
   | some (.lst l)=>match ag1 l with
    | some ss=>if ss.flatten.length<=LIM then .ok (.str ss.flatten) s else .bad
    | none=>.bad
   | _=>.bad
  | _=>.bad
 | .str (c::sep)=>match y with
  | .ref r=>match s[r]? with
   | some (.lst l)=>match ag1 l with
    | some ss=>if(ss.map λ w=>w.length+(c::sep).length).sum<=LIM then .ok (.str (az4 (c::sep) ss)) s else .bad
    | none=>.bad
   | _=>.bad
  | _=>.bad
 | _=>.bad
noncomputable def extS (o d:D):M D:=λ s=>match d with
 | .ref k=>match s[k]? with
  | some (.lst l)=>bG5 o l s
  | _=>.bad
 | _=>.bad
structure Fns where
 call:String->List D->M D
 lam:String->List D->List D->M D
 con:String->Option D
 xcall:String->List D->Sto->Option (String×Sto)
 xc:String->Bool
 xt:String->Bool
 cdc:String->Option (List (List Nat×List Nat))
noncomputable def aC1 (ρ:Env)(i:Nat):M D:=λ s=>match ρ[i]? with|some (some d)=>.ok d s|_=>.bad
noncomputable def bx2 (ρ:Env):List Nat->Option (List D)
 | []=>some []
 | i::is=>match ρ[i]?,bx2 ρ is with|some (some d),some l=>some (d::l)|_,_=>none
noncomputable def qj (ρ:Env)(caps:List (Option Nat)):Env:=caps.map λ o=>match o with|none=>none|some j=>(ρ[j]?).join
noncomputable def am8 (ρ:Env)(i:Nat)(d:D):Option Env:=if i < ρ.length then some (ρ.set i (some d))else none
noncomputable def ak9 (ρ:Env)(i:Nat):Option Env:=if i < ρ.length then some (ρ.set i none)else none
noncomputable def al1 (ρ:Env):List Nat->List D->Option Env
 | [],[]=>some ρ
 | i::is,d::l=>(am8 ρ i d).bind λ ρ=>al1 ρ is l
 | _,_=>none
noncomputable def zV (ρ:Env):Tg->D->Option Env
 | .one i,d=>am8 ρ i d
 | .tup is,.tup l=>al1 ρ is l
 | _,_=>none
structure Sq where
 its:List D
 src:List Nat
noncomputable def aX0 (d:D):M Sq:=λ s=>match d with
 | .tup l=>.ok ⟨l,[]⟩ s
 | .str l=>.ok ⟨l.map λ c=>.str [c],[]⟩ s
 | .ref r=>match s[r]? with
  | some (.lst l)=>.ok ⟨l,[r]⟩ s
  | some (.ro l)=>.ok ⟨l,[]⟩ s
  | _=>.bad
 | _=>.bad
noncomputable def aM6 (d:D):M Sq:=λ s=>match d with
 | .tup l=>.ok ⟨l,[]⟩ s
 | .str l=>.ok ⟨l.map λ c=>.str [c],[]⟩ s
 | .ref r=>match s[r]? with
  | some (.lst l)=>.ok ⟨l,[r]⟩ s
  | some (.ro l)=>.ok ⟨l,[]⟩ s
  | _=>.bad
 | _=>.bad
noncomputable def bk1 (d:D):M Sq:=λ s=>match d with
 | .tup l=>.ok ⟨l,[]⟩ s
 | .ref r=>match s[r]? with
  | some (.lst l)=>.ok ⟨l,[r]⟩ s
  | some (.ro l)=>.ok ⟨l,[]⟩ s
  | _=>.bad
 | _=>.bad
noncomputable def ch9 (p:D×D):D:=match p.1 with
 | .tup l=>.tup (l++[p.2])
 | _=>.non
noncomputable def cc7 (d:D):Sto->R (List D):=λ s=>match d with
 | .ref r=>match s[r]? with
  | some (.dit l)=>if l.length<=LIM then .ok (l.map ch9) s else .bad
  | _=>.bad
 | _=>.bad
noncomputable def bm1 (d:D):Sto->R (List D):=λ s=>match d with
 | .tup l=>.ok l s
 | .str l=>.ok (l.map λ c=>.str [c]) s
 | .ref r=>match s[r]? with
  | some (.lst l)=>.ok l s
  | some (.ro l)=>.ok l s
  | _=>.bad
 | _=>.bad
noncomputable def bo6 (d:D):Sto->R (List D):=λ s=>match d with
 | .ref r=>match s[r]? with
  | some (.lst l)=>.ok l s
  | _=>.bad
 | _=>.bad
noncomputable def ci5 (j:Int):D->Option Int
 | .tup l=>match(ixn l.length j).bind λ k=>l[k]? with|some (.int z)=>some z|_=>none
 | _=>none
noncomputable def bM2 (j:Int):List D->Option (List Int)
 | []=>some []
 | d::l=>match ci5 j d with
  | some z=>(match bM2 j l with|some zs=>some (z::zs)|none=>none)
  | none=>none
noncomputable def bY0 (f:Nat->Int):Nat->Nat
 | 0=>0
 | k+1=>if f (k+1)<f (bY0 f k)then k+1 else bY0 f k
noncomputable def br9 (j:Int)(l:List D):M D:=λ s=>match bM2 j l with
 | some ks=>(match l[bY0 (λ i=>ks.getD i 0) (l.length - 1)]? with|some d=>.ok d s|none=>.bad)
 | none=>.bad
noncomputable def W62:Int:=4611686018427387904
noncomputable def qe (a b:Int):List D:=(aU (b - a).toNat).map λ(k:Nat)=>.int (a+k)
noncomputable def bitsN (i:Int):Nat:=if i=0 then 0 else i.natAbs.log2+1
noncomputable def bD4 (x:D):M D:=λ s=>match x with|.int i=>.ok (.int (bitsN i:Nat)) s|_=>.bad
noncomputable def bM8 (x:D):M D:=λ s=>match x with|.int i=>if 0<=i/\i<=1000000 then ac7 (.lst (qe 0 i)) s else .bad|_=>.bad
noncomputable def ca0 (a:Int):List D:=(aU (a+1).toNat).map λ(k:Nat)=>.int (a+(k:Int)*(-1))
noncomputable def cg9 (a b c:Int):List D:=if 0<c then(aU ((b - a+c - 1) / c).toNat).map λ(k:Nat)=>.int (a+c*k)else(aU ((a - b+(-c) - 1) / (-c)).toNat).map λ(k:Nat)=>.int (a+c*k)
noncomputable def bq7 (n:Nat):List D->List D
 | []=>[]
 | d::l=>.tup [.int n,d]::bq7 (n+1) l
noncomputable def cc5:List D->List D->List D
 | a::l,b::m=>.tup [a,b]::cc5 l m
 | _,_=>[]
noncomputable def chk (s0 s:Sto)(src:List Nat):Bool:=src.all λ r=>decide (s[r]?=s0[r]?)
noncomputable def tru {α:Type}(r:R D)(f:Bool->Sto->R α):R α:=r.bind λ d s=>match d with|.bl b=>f b s|_=>.bad
@[simp] theorem tru_bl {α:Type} (b:Bool) (s:Sto) (f:Bool->Sto->R α):tru (.ok (.bl b) s) f=f b s:=rfl
noncomputable def ad7 (ok:Sto->Bool)(g:D->Env->Sto->R (Option D×Env)):List D->Env->Sto->R (List D)
 | [],_,s=>if ok s then .ok [] s else .bad
 | d::l,ρ,s=>if ok s then(g d ρ s).bind λ p s=>(ad7 ok g l p.2 s).bind λ r s=>.ok (match p.1 with|some v=>v::r|none=>r) s else .bad
noncomputable def bR1 (l:List D):M D:=λ s=>match ag1 l with|some ws=>if ws.flatten.length<=LIM then .ok (.str ws.flatten) s else .bad|none=>.bad
noncomputable def cd7 (F:Fns)(c:String)(x:D):M D:=λ s=>match F.cdc c,x with|some kvs,.str w=>.ok (.bl (kvs.lookup w).isSome) s|_,_=>.bad
noncomputable def bM7 (F:Fns)(c:String)(x:D):M D:=λ s=>match F.cdc c,x with|some kvs,.str w=>(match kvs.lookup w with|some v=>if v.length<=LIM then .ok (.str v) s else .bad|none=>.bad)|_,_=>.bad
mutual
noncomputable def ev (F:Fns):E->Env->Sto->R D
 | .var i,ρ,s=>aC1 ρ i s
 | .cst c,_,s=>.ok c.d s
 | .glob x,_,s=>match F.con x with|some d=>.ok d s|none=>.bad
 | .bin op a b,ρ,s=>(ev F a ρ s).bind λ x s=>(ev F b ρ s).bind λ y s=>ai2 op x y s
 | .neg a,ρ,s=>(ev F a ρ s).bind λ x s=>match x with|.int i=>.ok (.int (-i)) s|_=>.bad
 | .not a,ρ,s=>tru (ev F a ρ s) λ b s=>.ok (.bl (!b)) s
 | .cmp op a b,ρ,s=>(ev F a ρ s).bind λ x s=>(ev F b ρ s).bind λ y s=>ql op x y s
 | .chain o p a b c,ρ,s=>(ev F a ρ s).bind λ x s=>(ev F b ρ s).bind λ y s=>tru (ql o x y s) λ k s=>if k then(ev F c ρ s).bind λ z s=>ql p y z s else .ok (.bl false) s
 | .isN a,ρ,s=>(ev F a ρ s).bind λ x s=>.ok (.bl (decide (x=.non))) s
 | .notN a,ρ,s=>(ev F a ρ s).bind λ x s=>.ok (.bl (!decide (x=.non))) s
 | .isB a b,ρ,s=>(ev F a ρ s).bind λ x s=>match x with|.bl c=>.ok (.bl (c==b)) s|_=>.bad
 | .notB a b,ρ,s=>(ev F a ρ s).bind λ x s=>match x with|.bl c=>.ok (.bl (!(c==b))) s|_=>.bad
 | .and a b,ρ,s=>tru (ev F a ρ s) λ c s=>if c then tru (ev F b ρ s) λ c s=>.ok (.bl c) s else .ok (.bl false) s
 | .or a b,ρ,s=>tru (ev F a ρ s) λ c s=>if c then .ok (.bl true) s else tru (ev F b ρ s) λ c s=>.ok (.bl c) s
 | .ite c a b,ρ,s=>tru (ev F c ρ s) λ k s=>if k then ev F a ρ s else ev F b ρ s
 | .tup es,ρ,s=>(evs F es ρ s).bind λ l s=>.ok (.tup l) s
 | .lst es,ρ,s=>(evs F es ρ s).bind λ l s=>ac7 (.lst l) s
 | .dic .nil .nil,ρ,s=>ac7 (.dic []) s
 | .dic (.cons k .nil) (.cons v .nil),ρ,s=>(ev F k ρ (s++[.dic []])).bind λ kd s1=>(ev F v ρ s1).bind λ vd s2=>if kd.key=true/\s2[s.length]?=some (.dic [])then .ok (.ref s.length) (s2.set s.length (.dic [(kd,vd)]))else .bad
 | .dic _ _,ρ,s=>.bad
 | .dicT,_,s=>ac7 (.dit []) s
 | .dicU k v,ρ,s=>(ev F k ρ (s++[.dit []])).bind λ kd s1=>(ev F v ρ s1).bind λ vd s2=>if kd.keyT=true/\s2[s.length]?=some (.dit [])then .ok (.ref s.length) (s2.set s.length (.dit [(kd,vd)]))else .bad
 | .get2 o k d,ρ,s=>(ev F o ρ s).bind λ x s=>(ev F k ρ s).bind λ y s=>(ev F d ρ s).bind λ z s=>cb5 x y z s
 | .bitl a,ρ,s=>(ev F a ρ s).bind λ x s=>bD4 x s
 | .lrng a,ρ,s=>(ev F a ρ s).bind λ x s=>bM8 x s
 | .fstr es,ρ,s=>(evs F es ρ s).bind λ l s=>bR1 l s
 | .inC e c,ρ,s=>(ev F e ρ s).bind λ x s=>cd7 F c x s
 | .getC c e,ρ,s=>(ev F e ρ s).bind λ x s=>bM7 F c x s
 | .ix a b,ρ,s=>(ev F a ρ s).bind λ x s=>(ev F b ρ s).bind λ y s=>ixM x y s
 | .slL a lo,ρ,s=>(ev F a ρ s).bind λ x s=>(ev F lo ρ s).bind λ y s=>match y with|.int i=>slM x (some i) none s|_=>.bad
 | .slU a hi,ρ,s=>(ev F a ρ s).bind λ x s=>(ev F hi ρ s).bind λ y s=>match y with|.int i=>slM x none (some i) s|_=>.bad
 | .slLU a lo hi,ρ,s=>(ev F a ρ s).bind λ x s=>(ev F lo ρ s).bind λ y s=>match y with|.int i=>(ev F hi ρ s).bind (λ z s=>match z with|.int j=>slM x (some i) (some j) s|_=>.bad)|_=>.bad
 | .rev a,ρ,s=>(ev F a ρ s).bind λ x s=>cc6 x s
 | .call f as,ρ,s=>(ag2 F as ρ s).bind λ l s=>F.call f l s
 | .callC f as,ρ,s=>(ag2 F as ρ s).bind λ l s=>(F.call f l s).bind λ d s'=>if(d.ncl&&s'.all O.ncl)=true then .ok d s' else .bad
 | .callV i es,ρ,s=>(evs F es ρ s).bind λ l s=>match ρ[i]? with
  | some (some (.fn f))=>F.call f l s
  | some (some (.clo id cs))=>F.lam id cs l s
  | _=>.bad
 | .bi b es,ρ,s=>(evs F es ρ s).bind λ l s=>bi b l s
 | .mk k it,ρ,s=>(evL F it ρ s).bind λ q s=>mk k q s
 | .mkD k it d,ρ,s=>(evL F it ρ s).bind λ q s=>(ev F d ρ s).bind λ d s=>mkD k q d s
 | .meth m o es,ρ,s=>(ev F o ρ s).bind λ x s=>(evs F es ρ s).bind λ l s=>meth m x l s
 | .ext o it,ρ,s=>(ev F o ρ s).bind λ x s=>(evL F it ρ s).bind λ q s=>bG5 x q s
 | .extS o e,ρ,s=>(ev F o ρ s).bind λ x s=>(ev F e ρ s).bind λ y s=>extS x y s
 | .join o e,ρ,s=>(ev F o ρ s).bind λ x s=>(ev F e ρ s).bind λ y s=>bq8 x y s
 | .mks k e,ρ,s=>(ev F e ρ s).bind λ x s=>(bo6 x s).bind λ q s=>mk k q s
 | .mkDs k e d,ρ,s=>(ev F e ρ s).bind λ x s=>(ev F d ρ s).bind λ z s=>(bo6 x s).bind λ q s=>mkD k q z s
 | .minK _ e j,ρ,s=>(ev F e ρ s).bind λ x s=>(bo6 x s).bind λ q s=>br9 j q s
 | .spl o c,ρ,s=>(ev F o ρ s).bind λ x s=>bE1 c x s
noncomputable def evs (F:Fns):Es->Env->Sto->R (List D)
 | .nil,_,s=>.ok [] s
 | .cons e es,ρ,s=>(ev F e ρ s).bind λ d s=>(evs F es ρ s).bind λ l s=>.ok (d::l) s
noncomputable def ag2 (F:Fns):As->Env->Sto->R (List D)
 | .nil,_,s=>.ok [] s
 | .ex e as,ρ,s=>(ev F e ρ s).bind λ d s=>(ag2 F as ρ s).bind λ l s=>.ok (d::l) s
 | .lam id caps as,ρ,s=>match bx2 ρ caps with
  | some cs=>(ag2 F as ρ s).bind λ l s=>.ok (.clo id cs::l) s
  | none=>.bad
 | .fn f as,ρ,s=>(ag2 F as ρ s).bind λ l s=>.ok (.fn f::l) s
noncomputable def evI (F:Fns):I->Env->Sto->R Sq
 | .seq e,ρ,s=>(ev F e ρ s).bind λ d s=>aX0 d s
 | .rng1 a,ρ,s=>(ev F a ρ s).bind λ x s=>match x with|.int i=>if -W62<=i/\i<W62 then .ok ⟨qe 0 i,[]⟩ s else .bad|_=>.bad
 | .rng2 a b,ρ,s=>(ev F a ρ s).bind λ x s=>(ev F b ρ s).bind λ y s=>match x,y with|.int i,.int j=>if(-W62<=i/\i<W62)/\-W62<=j/\j<W62 then .ok ⟨qe i j,[]⟩ s else .bad|_,_=>.bad
 | .rng3 a b c,ρ,s=>(ev F a ρ s).bind λ x s=>(ev F b ρ s).bind λ y s=>match x,y with|.int i,.int j=>if c=2/\(0<=i/\i<1048576)/\0<=j/\j<1048576 then .ok ⟨cg9 i j c,[]⟩ s else .bad|_,_=>.bad
 | .rngD a,ρ,s=>(ev F a ρ s).bind λ x s=>match x with|.int i=>if 0<=i/\i<1048576 then .ok ⟨ca0 i,[]⟩ s else .bad|_=>.bad
 | .enum (.seq e),ρ,s=>(ev F e ρ s).bind λ d s=>(bk1 d s).bind λ q s=>.ok ⟨bq7 0 q.its,q.src⟩ s
 | .zip (.seq a) (.seq b),ρ,s=>(ev F a ρ s).bind λ x s=>(ev F b ρ s).bind λ y s=>(aM6 x s).bind λ p s=>(aM6 y s).bind λ q s=>.ok ⟨cc5 p.its q.its,p.src++q.src⟩ s
 | .enum _,_,_=>.bad
 | .zip _ _,_,_=>.bad
 | .items e,ρ,s=>.bad
noncomputable def evL (F:Fns):L->Env->Sto->R (List D)
 | .comp tg it e caps,ρ,s=>(evI F it ρ s).bind λ q s0=>if q.its.length<=LIM then ad7 (λ s=>chk s0 s q.src) (λ d ρ s=>match zV ρ tg d with
   | some ρ=>(ev F e ρ s).bind λ v s=>.ok (some v,ρ) s
   | none=>.bad) q.its (qj ρ caps) s0 else .bad
 | .compIf tg it c e caps,ρ,s=>(evI F it ρ s).bind λ q s0=>if q.its.length<=LIM then ad7 (λ s=>chk s0 s q.src) (λ d ρ s=>match zV ρ tg d with
   | some ρ=>tru (ev F c ρ s) λ k s=>if k then(ev F e ρ s).bind λ v s=>.ok (some v,ρ) s else .ok (none,ρ) s
   | none=>.bad) q.its (qj ρ caps) s0 else .bad
 | .disp es,ρ,s=>evs F es ρ s
 | .seq e,ρ,s=>(ev F e ρ s).bind λ d s=>bm1 d s
 | .itm e,ρ,s=>(ev F e ρ s).bind λ d s=>cc7 d s
end
inductive Ct where
 | next (ρ:Env)|ret (d:D)|cont (ρ:Env)|brk (ρ:Env)
noncomputable def qw (ok:Sto->Bool)(g:D->Env->Sto->R Ct):List D->Env->Sto->R Ct
 | [],ρ,s=>if ok s then .ok (.next ρ) s else .bad
 | d::l,ρ,s=>if ok s then(g d ρ s).bind λ c s=>match c with
   | .next ρ=>qw ok g l ρ s
   | .cont ρ=>qw ok g l ρ s
   | .brk ρ=>.ok (.next ρ) s
   | .ret d=>.ok (.ret d) s
  else .bad
noncomputable def qW (c:Env->Sto->R D)(g:Env->Sto->R Ct):Nat->Env->Sto->R Ct
 | 0,_,_=>.bad
 | n+1,ρ,s=>tru (c ρ s) λ b s=>if b then(g ρ s).bind λ c' s=>match c' with
   | .next ρ=>qW c g n ρ s
   | .cont ρ=>qW c g n ρ s
   | .brk ρ=>.ok (.next ρ) s
   | .ret d=>.ok (.ret d) s
  else .ok (.next ρ) s
open Classical in
noncomputable def whl (c:Env->Sto->R D)(g:Env->Sto->R Ct)(ρ:Env)(s:Sto):R Ct :=
 if h:∃ n,qW c g n ρ s≠.bad then qW c g h.choose ρ s else .bad
mutual
noncomputable def ex (F:Fns):S->Env->Sto->R Ct
 | .asg tg e,ρ,s=>(ev F e ρ s).bind λ d s=>match zV ρ tg d with|some ρ=>.ok (.next ρ) s|none=>.bad
 | .setIx o i e,ρ,s=>(ev F e ρ s).bind λ d s=>(ev F o ρ s).bind λ x s=>(ev F i ρ s).bind λ y s=>(setIx x y d s).bind λ _ s=>.ok (.next ρ) s
 | .aug i e,ρ,s=>(aC1 ρ i s).bind λ x s=>(ev F e ρ s).bind λ y s=>match x,y with
  | .int a,.int b=>match am8 ρ i (.int (a+b))with|some ρ=>.ok (.next ρ) s|none=>.bad
  | _,_=>.bad
 | .ex e,ρ,s=>(ev F e ρ s).bind λ _ s=>.ok (.next ρ) s
 | .ret e,ρ,s=>(ev F e ρ s).bind λ d s=>.ok (.ret d) s
 | .retN,_,s=>.ok (.ret .non) s
 | .ite c a b,ρ,s=>tru (ev F c ρ s) λ k s=>if k then exs F a ρ s else exs F b ρ s
 | .whl c b,ρ,s=>whl (ev F c) (exs F b) ρ s
 | .for_ tg it b,ρ,s=>(evI F it ρ s).bind λ q s0=>qw (λ s=>chk s0 s q.src) (λ d ρ s=>match zV ρ tg d with
   | some ρ=>exs F b ρ s
   | none=>.bad) q.its ρ s0
 | .pass,ρ,s=>.ok (.next ρ) s
 | .cont,ρ,s=>.ok (.cont ρ) s
 | .brk,ρ,s=>.ok (.brk ρ) s
 | .raise,_,_=>.bad
 | .und i,ρ,s=>match ak9 ρ i with|some ρ=>.ok (.next ρ) s|none=>.bad
noncomputable def exs (F:Fns):Ss->Env->Sto->R Ct
 | .nil,ρ,s=>.ok (.next ρ) s
 | .cons st ss,ρ,s=>(ex F st ρ s).bind λ c s=>match c with|.next ρ=>exs F ss ρ s|c=>.ok c s
end
structure Df where
 name:String
 ps:Nat
 vs:Nat
 body:Ss
structure Lm where
 id:String
 ps:Nat
 cs:Nat
 body:E
inductive HT where
 | isi (cs:List String)|one (c:String)|not (t:HT)|or (a b:HT)
inductive Hd where
 | ret (t:HT)|iff (t:HT) (b:Bool) (h:Hd)|nob (b:Bool)|noe
noncomputable def subC (c d:String):Bool:=c==d||(d == "TollError"||d == "ValueError")
noncomputable def HT.val (c:String):HT->Bool
 | .isi cs=>cs.any (subC c)
 | .one d=>subC c d
 | .not t=>!t.val c
 | .or a b=>if a.val c then true else b.val c
noncomputable def HT.ok (p:String->Bool):HT->Bool
 | .isi cs=>cs.all p
 | .one d=>p d
 | .not t=>t.ok p
 | .or a b=>a.ok p&&b.ok p
noncomputable def Hd.val (c:String):Hd->Bool
 | .ret t=>t.val c
 | .iff t b h=>if t.val c then b else h.val c
 | .nob b=>b
 | .noe=>false
noncomputable def Hd.ok (p:String->Bool):Hd->Bool
 | .ret t=>t.ok p
 | .iff t _ h=>t.ok p&&h.ok p
 | .nob _=>true
 | .noe=>true
noncomputable def Hd.nn:Hd->Bool
 | .nob _=>true|.noe=>true|_=>false
noncomputable def af6 (ok:Sto->Bool)(g:D->Env->Sto->R Ct)(gx:D->Env->Sto->Option (String×Sto)):List D->Env->Sto->Option (String×Sto)
 | [],_,_=>none
 | d::l,ρ,s=>if ok s then match g d ρ s with
   | .ok (.next ρ1) s1=>af6 ok g gx l ρ1 s1
   | .ok (.cont ρ1) s1=>af6 ok g gx l ρ1 s1
   | .ok _ _=>none
   | _=>gx d ρ s
  else none
noncomputable def zL (c:Env->Sto->R D)(g:Env->Sto->R Ct)(gx:Env->Sto->Option (String×Sto)):Nat->Env->Sto->Option (String×Sto)
 | 0,_,_=>none
 | n+1,ρ,s=>match c ρ s with
  | .ok (.bl true) s1=>match g ρ s1 with
   | .ok (.next ρ1) s2=>zL c g gx n ρ1 s2
   | .ok (.cont ρ1) s2=>zL c g gx n ρ1 s2
   | .ok _ _=>none
   | _=>gx ρ s1
  | _=>none
open Classical in
noncomputable def whlX (c:Env->Sto->R D)(g:Env->Sto->R Ct)(gx:Env->Sto->Option (String×Sto))(ρ:Env)(s:Sto):Option (String×Sto):=if h:∃ n,(zL c g gx n ρ s).isSome=true then zL c g gx h.choose ρ s else none
inductive XB where
 | no|rais (c:String)|call (f:String) (as:As)|iteT (c:E) (a r:XB)|seq (s:S) (b:XB)
 | forX (tg:Tg) (it:I) (b:Ss) (x:XB)|whlX (c:E) (b:Ss) (x:XB)
noncomputable def xB (F:Fns):XB->Env->Sto->Option (String×Sto)
 | .no,_,_=>none
 | .rais c,_,s=>if F.xc c=true then some (c,s)else none
 | .call f as,ρ,s=>match ag2 F as ρ s with|.ok l s1=>F.xcall f l s1|_=>none
 | .iteT c a r,ρ,s=>match ev F c ρ s with|.ok (.bl b) s1=>if b then xB F a ρ s1 else xB F r ρ s1|_=>none
 | .seq st b,ρ,s=>match ex F st ρ s with|.ok (.next ρ1) s1=>xB F b ρ1 s1|_=>none
 | .forX tg it b x,ρ,s=>match evI F it ρ s with
  | .ok q s0=>af6 (λ s=>chk s0 s q.src) (λ d ρ s=>match zV ρ tg d with
   | some ρ=>exs F b ρ s
   | none=>.bad) (λ d ρ s=>match zV ρ tg d with
   | some ρ=>xB F x ρ s
   | none=>none) q.its ρ s0
  | _=>none
 | .whlX c b x,ρ,s=>DV.whlX (ev F c) (exs F b) (xB F x) ρ s
structure Xf where
 ps:Nat
 vs:Nat
 body:XB
structure Tf where
 ps:Nat
 vs:Nat
 body:Ss
 xb:XB
 c:String
 i:Nat
 h:Hd
 tl:Ss
structure Pr where
 df:String->Option Df
 lm:String->Option Lm
 con:String->Option D
 xf:String->Option Xf
 tf:String->Option Tf
 xc:String->Bool
 xt:String->Bool
 cdc:String->Option (List (List Nat×List Nat))
noncomputable def aj9 (st st':Sto):Bool:=(aU st.length).all λ i=>decide (st'[i]?=st[i]?)||(match st'[i]? with|some o=>o.bnd st.length|none=>false)
noncomputable def zo (st:Sto)(d:D)(st':Sto):R D :=
 if aj9 st st' then
  match d with
  | .ref r=>if r<st.length then .ok d (st'.take st.length)else match st'[r]? with
   | some o=>if o.bnd st.length then .ok (.ref st.length) (st'.take st.length++[o])else .ok d st'
   | none=>.bad
  | d=>if d.bnd st.length then .ok d (st'.take st.length)else .ok d st'
 else .ok d st'
noncomputable def Hd.out (h:Hd)(c:String)(s s':Sto):R D:=match h with
 | .noe=>zo s (.ref s'.length) (s'++[.lst []])
 | h=>zo s (.bl (h.val c)) s'
noncomputable def bj4 (F:Fns)(d:Tf)(l:List D)(s:Sto):R D:=match xB F d.xb (l.map some++aq d.vs none) s with
 | some (c,s')=>if c=d.c/\F.xc c=true/\d.h.ok F.xt=true then d.h.out c s s' else .bad
 | none=>(exs F d.body (l.map some++aq d.vs none) s).bind λ c s1=>match c with
  | .ret v=>zo s v s1
  | .next ρ=>(exs F d.tl ρ s1).bind λ c s2=>match c with
   | .ret v=>zo s v s2
   | .next _=>zo s .non s2
   | _=>.bad
  | _=>.bad
noncomputable def aa0 (P:Pr):Nat->Fns
 | 0=>⟨λ _ _ _=>.bad,λ _ _ _ _=>.bad,P.con,λ _ _ _=>none,P.xc,P.xt,P.cdc⟩
 | n+1=>⟨λ f l s=>match P.df f with
   | some d=>if l.length=d.ps then(exs (aa0 P n) d.body (l.map some++aq d.vs none) s).bind λ c s'=>match c with
     | .ret v=>zo s v s'
     | .next _=>zo s .non s'
     | _=>.bad else .bad
   | none=>match P.tf f with
    | some d=>if l.length=d.ps then bj4 (aa0 P n) d l s else .bad
    | none=>.bad,
  λ id cs l s=>match P.lm id with
   | some d=>if l.length=d.ps/\cs.length=d.cs/\(D.nclL l&&D.nclL cs&&s.all O.ncl)=true then(ev (aa0 P n) d.body (l.map some++cs.map some) s).bind λ v s'=>zo s v s' else .bad
   | none=>.bad,P.con,
  λ f l s=>match P.xf f with
   | some d=>if l.length=d.ps then xB (aa0 P n) d.body (l.map some++aq d.vs none) s else none
   | none=>none,P.xc,P.xt,P.cdc⟩
def KP (s s':Sto):Prop:=∀(i:Nat) (o:O),s[i]?=some o->∃ o',s'[i]?=some o'/\o'.kd=o.kd
theorem KP.refl (s:Sto):KP s s:=λ i o h=>⟨o,h,rfl⟩
theorem KP.trans {a b c:Sto}(h:KP a b)(g:KP b c):KP a c:=λ i o e=>by
 obtain⟨B,e1,k1⟩:=h i o e
 obtain⟨F,e2,k2⟩:=g i B e1
 exact⟨F,e2,k2.trans k1⟩
theorem KP.app (s t:Sto):KP s (s++t):=λ i o e=>⟨o,by rw[aM (ag.mp e).1];exact e,rfl⟩
theorem KP.set {s:Sto}{r:Nat}{o B:O}(h:s[r]?=some B)(k:o.kd=B.kd):KP s (s.set r o):=λ i u e=>by
 by_cases z:r=i
 ·subst z
  rw[h]at e;cases e
  exact⟨o,aV (ag.mp h).1,k⟩
 ·exact⟨u,by rw[a9 z];exact e,rfl⟩
def KR {α:Type}(s:Sto)(r:R α):Prop:=∀ a s',r=.ok a s'->KP s s'
theorem KR.bad {α:Type}{s:Sto}:KR s (.bad:R α):=λ _ _ h=>by cases h
theorem KR.ok {α:Type}{s:Sto}{a:α}:KR s (.ok a s):=λ _ _ h=>by cases h;exact KP.refl _
theorem KR.bind {α β:Type}{s:Sto}{r:R α}{f:α->Sto->R β}(h:KR s r)(g:∀ a s1,KR s1 (f a s1)):KR s (r.bind f):=λ b s' e=>by
 obtain⟨a,s1,e1,e2⟩:=R.bind_inv e
 exact(h a s1 e1).trans (g a s1 b s' e2)
theorem KR.tru {α:Type}{s:Sto}{r:R D}{f:Bool->Sto->R α}(h:KR s r)(g:∀ a s1,KR s1 (f a s1)):KR s (tru r f):=KR.bind h λ a s1=>by
 cases a with
 | bl b=>exact g b s1
 | _=>exact KR.bad
theorem KR.if {α:Type}{s:Sto}{c:Prop}[Decidable c]{a b:R α}(h:KR s a)(g:KR s b):KR s (if c then a else b):=by split;exact h;exact g
theorem KR.al {s:Sto}{o:O}:KR s (ac7 o s):=λ _ _ h=>by cases h;exact KP.app _ _
theorem KR.pu {s:Sto}{d:D}:KR s (pur d s):=λ _ _ h=>by cases h;exact KP.refl _
theorem KR.bd {s:Sto}:KR s ((DV.bad:M D) s):=λ _ _ h=>by cases h
theorem KR.im {s:Sto}{c:Prop}{_:Decidable c}{d:D}:KR s ((if c then pur d else DV.bad:M D) s):=by split;exact KR.pu;exact KR.bd
theorem KR.ia {s:Sto}{c:Prop}{_:Decidable c}{o:O}:KR s (if c then ac7 o s else .bad):=KR.if KR.al KR.bd
theorem bj9 (op:BOp)(x y:D)(s:Sto):KR s (ai2 op x y s):=by
 cases op with
 | add=>cases x with
  | int a=>cases y with
   | int b=>exact KR.pu
   | _=>exact KR.bd
  | str a=>cases y with
   | str b=>exact KR.im
   | _=>exact KR.bd
  | tup a=>cases y with
   | tup b=>exact KR.im
   | _=>exact KR.bd
  | ref a=>cases y with
   | ref b =>
    show KR s (match s[a]?,s[b]? with|some (.lst l),some (.lst m)=>if l.length+m.length<=LIM then ac7 (.lst (l++m)) s else .bad|_,_=>.bad)
    split
    ·exact KR.ia
    ·exact KR.bd
   | _=>exact KR.bd
  | _=>exact KR.bd
 | sub=>cases x with
  | int a=>cases y with
   | int b=>exact KR.pu
   | _=>exact KR.bd
  | _=>exact KR.bd
 | mul=>cases x with
  | int a=>cases y with
   | int b=>exact KR.im
   | _=>exact KR.bd
  | str a=>cases y with
   | int b=>exact KR.im
   | _=>exact KR.bd
  | tup a=>cases y with
   | int b=>exact KR.im
   | _=>exact KR.bd
  | ref a=>cases y with
   | int n =>
    show KR s (match s[a]? with|some (.lst l)=>if 0<=n/\n<=1000000/\l.length*n.toNat<=LIM then ac7 (.lst (aQ1 n.toNat l)) s else .bad|_=>.bad)
    split
    ·exact KR.ia
    ·exact KR.bd
   | _=>exact KR.bd
  | _=>exact KR.bd
 | fdiv=>cases x with
  | int a=>cases y with
   | int b=>exact KR.im
   | _=>exact KR.bd
  | _=>exact KR.bd
 | mod=>cases x with
  | int a=>cases y with
   | int b=>exact KR.im
   | _=>exact KR.bd
  | _=>exact KR.bd
 | pow=>cases x with
  | int a=>cases y with
   | int b=>exact KR.im
   | _=>exact KR.bd
  | _=>exact KR.bd
 | shl=>cases x with
  | int a=>cases y with
   | int b=>exact KR.im
   | _=>exact KR.bd
  | _=>exact KR.bd
 | shr=>cases x with
  | int a=>cases y with
   | int b=>exact KR.im
   | _=>exact KR.bd
  | _=>exact KR.bd
 | band=>cases x with
  | int a=>cases y with
   | int b=>exact KR.im
   | _=>exact KR.bd
  | _=>exact KR.bd
 | _=>exact KR.bd
theorem aT5 (op:COp)(x y:D)(s:Sto):KR s (ql op x y s):=by
 have B:∀ a b:D,KR s (inM a b s):=λ a b=>by
  intro r s' h
  unfold inM at h
  split at h
  ·split at h<;>cases h;exact KP.refl _
  ·split at h
   ·split at h<;>cases h;exact KP.refl _
   ·split at h<;>cases h;exact KP.refl _
   ·split at h<;>cases h;exact KP.refl _
   ·cases h
  ·split at h<;>cases h;exact KP.refl _
  ·cases h
 cases op with
 | isin=>exact KR.bind (B x y) λ _ _=>KR.ok
 | notin=>exact KR.bind (B x y) λ _ _=>KR.ok
 | eq=>intro a s' h;change eqM x y s=_ at h;unfold eqM at h;split at h<;>cases h;exact KP.refl _
 | ne =>
  intro a s' h
  change(match eqv s DEEP x y with|some r=>R.ok (D.bl (!r)) s|none=>.bad)=_ at h
  split at h<;>cases h;exact KP.refl _
 | _ =>
  intro a s' h
  cases x with
  | int i=>(cases y with
   | int j=>cases h;exact KP.refl _
   | _=>cases h)
  | _=>cases h
theorem bZ4 (x y:D)(s:Sto):KR s (ixM x y s):=by
 intro a s' h
 unfold ixM at h
 repeat' split at h
 all_goals first|(cases h;exact KP.refl _;done)|(cases h;done)
theorem bw8 (x:D)(B F:Option Int)(s:Sto):KR s (slM x B F s):=by
 intro a s' h
 unfold slM at h
 repeat' split at h
 all_goals first|(cases h;exact KP.refl _;done)|(cases h;exact KP.app _ _;done)|(cases h;done)
theorem br6 (x:D)(s:Sto):KR s (bm1 x s):=by
 intro a s' h
 unfold bm1 at h
 repeat' split at h
 all_goals first|(cases h;exact KP.refl _;done)|(cases h;done)
theorem aB3 (x:D)(s:Sto):KR s (bo6 x s):=by
 intro a s' h
 unfold bo6 at h
 repeat' split at h
 all_goals first|(cases h;exact KP.refl _;done)|(cases h;done)
theorem bt5 (x:D)(s:Sto):KR s (aX0 x s):=by
 intro a s' h
 unfold aX0 at h
 repeat' split at h
 all_goals first|(cases h;exact KP.refl _;done)|(cases h;done)
theorem aJ7 (x:D)(s:Sto):KR s (aM6 x s):=by
 intro a s' h
 unfold aM6 at h
 repeat' split at h
 all_goals first|(cases h;exact KP.refl _;done)|(cases h;done)
theorem bd6 (x:D)(s:Sto):KR s (bk1 x s):=by
 intro a s' h
 unfold bk1 at h
 repeat' split at h
 all_goals first|(cases h;exact KP.refl _;done)|(cases h;done)
theorem bC2 (x y:D)(s:Sto):KR s (bq8 x y s):=by
 intro a s' h
 unfold bq8 at h
 repeat' split at h
 all_goals first|(cases h;exact KP.refl _;done)|(cases h;done)
theorem bx9 (l:List D)(s:Sto):KR s (aW3 l s):=by
 intro a s' h
 unfold aW3 at h
 split at h
 ·split at h<;>cases h;exact KP.refl _
 ·cases h;exact KP.refl _
 ·cases h
theorem bC8 (l:List D)(s:Sto):KR s (aL9 l s):=by
 intro a s' h
 unfold aL9 at h
 split at h
 ·split at h<;>cases h;exact KP.refl _
 ·cases h
theorem bX0 (b:Bi)(l:List D)(s:Sto):KR s (bi b l s):=by
 have k1:∀ f:D->M D,(∀ d,KR s (f d s))->KR s (bi1 f l s):=λ f hf=>by
  cases l with
  | nil=>exact KR.bad
  | cons d t=>(cases t with
   | nil=>exact hf d
   | cons _ _=>exact KR.bad)
 have k2:∀ k d,KR s (isK k d s):=λ k d=>by
  intro a s' h
  unfold isK at h
  repeat' split at h
  all_goals first|(cases h;exact KP.refl _;done)|(cases h;done)
 have k3:∀ d,KR s (bu2 d s):=λ d=>by
  intro a s' h
  unfold bu2 at h
  repeat' split at h
  all_goals first|(cases h;exact KP.refl _;done)|(cases h;done)
 cases b with
 | len=>exact k1 _ k3
 | isInt=>exact k1 _ (k2 1)
 | isBool=>exact k1 _ (k2 2)
 | isStr=>exact k1 _ (k2 3)
 | isTup=>exact k1 _ (k2 4)
 | isList=>exact k1 _ (k2 5)
 | str=>exact bx9 l s
 | int =>
  intro a s' h
  have h:(match am4 l with|some [b]=>R.ok (D.int (if b then 1 else 0)) s|some _=>.bad|none=>aL9 l s)=.ok a s':=h
  split at h
  ·cases h;exact KP.refl _
  ·cases h
  ·exact bC8 l s a s' h
 | _ =>
  intro a s' h
  unfold bi at h
  first|(cases h;done)|(simp only at h;split at h<;>first|(cases h;exact KP.refl _;done)|(cases h;done))
theorem bL7 (k:Mk)(l:List D)(s:Sto):KR s (mk k l s):=by
 cases k with
 | tuple=>exact KR.ok
 | list=>exact KR.al
 | lenset=>exact KR.bad
 | _ =>
  intro a s' h
  unfold mk at h
  simp only at h
  repeat' split at h
  all_goals first|(cases h;exact KP.refl _;done)|(cases h;exact KP.app _ _;done)|(cases h;done)
theorem bn1 (k:Mk)(l:List D)(d:D)(s:Sto):KR s (mkD k l d s):=by
 intro a s' h
 unfold mkD at h
 repeat' split at h
 all_goals first|(cases h;exact KP.refl _;done)|(cases h;done)
theorem bq3 (m : Mt) (o : D) (l : List D) (s : Sto) : KR s (meth m o l s) := by
  have lc : ∀ {r : Nat} {f : List D -> R D}, (∀ l, s[r]? = some (.lst l) -> KR s (f l)) -> KR s (match s[r]? with|some (.lst l) => f l|_ => .bad : R D) := λ {r f} h => by
    cases e : s[r]? with
    | none => exact KR.bad
    | some ob => cases ob with
      | lst l => exact h l e
      | _ => exact KR.bad
  cases o with
  | ref r => cases m with
    | append => match l with
      | [d] => exact lc λ l e => KR.if (λ _ _ h => by cases h; exact KP.set e rfl) KR.bad
      | [] => exact KR.bd
      | _ :: _ :: _ => exact KR.bd
    | pop => match l with
      | [] => exact lc λ l e => by
                show KR s (match l.getLast? with|some d => R.ok d (s.set r (.lst l.dropLast))|none => .bad : R D)
                split
                · exact λ _ _ h => by cases h; exact KP.set e rfl
                · exact KR.bad
      | _ :: _ => exact KR.bd
    | reverse => match l with
      | [] => exact lc λ l e => λ _ _ h => by cases h; exact KP.set e rfl
      | _ :: _ => exact KR.bd
    | clear => match l with
      | [] => exact lc λ l e => λ _ _ h => by cases h; exact KP.set e rfl
      | _ :: _ => exact KR.bd
    | index => match l with
      | [d] => exact lc λ l e => by
                show KR s (match inL s d l, idx s d 0 l with|some true, some n => R.ok (.int n) s|_, _ => .bad : R D)
                split
                · exact λ _ _ h => by cases h; exact KP.refl _
                · exact KR.bad
      | [] => exact KR.bd
      | _ :: _ :: _ => exact KR.bd
    | _ => exact KR.bd
  | _ => cases m <;> exact KR.bd
theorem aZ8 (o:D)(l:List D)(s:Sto):KR s (bG5 o l s):=by
 intro a s' h
 unfold bG5 at h
 repeat' split at h
 all_goals first|(cases h;done)|(rename_i e _;cases h;exact KP.set e rfl;done)
theorem bi2 (o i v:D)(s:Sto):KR s (setIx o i v s):=by
 intro a s' h
 unfold setIx at h
 cases o with
 | ref r =>
  simp only at h
  cases e:s[r]? with
  | none=>rw[e]at h;cases h
  | some ob =>
   rw[e]at h
   cases ob with
   | lst l =>
    cases i with
    | int k=>simp only at h;split at h<;>cases h;exact KP.set e rfl
    | _=>cases h
   | dic l=>simp only at h;split at h<;>cases h;exact KP.set e rfl
   | dit l=>simp only at h;split at h<;>cases h;exact KP.set e rfl
   | _=>cases h
 | _=>cases h
theorem bq1 (o k e:D)(s:Sto):KR s (cb5 o k e s):=by
 intro a s' h
 unfold cb5 at h
 repeat' split at h
 all_goals first|(cases h;exact KP.refl _;done)|(cases h;done)
theorem bB5 (d:D)(s:Sto):KR s (cc7 d s):=by
 intro a s' h
 unfold cc7 at h
 repeat' split at h
 all_goals first|(cases h;exact KP.refl _;done)|(cases h;done)
structure FK (F:Fns):Prop where
 call:∀ f l s,KR s (F.call f l s)
 lam:∀ id cs l s,KR s (F.lam id cs l s)
 xcall:∀ f l s c s',F.xcall f l s=some (c,s')->KP s s'
theorem au1 {ok:Sto->Bool}{g:D->Env->Sto->R (Option D×Env)}(hg:∀ d ρ s,KR s (g d ρ s)):∀(l:List D) (ρ:Env) (s:Sto),KR s (ad7 ok g l ρ s)
 | [],ρ,s=>KR.if KR.ok KR.bad
 | d::l,ρ,s=>KR.if (KR.bind (hg d ρ s) λ p s1=>KR.bind (au1 hg l p.2 s1) λ r s2=>KR.ok) KR.bad
section
variable {F:Fns} (hF:FK F)
theorem aS0 (ρ:Env)(i:Nat)(s:Sto):KR s (aC1 ρ i s):=by
 intro a s' h
 unfold aC1 at h
 split at h<;>cases h;exact KP.refl _
include hF
mutual
theorem zb:∀(e:E) (ρ:Env) (s:Sto),KR s (ev F e ρ s)
 | .var i,ρ,s=>aS0 ρ i s
 | .cst c,ρ,s=>KR.ok
 | .glob x,ρ,s=>by
  intro a s' h
  change(match F.con x with|some d=>R.ok d s|none=>.bad)=_ at h
  split at h<;>cases h;exact KP.refl _
 | .bin op a b,ρ,s=>KR.bind (zb a ρ s) λ x s=>KR.bind (zb b ρ s) λ y s=>bj9 op x y s
 | .neg a,ρ,s=>KR.bind (zb a ρ s) λ x s=>by
  cases x with
  | int i=>exact KR.ok
  | _=>exact KR.bad
 | .not a,ρ,s=>KR.tru (zb a ρ s) λ b s=>KR.ok
 | .cmp op a b,ρ,s=>KR.bind (zb a ρ s) λ x s=>KR.bind (zb b ρ s) λ y s=>aT5 op x y s
 | .chain o p a b c,ρ,s=>KR.bind (zb a ρ s) λ x s=>KR.bind (zb b ρ s) λ y s=>KR.tru (aT5 o x y s) λ k s=>KR.if (KR.bind (zb c ρ s) λ z s=>aT5 p y z s) KR.ok
 | .isN a,ρ,s=>KR.bind (zb a ρ s) λ x s=>KR.ok
 | .notN a,ρ,s=>KR.bind (zb a ρ s) λ x s=>KR.ok
 | .isB a b,ρ,s=>KR.bind (zb a ρ s) λ x s=>by
  cases x with
  | bl i=>exact KR.ok
  | _=>exact KR.bad
 | .notB a b,ρ,s=>KR.bind (zb a ρ s) λ x s=>by
  cases x with
  | bl i=>exact KR.ok
  | _=>exact KR.bad
 | .and a b,ρ,s=>KR.tru (zb a ρ s) λ c s=>KR.if (KR.tru (zb b ρ s) λ c s=>KR.ok) KR.ok
 | .or a b,ρ,s=>KR.tru (zb a ρ s) λ c s=>KR.if KR.ok (KR.tru (zb b ρ s) λ c s=>KR.ok)
 | .ite c a b,ρ,s=>KR.tru (zb c ρ s) λ k s=>KR.if (zb a ρ s) (zb b ρ s)
 | .tup es,ρ,s=>KR.bind (ae5 es ρ s) λ l s=>KR.ok
 | .lst es,ρ,s=>KR.bind (ae5 es ρ s) λ l s=>KR.al
 | .dic .nil .nil,ρ,s=>KR.al
 | .dic (.cons k .nil) (.cons v .nil),ρ,s=>by
  intro a s' h
  obtain⟨kd,s1,e1,h⟩:=R.bind_inv (show(ev F k ρ (s++[.dic []])).bind _=_ from h)
  obtain⟨B,s2,e2,h⟩:=R.bind_inv h
  split at h
  case isFalse=>cases h
  rename_i hc
  cases h
  exact((KP.app _ _).trans ((zb k ρ _ _ _ e1).trans (zb v ρ _ _ _ e2))).trans (KP.set hc.2 rfl)
 | .dic .nil (.cons _ _),ρ,s=>KR.bad
 | .dic (.cons _ .nil) .nil,ρ,s=>KR.bad
 | .dic (.cons _ .nil) (.cons _ (.cons _ _)),ρ,s=>KR.bad
 | .dic (.cons _ (.cons _ _)) _,ρ,s=>KR.bad
 | .dicT,ρ,s=>KR.al
 | .dicU k v,ρ,s=>by
  intro a s' h
  obtain⟨kd,s1,e1,h⟩:=R.bind_inv (show(ev F k ρ (s++[.dit []])).bind _=_ from h)
  obtain⟨B,s2,e2,h⟩:=R.bind_inv h
  split at h
  case isFalse=>cases h
  rename_i hc
  cases h
  exact((KP.app _ _).trans ((zb k ρ _ _ _ e1).trans (zb v ρ _ _ _ e2))).trans (KP.set hc.2 rfl)
 | .fstr es,ρ,s=>KR.bind (ae5 es ρ s) λ x s=>by
  intro a s' h
  unfold bR1 at h
  split at h
  ·split at h<;>cases h;exact KP.refl _
  ·cases h
 | .inC e c,ρ,s=>KR.bind (zb e ρ s) λ x s=>by
  intro a s' h
  unfold cd7 at h
  split at h<;>cases h;exact KP.refl _
 | .getC c e,ρ,s=>KR.bind (zb e ρ s) λ x s=>by
  intro a s' h
  unfold bM7 at h
  split at h
  ·split at h
   ·split at h<;>cases h;exact KP.refl _
   ·cases h
  ·cases h
 | .bitl a,ρ,s=>KR.bind (zb a ρ s) λ x s=>by
  intro a s' h
  unfold bD4 at h
  repeat' split at h
  all_goals first|(cases h;exact KP.refl _;done)|(cases h;done)
 | .lrng a,ρ,s=>KR.bind (zb a ρ s) λ x s=>by
  intro a s' h
  unfold bM8 at h
  repeat' split at h
  all_goals first|(cases h;exact KP.app _ _;done)|(cases h;done)
 | .get2 o k d,ρ,s=>KR.bind (zb o ρ s) λ x s=>KR.bind (zb k ρ s) λ y s=>KR.bind (zb d ρ s) λ z s=>bq1 x y z s
 | .ix a b,ρ,s=>KR.bind (zb a ρ s) λ x s=>KR.bind (zb b ρ s) λ y s=>bZ4 x y s
 | .slL a lo,ρ,s=>KR.bind (zb a ρ s) λ x s=>KR.bind (zb lo ρ s) λ y s=>by
  cases y with
  | int i=>exact bw8 _ _ _ _
  | _=>exact KR.bad
 | .slU a hi,ρ,s=>KR.bind (zb a ρ s) λ x s=>KR.bind (zb hi ρ s) λ y s=>by
  cases y with
  | int i=>exact bw8 _ _ _ _
  | _=>exact KR.bad
 | .slLU a lo hi,ρ,s=>KR.bind (zb a ρ s) λ x s=>KR.bind (zb lo ρ s) λ y s=>by
  cases y with
  | int i =>
   refine KR.bind (zb hi ρ s) λ z s=>?_
   cases z with
   | int j=>exact bw8 _ _ _ _
   | _=>exact KR.bad
  | _=>exact KR.bad
 | .rev a,ρ,s=>KR.bind (zb a ρ s) λ x s=>by
  cases x with
  | str l=>exact KR.ok
  | ref r =>
   intro a s' h
   unfold cc6 at h
   repeat' split at h
   all_goals first|(cases h;exact KP.refl _;done)|(cases h;exact KP.app _ _;done)|(cases h;done)
  | _=>exact KR.bad
 | .call f as,ρ,s=>KR.bind (ag5 as ρ s) λ l s=>hF.call f l s
 | .callC f as,ρ,s=>KR.bind (ag5 as ρ s) λ l s=>KR.bind (hF.call f l s) λ d s'=>KR.if KR.ok KR.bad
 | .callV i es,ρ,s=>KR.bind (ae5 es ρ s) λ l s=>by
  intro a s' h
  split at h
  ·exact hF.call _ _ _ _ _ h
  ·exact hF.lam _ _ _ _ _ _ h
  ·cases h
 | .bi b es,ρ,s=>KR.bind (ae5 es ρ s) λ l s=>bX0 b l s
 | .mk k it,ρ,s=>KR.bind (aU8 it ρ s) λ q s=>bL7 k q s
 | .mkD k it d,ρ,s=>KR.bind (aU8 it ρ s) λ q s=>KR.bind (zb d ρ s) λ d s=>bn1 k q d s
 | .meth m o es,ρ,s=>KR.bind (zb o ρ s) λ x s=>KR.bind (ae5 es ρ s) λ l s=>bq3 m x l s
 | .ext o it,ρ,s=>KR.bind (zb o ρ s) λ x s=>KR.bind (aU8 it ρ s) λ q s=>aZ8 x q s
 | .extS o e,ρ,s=>KR.bind (zb o ρ s) λ x s=>KR.bind (zb e ρ s) λ y s=>by
  intro a s' h
  unfold extS at h
  repeat' split at h
  all_goals first|(cases h;done)|exact aZ8 _ _ _ _ _ h
 | .join o e,ρ,s=>KR.bind (zb o ρ s) λ x s=>KR.bind (zb e ρ s) λ y s=>bC2 x y s
 | .mks k e,ρ,s=>KR.bind (zb e ρ s) λ x s=>KR.bind (aB3 x s) λ q s=>bL7 k q s
 | .mkDs k e d,ρ,s=>KR.bind (zb e ρ s) λ x s=>KR.bind (zb d ρ s) λ z s=>KR.bind (aB3 x s) λ q s=>bn1 k q z s
 | .minK _ e j,ρ,s=>KR.bind (zb e ρ s) λ x s=>KR.bind (aB3 x s) λ q s=>by
  intro a s' h
  unfold br9 at h
  split at h
  ·split at h<;>cases h;exact KP.refl _
  ·cases h
 | .spl o c,ρ,s=>KR.bind (zb o ρ s) λ x s=>by
  intro a s' h
  unfold bE1 at h
  split at h
  ·split at h<;>cases h;exact KP.app _ _
  ·cases h
theorem ae5:∀(es:Es) (ρ:Env) (s:Sto),KR s (evs F es ρ s)
 | .nil,ρ,s=>KR.ok
 | .cons e es,ρ,s=>KR.bind (zb e ρ s) λ d s=>KR.bind (ae5 es ρ s) λ l s=>KR.ok
theorem ag5:∀(B:As) (ρ:Env) (s:Sto),KR s (ag2 F B ρ s)
 | .nil,ρ,s=>KR.ok
 | .ex e B,ρ,s=>KR.bind (zb e ρ s) λ d s=>KR.bind (ag5 B ρ s) λ l s=>KR.ok
 | .lam id caps B,ρ,s=>by
  intro a s' h
  change(match bx2 ρ caps with|some cs=>(ag2 F B ρ s).bind λ l s=>R.ok (D.clo id cs::l) s|none=>.bad)=_ at h
  split at h
  ·exact KR.bind (ag5 B ρ s) (λ l s=>KR.ok) _ _ h
  ·cases h
 | .fn f B,ρ,s=>KR.bind (ag5 B ρ s) λ l s=>KR.ok
theorem aK2:∀(it:I) (ρ:Env) (s:Sto),KR s (evI F it ρ s)
 | .seq e,ρ,s=>KR.bind (zb e ρ s) λ d s=>bt5 d s
 | .rng1 a,ρ,s=>KR.bind (zb a ρ s) λ x s=>by
  cases x with
  | int i=>exact KR.if KR.ok KR.bad
  | _=>exact KR.bad
 | .rng2 a b,ρ,s=>KR.bind (zb a ρ s) λ x s=>KR.bind (zb b ρ s) λ y s=>by
  cases x with
  | int i=>(cases y with
   | int j=>exact KR.if KR.ok KR.bad
   | _=>exact KR.bad)
  | _=>exact KR.bad
 | .rngD a,ρ,s=>KR.bind (zb a ρ s) λ x s=>by
  cases x with
  | int i=>exact KR.if KR.ok KR.bad
  | _=>exact KR.bad
 | .rng3 a b c,ρ,s=>KR.bind (zb a ρ s) λ x s=>KR.bind (zb b ρ s) λ y s=>by
  cases x with
  | int i=>(cases y with
   | int j=>exact KR.if KR.ok KR.bad
   | _=>exact KR.bad)
  | _=>exact KR.bad
 | .enum (.seq e),ρ,s=>KR.bind (zb e ρ s) λ d s=>KR.bind (bd6 d s) λ q s=>KR.ok
 | .zip (.seq a) (.seq b),ρ,s=>KR.bind (zb a ρ s) λ x s=>KR.bind (zb b ρ s) λ y s=>KR.bind (aJ7 x s) λ p s=>KR.bind (aJ7 y s) λ q s=>KR.ok
 | .enum (.rng1 _),ρ,s=>KR.bad
 | .enum (.rng2 _ _),ρ,s=>KR.bad
 | .enum (.rng3 _ _ _),ρ,s=>KR.bad
 | .enum (.rngD _),ρ,s=>KR.bad
 | .enum (.enum _),ρ,s=>KR.bad
 | .enum (.zip _ _),ρ,s=>KR.bad
 | .enum (.items _),ρ,s=>KR.bad
 | .zip (.rng1 _) _,ρ,s=>KR.bad
 | .zip (.rng2 _ _) _,ρ,s=>KR.bad
 | .zip (.rng3 _ _ _) _,ρ,s=>KR.bad
 | .zip (.rngD _) _,ρ,s=>KR.bad
 | .zip (.enum _) _,ρ,s=>KR.bad
 | .zip (.zip _ _) _,ρ,s=>KR.bad
 | .zip (.items _) _,ρ,s=>KR.bad
 | .zip (.seq _) (.rng1 _),ρ,s=>KR.bad
 | .zip (.seq _) (.rng2 _ _),ρ,s=>KR.bad
 | .zip (.seq _) (.rng3 _ _ _),ρ,s=>KR.bad
 | .zip (.seq _) (.rngD _),ρ,s=>KR.bad
 | .zip (.seq _) (.enum _),ρ,s=>KR.bad
 | .zip (.seq _) (.zip _ _),ρ,s=>KR.bad
 | .zip (.seq _) (.items _),ρ,s=>KR.bad
 | .items e,ρ,s=>KR.bad
theorem aU8:∀(it:L) (ρ:Env) (s:Sto),KR s (evL F it ρ s)
 | .comp tg it e caps,ρ,s=>KR.bind (aK2 it ρ s) λ q s0=>KR.if (au1 (λ d ρ s=>by
   intro a s' h
   split at h
   ·exact KR.bind (zb e _ s) (λ v s=>KR.ok) _ _ h
   ·cases h) _ _ _) KR.bad
 | .compIf tg it c e caps,ρ,s=>KR.bind (aK2 it ρ s) λ q s0=>KR.if (au1 (λ d ρ s=>by
   intro a s' h
   split at h
   ·exact KR.tru (zb c _ s) (λ k s=>KR.if (KR.bind (zb e _ s) λ v s=>KR.ok) KR.ok) _ _ h
   ·cases h) _ _ _) KR.bad
 | .disp es,ρ,s=>ae5 es ρ s
 | .seq e,ρ,s=>KR.bind (zb e ρ s) λ d s=>br6 d s
 | .itm e,ρ,s=>KR.bind (zb e ρ s) λ d s=>bB5 d s
end
theorem aG0 {ok:Sto->Bool}{g:D->Env->Sto->R Ct}(hg:∀ d ρ s,KR s (g d ρ s)):∀(l:List D) (ρ:Env) (s:Sto),KR s (qw ok g l ρ s)
 | [],ρ,s=>KR.if KR.ok KR.bad
 | d::l,ρ,s=>KR.if (KR.bind (hg d ρ s) λ c s=>by
   cases c with
   | next ρ=>exact aG0 hg l ρ s
   | cont ρ=>exact aG0 hg l ρ s
   | brk ρ=>exact KR.ok
   | ret d=>exact KR.ok) KR.bad
theorem aG2 {c:Env->Sto->R D}{g:Env->Sto->R Ct}(hc:∀ ρ s,KR s (c ρ s))(hg:∀ ρ s,KR s (g ρ s)):∀(n:Nat) (ρ:Env) (s:Sto),KR s (qW c g n ρ s)
 | 0,ρ,s=>KR.bad
 | n+1,ρ,s=>KR.tru (hc ρ s) λ b s=>KR.if (KR.bind (hg ρ s) λ h s=>by
   cases h with
   | next ρ=>exact aG2 hc hg n ρ s
   | cont ρ=>exact aG2 hc hg n ρ s
   | brk ρ=>exact KR.ok
   | ret d=>exact KR.ok) KR.ok
mutual
theorem bL6:∀(st:S) (ρ:Env) (s:Sto),KR s (ex F st ρ s)
 | .asg tg e,ρ,s=>KR.bind (zb hF e ρ s) λ d s=>by
  intro a s' h
  split at h<;>cases h;exact KP.refl _
 | .setIx o i e,ρ,s=>KR.bind (zb hF e ρ s) λ d s=>KR.bind (zb hF o ρ s) λ x s=>KR.bind (zb hF i ρ s) λ y s=>KR.bind (bi2 x y d s) λ _ s=>KR.ok
 | .aug i e,ρ,s=>KR.bind (aS0 ρ i s) λ x s=>KR.bind (zb hF e ρ s) λ y s=>by
  intro a s' h
  repeat' split at h
  all_goals first|(cases h;exact KP.refl _;done)|(cases h;done)
 | .ex e,ρ,s=>KR.bind (zb hF e ρ s) λ d s=>KR.ok
 | .ret e,ρ,s=>KR.bind (zb hF e ρ s) λ d s=>KR.ok
 | .retN,ρ,s=>KR.ok
 | .ite c a b,ρ,s=>KR.tru (zb hF c ρ s) λ k s=>KR.if (ae6 a ρ s) (ae6 b ρ s)
 | .whl c b,ρ,s=>by
  intro r s' h
  change whl (ev F c) (exs F b) ρ s=_ at h
  unfold whl at h
  split at h
  ·exact aG2 hF (λ ρ s=>zb hF c ρ s) (λ ρ s=>ae6 b ρ s) _ ρ s _ _ h
  ·cases h
 | .for_ tg it b,ρ,s=>KR.bind (aK2 hF it ρ s) λ q s0=>aG0 hF (λ d ρ s=>by
   intro a s' h
   split at h
   ·exact ae6 b _ _ _ _ h
   ·cases h) _ _ _
 | .pass,ρ,s=>KR.ok
 | .cont,ρ,s=>KR.ok
 | .brk,ρ,s=>KR.ok
 | .raise,ρ,s=>KR.bad
 | .und i,ρ,s=>by
  intro a s' h
  change(match ak9 ρ i with|some ρ=>R.ok (Ct.next ρ) s|none=>.bad)=_ at h
  split at h<;>cases h;exact KP.refl _
theorem ae6:∀(h:Ss) (ρ:Env) (s:Sto),KR s (exs F h ρ s)
 | .nil,ρ,s=>KR.ok
 | .cons st h,ρ,s=>KR.bind (bL6 st ρ s) λ c s=>by
  cases c with
  | next ρ=>exact ae6 h ρ s
  | _=>exact KR.ok
end
end
theorem qf {s st:Sto}{d:D}(h:KP s st):KR s (zo s d st):=by
 have tk:∀ t,KP s (st.take s.length++t):=λ t i o e=>by
  obtain⟨G,e',k⟩:=h i o e
  have J:=(ag.mp e).1
  have F:=(ag.mp e').1
  refine⟨G,?_,k⟩
  rw[aM (by rw[bZ];omega),i6,if_pos J];exact e'
 have B:KP s (st.take s.length):=by have:=tk [];rwa [bq]at this
 intro a s' e
 unfold zo at e
 repeat' split at e
 all_goals first|(cases e;exact B;done)|(cases e;exact tk _;done)|(cases e;exact h;done)|(cases e;done)
theorem ar7 {ok:Sto->Bool}{g:D->Env->Sto->R Ct}{B:D->Env->Sto->Option (String×Sto)}(hg:∀ d ρ s,KR s (g d ρ s))(hx:∀ d ρ s c s',B d ρ s=some (c,s')->KP s s'):∀(l:List D) (ρ:Env) (s:Sto) (c:String) (s':Sto),af6 ok g B l ρ s=some (c,s')->KP s s'
 | [],ρ,s,c,s',h=>by cases h
 | d::l,ρ,s,c,s',h=>by
  unfold af6 at h
  split at h
  ·split at h
   ·rename_i e;exact(hg d ρ s _ _ e).trans (ar7 hg hx l _ _ _ _ h)
   ·rename_i e;exact(hg d ρ s _ _ e).trans (ar7 hg hx l _ _ _ _ h)
   ·cases h
   ·exact hx _ _ _ _ _ h
  ·cases h
theorem as1 {t:Env->Sto->R D}{g:Env->Sto->R Ct}{F:Env->Sto->Option (String×Sto)}(B:∀ ρ s,KR s (t ρ s))(hg:∀ ρ s,KR s (g ρ s))(hx:∀ ρ s c s',F ρ s=some (c,s')->KP s s'):∀(n:Nat) (ρ:Env) (s:Sto) (c:String) (s':Sto),zL t g F n ρ s=some (c,s')->KP s s'
 | 0,ρ,s,c,s',h=>by cases h
 | n+1,ρ,s,c,s',h=>by
  unfold zL at h
  split at h
  ·rename_i s1 e1
   have k:=B ρ s _ _ e1
   split at h
   ·rename_i e;exact k.trans ((hg ρ s1 _ _ e).trans (as1 B hg hx n _ _ _ _ h))
   ·rename_i e;exact k.trans ((hg ρ s1 _ _ e).trans (as1 B hg hx n _ _ _ _ h))
   ·cases h
   ·exact k.trans (hx _ _ _ _ h)
  ·cases h
theorem aD5 {F:Fns}(B:FK F):∀(b:XB) (ρ:Env) (s:Sto) (c:String) (s':Sto),xB F b ρ s=some (c,s')->KP s s'
 | .no,ρ,s,c,s',h=>by cases h
 | .rais d,ρ,s,c,s',h=>by
  change(if F.xc d=true then some (d,s)else none)=_ at h
  split at h
  ·cases h;exact KP.refl _
  ·cases h
 | .call f as,ρ,s,c,s',h=>by
  change(match ag2 F as ρ s with|.ok l s1=>F.xcall f l s1|_=>none)=_ at h
  split at h
  ·rename_i l s1 e;exact(ag5 B as ρ s _ _ e).trans (B.xcall _ _ _ _ _ h)
  ·cases h
 | .iteT d a r,ρ,s,c,s',h=>by
  change(match ev F d ρ s with|.ok (.bl b) s1=>if b then xB F a ρ s1 else xB F r ρ s1|_=>none)=_ at h
  split at h
  ·rename_i b s1 e
   have k:=zb B d ρ s _ _ e
   split at h
   ·exact k.trans (aD5 B a _ _ _ _ h)
   ·exact k.trans (aD5 B r _ _ _ _ h)
  ·cases h
 | .seq st b,ρ,s,c,s',h=>by
  change(match ex F st ρ s with|.ok (.next ρ1) s1=>xB F b ρ1 s1|_=>none)=_ at h
  split at h
  ·rename_i ρ1 s1 e;exact(bL6 B st ρ s _ _ e).trans (aD5 B b _ _ _ _ h)
  ·cases h
 | .forX tg it b x,ρ,s,c,s',h=>by
  change(match evI F it ρ s with
   | .ok q s0=>af6 (λ s=>chk s0 s q.src) (λ d ρ s=>match zV ρ tg d with
    | some ρ=>exs F b ρ s
    | none=>.bad) (λ d ρ s=>match zV ρ tg d with
    | some ρ=>xB F x ρ s
    | none=>none) q.its ρ s0
   | _=>none)=_ at h
  split at h
  ·rename_i q s0 e
   refine(aK2 B it ρ s _ _ e).trans (ar7 ?_ ?_ _ _ _ _ _ h)
   ·intro d ρ s
    split
    ·exact ae6 B _ _ _
    ·exact KR.bad
   ·intro d ρ s c s' h
    split at h
    ·exact aD5 B x _ _ _ _ h
    ·cases h
  ·cases h
 | .whlX d b x,ρ,s,c,s',h=>by
  change whlX (ev F d) (exs F b) (xB F x) ρ s=_ at h
  unfold whlX at h
  split at h
  ·exact as1 (zb B d) (ae6 B b) (λ ρ s c s' h=>aD5 B x _ _ _ _ h) _ _ _ _ _ h
  ·cases h
theorem bN1 {h:Hd}{c:String}{s st:Sto}(k:KP s st):KR s (h.out c s st):=by
 unfold Hd.out
 split
 ·exact qf (k.trans (KP.app _ _))
 ·exact qf k
theorem bv0 {F:Fns}(B:FK F)(d:Tf)(l:List D)(s:Sto):KR s (bj4 F d l s):=by
 intro a s' h
 unfold bj4 at h
 split at h
 ·rename_i c s1 e
  have k:=aD5 B _ _ _ _ _ e
  split at h
  ·exact bN1 k _ _ h
  ·cases h
 ·obtain⟨c,s1,e1,h⟩:=R.bind_inv h
  have k1:=ae6 B _ _ _ _ _ e1
  cases c with
  | ret v=>exact qf k1 _ _ h
  | next ρ =>
   obtain⟨c,s2,e2,h⟩:=R.bind_inv h
   have k2:=k1.trans (ae6 B _ _ _ _ _ e2)
   cases c with
   | ret v=>exact qf k2 _ _ h
   | next ρ=>exact qf k2 _ _ h
   | _=>cases h
  | _=>cases h
theorem ae4 (P:Pr):∀ n,FK (aa0 P n)
 | 0=>⟨λ _ _ _=>KR.bad,λ _ _ _ _=>KR.bad,λ _ _ _ _ _ h=>by cases h⟩
 | n+1=>by
  refine⟨λ f l s=>?_,λ id cs l s=>?_,λ f l s c s' h=>?_⟩
  ·intro a s' h
   unfold aa0 at h
   simp only at h
   split at h
   case h_2 =>
    split at h
    case h_2=>cases h
    split at h
    case isFalse=>cases h
    exact bv0 (ae4 P n) _ _ _ _ _ h
   split at h
   case isFalse=>cases h
   obtain⟨c,s1,e1,h⟩:=R.bind_inv h
   have k1:=ae6 (ae4 P n) _ _ _ _ _ e1
   cases c with
   | ret v=>exact qf k1 _ _ h
   | next ρ=>exact qf k1 _ _ h
   | _=>cases h
  ·intro a s' h
   unfold aa0 at h
   simp only at h
   split at h
   case h_2=>cases h
   split at h
   case isFalse=>cases h
   obtain⟨v,s1,e1,h⟩:=R.bind_inv h
   exact qf (zb (ae4 P n) _ _ _ _ _ e1) _ _ h
  ·unfold aa0 at h
   simp only at h
   split at h
   case h_2=>cases h
   split at h
   case isFalse=>cases h
   exact aD5 (ae4 P n) _ _ _ _ _ h
end DV
end
open DV renaming Sto->kW,D->kX,Env->kZ,R->k6,ev->k7,aa0->lb,LIM->lf,eqv->li,ab6->lj,tru->ln,Pr->lp,DEEP->lq,Fns->lr,ar0->lu,eqL->lv,rep->lw,kd->lx,zV->ly,ac9->lA,Es->lB,aA4->lC,O->lD,Ct->lE,look->lF,chk->lG,evs->lH,Tg->lI,am8->lJ,Bi->lK,aQ1->lL,ac7->lM,sbd->lN,ag2->lO,exs->lP,xB->lQ,loB->lR,inL->lS,ixn->lT,qk->lV,minI->lW,aD1->lX,M->lY,am4->lZ,Sq->l6,ad7->l7,az4->l8,qj->l9,As->ma,mk->mf,Lm->mn,Df->mq,hiB->mr,slM->mw,al1->my,E->mz,evI->mB,ag1->mD,subC->mF,bi->mG,qe->mH,Mk->mJ,Mt->mK,ba3->mM,COp->mO,pur->mP,inM->mQ,bi1->mR,aC1->mU,meth->mV,zo->mW,BOp->mZ,isK->m6,W62->m8,qw->m9,XB->ng,af6->nh,aj9->ni
open DV.D renaming bndL->kY,bnd->k8,hdI->lh,keyS->lz,nclL->lU,keyF->mY,ncl->m7
open DV.O renaming bnd->k9
noncomputable section
namespace L2
theorem fb {α:Type}{d:α}{s:kW}{p:Prop}(h:(DV.R.bad:k6 α)=.ok d s):p:=nomatch h
open PySem PySem.Spec PyProof.Rows
structure LamI where
 qual:Str
 params:bX
 body:Expr
 scope:Scope
 ps:List Str
 fr:List Str
 nm:Option (Str×Pos)
def CloAt (H:Hp)(f:Addr)(J:LamI)(cap:List V)(clos:List (Str×Addr)):Prop:=match J.nm with
 | none=>aE1 H f J.qual J.params J.body J.scope J.fr cap clos
 | some p=>am6 H f p.1 J.qual J.params [.Return (some J.body) p.2] J.scope J.fr cap clos
def az5 (H:Hp)(f:Addr)(J:LamI)(clos:List (Str×Addr)):Prop:=match J.nm with
 | none=>∃ pm c' ctv,H f=some (bD1 f (dk "<lambda>" J.qual J.params J.body J.scope clos pm (.ref c') ctv))/\H c'=some (aw1 c' J.qual)
 | some p=>∃ doc pm c' ctv,H f=some (bD1 f (fJ p.1 J.qual J.params [.Return (some J.body) p.2] J.scope clos .none .none doc pm none (.ref c') ctv))/\H c'=some (aw1 c' J.qual)
structure Gm where
 K:ac
 fa:String->Option Addr
 lg:String->LamI->Prop
 T:List (Addr×Str)
variable (Γ:Gm)
mutual
noncomputable def RV (φ:Nat->Addr)(H:Hp):kX->V->Prop
 | .non,v=>v=.non
 | .bl b,v=>v=.bl b
 | .int i,v=>v=.int i
 | .str x,v=>v=.str ⟨x.toArray⟩/\x.length<=lf
 | .tup l,v=>∃ a xs,v=.ref a/\(SqT Γ.K H a xs/\(lh l=true->H a=some (.tup xs)))/\RVL φ H l xs
 | .ref n,v=>v=.ref (φ n)
 | .fn f,v=>∃ a,Γ.fa f=some a/\v=.ref a
 | .clo id cs,v=>∃ f cap J clos,v=.ref f/\Γ.lg id J/\CloAt H f J cap clos/\cap.length=J.fr.length/\RVL φ H cs cap
noncomputable def RVL (φ:Nat->Addr)(H:Hp):List kX->List V->Prop
 | [],xs=>xs=[]
 | d::l,xs=>∃ x r,xs=x::r/\RV φ H d x/\RVL φ H l r
end
noncomputable def bU8:HO->Bool
 | .tup _=>true
 | .frz _ _=>true
 | .ext _=>true
 | _=>false
def Kp (H H':Hp):Prop:=∀ b o,H b=some o->bU8 o=true->H' b=some o
theorem Kp.refl (H:Hp):Kp H H:=λ _ _ h _=>h
theorem Kp.trans {H F B:Hp}(a:Kp H F)(b:Kp F B):Kp H B:=λ c o h f=>b c o (a c o h f) f
theorem Kp.new {H B:Hp}{p:Addr}{o:HO}(a:Kp H B)(h:B p=none):Kp H (upd B p o):=λ c u e f=>by
 have e1:=a c u e f
 rw[zn (zz e1 h)];exact e1
theorem Kp.put {H B:Hp}{p:Addr}{o u:HO}(a:Kp H B)(h:B p=some u)(hu:bU8 u=false):Kp H (upd B p o):=λ c v e f=>by
 have e1:=a c v e f
 rw[zn (λ z=>by subst z;rw[h]at e1;cases e1;rw[hu]at f;cases f)];exact e1
theorem Kp.sqT {K:ac}{H H':Hp}{a:Addr}{B:List V}(e:Kp H H')(h:SqT K H a B):SqT K H' a B:=by
 rcases h with(h|⟨o,h⟩)|h
 ·exact .inl (.inl (e _ _ h rfl))
 ·exact .inl (.inr ⟨o,e _ _ h rfl⟩)
 ·exact .inr h
theorem aE1.kp {H H':Hp}{f:Addr}{qual:Str}{params:bX}{body:Expr}{scope:Scope}{fr:List Str}{cap:List V}{B:List (Str×Addr)}(h:aE1 H f qual params body scope fr cap B)(e:Kp H H'):aE1 H' f qual params body scope fr cap B:=by
 obtain⟨G,Y,F,h1,h2,h3,h4,Z,h6⟩:=h
 refine⟨G,Y,F,e _ _ h1 rfl,e _ _ h2 rfl,λ x c q=>?_,h4,Z,λ i x v a b=>?_⟩
 ·obtain⟨o,v,z,d⟩:=h3 x c q
  exact⟨o,v,e _ _ z rfl,d⟩
 ·obtain⟨c,o,u,z1,z2,J⟩:=h6 i x v a b
  exact⟨c,o,u,z1,e _ _ z2 rfl,J⟩
theorem am6.kp {H H':Hp}{f:Addr}{name qual:Str}{params:bX}{body:List Stmt}{scope:Scope}{fr:List Str}{cap:List V}{B:List (Str×Addr)}(h:am6 H f name qual params body scope fr cap B)(e:Kp H H'):am6 H' f name qual params body scope fr cap B:=by
 obtain⟨G,J,Z,F,h1,h2,h3,h4,h5,h6⟩:=h
 refine⟨G,J,Z,F,e _ _ h1 rfl,e _ _ h2 rfl,λ x c q=>?_,h4,h5,λ i x v a b=>?_⟩
 ·obtain⟨o,v,z,d⟩:=h3 x c q
  exact⟨o,v,e _ _ z rfl,d⟩
 ·obtain⟨c,o,u,z1,z2,Y⟩:=h6 i x v a b
  exact⟨c,o,u,z1,e _ _ z2 rfl,Y⟩
theorem CloAt.kp {H H':Hp}{f:Addr}{J:LamI}{cap:List V}{B:List (Str×Addr)}(h:CloAt H f J cap B)(e:Kp H H'):CloAt H' f J cap B:=by
 unfold CloAt at h ⊢
 cases q:J.nm with
 | none=>rw[q]at h;exact aE1.kp h e
 | some p=>rw[q]at h;exact am6.kp h e
theorem az5.kp {H H':Hp}{f:Addr}{J:LamI}{B:List (Str×Addr)}(h:az5 H f J B)(e:Kp H H'):az5 H' f J B:=by
 unfold az5 at h ⊢
 cases q:J.nm with
 | none =>
  rw[q]at h
  obtain⟨G,c',F,h1,Z⟩:=h
  exact⟨G,c',F,e _ _ h1 rfl,e _ _ Z rfl⟩
 | some p =>
  rw[q]at h
  obtain⟨Y,G,c',F,h1,Z⟩:=h
  exact⟨Y,G,c',F,e _ _ h1 rfl,e _ _ Z rfl⟩
theorem CloAt.fn {K:ac}{H:Hp}{f:Addr}{J:LamI}{cap:List V}{B:List (Str×Addr)}(h:CloAt H f J cap B):bU2 K H f:=by
 unfold CloAt at h
 cases q:J.nm with
 | none=>rw[q]at h;obtain⟨Y,Z,F,G,_⟩:=h;exact .inl ⟨_,G⟩
 | some p=>rw[q]at h;exact am6.fn h
structure Gw (φ:Nat->Addr)(n:Nat)(H:Hp)(φ':Nat->Addr)(H':Hp):Prop where
 map:∀ i,i<n->φ' i=φ i
 kp:Kp H H'
variable {Γ:Gm}
mutual
theorem RV.monoW {φ φ':Nat->Addr}{n:Nat}{H H':Hp}(g:Gw φ n H φ' H'):∀(d:kX) (v:V),d.bnd n=true->RV Γ φ H d v->RV Γ φ' H' d v
 | .non,_,_,h=>by unfold RV at h ⊢;exact h
 | .bl _,_,_,h=>by unfold RV at h ⊢;exact h
 | .int _,_,_,h=>by unfold RV at h ⊢;exact h
 | .str _,_,_,h=>by unfold RV at h ⊢;exact h
 | .tup l,_,b,h=>by
  unfold RV at h ⊢
  unfold k8 at b
  obtain⟨a,F,e,q,r⟩:=h
  exact⟨a,F,e,⟨g.kp.sqT q.1,λ z=>g.kp _ _ (q.2 z) rfl⟩,RVL.monoW g l F b r⟩
 | .ref k,_,b,h=>by
  unfold RV at h ⊢
  unfold k8 at b
  rw[g.map k (of_decide_eq_true b)];exact h
 | .fn _,_,_,h=>by unfold RV at h ⊢;exact h
 | .clo id cs,_,b,h=>by
  unfold RV at h ⊢
  unfold k8 at b
  obtain⟨f,cap,J,B,e,Z,G,h3,Y⟩:=h
  exact⟨f,cap,J,B,e,Z,G.kp g.kp,h3,RVL.monoW g cs cap b Y⟩
theorem RVL.monoW {φ φ':Nat->Addr}{n:Nat}{H H':Hp}(g:Gw φ n H φ' H'):∀(l:List kX) (B:List V),kY n l=true->RVL Γ φ H l B->RVL Γ φ' H' l B
 | [],_,_,h=>by unfold RVL at h ⊢;exact h
 | d::l,_,b,h=>by
  unfold RVL at h ⊢
  unfold kY at b
  rw[ah]at b
  obtain⟨x,r,e,q,t⟩:=h
  exact⟨x,r,e,RV.monoW g d x b.1 q,RVL.monoW g l r b.2 t⟩
end
mutual
theorem zl {n m:Nat}(h:n<=m):∀ d:kX,d.bnd n=true->d.bnd m=true
 | .non,_=>rfl
 | .bl _,_=>rfl
 | .int _,_=>rfl
 | .str _,_=>rfl
 | .tup l,b=>by unfold k8 at b ⊢;exact aa8 h l b
 | .ref k,b=>by unfold k8 at b ⊢;exact decide_eq_true (ay (of_decide_eq_true b) h)
 | .fn _,_=>rfl
 | .clo _ l,b=>by unfold k8 at b ⊢;exact aa8 h l b
theorem aa8 {n m:Nat}(h:n<=m):∀ l:List kX,kY n l=true->kY m l=true
 | [],_=>rfl
 | d::l,b=>by
  unfold kY at b ⊢
  rw[ah]at b ⊢
  exact⟨zl h d b.1,aa8 h l b.2⟩
end
theorem aa7 {n:Nat}:∀ {l:List kX},kY n l=true↔∀ d∈l,d.bnd n=true
 | []=>by unfold kY;simp
 | d::l=>by
  unfold kY
  rw[ah,aa7 (l:=l)]
  simp
theorem zO {n:Nat}{l m:List kX}(h:kY n l=true)(h':kY n m=true):kY n (l++m)=true :=
 aa7.mpr λ d hd=>(aZ.mp hd).elim (aa7.mp h d) (aa7.mp h' d)
theorem aG7 {n:Nat}{l m:List kX}(h:kY n l=true)(s:∀ d∈m,d∈l):kY n m=true:=aa7.mpr λ d hd=>aa7.mp h d (s d hd)
theorem ae9 {n:Nat}{l:List kX}{i:Nat}{d:kX}(h:kY n l=true)(e:l[i]?=some d):d.bnd n=true:=aa7.mp h d (a7 e)
section
variable {φ:Nat->Addr} {H:Hp}
theorem RVL.nil:RVL Γ φ H [] []:=by unfold RVL;rfl
theorem RVL.cons {d:kX}{l:List kX}{x:V}{h:List V}(a:RV Γ φ H d x)(b:RVL Γ φ H l h):RVL Γ φ H (d::l) (x::h):=by unfold RVL;exact⟨x,h,rfl,a,b⟩
theorem RVL.unnil {B:List V}(h:RVL Γ φ H [] B):B=[]:=by unfold RVL at h;exact h
theorem RVL.uncons {d:kX}{l:List kX}{B:List V}(h:RVL Γ φ H (d::l) B):∃ x r,B=x::r/\RV Γ φ H d x/\RVL Γ φ H l r:=by unfold RVL at h;exact h
theorem RVL.length:∀ {l:List kX} {B:List V},RVL Γ φ H l B->B.length=l.length
 | [],_,h=>by rw[h.unnil];rfl
 | d::l,_,h=>by
  obtain⟨x,r,rfl,_,t⟩:=h.uncons
  rw[aX,aX,RVL.length t]
theorem RVL.get:∀ {l:List kX} {B:List V} {i:Nat} {d:kX},RVL Γ φ H l B->l[i]?=some d->∃ x,B[i]?=some x/\RV Γ φ H d x
 | [],_,_,_,_,e=>by simp at e
 | d::l,_,0,d',h,e=>by
  obtain⟨x,r,rfl,q,t⟩:=h.uncons
  have e':d=d':=by simpa using e
  subst e'
  exact⟨x,rfl,q⟩
 | d::l,_,i+1,_,h,e=>by
  obtain⟨x,r,rfl,q,t⟩:=h.uncons
  obtain⟨y,e1,e2⟩:=RVL.get (i:=i) t (by simpa using e)
  exact⟨y,by simpa using e1,e2⟩
theorem RVL.append:∀ {l m:List kX} {B ys:List V},RVL Γ φ H l B->RVL Γ φ H m ys->RVL Γ φ H (l++m) (B++ys)
 | [],_,_,_,h,h'=>by rw[h.unnil];exact h'
 | d::l,_,_,_,h,h'=>by
  obtain⟨x,r,rfl,q,t⟩:=h.uncons
  exact .cons q (RVL.append t h')
theorem RVL.drop:∀ {l:List kX} {B:List V} (n:Nat),RVL Γ φ H l B->RVL Γ φ H (l.drop n) (B.drop n)
 | _,_,0,h=>h
 | [],_,n+1,h=>by rw[h.unnil];exact .nil
 | d::l,_,n+1,h=>by
  obtain⟨x,r,rfl,q,t⟩:=h.uncons
  exact RVL.drop n t
theorem RVL.take:∀ {l:List kX} {B:List V} (n:Nat),RVL Γ φ H l B->RVL Γ φ H (l.take n) (B.take n)
 | _,_,0,h=>.nil
 | [],_,n+1,h=>by rw[h.unnil];exact .nil
 | d::l,_,n+1,h=>by
  obtain⟨x,r,rfl,q,t⟩:=h.uncons
  exact .cons q (RVL.take n t)
theorem RVL.set:∀ {l:List kX} {B:List V} {d:kX} {x:V} (i:Nat),RVL Γ φ H l B->RV Γ φ H d x->RVL Γ φ H (l.set i d) (B.set i x)
 | [],_,_,_,_,h,_=>by rw[h.unnil];exact .nil
 | d::l,_,_,_,0,h,q=>by
  obtain⟨x,r,rfl,_,t⟩:=h.uncons
  exact .cons q t
 | d::l,_,_,_,i+1,h,q=>by
  obtain⟨x,r,rfl,F,t⟩:=h.uncons
  exact .cons F (RVL.set i t q)
theorem RVL.reverse:∀ {l:List kX} {B:List V},RVL Γ φ H l B->RVL Γ φ H l.reverse B.reverse
 | [],_,h=>by rw[h.unnil];exact .nil
 | d::l,_,h=>by
  obtain⟨x,r,rfl,q,t⟩:=h.uncons
  rw[dY,dY]
  exact(RVL.reverse t).append (.cons q .nil)
theorem RV.intE {i:Int}{v:V}(h:RV Γ φ H (.int i) v):v=.int i:=by unfold RV at h;exact h
theorem RV.blE {i:Bool}{v:V}(h:RV Γ φ H (.bl i) v):v=.bl i:=by unfold RV at h;exact h
theorem RV.nonE {v:V}(h:RV Γ φ H .non v):v=.non:=by unfold RV at h;exact h
theorem RV.strE {x:List Nat}{v:V}(h:RV Γ φ H (.str x) v):v=.str ⟨x.toArray⟩:=by unfold RV at h;exact h.1
theorem RV.strL {x:List Nat}{v:V}(h:RV Γ φ H (.str x) v):x.length<=lf:=by unfold RV at h;exact h.2
theorem RV.tupE {l:List kX}{v:V}(h:RV Γ φ H (.tup l) v):∃ a B,v=.ref a/\SqT Γ.K H a B/\RVL Γ φ H l B:=by unfold RV at h;obtain⟨a,B,e,q,r⟩:=h;exact⟨a,B,e,q.1,r⟩
theorem RV.tupZ {l:List kX}{v:V}(h:RV Γ φ H (.tup l) v):∃ a B,(v=.ref a/\(lh l=true->H a=some (.tup B)))/\SqT Γ.K H a B/\RVL Γ φ H l B:=by unfold RV at h;obtain⟨a,B,e,q,r⟩:=h;exact⟨a,B,⟨e,q.2⟩,q.1,r⟩
theorem RVL.tonil {l:List kX}(h:RVL Γ φ H l []):l=[]:=ci.mp h.length.symm
theorem RV.tupK {l:List kX}{v:V}(h:RV Γ φ H (.tup l) v)(z:lh l=true):∃ a B,v=.ref a/\H a=some (.tup B)/\RVL Γ φ H l B:=by unfold RV at h;obtain⟨a,B,e,q,r⟩:=h;exact⟨a,B,e,q.2 z,r⟩
theorem RV.refE {n:Nat}{v:V}(h:RV Γ φ H (.ref n) v):v=.ref (φ n):=by unfold RV at h;exact h
theorem RV.intI {i:Int}:RV Γ φ H (.int i) (.int i):=by unfold RV;rfl
theorem RV.blI {i:Bool}:RV Γ φ H (.bl i) (.bl i):=by unfold RV;rfl
theorem RV.nonI:RV Γ φ H .non .non:=by unfold RV;rfl
theorem RV.strI {x:List Nat}(h:x.length<=lf):RV Γ φ H (.str x) (.str ⟨x.toArray⟩):=by unfold RV;exact⟨rfl,h⟩
theorem RV.tupI {l:List kX}{a:Addr}{B:List V}(h:H a=some (.tup B))(q:RVL Γ φ H l B):RV Γ φ H (.tup l) (.ref a):=by unfold RV;exact⟨a,B,rfl,⟨SqT.of h,λ _=>h⟩,q⟩
theorem RV.tupC {l:List kX}{a:Addr}{B:List V}(h:SqT Γ.K H a B)(z:lh l=true->H a=some (.tup B))(q:RVL Γ φ H l B):RV Γ φ H (.tup l) (.ref a):=by unfold RV;exact⟨a,B,rfl,⟨h,z⟩,q⟩
theorem RV.refI {n:Nat}:RV Γ φ H (.ref n) (.ref (φ n)):=by unfold RV;rfl
end
theorem bv7 {n:Nat}{l:List kX}(h:lh (lL n l)=true):lh l=true:=by
 cases n with
 | zero=>cases h
 | succ n =>
  cases l with
  | nil => 
   have:∀ k,lL k ([]:List kX)=[]:=λ k=>by
    induction k with
    | zero=>rfl
    | succ k ih=>show[]++lL k []=[];rw[ih];rfl
   rw[this]at h;cases h
  | cons a l =>
   have e:lL (n+1) (a::l)=a::(l++lL n (a::l)):=rfl
   rw[e]at h
   cases a with
   | int _=>rfl
   | non=>rfl
   | tup _=>rfl
   | _=>cases h
theorem aW4 {α:Type}{l:List α}{B F:Option Int}(h:(lC l B F).length=l.length):lC l B F=l:=by
 unfold lC at h ⊢
 rw[bZ,eA]at h
 by_cases z:l=[]
 ·subst z;simp
 ·have G:=iL.mpr z
  have e1:lR l.length B=0:=by omega
  rw[e1]at h ⊢
  rw[d6]
  exact d7 (by omega)
def SqF (K:ac)(H:Hp)(a:Addr)(xs:List V):Prop:=SqL K H a xs/\∀ H',Kp H H'->SqL K H' a xs
noncomputable def aZ2:kX->Option Key
 | .int i=>some (.inl i)
 | .str x=>some (.inr ⟨x.toArray⟩)
 | _=>none
noncomputable def fOf:kX->Option FK
 | .non=>some none
 | .int i=>some (some (.inl i))
 | .str x=>some (some (.inr ⟨x.toArray⟩))
 | _=>none
noncomputable def qO {κ:Type}(f:kX->Option κ):List kX->Option (List κ)
 | []=>some []
 | d::l=>match f d,qO f l with
  | some k,some r=>some (k::r)
  | _,_=>none
noncomputable def nOf:kX->Option NI
 | .tup l=>(qO fOf l).map .inr
 | d=>(fOf d).map .inl
noncomputable def an5:List kX->Option (List NI):=qO nOf
noncomputable def bH0:kX->Option (List NI)
 | .tup l=>if(lh l&&(l.all lz&&decide (l.length<=1000)))=true then an5 l else none
 | _=>none
noncomputable def RVD {κ:Type}(kf:kX->Option κ)(Γ:Gm)(φ:Nat->Addr)(H:Hp):List (kX×kX)->List (κ×V)->Prop
 | [],kvs=>kvs=[]
 | (d,e)::l,kvs=>∃ k v r,kvs=(k,v)::r/\kf d=some k/\RV Γ φ H e v/\RVD kf Γ φ H l r
variable (Γ)
noncomputable def RO (φ:Nat->Addr)(H:Hp)(a:Addr):lD->Prop
 | .lst l=>∃ xs,H a=some (.lst xs)/\RVL Γ φ H l xs
 | .ro l=>∃ xs,SqF Γ.K H a xs/\RVL Γ φ H l xs
 | .dic l=>∃ kvs,H a=some (.dK kvs)/\RVD aZ2 Γ φ H l kvs
 | .dit l=>∃ kvs,H a=some (.dT kvs)/\RVD bH0 Γ φ H l kvs
 | .ins _ _=>False
noncomputable abbrev okd:lD->Nat:=DV.O.kd
noncomputable def isMut:lD->Bool
 | .ro _=>false
 | _=>true
structure Rp (φ:Nat->Addr)(H:Hp)(s:kW):Prop where
 inj:∀(i j:Nat) (o o':lD),s[i]?=some o->s[j]?=some o'->isMut o=true->isMut o'=true->φ i=φ j->i=j
 obj:∀(i:Nat) (o:lD),s[i]?=some o->RO Γ φ H (φ i) o
 wf:∀(i:Nat) (o:lD),s[i]?=some o->o.bnd s.length=true
 tab:TabsH Γ.T H
structure RE (φ:Nat->Addr)(H:Hp)(n:Nat)(ρ:kZ)(σ:St):Prop where
 len:ρ.length=σ.length
 val:∀(i:Nat) (d:kX),ρ[i]?=some (some d)->d.bnd n=true/\∃ v,σ[i]?=some (some v)/\RV Γ φ H d v
structure Gr (φ:Nat->Addr)(s:kW)(H:Hp)(φ':Nat->Addr)(s':kW)(H':Hp):Prop where
 w:Gw φ s.length H φ' H'
 le:s.length<=s'.length
 new:∀ i:Nat,s.length<=i->i<s'.length->H (φ' i)=none
 kd:∀(i:Nat) (o o':lD),s[i]?=some o->s'[i]?=some o'->okd o'=okd o
 st:∀ b,H b≠none->H' b≠none
 fr:∀ b o,H b=some o->(∀ ps,o≠.tbl ps)->(∀(i:Nat) (ob:lD),s[i]?=some ob->isMut ob=true->φ i≠b)->H' b=some o
variable {Γ}
theorem bA7 {o B:lD}(h:okd B=okd o)(m:isMut B=true):isMut o=true:=by
 cases o with
 | ro _=>cases B with
  | ro _=>cases m
  | _=>cases h
 | _=>rfl
theorem Gr.mu {φ φ':Nat->Addr}{s s':kW}{H H':Hp}(g:Gr φ s H φ' s' H')(i:Nat)(o h:lD)(e:s[i]?=some o)(e':s'[i]?=some h)(m:isMut h=true):isMut o=true:=bA7 (g.kd i o h e e') m
theorem Gr.refl (φ:Nat->Addr)(s:kW)(H:Hp):Gr φ s H φ s H:=⟨⟨λ _ _=>rfl,Kp.refl H⟩,ak _,λ i G B=>absurd B (by omega),λ i o F e e'=>by rw[e]at e';cases e';rfl,λ _ h=>h,λ _ _ h _ _=>h⟩
theorem Gr.trans {φ φ1 φ2:Nat->Addr}{s s1 s2:kW}{H H1 J:Hp}(a:Gr φ s H φ1 s1 H1)(b:Gr φ1 s1 H1 φ2 s2 J)(_h:s.length<=s1.length):Gr φ s H φ2 s2 J:=by
 refine⟨⟨λ i B=>(b.w.map i (ay B a.le)).trans (a.w.map i B),a.w.kp.trans b.w.kp⟩,am a.le b.le,λ i h1 h2=>?_,λ i o o' e e'=>?_,λ c h=>b.st c (a.st c h),λ c o h Y ne=>?_⟩
 ·by_cases B:i<s1.length
  ·rw[b.w.map i B];exact a.new i h1 B
  ·have e:=b.new i (by omega) h2
   cases q:H (φ2 i)with
   | none=>rfl
   | some o=>exact absurd e (a.st _ (by rw[q];simp))
 ·have hl:i<s1.length:=ay (ag.mp e).1 a.le
  obtain⟨F,e1⟩:∃ F,s1[i]?=some F:=⟨s1[i],aj hl⟩
  exact(b.kd i F o' e1 e').trans (a.kd i o F e e1)
 ·refine b.fr c o (a.fr c o h Y ne) Y λ i ob e m z=>?_
  by_cases B:i<s.length
  ·obtain⟨G,Z⟩:∃ G,s[i]?=some G:=⟨s[i],aj B⟩
   exact ne i G Z (a.mu i G ob Z e m) (by rw[<-a.w.map i B];exact z)
  ·have:=a.new i (by omega) (ag.mp e).1
   rw[z,h]at this;cases this
theorem RV.mono {φ φ':Nat->Addr}{s s':kW}{H H':Hp}(g:Gr φ s H φ' s' H')(d:kX)(v:V)(b:d.bnd s.length=true)(h:RV Γ φ H d v):RV Γ φ' H' d v:=RV.monoW g.w d v b h
theorem RVL.mono {φ φ':Nat->Addr}{s s':kW}{H H':Hp}(g:Gr φ s H φ' s' H')(d:List kX)(v:List V)(b:kY s.length d=true)(h:RVL Γ φ H d v):RVL Γ φ' H' d v:=RVL.monoW g.w d v b h
theorem RE.mono {φ φ':Nat->Addr}{s s':kW}{H H':Hp}{ρ:kZ}{σ:St}(h:RE Γ φ H s.length ρ σ)(g:Gr φ s H φ' s' H')(hn:s.length<=s'.length):RE Γ φ' H' s'.length ρ σ :=
 ⟨h.len,λ i d e=>by
  obtain⟨b,v,e1,e2⟩:=h.val i d e
  exact⟨zl hn d b,v,e1,RV.mono g d v b e2⟩⟩
def ad5 (Γ:Gm)(φ:Nat->Addr)(s:kW)(H:Hp)(d:kX)(s':kW)(Q:VK):Prop :=
 ∀ v φ' H',Gr φ s H φ' s' H'->s.length<=s'.length->d.bnd s'.length=true->RV Γ φ' H' d v->Rp Γ φ' H' s'->Q v H'
theorem ad5.trans {φ φ1:Nat->Addr}{s s1 s':kW}{H B:Hp}{d:kX}{Q:VK}(h:ad5 Γ φ s H d s' Q)(g:Gr φ s H φ1 s1 B)(l:s.length<=s1.length):ad5 Γ φ1 s1 B d s' Q :=
 λ v φ' H' g' F b r p=>h v φ' H' (g.trans g' l) (am l F) b r p
theorem ad5.here {φ:Nat->Addr}{s:kW}{H:Hp}{d:kX}{Q:VK}{v:V}(h:ad5 Γ φ s H d s Q)(p:Rp Γ φ H s)(b:d.bnd s.length=true)(r:RV Γ φ H d v):Q v H :=
 h v φ H (Gr.refl φ s H) (ak _) b r p
theorem RVD.monoW {κ:Type}{F:kX->Option κ}{φ φ':Nat->Addr}{n:Nat}{H H':Hp}(g:Gw φ n H φ' H'):∀(l:List (kX×kX)) (B:List (κ×V)),kY n (l.map (·.2))=true->RVD F Γ φ H l B->RVD F Γ φ' H' l B
 | [],_,_,h=>h
 | (d,e)::l,_,b,h=>by
  obtain⟨k,v,r,e1,e2,e3,G⟩:=h
  rw[aN]at b
  unfold kY at b
  rw[ah]at b
  exact⟨k,v,r,e1,e2,RV.monoW g e v b.1 e3,RVD.monoW g l r b.2 G⟩
theorem RO.mono {φ φ':Nat->Addr}{n:Nat}{H H':Hp}{a:Addr}{o:lD}(h:RO Γ φ H a o)(g:Gw φ n H φ' H')(b:o.bnd n=true)(hl:isMut o=true->∀ u,H a=some u->H' a=some u):RO Γ φ' H' a o:=by
 cases o with
 | lst l =>
  unfold k9 at b
  obtain⟨F,e,r⟩:=h
  exact⟨F,hl rfl _ e,RVL.monoW g l F b r⟩
 | ro l =>
  unfold k9 at b
  obtain⟨F,e,r⟩:=h
  exact⟨F,⟨e.2 _ g.kp,λ G k=>e.2 _ (g.kp.trans k)⟩,RVL.monoW g l F b r⟩
 | dic l =>
  unfold k9 at b
  rw[ah]at b
  obtain⟨B,e,r⟩:=h
  exact⟨B,hl rfl _ e,RVD.monoW g l B b.2 r⟩
 | dit l =>
  unfold k9 at b
  rw[ah]at b
  obtain⟨B,e,r⟩:=h
  exact⟨B,hl rfl _ e,RVD.monoW g l B b.2 r⟩
 | ins _ _=>exact h.elim
theorem RO.there {φ:Nat->Addr}{H:Hp}{a:Addr}{o:lD}(h:RO Γ φ H a o)(m:isMut o=true):∃ u,H a=some u/\bU8 u=false/\∀ ps,u≠.tbl ps:=by
 cases o with
 | lst l=>obtain⟨B,e,_⟩:=h;exact⟨_,e,rfl,by nofun⟩
 | ro l=>cases m
 | dic l=>obtain⟨B,e,_⟩:=h;exact⟨_,e,rfl,by nofun⟩
 | dit l=>obtain⟨B,e,_⟩:=h;exact⟨_,e,rfl,by nofun⟩
 | ins _ _=>exact h.elim
theorem Rp.addr {φ:Nat->Addr}{H:Hp}{s:kW}(p:Rp Γ φ H s){i:Nat}{l:List kX}(e:s[i]?=some (.lst l)):∃ h,H (φ i)=some (.lst h)/\RVL Γ φ H l h:=p.obj i _ e
theorem z0 {n m:Nat}(h:n<=m)(o:lD)(b:o.bnd n=true):o.bnd m=true:=by
 cases o with
 | lst l=>unfold k9 at b ⊢;exact aa8 h l b
 | ro l=>unfold k9 at b ⊢;exact aa8 h l b
 | dic l =>
  unfold k9 at b ⊢
  rw[ah]at b ⊢
  exact⟨aa8 h _ b.1,aa8 h _ b.2⟩
 | dit l =>
  unfold k9 at b ⊢
  rw[ah]at b ⊢
  exact⟨aa8 h _ b.1,aa8 h _ b.2⟩
 | ins c l=>unfold k9 at b ⊢;exact aa8 h _ b
theorem TabsH.keepF {T:List (Addr×Str)}{H H':Hp}(h:TabsH T H)(k:∀ b o,(bU8 o=true\/∃ ps,o=.tbl ps)->H b=some o->H' b=some o):TabsH T H':=λ y hy=>by
 obtain⟨ps,e,t,c⟩:=h y hy
 refine⟨ps,k _ _ (.inr ⟨_,rfl⟩) e,t,λ pos B q=>?_⟩
 obtain⟨F,e1,e2⟩:=c pos B q
 exact⟨F,e1,k _ _ (.inl rfl) e2⟩
theorem Rp.new {φ:Nat->Addr}{H:Hp}{s:kW}{p:Addr}{u:HO}{o:lD}(r:Rp Γ φ H s)(G:H p=none)(hb:o.bnd s.length=true)
  (ho:∀ φ' H',Gw φ s.length H φ' H'->H' p=some u->RO Γ φ' H' p o):Gr φ s H (λ i=>if i=s.length then p else φ i) (s++[o]) (upd H p u)/\Rp Γ (λ i=>if i=s.length then p else φ i) (upd H p u) (s++[o]):=by
 have g:Gw φ s.length H (λ i=>if i=s.length then p else φ i) (upd H p u):=⟨λ i B=>if_neg (aD B),(Kp.refl H).new G⟩
 have key:∀ i F,(s++[o])[i]?=some F->(i<s.length/\s[i]?=some F)\/(i=s.length/\F=o):=λ i F e=>by
  rcases fL i s.length with h|h|h
  ·rw[aM h]at e;exact .inl ⟨h,e⟩
  ·subst h;simp at e;exact .inr ⟨rfl,e.symm⟩
  ·rw[bG (by simp;omega)]at e;cases e
 refine⟨⟨g,by simp,λ i h1 h2=>?_,λ i o1 o2 e1 e2=>?_,λ b hb=>?_,λ b ob hb _ _=>by rw[zn (zz hb G)];exact hb⟩,λ i j Z Y J ej mi mj e=>?_,λ i F e=>?_,λ i F e=>?_,r.tab.new G⟩
 ·rw[aG,c8]at h2
  rw[if_pos (by omega)];exact G
 ·rcases key i o2 e2 with⟨_,e⟩|⟨B,_⟩
  ·rw[e1]at e;cases e;rfl
  ·have:=(ag.mp e1).1;omega
 ·unfold upd;split
  ·simp
  ·exact hb
 ·rcases key i Z J with⟨B,J⟩|⟨B,rfl⟩<;>rcases key j Y ej with⟨hj,ej⟩|⟨hj,ej'⟩
  ·rw[if_neg (aD B),if_neg (aD hj)]at e
   exact r.inj i j Z Y J ej mi mj e
  ·rw[if_neg (aD B),if_pos hj]at e
   obtain⟨u,hu,_,_⟩:=(r.obj i Z J).there mi
   rw[e,G]at hu;cases hu
  ·rw[if_neg (aD hj),if_pos B]at e
   obtain⟨u,hu,_,_⟩:=(r.obj j Y ej).there mj
   rw[<-e,G]at hu;cases hu
  ·rw[B,hj]
 ·rcases key i F e with⟨B,e⟩|⟨B,rfl⟩
  ·show RO Γ _ _ (if i=s.length then p else φ i) F
   rw[if_neg (aD B)]
   exact(r.obj i F e).mono g (r.wf i F e) λ _ v hv=>by rw[zn (zz hv G)];exact hv
  ·show RO Γ _ _ (if i=s.length then p else φ i) F
   rw[if_pos B]
   exact ho _ _ g zB
 ·rw[aG,c8]
  rcases key i F e with⟨B,e⟩|⟨B,rfl⟩
  ·exact z0 (dj _) _ (r.wf i F e)
  ·exact z0 (dj _) _ hb
theorem Rp.set {φ:Nat->Addr}{H:Hp}{s:kW}{k:Nat}{u:HO}{o F:lD}(r:Rp Γ φ H s)(hk:s[k]?=some F)(Y:isMut F=true)(hb:o.bnd s.length=true)
  (ho:∀ H',Gw φ s.length H φ H'->H' (φ k)=some u->RO Γ φ H' (φ k) o) (a1:okd o=okd F:=by rfl):Gr φ s H φ (s.set k o) (upd H (φ k) u)/\Rp Γ φ (upd H (φ k) u) (s.set k o):=by
 obtain⟨v0,J,f0,a2⟩:=(r.obj k F hk).there Y
 have a0:k<s.length:=(ag.mp hk).1
 have g:Gw φ s.length H φ (upd H (φ k) u):=⟨λ _ _=>rfl,(Kp.refl H).put J f0⟩
 have key:∀ i B,(s.set k o)[i]?=some B->(i≠k/\s[i]?=some B)\/(i=k/\B=o):=λ i B e=>by
  by_cases h:i=k
  ·subst h;rw[aV a0]at e;exact .inr ⟨rfl,(ax e).symm⟩
  ·rw[a9 (cq h)]at e;exact .inl ⟨h,e⟩
 have mm:∀ i B,(s.set k o)[i]?=some B->isMut B=true->∃ G,s[i]?=some G/\isMut G=true:=λ i B e m=>by
  rcases key i B e with⟨_,e⟩|⟨h,_⟩
  ·exact⟨B,e,m⟩
  ·exact⟨F,by rw[h];exact hk,Y⟩
 refine⟨⟨g,by simp,λ i h1 h2=>by rw[bj]at h2;omega,λ i o1 Z e1 e2=>?_,λ b hb=>?_,λ b ob hb nt ne=>by rw[zn (cq (ne k F hk Y))];exact hb⟩,λ i j oi oj ei ej mi mj e=>?_,λ i B e=>?_,λ i B e=>?_,r.tab.keepF λ b v hv q=>?_⟩
 ·rcases key i Z e2 with⟨_,e⟩|⟨h,rfl⟩
  ·rw[e1]at e;cases e;rfl
  ·subst h;rw[hk]at e1;cases e1;exact a1
 ·unfold upd;split
  ·simp
  ·exact hb
 ·obtain⟨o1,e1,m1⟩:=mm i oi ei mi
  obtain⟨Z,e2,m2⟩:=mm j oj ej mj
  exact r.inj i j o1 Z e1 e2 m1 m2 e
 ·rcases key i B e with⟨h,e⟩|⟨h,rfl⟩
  ·refine(r.obj i B e).mono g (r.wf i B e) λ m v hv=>?_
   rw[zn λ z=>h (r.inj i k B F e hk m Y z)];exact hv
  ·subst h
   exact ho _ g zB
 ·rw[bj]
  rcases key i B e with⟨_,e⟩|⟨_,rfl⟩
  ·exact r.wf i B e
  ·exact hb
 ·rw[zn λ z=>by
   subst z;rw[J]at q;cases q
   rcases hv with h|⟨ps,h⟩
   ·rw[f0]at h;cases h
   ·exact a2 _ h]
  exact q
theorem Rp.same {φ:Nat->Addr}{H H':Hp}{s:kW}(r:Rp Γ φ H s)(e:ae3 H H'):Gr φ s H φ s H'/\Rp Γ φ H' s:=by
 have g:Gw φ s.length H φ H':=⟨λ _ _=>rfl,λ b o h _=>e b o h⟩
 exact⟨⟨g,ak _,λ i G B=>absurd B (by omega),λ i o F e e'=>by rw[e]at e';cases e';rfl,λ b hb=>by
  cases q:H b with
  | none=>exact absurd q hb
  | some o=>rw[e b o q];simp,λ b o h _ _=>e b o h⟩,r.inj,λ i o h=>(r.obj i o h).mono g (r.wf i o h) λ _ u hu=>e _ u hu,r.wf,r.tab.same e⟩
section
variable {φ:Nat->Addr} {H:Hp} {s:kW} {Q:VK}
theorem ad5.alloc {l:List kX}{B:List V}(h:ad5 Γ φ s H (.ref s.length) (s++[.lst l]) Q)(r:Rp Γ φ H s)(hl:RVL Γ φ H l B)(hb:kY s.length l=true){p:Addr}(F:H p=none):Q (.ref p) (upd H p (.lst B)):=by
 obtain⟨g,G⟩:=r.new (o:=.lst l) (u:=.lst B) F hb λ φ' H' g e=>⟨B,e,RVL.monoW g l B hb hl⟩
 have:=h (.ref p) _ _ g (by simp) (by unfold k8;simp) (by unfold RV;simp) G
 exact this
theorem ad5.tup {l:List kX}{B:List V}(h:ad5 Γ φ s H (.tup l) s Q)(r:Rp Γ φ H s)(hl:RVL Γ φ H l B)(hb:kY s.length l=true){p:Addr}(F:H p=none):Q (.ref p) (upd H p (.tup B)):=by
 obtain⟨g,G⟩:=r.same (H':=upd H p (.tup B)) ((ae3.refl H).new F)
 exact h _ _ _ g (ak _) (by unfold k8;exact hb) (RV.tupI zB (RVL.mono g l B hb hl)) G
theorem ad5.put {k:Nat}{l l0:List kX}{B:List V}{d:kX}{v:V}(h:ad5 Γ φ s H d (s.set k (.lst l)) Q)(r:Rp Γ φ H s)(hk:s[k]?=some (.lst l0))(hl:RVL Γ φ H l B)(hb:kY s.length l=true)
  (hd:d.bnd s.length=true) (hv:RV Γ φ H d v):Q v (upd H (φ k) (.lst B)):=by
 obtain⟨g,F⟩:=r.set (o:=.lst l) (u:=.lst B) hk rfl hb λ H' g e=>⟨B,e,RVL.monoW g l B hb hl⟩
 exact h _ _ _ g (by simp) (by rw[bj];exact hd) (RV.mono g d v hd hv) F
end
variable {Γ:Gm}
theorem keyOf_inj {a b:kX}{k:Key}(ha:aZ2 a=some k)(hb:aZ2 b=some k):a=b:=by
 cases a with
 | int i =>
  cases ha
  cases b with
  | int j=>cases hb;rfl
  | str y=>cases hb
  | _=>cases hb
 | str x =>
  cases ha
  cases b with
  | int j=>cases hb
  | str y =>
   have h:=ax hb
   injection h with h
   injection h with h
   have B:y=x:=by simpa using h
   rw[B]
  | _=>cases hb
 | _=>cases ha
theorem ai7 {d:kX}(h:d.key=true):∃ k,aZ2 d=some k:=by
 cases d with
 | int i=>exact⟨_,rfl⟩
 | str x=>exact⟨_,rfl⟩
 | _=>cases h
theorem aJ4 {φ:Nat->Addr}{H:Hp}{d:kX}{k:Key}{v:V}(h:aZ2 d=some k)(r:RV Γ φ H d v):v=kV k:=by
 cases d with
 | int i=>cases h;exact r.intE
 | str x=>cases h;exact r.strE
 | _=>cases h
def bk8 {κ:Type}(kf:kX->Option κ):Prop:=∀ {a b:kX} {k:κ},kf a=some k->kf b=some k->a=b
theorem aU9:bk8 fOf:=λ {a b k} ha hb=>by
 cases a with
 | non=>cases ha;cases b with|non=>rfl|_=>cases hb
 | int i=>cases ha;cases b with|int j=>cases hb;rfl|_=>cases hb
 | str x=>cases ha;cases b with|str y=>cases hb;rfl|_=>cases hb
 | _=>cases ha
theorem al5 {κ:Type}{f:kX->Option κ}(h:bk8 f):∀ {a b:List kX} {k:List κ},qO f a=some k->qO f b=some k->a=b
 | [],[],k,_,_=>rfl
 | [],y::b,k,ha,hb=>by
  cases ha
  unfold qO at hb
  split at hb<;>cases hb
 | x::a,[],k,ha,hb=>by
  cases hb
  unfold qO at ha
  split at ha<;>cases ha
 | x::a,y::b,k,ha,hb=>by
  unfold qO at ha hb
  split at ha
  ·rename_i k1 r1 e1 e2
   cases ha
   split at hb
   ·rename_i k2 r2 e3 B
    cases hb
    rw[h e1 e3,al5 h e2 B]
   ·cases hb
  ·cases ha
theorem nOf_cases {d:kX}{k:NI}(h:nOf d=some k):(∃ l r,d=.tup l/\qO fOf l=some r/\k=.inr r)\/∃ f,fOf d=some f/\k=.inl f:=by
 cases d with
 | tup l =>
  obtain⟨r,e,q⟩:=bU.mp (show(qO fOf l).map .inr=some k from h)
  exact .inl ⟨l,r,rfl,e,q.symm⟩
 | non=>obtain⟨r,e,q⟩:=bU.mp (show(fOf .non).map .inl=some k from h);exact .inr ⟨r,e,q.symm⟩
 | int i=>obtain⟨r,e,q⟩:=bU.mp (show(fOf (.int i)).map .inl=some k from h);exact .inr ⟨r,e,q.symm⟩
 | str i=>obtain⟨r,e,q⟩:=bU.mp (show(fOf (.str i)).map .inl=some k from h);exact .inr ⟨r,e,q.symm⟩
 | _=>cases h
theorem bw9:bk8 nOf:=λ {a b k} ha hb=>by
 rcases nOf_cases ha with⟨l,r,rfl,e,rfl⟩|⟨f,e,rfl⟩
 ·rcases nOf_cases hb with⟨m,h,rfl,e',q⟩|⟨f,e',q⟩
  ·cases q;rw[al5 aU9 e e']
  ·cases q
 ·rcases nOf_cases hb with⟨m,h,rfl,e',q⟩|⟨f',e',q⟩
  ·cases q
  ·cases q;exact aU9 e e'
theorem as5 {d:kX}{k:List NI}(h:bH0 d=some k):∃ l,d=.tup l/\(lh l=true/\l.all lz=true/\l.length<=1000)/\an5 l=some k:=by
 cases d with
 | tup l =>
  have h:(if(lh l&&(l.all lz&&decide (l.length<=1000)))=true then an5 l else none)=some k:=h
  by_cases z:(lh l&&(l.all lz&&decide (l.length<=1000)))=true
  ·rw[if_pos z]at h;rw[ah,ah]at z;exact⟨l,rfl,⟨z.1,z.2.1,of_decide_eq_true z.2.2⟩,h⟩
  ·rw[if_neg z]at h;cases h
 | _=>cases h
theorem keyT_inj:bk8 bH0:=λ ha hb=>by
 obtain⟨l,rfl,_,h⟩:=as5 ha
 obtain⟨m,rfl,_,B⟩:=as5 hb
 rw[al5 bw9 h B]
theorem ag8 {κ:Type}{f:kX->Option κ}{p:kX->Bool}(B:∀ d,p d=true->∃ k,f d=some k):∀ {l:List kX},l.all p=true->∃ k,qO f l=some k
 | [],_=>⟨[],rfl⟩
 | d::l,h=>by
  rw[dz,ah]at h
  obtain⟨k,hk⟩:=B d h.1
  obtain⟨r,hr⟩:=ag8 B h.2
  exact⟨k::r,by unfold qO;rw[hk,hr]⟩
theorem aV2 (d:kX)(h:d.keyF=true):∃ k,fOf d=some k:=by
 cases d with
 | int i=>exact⟨_,rfl⟩
 | str x=>exact⟨_,rfl⟩
 | non=>exact⟨_,rfl⟩
 | _=>cases h
theorem aI0 {l:List kX}(h:(DV.D.tup l).keyS=true):lh l=true/\l.all mY=true/\l.length<=1000:=by
 have h:(lh l&&(l.all mY&&decide (l.length<=1000)))=true:=h
 rw[ah,ah]at h
 exact⟨h.1,h.2.1,of_decide_eq_true h.2.2⟩
theorem aV9 (d:kX)(h:d.keyS=true):∃ k,nOf d=some k:=by
 cases d with
 | tup l=>obtain⟨r,e⟩:=ag8 aV2 (aI0 h).2.1;exact⟨.inr r,by show(qO fOf l).map _=_;rw[e];rfl⟩
 | int i=>exact⟨_,rfl⟩
 | str x=>exact⟨_,rfl⟩
 | non=>exact⟨_,rfl⟩
 | _=>cases h
theorem af9 {d:kX}(h:d.keyT=true):∃ k,bH0 d=some k:=by
 cases d with
 | tup l =>
  have h:(lh l&&(l.all lz&&decide (l.length<=1000)))=true:=h
  have h':=h
  rw[ah,ah]at h'
  obtain⟨k,hk⟩:=ag8 aV9 h'.2.1
  exact⟨k,by show(if(lh l&&(l.all lz&&decide (l.length<=1000)))=true then an5 l else none)=some k;rw[if_pos h];exact hk⟩
 | _=>cases h
theorem ce2 {φ:Nat->Addr}{H:Hp}{d:kX}{k:FK}{v:V}(h:fOf d=some k)(r:RV Γ φ H d v):v=fV k:=by
 cases d with
 | non=>cases h;exact r.nonE
 | int i=>cases h;exact r.intE
 | str x=>cases h;exact r.strE
 | _=>cases h
theorem bF3 {φ:Nat->Addr}{H:Hp}:∀ {l:List kX} {k:List FK} {B:List V},qO fOf l=some k->RVL Γ φ H l B->B=k.map fV
 | [],k,B,h,r=>by cases h;exact r.unnil
 | d::l,k,B,h,r=>by
  unfold qO at h
  split at h
  ·rename_i k1 r1 e1 e2
   cases h
   obtain⟨x,ys,rfl,F,G⟩:=r.uncons
   rw[ce2 e1 F,bF3 e2 G,aN]
  ·cases h
theorem aZ9 {φ:Nat->Addr}{H:Hp}:∀ {l:List kX} {k:List NI} {F:List V},an5 l=some k->l.all lz=true->RVL Γ φ H l F->cJ (NAt H) k F
 | [],k,F,h,_,r=>by cases h;cases r.unnil;exact .nil
 | d::l,k,F,h,z,r=>by
  unfold an5 qO at h
  rw[dz,ah]at z
  split at h
  ·rename_i k1 r1 e1 e2
   cases h
   obtain⟨x,ys,rfl,B,G⟩:=r.uncons
   refine .cons ?_ (aZ9 e2 z.2 G)
   rcases nOf_cases e1 with⟨m,q,rfl,e,rfl⟩|⟨f,e,rfl⟩
   ·obtain⟨a,F,e',J,Y⟩:=B.tupK (aI0 z.1).1
    rw[bF3 e Y]at J
    exact⟨a,e',J⟩
   ·exact ce2 e B
  ·cases h
theorem aq9 {φ:Nat->Addr}{H:Hp}{d:kX}{k:List NI}{v:V}(h:bH0 d=some k)(r:RV Γ φ H d v):∃ b,v=.ref b/\NK H k b:=by
 obtain⟨l,rfl,z,hk⟩:=as5 h
 obtain⟨a,F,e,G,B⟩:=r.tupK z.1
 exact⟨a,e,F,G,aZ9 hk z.2.1 B⟩
section
variable {κ:Type} [DecidableEq κ] {kf:kX->Option κ}
theorem RVD.val {φ:Nat->Addr}{H:Hp}{d:kX}{k:κ}(G:bk8 kf)(hk:kf d=some k):∀ {l:List (kX×kX)} {B:List (κ×V)},RVD kf Γ φ H l B->(lF d l=none/\aA5 B k=none)\/∃ e v,lF d l=some e/\aA5 B k=some v/\RV Γ φ H e v/\e∈l.map (·.2)
 | [],B,h=>by
  have h:B=[]:=h
  subst h
  exact .inl ⟨rfl,rfl⟩
 | (a,e)::l,B,h=>by
  obtain⟨F,v,r,rfl,e2,e3,J⟩:=h
  by_cases z:a=d
  ·subst z
   rw[hk]at e2;cases e2
   exact .inr ⟨e,v,by unfold lF;rw[if_pos rfl],ai9 rfl,e3,by simp⟩
  ·have Y:¬ F=k:=λ q=>z (G e2 (by rw[q];exact hk))
   have e5:lF d ((a,e)::l)=lF d l:=by
    conv=>lhs;unfold lF
    rw[if_neg z]
   rw[e5,ai3 (show ¬(F,v).1=k from Y)]
   rcases RVD.val G hk J with q|⟨e',v',Z,q2,q3,q4⟩
   ·exact .inl q
   ·exact .inr ⟨e',v',Z,q2,q3,by simp at q4 ⊢;exact .inr q4⟩
theorem RVD.repl {φ:Nat->Addr}{H:Hp}{d e:kX}{k:κ}{v:V}(F:bk8 kf)(hk:kf d=some k)(hv:RV Γ φ H e v):∀ {l:List (kX×kX)} {B:List (κ×V)},RVD kf Γ φ H l B->RVD kf Γ φ H (l.map λ p=>if p.1=d then(p.1,e)else p) (B.map λ G=>if G.1=k then(G.1,v)else G)
 | [],B,h=>by
  have h:B=[]:=h
  subst h;exact(rfl:([]:List (κ×V))=[])
 | (a,e0)::l,B,h=>by
  obtain⟨J,v0,r,rfl,e2,e3,Y⟩:=h
  rw[aN,aN]
  by_cases z:a=d
  ·subst z
   rw[hk]at e2;cases e2
   rw[if_pos rfl,if_pos rfl]
   exact⟨k,v,_,rfl,hk,hv,RVD.repl F hk hv Y⟩
  ·have Z:¬ J=k:=λ q=>z (F e2 (by rw[q];exact hk))
   rw[if_neg z,if_neg Z]
   exact⟨J,v0,_,rfl,e2,e3,RVD.repl F hk hv Y⟩
theorem RVD.snoc {φ:Nat->Addr}{H:Hp}{d e:kX}{k:κ}{v:V}(J:bk8 kf)(hk:kf d=some k)(hv:RV Γ φ H e v):∀ {l:List (kX×kX)} {B:List (κ×V)},RVD kf Γ φ H l B->RVD kf Γ φ H (l++[(d,e)]) (B++[(k,v)])
 | [],B,h=>by
  have h:B=[]:=h
  subst h;exact⟨k,v,[],rfl,hk,hv,rfl⟩
 | (a,e0)::l,B,h=>by
  obtain⟨F,v0,r,rfl,e2,e3,G⟩:=h
  exact⟨F,v0,_,rfl,e2,e3,RVD.snoc J hk hv G⟩
theorem RVD.put {φ:Nat->Addr}{H:Hp}{d e:kX}{k:κ}{v:V}{l:List (kX×kX)}{B:List (κ×V)}(F:bk8 kf)(hk:kf d=some k)(hv:RV Γ φ H e v)(h:RVD kf Γ φ H l B):RVD kf Γ φ H (lu d e l) (ao1 B k v):=by
 unfold lu ao1
 rw[at8]
 rcases h.val F hk with⟨G,q2⟩|⟨e',v',G,q2,_⟩
 ·rw[G,q2];exact h.snoc F hk hv
 ·rw[G,q2];exact h.repl F hk hv
theorem RVD.get {φ:Nat->Addr}{H:Hp}:∀ {l:List (kX×kX)} {B:List (κ×V)} {i:Nat} {d e:kX},RVD kf Γ φ H l B->l[i]?=some (d,e)->∃ k v,B[i]?=some (k,v)/\kf d=some k/\RV Γ φ H e v
 | [],_,_,_,_,_,h=>by cases h
 | (a,b)::l,B,0,d,e,h,q=>by
  obtain⟨k,v,r,rfl,e2,e3,F⟩:=h
  cases q
  exact⟨k,v,rfl,e2,e3⟩
 | (a,b)::l,B,i+1,d,e,h,q=>by
  obtain⟨k,v,r,rfl,e2,e3,F⟩:=h
  exact RVD.get (i:=i) F (show l[i]?=some (d,e)from q)
theorem RVD.keys {φ:Nat->Addr}{H:Hp}:∀ {l:List (kX×kX)} {B:List (κ×V)},RVD kf Γ φ H l B->∀ kv∈B,∃ d,kf d=some kv.1
 | [],B,h,kv,hk=>by
  have h:B=[]:=h
  subst h;cases hk
 | (a,b)::l,B,h,kv,hk=>by
  obtain⟨k,v,r,rfl,e2,e3,F⟩:=h
  rcases aC.mp hk with z|z
  ·subst z;exact⟨a,e2⟩
  ·exact RVD.keys F kv z
theorem RVD.length {φ:Nat->Addr}{H:Hp}:∀ {l:List (kX×kX)} {B:List (κ×V)},RVD kf Γ φ H l B->B.length=l.length
 | [],B,h=>by
  have h:B=[]:=h
  subst h;rfl
 | (a,e)::l,B,h=>by
  obtain⟨G,v,r,rfl,e2,e3,F⟩:=h
  rw[aX,aX,RVD.length F]
end
theorem aJ8 {n:Nat}{d e:kX}{l:List (kX×kX)}(h:(DV.O.dic l).bnd n=true)(hd:d.bnd n=true)(he:e.bnd n=true):(DV.O.dic (lu d e l)).bnd n=true:=by
 unfold k9 at h ⊢
 rw[ah]at h ⊢
 obtain⟨J,G⟩:=h
 have g1:=aa7.mp J
 have F:=aa7.mp G
 unfold lu
 refine⟨aa7.mpr λ x hx=>?_,aa7.mpr λ x hx=>?_⟩
 ·obtain⟨p,B,rfl⟩:=aP.mp hx
  split at B
  ·obtain⟨q,hq,rfl⟩:=aP.mp B
   split
   ·exact g1 _ (bN (f:=(·.1)) hq)
   ·exact g1 _ (bN (f:=(·.1)) hq)
  ·rcases aZ.mp B with q|q
   ·exact g1 _ (bN (f:=(·.1)) q)
   ·rw[az.mp q];exact hd
 ·obtain⟨p,B,rfl⟩:=aP.mp hx
  split at B
  ·obtain⟨q,hq,rfl⟩:=aP.mp B
   split
   ·exact he
   ·exact F _ (bN (f:=(·.2)) hq)
  ·rcases aZ.mp B with q|q
   ·exact F _ (bN (f:=(·.2)) q)
   ·rw[az.mp q];exact he
theorem bh2 {n:Nat}{d e:kX}{l:List (kX×kX)}(h:(DV.O.dit l).bnd n=true)(hd:d.bnd n=true)(he:e.bnd n=true):(DV.O.dit (lu d e l)).bnd n=true:=aJ8 h hd he
theorem aj2 {f:kX->kX->Option Bool}{a b:kX}{l m:List kX}{z:Bool}(h:lv f (a::l) (b::m)=some z):∃ x y,f a b=some x/\lv f l m=some y/\z=(x&&y):=by
 unfold lv at h
 cases e1:f a b with
 | none=>rw[e1]at h;cases h
 | some x =>
  cases e2:lv f l m with
  | none=>rw[e1,e2]at h;cases h
  | some y=>rw[e1,e2]at h;exact⟨x,y,rfl,rfl,(ax h).symm⟩
theorem bb1 {f:kX->kX->Option Bool}:∀ {l m:List kX} {z:Bool},lv f l m=some z->∃ e:Nat->Bool,(∀ j d d',l[j]?=some d->m[j]?=some d'->f d d'=some (e j))/\((l.length==m.length)&&(aU (min l.length m.length)).all e)=z
 | [],[],z,h=>by
  unfold lv at h
  cases h
  exact⟨λ _=>true,λ j d d' h=>by simp at h,by simp⟩
 | [],b::m,z,h=>by
  unfold lv at h
  cases h
  exact⟨λ _=>true,λ j d d' h=>by simp at h,by simp⟩
 | a::l,[],z,h=>by
  unfold lv at h
  cases h
  exact⟨λ _=>true,λ j d d' G B=>by simp at B,by simp⟩
 | a::l,b::m,z,h=>by
  obtain⟨x,y,e1,e2,J⟩:=aj2 h
  obtain⟨e,G,B⟩:=bb1 e2
  refine⟨λ j=>match j with|0=>x|j+1=>e j,λ j d d' g1 F=>?_,?_⟩
  ·cases j with
   | zero=>simp at g1 F;subst g1;subst F;exact e1
   | succ j=>exact G j d d' (by simpa using g1) (by simpa using F)
  ·rw[aX,aX,show min (l.length+1) (m.length+1)=min l.length m.length+1 by omega,dR,dz,kz,J,<-B]
   have:((l.length+1==m.length+1)=(l.length==m.length)):=by
    by_cases q:l.length=m.length
    ·simp[q]
    ·have:¬ l.length+1=m.length+1:=by omega
     simp[q]
   rw[this]
   show((l.length==m.length)&&(x&&(aU _).all e))=_
   cases x<;>cases(l.length==m.length)<;>simp
section
variable {X:Cx} {pins:List (Addr×Obj)} {σ:St} {H:Hp} {sh:ae} {φ:Nat->Addr} {s:kW}
theorem ak1 (I:Inv X pins σ H sh){a:Addr}{B ys:List V}(h:H a=some (.lst B))(h':SqT X.K H a ys):False:=by
 rcases h' with(z|⟨o,z⟩)|⟨o,its,n,hk,_⟩
 ·rw[h]at z;cases z
 ·rw[h]at z;cases z
 ·have:=(I.bs a o (I.mod.kin a o hk)).2
  rw[h]at this;cases this
theorem rv_two (I:Inv X pins σ H sh)(hK:X.K=Γ.K)(R:Rp Γ φ H s){a b:kX}{x:V}(J:RV Γ φ H a x)(B:RV Γ φ H b x)(n1:lx s a≠9)(F:lx s b≠9):a=b\/∃ l m p Y,a=.tup l/\b=.tup m/\x=.ref p/\RVL Γ φ H l Y/\RVL Γ φ H m Y:=by
 have G:∀ {r:Nat},lx s (.ref r)≠9->∃ l,s[r]?=some (.lst l):=λ {r} h=>by
  have h:(match s[r]? with|some (DV.O.lst l)=>4|_=>9:Nat)≠9:=h
  cases hs:s[r]? with
  | none=>rw[hs]at h;exact absurd rfl h
  | some o =>
   rw[hs]at h
   cases o with
   | lst l=>exact⟨l,rfl⟩
   | _=>exact absurd rfl h
 cases a with
 | non=>have e:=J.nonE;subst e;cases b with
  | non=>exact .inl rfl
  | bl _=>cases B.blE
  | int _=>cases B.intE
  | str _=>cases B.strE
  | tup _=>obtain⟨_,_,e,_⟩:=B.tupE;cases e
  | ref _=>cases B.refE
  | fn _=>exact absurd rfl F
  | clo _ _=>exact absurd rfl F
 | bl p=>have e:=J.blE;subst e;cases b with
  | non=>cases B.nonE
  | bl _=>cases B.blE;exact .inl rfl
  | int _=>cases B.intE
  | str _=>cases B.strE
  | tup _=>obtain⟨_,_,e,_⟩:=B.tupE;cases e
  | ref _=>cases B.refE
  | fn _=>exact absurd rfl F
  | clo _ _=>exact absurd rfl F
 | int p=>have e:=J.intE;subst e;cases b with
  | non=>cases B.nonE
  | bl _=>cases B.blE
  | int _=>cases B.intE;exact .inl rfl
  | str _=>cases B.strE
  | tup _=>obtain⟨_,_,e,_⟩:=B.tupE;cases e
  | ref _=>cases B.refE
  | fn _=>exact absurd rfl F
  | clo _ _=>exact absurd rfl F
 | str p=>have e:=J.strE;subst e;cases b with
  | non=>cases B.nonE
  | bl _=>cases B.blE
  | int _=>cases B.intE
  | str q =>
   have e':p.toArray=q.toArray:=Str.mk.inj (V.str.inj B.strE)
   have a0:p=q:=by simpa using congrArg ja e'
   subst a0;exact .inl rfl
  | tup _=>obtain⟨_,_,e,_⟩:=B.tupE;cases e
  | ref _=>cases B.refE
  | fn _=>exact absurd rfl F
  | clo _ _=>exact absurd rfl F
 | tup l =>
  obtain⟨p,Y,e,Z,d1⟩:=J.tupE;subst e;cases b with
  | non=>cases B.nonE
  | bl _=>cases B.blE
  | int _=>cases B.intE
  | str _=>cases B.strE
  | tup m =>
   obtain⟨p',ys,e,q2,d2⟩:=B.tupE
   cases e
   rw[<-hK]at Z q2
   rw[I.tuple_inj q2 Z]at d2
   exact .inr ⟨l,m,p,Y,rfl,rfl,rfl,d1,d2⟩
  | ref r =>
   cases B.refE
   obtain⟨m,hm⟩:=G F
   obtain⟨ys,hy,_⟩:=R.addr hm
   rw[<-hK]at Z
   exact(ak1 I hy Z).elim
  | fn _=>exact absurd rfl F
  | clo _ _=>exact absurd rfl F
 | ref r =>
  have e:=J.refE;subst e
  obtain⟨l,hl⟩:=G n1
  obtain⟨Y,hx,_⟩:=R.addr hl
  cases b with
  | non=>cases B.nonE
  | bl _=>cases B.blE
  | int _=>cases B.intE
  | str _=>cases B.strE
  | tup m =>
   obtain⟨p',ys,e,q2,d2⟩:=B.tupE
   cases e
   rw[<-hK]at q2
   exact(ak1 I hx q2).elim
  | ref r' =>
   obtain⟨m,hm⟩:=G F
   have e:φ r=φ r':=V.ref.inj B.refE
   rw[R.inj r r' _ _ hl hm rfl rfl e]
   exact .inl rfl
  | fn _=>exact absurd rfl F
  | clo _ _=>exact absurd rfl F
 | fn _=>exact absurd rfl n1
 | clo _ _=>exact absurd rfl n1
theorem qL {a b:kX}{z:Bool}(h:lA s a b=some z):mM a b=some z\/(mM a b=none/\lX (lx s a) (lx s b)=false/\z=false):=by
 unfold lA at h
 cases e:mM a b with
 | some w=>rw[e]at h;exact .inl h
 | none =>
  rw[e]at h
  cases q:lX (lx s a) (lx s b)with
  | true=>rw[q]at h;cases h
  | false=>rw[q]at h;exact .inr ⟨rfl,rfl,(ax h).symm⟩
theorem bf3 {a b:kX}{z:Bool}(h:mM a b=some z):lx s a≠9/\lx s b≠9:=by
 cases a<;>cases b<;>first|(cases h;done)|(constructor<;>(intro z;cases z))
theorem af2 {a b:kX}{z:Bool}(h:lA s a b=some z):lx s a≠9/\lx s b≠9:=by
 rcases qL h with h|⟨_,h,_⟩
 ·exact bf3 h
 ·unfold lX at h
  simp only[eO,beq_eq_false_iff_ne]at h
  exact⟨h.1.1,h.1.2⟩
theorem aA9 {a:kX}{z:Bool}(h:lA s a a=some z):z=true:=by
 rcases qL h with h|⟨_,h,_⟩
 ·cases a<;>cases h<;>first|rfl|exact beq_self_eq_true _
 ·unfold lX at h;simp at h
theorem aL5 (I:Inv X pins σ H sh)(hK:X.K=Γ.K)(R:Rp Γ φ H s):∀(n:Nat) (a b:kX) (x:V) (z:Bool),li s n a b=some z->RV Γ φ H a x->RV Γ φ H b x->z=true:=by
 have J:∀(a b:kX) (x:V) (z:Bool),lA s a b=some z->RV Γ φ H a x->RV Γ φ H b x->z=true:=by
  intro a b x z h F B
  rcases rv_two I hK R F B (af2 h).1 (af2 h).2 with e|⟨l,m,_,_,rfl,rfl,_⟩
  ·subst e;exact aA9 h
  ·rcases qL h with h|⟨_,h,_⟩
   ·cases h
   ·unfold lX at h;simp[lx]at h
 intro n
 induction n with
 | zero=>intro a b x z h;unfold li at h;exact J a b x z h
 | succ n ih =>
  have Y:∀(l m:List kX) (G:List V) (z:Bool),lv (li s n) l m=some z->RVL Γ φ H l G->RVL Γ φ H m G->z=true:=by
   intro l
   induction l with
   | nil =>
    intro m G z h F B
    cases m with
    | nil=>unfold lv at h;exact(ax h).symm
    | cons b m=>obtain⟨x,r,e,_⟩:=B.uncons;rw[F.unnil]at e;cases e
   | cons a l ihl =>
    intro m G z h F B
    cases m with
    | nil=>obtain⟨x,r,e,_⟩:=F.uncons;rw[B.unnil]at e;cases e
    | cons b m =>
     obtain⟨p,q,e1,e2,ez⟩:=aj2 h
     obtain⟨v,r,rfl,g1,g2⟩:=F.uncons
     obtain⟨v',r',e,g3,g4⟩:=B.uncons
     cases e
     rw[ez,ih a b v p e1 g1 g3,ihl m r q e2 g2 g4];rfl
  intro a b x z h F B
  unfold li at h
  split at h
  ·rename_i l m
   obtain⟨a,G,rfl,q1,d1⟩:=F.tupE
   obtain⟨b,ys,e,q2,d2⟩:=B.tupE
   cases e
   rw[<-hK]at q1 q2
   rw[I.tuple_inj q2 q1]at d2
   exact Y l m G z h d1 d2
  ·rename_i p q
   split at h
   ·rename_i l m hl hm
    obtain⟨G,e1,d1⟩:=R.addr hl
    obtain⟨ys,e2,d2⟩:=R.addr hm
    have e:=F.refE.symm.trans B.refE
    have e':φ p=φ q:=V.ref.inj e
    rw[e',e2]at e1
    have e3:ys=G:=by injection (ax e1)
    subst e3
    split at h
    ·exact Y l m ys z h d1 d2
    ·rename_i Z;exact absurd (d1.length.symm.trans d2.length) Z
   ·cases h
  ·exact J a b x z h F B
end
variable {Γ:Gm}
inductive Vw (sh:ae):Nat->Value->Prop where
 | non:Vw sh 0 .none
 | bl (b:Bool):Vw sh 1 (.bool b)
 | int (i:Int) (t:Tok):Vw sh 1 (.int i t)
 | str (x:Str) (t:Tok):Vw sh 2 (.str x t)
 | tup {l:Addr} {items:Array Value} (h:sh.heap.IsTuple l items):Vw sh 3 (.ref l)
 | lst {l:Addr} {items:Array Value} (h:sh.heap.IsList l items):Vw sh 4 (.ref l)
theorem Vw.eq {A:aO}{sh:ae}{k F:Nat}{u v:Value}(a:Vw sh k u)(b:Vw sh F v)(B:k≠F)(hu:A.units<cLine):gG A sh u v false:=by
 cases a with
 | non=>cases b with
  | non=>exact absurd rfl B
  | bl b=>exact SeqAt.EqAt.none_bool b
  | int i t=>exact iC i t
  | str x t=>exact iD x t
  | tup h=>exact gO h hu
  | lst h=>exact SeqAt.EqAt.none_list h hu
 | bl a=>cases b with
  | non=>exact SeqAt.EqAt.bool_none a
  | bl b=>exact absurd rfl B
  | int i t=>exact absurd rfl B
  | str x t=>exact SeqAt.EqAt.bool_str a x t
  | tup h=>exact SeqAt.EqAt.bool_tuple a h hu
  | lst h=>exact SeqAt.EqAt.bool_list a h hu
 | int a q=>cases b with
  | non=>exact iE a q
  | bl b=>exact absurd rfl B
  | int i t=>exact absurd rfl B
  | str x t=>exact iU a q x t
  | tup h=>exact g6 a q h hu
  | lst h=>exact SeqAt.EqAt.int_list a q h hu
 | str a q=>cases b with
  | non=>exact iG a q
  | bl b=>exact SeqAt.EqAt.str_bool a q b
  | int i t=>exact iV a q i t
  | str x t=>exact absurd rfl B
  | tup h=>exact g7 a q h hu
  | lst h=>exact SeqAt.EqAt.str_list a q h hu
 | tup g=>cases b with
  | non=>exact gP g hu
  | bl b=>exact SeqAt.EqAt.tuple_bool b g hu
  | int i t=>exact g8 i t g hu
  | str x t=>exact g9 x t g hu
  | tup h=>exact absurd rfl B
  | lst h=>exact SeqAt.EqAt.tuple_list g h hu
 | lst g=>cases b with
  | non=>exact SeqAt.EqAt.list_none g hu
  | bl b=>exact SeqAt.EqAt.list_bool b g hu
  | int i t=>exact SeqAt.EqAt.list_int i t g hu
  | str x t=>exact SeqAt.EqAt.list_str x t g hu
  | tup h=>exact SeqAt.EqAt.list_tuple g h hu
  | lst h=>exact absurd rfl B
theorem Vw.rc {A:aO}{sh:ae}{k F:Nat}{u v:Value}(a:Vw sh k u)(b:Vw sh F v)(B:k≠F)(hu:A.units<cLine):kS A sh u v false:=by
 cases a with
 | non=>cases b with
  | non=>exact absurd rfl B
  | bl b=>exact SeqAt.RcAt.none_bool b
  | int i t=>exact SeqAt.RcAt.none_int i t
  | str x t=>exact SeqAt.RcAt.none_str x t
  | tup h=>exact SeqAt.RcAt.none_tuple h hu
  | lst h=>exact SeqAt.RcAt.none_list h hu
 | bl a=>cases b with
  | non=>exact SeqAt.RcAt.bool_none a
  | bl b=>exact absurd rfl B
  | int i t=>exact absurd rfl B
  | str x t=>exact SeqAt.RcAt.bool_str a x t
  | tup h=>exact SeqAt.RcAt.bool_tuple a h hu
  | lst h=>exact SeqAt.RcAt.bool_list a h hu
 | int a q=>cases b with
  | non=>exact SeqAt.RcAt.int_none a q
  | bl b=>exact absurd rfl B
  | int i t=>exact absurd rfl B
  | str x t=>exact SeqAt.RcAt.int_str a q x t
  | tup h=>exact SeqAt.RcAt.int_tuple a q h hu
  | lst h=>exact SeqAt.RcAt.int_list a q h hu
 | str a q=>cases b with
  | non=>exact SeqAt.RcAt.str_none a q
  | bl b=>exact SeqAt.RcAt.str_bool a q b
  | int i t=>exact SeqAt.RcAt.str_int a q i t
  | str x t=>exact absurd rfl B
  | tup h=>exact SeqAt.RcAt.str_tuple a q h hu
  | lst h=>exact SeqAt.RcAt.str_list a q h hu
 | tup g=>cases b with
  | non=>exact SeqAt.RcAt.tuple_none g hu
  | bl b=>exact SeqAt.RcAt.tuple_bool b g hu
  | int i t=>exact SeqAt.RcAt.tuple_int i t g hu
  | str x t=>exact SeqAt.RcAt.tuple_str x t g hu
  | tup h=>exact absurd rfl B
  | lst h=>exact SeqAt.RcAt.tuple_list g h hu
 | lst g=>cases b with
  | non=>exact SeqAt.RcAt.list_none g hu
  | bl b=>exact SeqAt.RcAt.list_bool b g hu
  | int i t=>exact SeqAt.RcAt.list_int i t g hu
  | str x t=>exact SeqAt.RcAt.list_str x t g hu
  | tup h=>exact SeqAt.RcAt.list_tuple g h hu
  | lst h=>exact absurd rfl B
theorem Vw.ne {A:aO}{sh:ae}{k F:Nat}{u v:Value}(a:Vw sh k u)(b:Vw sh F v)(B:k≠F)(hu:A.units<cLine):kE A sh u v true:=by
 cases a with
 | non=>cases b with
  | non=>exact absurd rfl B
  | bl b=>exact SeqAt.RcNeAt.none_bool b
  | int i t=>exact SeqAt.RcNeAt.none_int i t
  | str x t=>exact SeqAt.RcNeAt.none_str x t
  | tup h=>exact SeqAt.RcNeAt.none_tuple h hu
  | lst h=>exact SeqAt.RcNeAt.none_list h hu
 | bl a=>cases b with
  | non=>exact SeqAt.RcNeAt.bool_none a
  | bl b=>exact absurd rfl B
  | int i t=>exact absurd rfl B
  | str x t=>exact SeqAt.RcNeAt.bool_str a x t
  | tup h=>exact SeqAt.RcNeAt.bool_tuple a h hu
  | lst h=>exact SeqAt.RcNeAt.bool_list a h hu
 | int a q=>cases b with
  | non=>exact SeqAt.RcNeAt.int_none a q
  | bl b=>exact absurd rfl B
  | int i t=>exact absurd rfl B
  | str x t=>exact SeqAt.RcNeAt.int_str a q x t
  | tup h=>exact SeqAt.RcNeAt.int_tuple a q h hu
  | lst h=>exact SeqAt.RcNeAt.int_list a q h hu
 | str a q=>cases b with
  | non=>exact SeqAt.RcNeAt.str_none a q
  | bl b=>exact SeqAt.RcNeAt.str_bool a q b
  | int i t=>exact SeqAt.RcNeAt.str_int a q i t
  | str x t=>exact absurd rfl B
  | tup h=>exact SeqAt.RcNeAt.str_tuple a q h hu
  | lst h=>exact SeqAt.RcNeAt.str_list a q h hu
 | tup g=>cases b with
  | non=>exact SeqAt.RcNeAt.tuple_none g hu
  | bl b=>exact SeqAt.RcNeAt.tuple_bool b g hu
  | int i t=>exact SeqAt.RcNeAt.tuple_int i t g hu
  | str x t=>exact SeqAt.RcNeAt.tuple_str x t g hu
  | tup h=>exact absurd rfl B
  | lst h=>exact SeqAt.RcNeAt.tuple_list g h hu
 | lst g=>cases b with
  | non=>exact SeqAt.RcNeAt.list_none g hu
  | bl b=>exact SeqAt.RcNeAt.list_bool b g hu
  | int i t=>exact SeqAt.RcNeAt.list_int i t g hu
  | str x t=>exact SeqAt.RcNeAt.list_str x t g hu
  | tup h=>exact SeqAt.RcNeAt.list_tuple g h hu
  | lst h=>exact absurd rfl B
theorem bJ0 (a b:List Nat):((⟨a.toArray⟩:Str)==⟨b.toArray⟩)=(a==b):=by
 by_cases e:a=b
 ·subst e;simp
 ·have:(⟨a.toArray⟩:Str)≠⟨b.toArray⟩:=λ q=>e (by simpa using congrArg (λ z=>z.cps.toList) q)
  rw[beq_eq_false_iff_ne.mpr this,beq_eq_false_iff_ne.mpr e]
structure Cmp (A:aO)(sh:ae)(u v:Value)(z:Bool):Prop where
 rc:kS A sh u v z
 ne:kE A sh u v (!z)
section
variable {X:Cx} {pins:List (Addr×Obj)} {σ:St} {H:Hp} {sh:ae} {φ:Nat->Addr} {s:kW}
theorem bF2 (I:Inv X pins σ H sh)(hK:X.K=Γ.K)(R:Rp Γ φ H s){d:kX}{x:V}{u:Value}(h:RV Γ φ H d x)(r:RelV x u)(hk:lx s d≠9):Vw sh (lx s d) u:=by
 cases d with
 | non=>have e:=h.nonE;subst e;cases r;exact .non
 | bl b=>have e:=h.blE;subst e;cases r;exact .bl b
 | int i=>have e:=h.intE;subst e;obtain⟨t,rfl⟩:=r;exact .int i t
 | str y=>have e:=h.strE;subst e;obtain⟨t,rfl⟩:=r;exact .str _ t
 | tup l =>
  obtain⟨a,B,e,q,_⟩:=h.tupE
  subst e;cases r
  rw[<-hK]at q
  obtain⟨its,_,t,_⟩:=I.tuple q
  exact .tup t
 | ref n =>
  have e:=h.refE;subst e;cases r
  have hk:(match s[n]? with|some (DV.O.lst l)=>4|_=>9:Nat)≠9:=hk
  show Vw sh (match s[n]? with|some (DV.O.lst l)=>4|_=>9:Nat) _
  cases hs:s[n]? with
  | none=>rw[hs]at hk;exact absurd rfl hk
  | some o =>
   rw[hs]at hk
   cases o with
   | lst l =>
    obtain⟨B,e,_⟩:=R.addr hs
    obtain⟨its,_,t,_⟩:=I.list (SqL.of e)
    exact .lst t.isList
   | _=>exact absurd rfl hk
 | fn _=>exact absurd rfl hk
 | clo _ _=>exact absurd rfl hk
theorem az3 (I:Inv X pins σ H sh)(hK:X.K=Γ.K)(R:Rp Γ φ H s){a b:kX}{x y:V}{u v:Value}{A:aO}{z:Bool}(h:lA s a b=some z)(F:RV Γ φ H a x)(B:RV Γ φ H b y)(r1:RelV x u)(r2:RelV y v)(hu:A.units<cLine) :
  gG A sh u v z/\Cmp A sh u v z:=by
 rcases qL h with h|⟨_,hn,hz⟩
 ·cases a<;>cases b<;>try cases h
  ·cases F.nonE;cases B.nonE;cases r1;cases r2
   exact⟨dE _,SeqAt.RcAt.none_none,SeqAt.RcNeAt.none_none⟩
  ·cases F.blE;cases B.blE;cases r1;cases r2
   exact⟨SeqAt.EqAt.bool_bool _ _,SeqAt.RcAt.bool_bool _ _,SeqAt.RcNeAt.bool_bool _ _⟩
  ·cases F.blE;cases B.intE;cases r1;obtain⟨t',rfl⟩:=r2
   exact⟨SeqAt.EqAt.bool_int _ _ _,SeqAt.RcAt.bool_int _ _ _,SeqAt.RcNeAt.bool_int _ _ _⟩
  ·cases F.intE;cases B.blE;obtain⟨t,rfl⟩:=r1;cases r2
   exact⟨SeqAt.EqAt.int_bool _ _ _,SeqAt.RcAt.int_bool _ _ _,SeqAt.RcNeAt.int_bool _ _ _⟩
  ·cases F.intE;cases B.intE;obtain⟨t,rfl⟩:=r1;obtain⟨t',rfl⟩:=r2
   exact⟨SeqAt.EqAt.int_int _ _ _ _,SeqAt.RcAt.int_int _ _ _ _,SeqAt.RcNeAt.int_int _ _ _ _⟩
  ·cases F.strE;cases B.strE;obtain⟨t,rfl⟩:=r1;obtain⟨t',rfl⟩:=r2
   rw[<-bJ0]
   exact⟨SeqAt.EqAt.str_str _ _ _ _,SeqAt.RcAt.str_str _ _ _ _,SeqAt.RcNeAt.str_str _ _ _ _⟩
 ·subst hz
  unfold lX at hn
  simp only[eO,beq_eq_false_iff_ne]at hn
  have G:=bF2 I hK R F r1 hn.1.1
  have w2:=bF2 I hK R B r2 hn.1.2
  exact⟨G.eq w2 hn.2 hu,G.rc w2 hn.2 hu,G.ne w2 hn.2 hu⟩
theorem aR9 (I:Inv X pins σ H sh)(hK:X.K=Γ.K)(R:Rp Γ φ H s):∀(n:Nat) (a b:kX) (x y:V) (u v:Value) (A:aO) (z:Bool),li s n a b=some z->RV Γ φ H a x->RV Γ φ H b y->RelV x u->RelV y v->Room n A ->
  gG A sh u v z/\Cmp A sh u v z:=by
 intro n
 induction n with
 | zero=>intro a b x y u v A z h h1 Z r1 r2 hr;unfold li at h;exact az3 I hK R h h1 Z r1 r2 hr.units0
 | succ n ih =>
  have B:∀ {l m:List kX} {xs ys:List V} {its its':List Value} {A:aO} {e:Nat->Bool},RVL Γ φ H l xs->RVL Γ φ H m ys->Vals xs its->Vals ys its'->Room n A->(∀ j d d',l[j]?=some d->m[j]?=some d'->li s n d d'=some (e j)) ->
    ∀ j (h1:j<its.toArray.size) (Z:j<its'.toArray.size),gG A sh its.toArray[j] its'.toArray[j] (e j):=by
   intro l m xs ys its its' A e d1 d2 J Y hr he j h1 Z
   have l1:=J.length
   have l2:=Y.length
   have e1:=d1.length
   have e2:=d2.length
   have a3:j<its.length:=by simpa using h1
   have a4:j<its'.length:=by simpa using Z
   have hj:j<l.length:=by omega
   have a1:j<m.length:=by omega
   obtain⟨x,ex,dx⟩:=d1.get (aj hj)
   obtain⟨y,ey,dy⟩:=d2.get (aj a1)
   obtain⟨u,eu,ru⟩:=J.get ex
   obtain⟨w,ew,a2⟩:=Y.get ey
   have g1:its.toArray[j]=u:=by
    have:=aj a3
    rw[eu]at this
    simpa using(ax this).symm
   have g2:its'.toArray[j]=w:=by
    have:=aj a4
    rw[ew]at this
    simpa using(ax this).symm
   rw[g1,g2]
   exact(ih _ _ x y u w A (e j) (he j _ _ (aj hj) (aj a1)) dx dy ru a2 hr).1
  intro a b x y u v A z h h1 Z r1 r2 hr
  have hz:=h
  unfold li at h
  split at h
  ·rename_i l m
   obtain⟨p,xs,ex,q1,d1⟩:=id h1.tupE
   obtain⟨q,ys,ey,q2,d2⟩:=id Z.tupE
   subst ex;subst ey
   cases r1;cases r2
   rw[<-hK]at q1 q2
   obtain⟨its,J,t1,_⟩:=I.tuple q1
   obtain⟨its',Y,t2,_⟩:=I.tuple q2
   obtain⟨e,he,G⟩:=bb1 h
   have l1:=J.length
   have l2:=Y.length
   have e1:=d1.length
   have e2:=d2.length
   have sz:((aU (min its.toArray.size its'.toArray.size)).all e&&its.toArray.size==its'.toArray.size)=z:=by
    rw[<-G,Bool.and_comm,show its.toArray.size=l.length by simp;omega,show its'.toArray.size=m.length by simp;omega]
   have key:=i7 (A:=A) (s:=sh) (e:=e) t1 t2 hr.units0 (B d1 d2 J Y hr.in1 he)
   have F:=SeqAt.RcNeAt.tuples (A:=A) (s:=sh) (e:=e) t1 t2 hr.units0 (B d1 d2 J Y hr.in1 he)
   rw[sz]at key F
   refine⟨?_,key,F⟩
   by_cases hab:p=q
   ·subst hab
    rw[aL5 I hK R _ _ _ _ _ hz h1 Z]
    exact dE _
   ·exact fh hab key
  ·rename_i p q
   split at h
   ·rename_i l m hl hm
    obtain⟨xs,e1,d1⟩:=R.addr hl
    obtain⟨ys,e2,d2⟩:=R.addr hm
    have ex:=h1.refE
    have ey:=Z.refE
    subst ex;subst ey
    cases r1;cases r2
    obtain⟨its,J,t1,_⟩:=I.list (SqL.of e1)
    obtain⟨its',Y,t2,_⟩:=I.list (SqL.of e2)
    have l1:=J.length
    have l2:=Y.length
    have c1:=d1.length
    have c2:=d2.length
    have fin:Cmp A sh (.ref (φ p)) (.ref (φ q)) z:=by
     split at h
     ·rename_i a0
      obtain⟨e,he,G⟩:=bb1 h
      have sz:(aU its.toArray.size).all e=z:=by
       rw[<-G,show its.toArray.size=l.length by simp;omega,a0]
       simp
      have key:=SeqAt.RcAt.lists (A:=A) (s:=sh) (e:=e) t1.isList t2.isList (by simp;omega) hr.units0 (B d1 d2 J Y hr.in1 he)
      have F:=SeqAt.RcNeAt.lists (A:=A) (s:=sh) (e:=e) t1.isList t2.isList (by simp;omega) hr.units0 (B d1 d2 J Y hr.in1 he)
      rw[sz]at key F
      exact⟨key,F⟩
     ·rename_i a0
      cases h
      have hs:(its.toArray.size != its'.toArray.size)=true:=by simp;omega
      exact⟨SeqAt.RcAt.lists_lengths t1.isList t2.isList hs hr.units0,SeqAt.RcNeAt.lists_lengths t1.isList t2.isList hs hr.units0⟩
    refine⟨?_,fin⟩
    by_cases hab:φ p=φ q
    ·rw[aL5 I hK R _ _ _ _ _ hz RV.refI (by rw[hab];exact RV.refI),hab]
     exact dE _
    ·exact fh hab fin.rc
   ·cases h
  ·exact az3 I hK R h h1 Z r1 r2 hr.units0
end
variable {Γ:Gm} {X:Cx}
noncomputable def cd0:mZ->jW
 | .add=>.Add|.sub=>.Sub|.mul=>.Mult|.fdiv=>.FloorDiv|.mod=>.Mod|.pow=>.Pow|.shl=>.LShift|.shr=>.RShift|.band=>.BitAnd|.bor=>.BitOr
noncomputable def bs6:mO->CmpOp
 | .eq=>.Eq|.ne=>.NotEq|.lt=>.Lt|.le=>.LtE|.gt=>.Gt|.ge=>.GtE|.isin=>.In|.notin=>.NotIn
def rOp (Γ:Gm)(f:kX->kX->kW->k6 kX):R2:=λ x y H Q=>∃ φ s a b d s',Rp Γ φ H s/\RV Γ φ H a x/\RV Γ φ H b y/\a.bnd s.length=true/\b.bnd s.length=true/\f a b s=.ok d s'/\ad5 Γ φ s H d s' Q
theorem zP {d e:kX}{s t:kW}(h:mP d s=.ok e t):d=e/\s=t:=by
 unfold mP at h
 cases h
 exact⟨rfl,rfl⟩
theorem zW {o:lD}{e:kX}{s t:kW}(h:lM o s=.ok e t):e=.ref s.length/\t=s++[o]:=by
 unfold lM at h
 cases h
 exact⟨rfl,rfl⟩
theorem at3 (a b:List Nat):(⟨a.toArray⟩:Str)++⟨b.toArray⟩=⟨(a++b).toArray⟩:=by
 show Str.append _ _=_
 unfold Str.append
 simp
theorem zK:lf<=aI:=by rw[eM];decide
theorem bA5:OpR X (bS .Mult) (rI (λ i j=>DV.mulOk i j=true) λ i j=>.int (i*j)):=opI λ i j _ _ _ _ _ hc q=>mul_int q (by
 unfold DV.mulOk at hc
 simp only[bJ,ah,decide_eq_true_eq]at hc
 rcases hc with(h|h)|⟨F,B⟩
 ·exact bU3.ok (.inl (by omega))
 ·exact bU3.ok (.inr (by omega))
 ·unfold DV.BIG at F B
  exact IntMulOk.of_le (m:=60000) (n:=60000) (intBits_le_iff.mpr F) (intBits_le_iff.mpr B) (by decide))
theorem aL3 (l:List Nat):∀(n:Nat) (h:Array Nat),(aq n l.toArray).foldl (·++·) h=h++(lw n l).toArray
 | 0,h=>by simp[lw]
 | n+1,h=>by
  rw[bF,cV,aL3 l n]
  simp[lw,iW]
theorem bp6 (l:List Nat):lw 1 l=l:=by simp[lw]
theorem ba8:∀ n,lw n []=[]
 | 0=>rfl
 | n+1=>by simp[lw,ba8 n]
theorem rep_len (l:List Nat):∀ n,(lw n l).length=l.length*n
 | 0=>by simp[lw]
 | n+1=>by simp[lw,rep_len l n,jJ];omega
theorem bu8:OpR X (bS .Mult) (λ x y H Q=>∃(l:List Nat) (n:Int),x=.str ⟨l.toArray⟩/\y=.int n/\(0<=n/\n<=1000000/\l.length*n.toNat<=lf)/\Q (.str ⟨(lw n.toNat l).toArray⟩) H):=by
 intro G s σ H x y v u Q I Z ry h
 obtain⟨l,n,rfl,rfl,⟨h0,h1,Y⟩,q⟩:=h
 obtain⟨t,rfl⟩:=Z
 obtain⟨t',rfl⟩:=ry
 have B:(⟨l.toArray⟩:Str).length=l.length:=by show l.toArray.size=_;simp
 have hL:=zK
 have a0:=ak4
 refine SB.mul ⟨?_,λ hn _=>?_,λ hn _=>?_⟩ λ t2 k=>?_
 ·rw[decide_eq_false (by omega),decide_eq_false (by omega)];rfl
 ·rw[B]
  have F:1<=n:=by omega
  intro J
  have h3:(l.length:Int)*n<=1000000:=by
   have:((l.length*n.toNat:Nat):Int)<=(lf:Nat):=Int.ofNat_le.mpr Y
   rw[jN,eY h0]at this
   have e:((lf:Nat):Int)=1000000:=by unfold lf;rfl
   omega
  have h4:(l.length:Int)<=1000000:=by
   have:(l.length:Int)*1<=(l.length:Int)*n:=eP F (by omega)
   omega
  have h5:(1000000:Int)<=(2^63 - 1) / n:=by
   rw[Int.le_ediv_iff_mul_le (by omega)]
   have:(1000000:Int)*n<=1000000*1000000:=eP h1 (by omega)
   omega
  omega
 ·rw[B]
  unfold ke
  exact decide_eq_false (by omega)
 ·have e:Txt.mul ⟨l.toArray⟩ n=⟨(lw n.toNat l).toArray⟩:=by
   unfold Txt.mul
   split
   ·have:n.toNat=0:=by omega
    rw[this];rfl
   ·split
    ·rename_i hc
     rw[bJ]at hc
     rcases hc with hc|hc
     ·have:n=1:=by simpa using hc
      subst this
      show(⟨l.toArray⟩:Str)=⟨(lw 1 l).toArray⟩
      rw[bp6]
     ·have:l=[]:=by
       have:=eq_of_beq hc
       rw[B]at this
       exact ci.mp this
      subst this
      rw[ba8]
    ·show(⟨(aq n.toNat l.toArray).foldl (·++·) #[]⟩:Str)=_
     rw[aL3];simp
  rw[e]
  exact⟨.str _,H,I.tok _,⟨_,rfl⟩,q⟩
theorem al4 {n:Nat}{l:List kX}(h:kY n l=true):∀ k,kY n (lL k l)=true
 | 0=>rfl
 | k+1=>zO h (al4 h k)
theorem RVL.repD {φ:Nat->Addr}{H:Hp}{l:List kX}{B:List V}(h:RVL Γ φ H l B):∀ k,RVL Γ φ H (lL k l) (am5 k B)
 | 0=>RVL.nil
 | k+1=>h.append (RVL.repD h k)
theorem aA2 {α:Type}(h:List α):∀ k,am5 k h=(aq k h).flatten
 | 0=>rfl
 | k+1=>by rw[bF,cE,<-aA2 h k];rfl
theorem bO5 (hK:X.K=Γ.K)(op:mZ):OpR X (bS (cd0 op)) (rOp Γ (DV.ai2 op)):=by
 intro B s σ H x y v u Q I G J h
 obtain⟨φ,st,a,b,d,a0,R,ha,hb,na,nb,hf,q⟩:=h
 cases op with
 | add =>
  cases a with
  | int a =>
   cases b with
   | int b =>
    change(mP _) st=_ at hf
    obtain⟨rfl,rfl⟩:=zP hf
    have ex:=ha.intE;have F:=hb.intE;subst ex;subst F
    exact bD7 B s σ H _ _ v u Q I G J ⟨_,_,rfl,rfl,q.here R rfl RV.intI⟩
   | _=>exact fb hf
  | str a =>
   cases b with
   | str b =>
    change(if _ then _ else _:lY kX) st=_ at hf
    split at hf
    ·rename_i hl
     obtain⟨rfl,rfl⟩:=zP hf
     have ex:=ha.strE;have F:=hb.strE;subst ex;subst F
     refine aO3 B s σ H _ _ v u Q I G J ⟨_,_,rfl,rfl,?_,?_⟩
     ·show a.toArray.size+b.toArray.size<=_
      simp only[au]
      exact am hl zK
     ·rw[at3];exact q.here R rfl (RV.strI (by rw[aG];exact hl))
    ·exact fb hf
   | _=>exact fb hf
  | tup a =>
   cases b with
   | tup b =>
    change(if _ then _ else _:lY kX) st=_ at hf
    split at hf
    ·rename_i hl
     obtain⟨rfl,rfl⟩:=zP hf
     obtain⟨p,Z,⟨rfl,z1⟩,Y,d1⟩:=ha.tupZ
     obtain⟨p',ys,⟨rfl,z2⟩,h2,d2⟩:=hb.tupZ
     refine bu5 hK B s σ H _ _ v u Q I G J ⟨p,p',Z,ys,rfl,rfl,Y,h2,?_,λ t H' e ht hn=>?_⟩
     ·rw[d1.length,d2.length];exact am hl zK
     ·obtain⟨g,r'⟩:=R.same e
      unfold k8 at na nb
      refine q _ _ _ g (ak _) (by unfold k8;exact zO na nb) (RV.tupC ht (λ z=>?_) ((RVL.mono g _ _ na d1).append (RVL.mono g _ _ nb d2))) r'
      rcases hn with hn|⟨rfl,rfl⟩|⟨rfl,rfl⟩
      ·exact hn
      ·rw[d2.tonil,bq]at z;rw[bq];exact e _ _ (z1 z)
      ·rw[d1.tonil]at z;exact e _ _ (z2 z)
    ·exact fb hf
   | _=>exact fb hf
  | ref a =>
   cases b with
   | ref b =>
    change(match st[a]?,st[b]? with|some (DV.O.lst l),some (DV.O.lst m)=>if l.length+m.length<=lf then lM (.lst (l++m)) st else .bad|_,_=>.bad:k6 kX)=_ at hf
    split at hf
    ·rename_i l m Y h2
     split at hf
     ·rename_i hl
      obtain⟨rfl,rfl⟩:=zW hf
      obtain⟨Z,e1,d1⟩:=R.addr Y
      obtain⟨ys,e2,d2⟩:=R.addr h2
      have ex:=ha.refE;have F:=hb.refE;subst ex;subst F
      have b1:=R.wf _ _ Y
      have b2:=R.wf _ _ h2
      unfold k9 at b1 b2
      refine bN3 B s σ H _ _ v u Q I G J ⟨φ a,φ b,Z,ys,rfl,rfl,e1,e2,?_,λ p hp=>?_⟩
      ·rw[d1.length,d2.length];exact am hl zK
      ·exact q.alloc R (d1.append d2) (zO b1 b2) hp
     ·exact fb hf
    ·exact fb hf
   | _=>exact fb hf
  | _=>exact fb hf
 | sub =>
  cases a with
  | int a =>
   cases b with
   | int b =>
    change(mP _) st=_ at hf
    obtain⟨rfl,rfl⟩:=zP hf
    have ex:=ha.intE;have F:=hb.intE;subst ex;subst F
    exact bE6 B s σ H _ _ v u Q I G J ⟨_,_,rfl,rfl,q.here R rfl RV.intI⟩
   | _=>exact fb hf
  | _=>exact fb hf
 | mul =>
  cases a with
  | int a =>
   cases b with
   | int b =>
    change(if _ then _ else _:lY kX) st=_ at hf
    split at hf
    ·rename_i hc
     obtain⟨rfl,rfl⟩:=zP hf
     have ex:=ha.intE;have F:=hb.intE;subst ex;subst F
     exact bA5 B s σ H _ _ v u Q I G J ⟨_,_,rfl,rfl,hc,q.here R rfl RV.intI⟩
    ·exact fb hf
   | _=>exact fb hf
  | str a =>
   cases b with
   | int b =>
    change(if _ then _ else _:lY kX) st=_ at hf
    split at hf
    ·rename_i hc
     obtain⟨rfl,rfl⟩:=zP hf
     have ex:=ha.strE;have F:=hb.intE;subst ex;subst F
     exact bu8 B s σ H _ _ v u Q I G J ⟨_,_,rfl,rfl,hc,q.here R rfl (RV.strI (by rw[rep_len];exact hc.2.2))⟩
    ·exact fb hf
   | _=>exact fb hf
  | tup a =>
   cases b with
   | int b =>
    change(if _ then _ else _:lY kX) st=_ at hf
    split at hf
    ·rename_i hc
     obtain⟨rfl,rfl⟩:=zP hf
     obtain⟨p,Z,⟨rfl,z1⟩,Y,d1⟩:=ha.tupZ
     have F:=hb.intE;subst F
     refine bu7 hK B s σ H _ _ v u Q I G J ⟨p,Z,_,rfl,rfl,Y,⟨hc.1,hc.2.1,by rw[d1.length];exact hc.2.2⟩,λ t H' e ht hn=>?_⟩
     obtain⟨g,r'⟩:=R.same e
     unfold k8 at na
     refine q _ _ _ g (ak _) (by unfold k8;exact al4 na _) (RV.tupC ht (λ z=>?_) (RVL.repD (RVL.mono g _ _ na d1) _)) r'
     rcases hn with hn|⟨rfl,ex⟩
     ·exact hn
     ·rw[ex];exact e _ _ (z1 (bv7 z))
    ·exact fb hf
   | _=>exact fb hf
  | ref a =>
   cases b with
   | int b =>
    change(match st[a]? with|some (DV.O.lst l)=>if 0<=b/\b<=1000000/\l.length*b.toNat<=lf then lM (.lst (lL b.toNat l)) st else .bad|_=>.bad:k6 kX)=_ at hf
    split at hf
    ·rename_i l Y
     split at hf
     ·rename_i hc
      obtain⟨rfl,rfl⟩:=zW hf
      obtain⟨Z,e1,d1⟩:=R.addr Y
      have ex:=ha.refE;have F:=hb.intE;subst ex;subst F
      have b1:=R.wf _ _ Y
      unfold k9 at b1
      refine bP5 B s σ H _ _ v u Q I G J ⟨φ a,b,Z,rfl,rfl,e1,by omega,by omega,?_,λ p hp=>?_⟩
      ·rw[d1.length];exact am hc.2.2 zK
      ·rw[<-aA2];exact q.alloc R (RVL.repD d1 _) (al4 b1 _) hp
     ·exact fb hf
    ·exact fb hf
   | _=>exact fb hf
  | _=>exact fb hf
 | fdiv =>
  cases a with
  | int a =>
   cases b with
   | int b =>
    change(if _ then _ else _:lY kX) st=_ at hf
    split at hf
    ·rename_i hc
     obtain⟨rfl,rfl⟩:=zP hf
     have ex:=ha.intE;have F:=hb.intE;subst ex;subst F
     refine bh0 B s σ H _ _ v u Q I G J ⟨_,_,rfl,rfl,⟨hc.1,?_⟩,q.here R rfl RV.intI⟩
     have:=hc.2
     unfold DV.DIVL at this
     simpa using this
    ·exact fb hf
   | _=>exact fb hf
  | _=>exact fb hf
 | mod =>
  cases a with
  | int a =>
   cases b with
   | int b =>
    change(if _ then _ else _:lY kX) st=_ at hf
    split at hf
    ·rename_i hc
     obtain⟨rfl,rfl⟩:=zP hf
     have ex:=ha.intE;have F:=hb.intE;subst ex;subst F
     exact bN0 B s σ H _ _ v u Q I G J ⟨_,_,rfl,rfl,hc,q.here R rfl RV.intI⟩
    ·exact fb hf
   | _=>exact fb hf
  | _=>exact fb hf
 | pow =>
  cases a with
  | int a =>
   cases b with
   | int b =>
    change(if _ then _ else _:lY kX) st=_ at hf
    split at hf
    ·rename_i hc
     obtain⟨rfl,rfl⟩:=zP hf
     have ex:=ha.intE;have F:=hb.intE;subst ex;subst F
     exact bR8 B s σ H _ _ v u Q I G J ⟨_,_,rfl,rfl,hc,q.here R rfl RV.intI⟩
    ·exact fb hf
   | _=>exact fb hf
  | _=>exact fb hf
 | shl =>
  cases a with
  | int a =>
   cases b with
   | int b =>
    change(if _ then _ else _:lY kX) st=_ at hf
    split at hf
    ·rename_i hc
     obtain⟨rfl,rfl⟩:=zP hf
     have ex:=ha.intE;have F:=hb.intE;subst ex;subst F
     exact bT4 B s σ H _ _ v u Q I G J ⟨_,_,rfl,rfl,hc,q.here R rfl RV.intI⟩
    ·exact fb hf
   | _=>exact fb hf
  | _=>exact fb hf
 | shr =>
  cases a with
  | int a =>
   cases b with
   | int b =>
    change(if _ then _ else _:lY kX) st=_ at hf
    split at hf
    ·rename_i hc
     obtain⟨rfl,rfl⟩:=zP hf
     have ex:=ha.intE;have F:=hb.intE;subst ex;subst F
     exact bO0 B s σ H _ _ v u Q I G J ⟨_,_,rfl,rfl,hc,q.here R rfl RV.intI⟩
    ·exact fb hf
   | _=>exact fb hf
  | _=>exact fb hf
 | band =>
  cases a with
  | int a =>
   cases b with
   | int b =>
    change(if _ then _ else _:lY kX) st=_ at hf
    split at hf
    ·rename_i hc
     obtain⟨rfl,rfl⟩:=zP hf
     have ex:=ha.intE;have F:=hb.intE;subst ex;subst F
     exact bB4 B s σ H _ _ v u Q I G J ⟨_,_,rfl,rfl,hc,q.here R rfl RV.intI⟩
    ·exact fb hf
   | _=>exact fb hf
  | _=>exact fb hf
 | bor=>exact fb hf
variable {Γ:Gm} {X:Cx} {pins:List (Addr×Obj)} {σ:St} {H:Hp} {sh:ae} {φ:Nat->Addr} {s:kW}
theorem aL1 {n:Nat}{a b:kX}{z:Bool}(h:li s n a b=some z):lx s a≠9:=by
 cases n with
 | zero=>unfold li at h;exact(af2 h).1
 | succ n =>
  unfold li at h
  split at h
  ·simp[lx]
  ·split at h
   ·rename_i B _;simp[lx,B]
   ·cases h
  ·exact(af2 h).1
theorem aR2 (I:Inv X pins σ H sh)(hK:X.K=Γ.K)(R:Rp Γ φ H s):∀(n:Nat) (a b c:kX) (x:V) (p q:Bool),RV Γ φ H a x->RV Γ φ H b x->li s n a c=some p->li s n b c=some q->p=q:=by
 intro n
 induction n with
 | zero =>
  intro a b c x p q B h e1 e2
  rcases rv_two I hK R B h (aL1 e1) (aL1 e2)with e|⟨l,m,_,_,rfl,rfl,_⟩
  ·subst e;rw[e1]at e2;exact ax e2
  ·unfold li at e1 e2
   have:lA s (.tup l) c=lA s (.tup m) c:=by unfold lA;cases c<;>rfl
   rw[this,e2]at e1;exact(ax e1).symm
 | succ n ih =>
  have G:∀(l m k:List kX) (F:List V) (p q:Bool),RVL Γ φ H l F->RVL Γ φ H m F->lv (li s n) l k=some p->lv (li s n) m k=some q->p=q:=by
   intro l
   induction l with
   | nil =>
    intro m k F p q B h e1 e2
    have:=B.unnil;subst this
    have Y:m=[]:=by have:=h.length;exact ci.mp this.symm
    subst Y
    rw[e1]at e2;exact ax e2
   | cons a l ihl =>
    intro m k F p q B h e1 e2
    obtain⟨x,r,rfl,g1,g2⟩:=B.uncons
    cases m with
    | nil=>have:=h.unnil;cases this
    | cons b m =>
     obtain⟨x',r',e,Z,g4⟩:=h.uncons
     cases e
     cases k with
     | nil=>unfold lv at e1 e2;rw[<-ax e1,<-ax e2]
     | cons c k =>
      obtain⟨p1,p2,a1,a2,a3⟩:=aj2 e1
      obtain⟨q1,q2,b1,J,b3⟩:=aj2 e2
      rw[a3,b3,ih a b c x p1 q1 g1 Z a1 b1,ihl m k r p2 q2 g2 g4 a2 J]
  intro a b c x p q B h e1 e2
  rcases rv_two I hK R B h (aL1 e1) (aL1 e2)with e|⟨l,m,_,F,rfl,rfl,_,d1,d2⟩
  ·subst e;rw[e1]at e2;exact ax e2
  ·cases c with
   | tup k=>unfold li at e1 e2;exact G l m k F p q d1 d2 e1 e2
   | _ =>
    unfold li at e1 e2
    simp only at e1 e2
    have e3:lA s (.tup l)=lA s (.tup m):=by funext c;unfold lA;cases c<;>rfl
    rw[e3]at e1
    exact ax (e1.symm.trans e2)
theorem bn7 {x:kX}:∀ {l:List kX} {z:Bool},lS s x l=some z->∃ e:Nat->Bool,(∀ j d,l[j]?=some d->li s lq d x=some (e j))/\(z=true↔∃ j,j<l.length/\e j=true)
 | [],z,h=>by
  unfold lS at h
  cases h
  exact⟨λ _=>true,λ j d h=>by simp at h,by simp⟩
 | y::l,z,h=>by
  unfold lS at h
  cases e1:li s lq y x with
  | none=>rw[e1]at h;cases h
  | some a =>
   cases e2:lS s x l with
   | none=>rw[e1,e2]at h;cases h
   | some b =>
    rw[e1,e2]at h
    obtain⟨e,F,B⟩:=bn7 e2
    refine⟨λ j=>match j with|0=>a|j+1=>e j,λ j d g=>?_,?_⟩
    ·cases j with
     | zero=>simp at g;subst g;exact e1
     | succ j=>exact F j d (by simpa using g)
    ·have hz:(a||b)=z:=ax h
     rw[<-hz,bJ,B]
     constructor
     ·rintro(q|⟨j,hj,q⟩)
      ·exact⟨0,by simp,q⟩
      ·exact⟨j+1,by simpa using hj,q⟩
     ·rintro⟨j,hj,q⟩
      cases j with
      | zero=>exact .inl q
      | succ j=>exact .inr ⟨j,by simpa using hj,q⟩
theorem bn8 (I:Inv X pins σ H sh)(hK:X.K=Γ.K)(R:Rp Γ φ H s){x:kX}{xv:V}{Y:Value}(hx:RV Γ φ H x xv)(rx:RelV xv Y){l:List kX}{ys:List V}{its:List Value}(hl:RVL Γ φ H l ys)(hv:Vals ys its){z:Bool}(h:lS s x l=some z){A:aO}(hr:Room lq A) :
  ∃ e:Value->Bool,(∀ y,y∈its.toArray->gG A sh y Y (e y))/\its.toArray.any e=z:=by
 obtain⟨e,Z,h2⟩:=bn7 h
 have len:its.length=l.length:=by rw[<-hv.length];exact hl.length
 have B:∀ j u,its[j]?=some u->∃ d y,l[j]?=some d/\ys[j]?=some y/\RV Γ φ H d y/\RelV y u:=λ j u g=>by
  have hj:j<l.length:=by rw[<-len];exact(ag.mp g).1
  obtain⟨y,g1,g2⟩:=hl.get (aj hj)
  obtain⟨u',F,J⟩:=hv.get g1
  rw[g]at F;cases F
  exact⟨_,y,aj hj,g1,g2,J⟩
 classical
 let f:Value->Bool:=λ u=>decide (∃ j,its[j]?=some u/\e j=true)
 have hf:∀ j u,its[j]?=some u->f u=e j:=λ j u g=>by
  obtain⟨d,y,g1,g2,F,J⟩:=B j u g
  cases q:e j with
  | true=>exact decide_eq_true ⟨j,g,q⟩
  | false =>
   refine decide_eq_false λ⟨k,g',q'⟩=>?_
   obtain⟨d',y',k1,k2,k3,k4⟩:=B k u g'
   have ey:y'=y:=k4.inj J
   subst ey
   have:=aR2 I hK R _ d d' x _ _ _ F k3 (Z j d g1) (Z k d' k1)
   rw[q,q']at this;cases this
 refine⟨f,λ u hu=>?_,?_⟩
 ·obtain⟨j,hj,g⟩:=cF.mp (by simpa using hu:u∈its)
  have g':its[j]?=some u:=by rw[aj hj,g]
  obtain⟨d,y,g1,g2,F,J⟩:=B j u g'
  rw[hf j u g']
  exact(aR9 I hK R _ d x y xv u Y A _ (Z j d g1) F hx J rx hr).1
 ·have e1:its.toArray.any f=true↔z=true:=by
   rw[h2,List.any_toArray,jz]
   constructor
   ·rintro⟨u,hu,q⟩
    obtain⟨j,hj,g⟩:=cF.mp hu
    have g':its[j]?=some u:=by rw[aj hj,g]
    exact⟨j,by omega,by rw[<-hf j u g'];exact q⟩
   ·rintro⟨j,hj,q⟩
    have G:j<its.length:=by omega
    exact⟨its[j],jC G,by rw[hf j _ (aj G)];exact q⟩
  cases z<;>cases q:its.toArray.any f
  ·rfl
  ·have:=e1.mp q;cases this
  ·rw[q]at e1;have:=e1.mpr rfl;cases this
  ·rfl
variable {Γ:Gm} {X:Cx}
theorem aa1 {α β:Type}{r:k6 α}{f:α->kW->k6 β}{b:β}{t:kW}(h:r.bind f=.ok b t):∃ a s,r=.ok a s/\f a s=.ok b t:=DV.R.bind_inv h
theorem bl9 (hK:X.K=Γ.K)(hr:Room (lq+1) X.A)(h:Bool){F:List (Addr×Obj)}{sh:ae}{σ:St}{H:Hp}{x y:V}{v u:Value}{φ:Nat->Addr}{st a1:kW}{a b:kX}{z:Bool}
  (I:Inv X F σ H sh) (J:RelV x v) (ry:RelV y u) (R:Rp Γ φ H st) (ha:RV Γ φ H a x) (hb:RV Γ φ H b y) (hf:mQ a b st=.ok z a1) :
  a1=st/\∀ Q:Value->ae->Prop,(∀ a0,Inv X F σ H a0->Q (.bool (if h then !z else z)) a0)->wpAny (model X.prog X.w) X.A (cZ (if h then .NotIn else .In) v u) Q X.xe sh:=by
 unfold mQ at hf
 cases b with
 | tup l =>
  simp only at hf
  cases e:lS st a l with
  | none=>rw[e]at hf;cases hf
  | some w =>
   rw[e]at hf
   cases hf
   obtain⟨p,ys,rfl,q,d⟩:=hb.tupE
   cases ry
   rw[<-hK]at q
   obtain⟨its,rv,t,_⟩:=I.tuple q
   obtain⟨f,h1,Y⟩:=bn8 I hK R ha J d rv e (A:=X.A.in1) hr.in1
   refine⟨rfl,λ Q hq=>?_⟩
   cases h with
   | false=>exact SeqAt.in_tupleAt f t h1 (by rw[Y];exact hq _ I)
   | true=>exact SeqAt.notIn_tupleAt f t h1 (by rw[Y];exact hq _ I)
 | str y0 =>
  simp only at hf
  split at hf
  case h_2=>exact fb hf
  rename_i c
  cases hf
  refine⟨rfl,λ Q hq=>?_⟩
  have e1:=ha.strE
  have e2:=hb.strE
  subst e1 e2
  obtain⟨t1,rfl⟩:=J
  obtain⟨t2,rfl⟩:=ry
  have Z:=ku (⟨y0.toArray⟩:Str) c
  cases h with
  | false=>exact in_str (by rw[show(⟨[c].toArray⟩:Str)=⟨#[c]⟩from rfl,Z];simpa using hq _ I)
  | true=>exact notIn_str (by rw[show(⟨[c].toArray⟩:Str)=⟨#[c]⟩from rfl,Z];simpa using hq _ I)
 | ref r =>
  simp only at hf
  cases hs:st[r]? with
  | none=>rw[hs]at hf;cases hf
  | some o =>
   rw[hs]at hf
   cases o with
   | lst l =>
    simp only at hf
    cases e:lS st a l with
    | none=>rw[e]at hf;cases hf
    | some w =>
     rw[e]at hf
     cases hf
     obtain⟨ys,e1,d⟩:=R.addr hs
     have ey:=hb.refE;subst ey
     cases ry
     obtain⟨its,rv,t,_⟩:=I.list (SqL.of e1)
     obtain⟨f,h1,Y⟩:=bn8 I hK R ha J d rv e (A:=X.A.in1) hr.in1
     refine⟨rfl,λ Q hq=>?_⟩
     cases h with
     | false=>exact SeqAt.in_listAt f t.isList h1 (by rw[Y];exact hq _ I)
     | true=>exact SeqAt.notIn_listAt f t.isList h1 (by rw[Y];exact hq _ I)
   | dic l =>
    simp only at hf
    split at hf
    case isFalse=>exact fb hf
    rename_i B
    cases hf
    obtain⟨k,hk⟩:=ai7 B
    obtain⟨G,e1,d⟩:=R.obj r _ hs
    have ey:=hb.refE;subst ey
    cases ry
    have ex:=aJ4 hk ha;subst ex
    have ez:(lF a l).isSome=(aA5 G k).isSome:=by
     rcases d.val keyOf_inj hk with⟨q1,q2⟩|⟨_,_,q1,q2,_⟩<;>rw[q1,q2]<;>rfl
    refine⟨rfl,λ Q hq=>?_⟩
    rw[ez]at hq
    cases h with
    | false=>exact ce8 (ah6 hr) I (aA6.k e1) J hq
    | true=>exact ba7 (ah6 hr) I (aA6.k e1) J hq
   | dit l =>
    simp only at hf
    split at hf
    case isFalse=>exact fb hf
    rename_i B
    cases hf
    obtain⟨k,hk⟩:=af9 B
    obtain⟨G,e1,d⟩:=R.obj r _ hs
    have ey:=hb.refE;subst ey
    cases ry
    obtain⟨kb,ex,a2⟩:=aq9 hk ha;subst ex
    have ez:(lF a l).isSome=(aA5 G k).isSome:=by
     rcases d.val keyT_inj hk with⟨q1,q2⟩|⟨_,_,q1,q2,_⟩<;>rw[q1,q2]<;>rfl
    refine⟨rfl,λ Q hq=>?_⟩
    rw[ez]at hq
    cases h with
    | false=>exact ce8 (ah6 hr) I (aA6.t e1 a2) J hq
    | true=>exact ba7 (ah6 hr) I (aA6.t e1 a2) J hq
   | ro l=>exact fb hf
   | ins c l=>exact fb hf
 | _=>exact fb hf
theorem aq3 {op:mO}{a b d:kX}{st B:kW}(ho:op=.lt\/op=.le\/op=.gt\/op=.ge)(h:DV.ql op a b st=.ok d B):∃ i j,a=.int i/\b=.int j:=by
 rcases ho with rfl|rfl|rfl|rfl <;>
 (cases a with
 | int i =>
  (cases b with
  | int j=>exact⟨i,j,rfl,rfl⟩
  | _=>cases h)
 | _=>cases h)
theorem bS8 (hK:X.K=Γ.K)(hr:Room (lq+1) X.A)(op:mO):OpR X (cZ (bs6 op)) (rOp Γ (DV.ql op)):=by
 intro B s σ H x y v u Q I G J h
 obtain⟨φ,st,a,b,d,F,R,ha,hb,na,nb,hf,q⟩:=h
 cases op with
 | eq =>
  have hf:DV.eqM a b st=.ok d F:=hf
  unfold DV.eqM at hf
  cases e:li st lq a b with
  | none=>rw[e]at hf;cases hf
  | some z =>
   rw[e]at hf;cases hf
   exact(aR9 I hK R _ a b x y v u X.A z e ha hb G J (hr.mono (by omega))).2.rc X.prog X.w X.xe _ ⟨.bl z,H,I,rfl,q.here R rfl RV.blI⟩
 | ne =>
  have hf:(match li st lq a b with|some r=>.ok (.bl (!r)) st|none=>.bad:k6 kX)=.ok d F:=hf
  cases e:li st lq a b with
  | none=>rw[e]at hf;cases hf
  | some z =>
   rw[e]at hf;cases hf
   exact(aR9 I hK R _ a b x y v u X.A z e ha hb G J (hr.mono (by omega))).2.ne X.prog X.w X.xe _ ⟨.bl (!z),H,I,rfl,q.here R rfl RV.blI⟩
 | lt =>
  obtain⟨i,j,rfl,rfl⟩:=aq3 (.inl rfl) hf
  cases hf
  have ex:=ha.intE;have Y:=hb.intE;subst ex;subst Y
  exact bY4 B s σ H _ _ v u Q I G J ⟨_,_,rfl,rfl,q.here R rfl RV.blI⟩
 | le =>
  obtain⟨i,j,rfl,rfl⟩:=aq3 (.inr (.inl rfl)) hf
  cases hf
  have ex:=ha.intE;have Y:=hb.intE;subst ex;subst Y
  exact bW1 B s σ H _ _ v u Q I G J ⟨_,_,rfl,rfl,q.here R rfl RV.blI⟩
 | gt =>
  obtain⟨i,j,rfl,rfl⟩:=aq3 (.inr (.inr (.inl rfl))) hf
  cases hf
  have ex:=ha.intE;have Y:=hb.intE;subst ex;subst Y
  exact ca5 B s σ H _ _ v u Q I G J ⟨_,_,rfl,rfl,q.here R rfl RV.blI⟩
 | ge =>
  obtain⟨i,j,rfl,rfl⟩:=aq3 (.inr (.inr (.inr rfl))) hf
  cases hf
  have ex:=ha.intE;have Y:=hb.intE;subst ex;subst Y
  exact bX9 B s σ H _ _ v u Q I G J ⟨_,_,rfl,rfl,q.here R rfl RV.blI⟩
 | isin =>
  have hf:(mQ a b st).bind (λ r s=>.ok (.bl r) s)=.ok d F:=hf
  obtain⟨z,s1,e1,e2⟩:=aa1 hf
  obtain⟨rfl,w⟩:=bl9 hK hr false I G J R ha hb e1
  cases e2
  exact w _ λ s' Z=>⟨.bl z,H,Z,rfl,q.here R rfl RV.blI⟩
 | notin =>
  have hf:(mQ a b st).bind (λ r s=>.ok (.bl (!r)) s)=.ok d F:=hf
  obtain⟨z,s1,e1,e2⟩:=aa1 hf
  obtain⟨rfl,w⟩:=bl9 hK hr true I G J R ha hb e1
  cases e2
  exact w _ λ s' Z=>⟨.bl (!z),H,Z,rfl,q.here R rfl RV.blI⟩
theorem aS5 {φ:Nat->Addr}{H:Hp}{l:List kX}{B:List V}{i:Int}{d:kX}(h:RVL Γ φ H l B)(e:((lT l.length i).bind λ j=>l[j]?)=some d):∃ v,atI B i=some v/\RV Γ φ H d v:=by
 cases hj:lT l.length i with
 | none=>rw[hj]at e;cases e
 | some j =>
  rw[hj]at e
  obtain⟨v,e1,e2⟩:=h.get (show l[j]?=some d from e)
  refine⟨v,?_,e2⟩
  unfold atI
  have:ixN B.length i=some j:=by rw[h.length];exact hj
  rw[this];exact e1
theorem aC3 {l:List kX}{i:Int}{d:kX}(e:((lT l.length i).bind λ j=>l[j]?)=some d):d∈l:=by
 cases hj:lT l.length i with
 | none=>rw[hj]at e;cases e
 | some j=>rw[hj]at e;exact a7 (show l[j]?=some d from e)
theorem bS5 (hK:X.K=Γ.K)(hu:X.A.units+2<cLine):IxR X (rOp Γ DV.ixM):=by
 intro F B G s σ H x y v u Q I rx ry h hs
 obtain⟨φ,st,a,b,d,a2,R,ha,hb,na,nb,hf,q⟩:=h
 unfold DV.ixM at hf
 cases a with
 | tup l =>
  cases b with
  | int i =>
   simp only at hf
   split at hf
   ·rename_i d' e
    cases hf
    obtain⟨p,xs,rfl,h1,d1⟩:=ha.tupE
    have Y:=hb.intE;subst Y
    obtain⟨w,e1,e2⟩:=aS5 d1 e
    unfold k8 at na
    exact bC6 hK F B G s σ H _ _ v u Q I rx ry ⟨p,xs,i,w,rfl,rfl,h1,e1,q.here R (aa7.mp na _ (aC3 e)) e2⟩ hs
   ·exact fb hf
  | _=>exact fb hf
 | str l =>
  cases b with
  | int i =>
   simp only at hf
   split at hf
   ·rename_i c e
    cases hf
    have hl:=ha.strL
    have ex:=ha.strE;have Y:=hb.intE;subst ex;subst Y
    exact ix_str F B G s σ H _ _ v u Q I rx ry ⟨⟨l.toArray⟩,i,c,rfl,rfl,by show l.toArray.size<=_;rw[au];exact am hl zK,e,q.here R rfl (RV.strI (by simp;decide))⟩ hs
   ·exact fb hf
  | _=>exact fb hf
 | ref r =>
  have ex:=ha.refE;subst ex
  simp only at hf
  cases hsr:st[r]? with
  | none=>rw[hsr]at hf;cases hf
  | some o =>
   rw[hsr]at hf
   cases o with
   | lst l =>
    cases b with
    | int i =>
     simp only at hf
     split at hf
     ·rename_i d' e
      cases hf
      have Y:=hb.intE;subst Y
      obtain⟨xs,e1,d1⟩:=R.addr hsr
      obtain⟨w,e2,e3⟩:=aS5 d1 e
      have wf:=R.wf _ _ hsr
      unfold k9 at wf
      exact aI3 hK F B G s σ H _ _ v u Q I rx ry ⟨φ r,xs,i,w,rfl,rfl,SqL.of e1,e2,q.here R (aa7.mp wf _ (aC3 e)) e3⟩ hs
     ·exact fb hf
    | _=>exact fb hf
   | ro l =>
    cases b with
    | int i =>
     simp only at hf
     split at hf
     ·rename_i d' e
      cases hf
      have Y:=hb.intE;subst Y
      obtain⟨xs,e1,d1⟩:=R.obj _ _ hsr
      obtain⟨w,e2,e3⟩:=aS5 d1 e
      have wf:=R.wf _ _ hsr
      unfold k9 at wf
      exact aI3 hK F B G s σ H _ _ v u Q I rx ry ⟨φ r,xs,i,w,rfl,rfl,e1.1,e2,q.here R (aa7.mp wf _ (aC3 e)) e3⟩ hs
     ·exact fb hf
    | _=>exact fb hf
   | dic l =>
    simp only at hf
    split at hf
    case isFalse=>exact fb hf
    rename_i J
    obtain⟨k,hk⟩:=ai7 J
    obtain⟨a0,e1,d1⟩:=R.obj r _ hsr
    have Y:=aJ4 hk hb;subst Y
    cases rx
    rcases d1.val keyOf_inj hk with⟨q1,_⟩|⟨e,v',q1,q2,q3,q4⟩
    ·rw[q1]at hf;cases hf
    ·rw[q1]at hf
     cases hf
     have wf:=R.wf _ _ hsr
     unfold k9 at wf
     rw[ah]at wf
     have g:aA6 H (φ r) (kV k) (some v'):=by rw[<-q2];exact aA6.k e1
     exact jZ (am3 I g) fA.lookup (aw4 hu I g ry λ w' s' I' Z=>⟨v',H,I',Z,q.here R (aa7.mp wf.2 _ q4) q3⟩) hs
   | dit l =>
    simp only at hf
    split at hf
    case isFalse=>exact fb hf
    rename_i J
    obtain⟨k,hk⟩:=af9 J
    obtain⟨a0,e1,d1⟩:=R.obj r _ hsr
    obtain⟨kb,Y,a1⟩:=aq9 hk hb;subst Y
    cases rx
    rcases d1.val keyT_inj hk with⟨q1,_⟩|⟨e,v',q1,q2,q3,q4⟩
    ·rw[q1]at hf;cases hf
    ·rw[q1]at hf
     cases hf
     have wf:=R.wf _ _ hsr
     unfold k9 at wf
     rw[ah]at wf
     have g:aA6 H (φ r) (.ref kb) (some v'):=by rw[<-q2];exact aA6.t e1 a1
     exact jZ (am3 I g) fA.lookup (aw4 hu I g ry λ w' s' I' Z=>⟨v',H,I',Z,q.here R (aa7.mp wf.2 _ q4) q3⟩) hs
   | ins c l=>cases b<;>cases hf
 | _=>cases b<;>cases hf
theorem aU4 (n d:Nat)(i:Int):HT.sIx n d (some i)=lN n i:=by
 show(if i<0 then(i+(n:Int)).toNat else min i.toNat n)=_
 unfold lN
 by_cases h:i<0
 ·rw[if_pos h,if_neg (by omega)]
 ·rw[if_neg h,if_pos (by omega)]
theorem bm3 {φ:Nat->Addr}{H:Hp}{l:List kX}{B:List V}(h:RVL Γ φ H l B)(F G:Option Int):RVL Γ φ H (lC l F G) (aN0 B F G):=by
 unfold lC aN0
 have e1:HT.sIx B.length 0 F=lR l.length F:=by
  cases F with
  | none=>rfl
  | some i=>rw[aU4,h.length];rfl
 have e2:HT.sIx B.length B.length G=mr l.length G:=by
  cases G with
  | none=>exact h.length
  | some i=>rw[aU4,h.length];rfl
 rw[e1,e2]
 exact(h.drop _).take _
theorem aH8 {α:Type}{l:List α}{h B:Option Int}:∀ d∈lC l h B,d∈l:=λ d hd=>List.mem_of_mem_drop (List.mem_of_mem_take hd)
theorem bi5 {α:Type}(l:List α)(B h:Option Int):(lC l B h).length<=l.length:=by
 unfold lC
 rw[bZ,eA]
 omega
theorem bZ5 (B F:Option Int)(n:Nat):bv B F 1 n=(aU (mr n F - lR n B)).map (lR n B+·):=by
 rw[<-sliceRange_one]
 unfold bv
 have cl:∀ i:Int,max 0 (min (if i<0 then i+(n:Int)else i) (n:Int))=((lN n i:Nat):Int):=λ i=>by
  unfold lN
  by_cases h:i<0
  ·rw[if_pos h,if_neg (by omega)];omega
  ·rw[if_neg h,if_pos (by omega)];omega
 simp only[show((1:Int) > 0)=True by simp,if_true]
 cases B<;>cases F<;>simp only[cl,lR,mr]<;>rfl
theorem aI6 {l:List Nat}:∀(a k:Nat),a+k<=l.length->((aU k).map (a+·)).filterMap (λ x=>l.toArray[x]?)=(l.drop a).take k
 | a,0,_=>by simp
 | a,k+1,h=>by
  rw[List.range_succ,bD,List.filterMap_append,aI6 a k (by omega)]
  have hk:a+k<l.length:=by omega
  rw[List.take_add_one,List.getElem?_drop]
  simp[hk]
theorem bb0 (l:List Nat)(h B:Option Int):eU ⟨l.toArray⟩ h B=⟨(lC l h B).toArray⟩:=by
 unfold eU
 have hn:(⟨l.toArray⟩:Str).length=l.length:=by show l.toArray.size=_;simp
 rw[hn,bZ5]
 have hb:mr l.length B<=l.length:=by
  cases B with
  | none=>exact ak _
  | some i=>show lN l.length i<=_;unfold lN;split<;>omega
 have ha:lR l.length h<=l.length:=by
  cases h with
  | none=>exact cc _
  | some i=>show lN l.length i<=_;unfold lN;split<;>omega
 unfold lC
 generalize mr l.length B=b at *
 generalize lR l.length h=a at *
 by_cases hc:((1:Int)==1&&((aU (b - a)).map (a+·)).length==l.length)=true
 ·rw[if_pos hc]
  have:b - a=l.length:=by simpa using hc
  have h0:a=0\/l.length=0:=by omega
  rcases h0 with h0|h0
  ·subst h0
   rw[this];simp
  ·have:l=[]:=ci.mp h0
   subst this;simp
 ·rw[if_neg hc]
  by_cases hab:a<=b
  ·have e:=aI6 (l:=l) a (b - a) (by omega)
   show(⟨(ii (λ x=>l.toArray[x]?) _).toArray⟩:Str)=_
   rw[e]
  ·rw[show b - a=0 by omega];simp
def rSl (Γ:Gm):V->Option Int->Option Int->Hp->VK->Prop:=λ x lo hi H Q=>∃ φ s a d s',Rp Γ φ H s/\RV Γ φ H a x/\a.bnd s.length=true/\mw a lo hi s=.ok d s'/\ad5 Γ φ s H d s' Q
theorem ca9 (hK:X.K=Γ.K):SlR X (rSl Γ):=by
 intro B s σ H x v vl vu F G sl Q I Y hs pl pu h
 obtain⟨φ,st,a,d,a0,R,ha,Z,hf,q⟩:=h
 unfold mw at hf
 cases a with
 | tup l =>
  cases hf
  obtain⟨p,J,⟨rfl,z1⟩,h1,d1⟩:=ha.tupZ
  unfold k8 at Z
  refine br3 hK B s σ H _ v vl vu F G sl Q I Y hs pl pu ⟨p,J,rfl,h1,λ t H' e ht hn=>?_⟩
  obtain⟨g,r'⟩:=R.same e
  have d2:=bm3 (RVL.mono g _ _ Z d1) F G
  refine q _ _ _ g (ak _) (by unfold k8;exact aG7 Z aH8) (RV.tupC ht (λ z=>?_) d2) r'
  rcases hn with hn|⟨rfl,ex⟩
  ·exact hn
  ·rw[ex]
   refine e _ _ (z1 ?_)
   have hl:(lC l F G).length=l.length:=by rw[<-d2.length,ex,d1.length]
   rwa [aW4 hl]at z
 | str l =>
  cases hf
  have hl:=ha.strL
  have ex:=ha.strE;subst ex
  refine bQ0 B s σ H _ v vl vu F G sl Q I Y hs pl pu ⟨_,rfl,by show l.toArray.size<=_;rw[au];exact am hl zK,?_⟩
  rw[bb0]
  exact q.here R rfl (RV.strI (am (bi5 l F G) hl))
 | ref r =>
  have ex:=ha.refE;subst ex
  simp only at hf
  cases hsr:st[r]? with
  | none=>rw[hsr]at hf;cases hf
  | some o =>
   rw[hsr]at hf
   cases o with
   | lst l =>
    obtain⟨rfl,rfl⟩:=zW hf
    obtain⟨J,e1,d1⟩:=R.addr hsr
    have wf:=R.wf _ _ hsr
    unfold k9 at wf
    exact bh9 hK B s σ H _ v vl vu F G sl Q I Y hs pl pu ⟨φ r,J,rfl,SqL.of e1,λ p hp=>q.alloc R (bm3 d1 F G) (aG7 wf aH8) hp⟩
   | _=>exact fb hf
 | _=>exact fb hf
variable {Γ:Gm} {X:Cx}
def rCl (Γ:Gm)(f:List kX->kW->k6 kX):List V->Hp->VK->Prop:=λ xs H Q=>∃ φ s l d s',Rp Γ φ H s/\RVL Γ φ H l xs/\kY s.length l=true/\f l s=.ok d s'/\ad5 Γ φ s H d s' Q
theorem RVL.one {φ:Nat->Addr}{H:Hp}{d:kX}{B:List V}(h:RVL Γ φ H [d] B):∃ x,B=[x]/\RV Γ φ H d x:=by
 obtain⟨x,r,rfl,G,F⟩:=h.uncons
 rw[F.unnil];exact⟨x,rfl,G⟩
noncomputable def biN:lK->Option (String×Nat)
 | .len=>some ("len",1)|.abs=>some ("abs",1)|.min2=>some ("min",2)|.max2=>some ("max",2)|_=>none
theorem z9:∀ {l:List kX} {is:List Int},lV l=some is->l=is.map DV.D.int
 | [],is,h=>by unfold lV at h;cases h;rfl
 | d::l,is,h=>by
  cases d with
  | int i =>
   have h:(lV l).map (i::·)=some is:=h
   cases e:lV l with
   | none=>rw[e]at h;cases h
   | some m=>rw[e]at h;cases h;rw[z9 e];rfl
  | _=>cases h
theorem ak7:∀ {l:List kX} {is:List Bool},lZ l=some is->l=is.map DV.D.bl
 | [],is,h=>by unfold lZ at h;cases h;rfl
 | d::l,is,h=>by
  cases d with
  | bl i =>
   have h:(lZ l).map (i::·)=some is:=h
   cases e:lZ l with
   | none=>rw[e]at h;cases h
   | some m=>rw[e]at h;cases h;rw[ak7 e];rfl
  | _=>cases h
theorem RVL.ints {φ:Nat->Addr}{H:Hp}:∀ {is:List Int} {B:List V},RVL Γ φ H (is.map DV.D.int) B->B=is.map V.int
 | [],_,h=>h.unnil
 | i::is,_,h=>by
  obtain⟨x,r,rfl,G,F⟩:=RVL.uncons h
  rw[G.intE,RVL.ints F];rfl
theorem RVL.bls {φ:Nat->Addr}{H:Hp}:∀ {is:List Bool} {B:List V},RVL Γ φ H (is.map DV.D.bl) B->B=is.map V.bl
 | [],_,h=>h.unnil
 | i::is,_,h=>by
  obtain⟨x,r,rfl,G,F⟩:=RVL.uncons h
  rw[G.blE,RVL.bls F];rfl
theorem aZ0 {f:kX->lY kX}{l:List kX}{s s':kW}{d:kX}(h:mR f l s=.ok d s'):∃ a,l=[a]/\f a s=.ok d s':=by
 match l,h with
 | [a],h=>exact⟨a,rfl,h⟩
 | [],h=>exact fb h
 | _::_::_,h=>exact fb h
theorem be6 (hK:X.K=Γ.K)(hc:X.calm=true){b:lK}{nm:String}{k:Nat}(hn:biN b=some (nm,k)):ac6 X (.builtin nm) (rCl Γ (mG b)):=by
 intro B s σ H Y us Q I r h
 obtain⟨φ,st,l,d,F,R,hl,Z,hf,q⟩:=h
 cases b with
 | len =>
  cases hn
  have hf:mR DV.bu2 l st=.ok d F:=hf
  obtain⟨a,rfl,hg⟩:=aZ0 hf
  clear hf
  obtain⟨x,rfl,hx⟩:=hl.one
  unfold DV.bu2 at hg
  cases a with
  | tup l =>
   cases hg
   obtain⟨p,ys,rfl,G,d1⟩:=hx.tupE
   refine al6 hK B s σ H _ us Q I r ⟨p,ys,rfl,.inr G,?_⟩
   rw[d1.length];exact q.here R rfl RV.intI
  | str l =>
   cases hg
   have J:=hx.strL
   have e:=hx.strE;subst e
   refine az8 B s σ H _ us Q I r ⟨_,rfl,by show l.toArray.size<=_;rw[au];exact am J zK,?_⟩
   show Q (.int ((l.toArray.size:Nat):Int)) H
   rw[au]
   exact q.here R rfl RV.intI
  | ref n =>
   have e:=hx.refE;subst e
   simp only at hg
   cases hs:st[n]? with
   | none=>rw[hs]at hg;cases hg
   | some o =>
    rw[hs]at hg
    cases o with
    | lst l =>
     cases hg
     obtain⟨ys,e1,d1⟩:=R.addr hs
     refine al6 hK B s σ H _ us Q I r ⟨φ n,ys,rfl,.inl (SqL.of e1),?_⟩
     rw[d1.length];exact q.here R rfl RV.intI
    | ro l =>
     cases hg
     obtain⟨ys,e1,d1⟩:=R.obj _ _ hs
     refine al6 hK B s σ H _ us Q I r ⟨φ n,ys,rfl,.inl e1.1,?_⟩
     rw[d1.length];exact q.here R rfl RV.intI
    | dic l=>exact fb hg
    | dit l=>exact fb hg
    | ins c l=>exact fb hg
  | _=>exact fb hg
 | abs =>
  cases hn
  have hf:(match lV l with|some [i]=>.ok (.int (if i<0 then -i else i)) st|_=>.bad:k6 kX)=.ok d F:=hf
  split at hf
  ·rename_i i e
   cases hf
   have:=z9 e;subst this
   have:=RVL.ints hl;subst this
   exact bh6 B s σ H _ us Q I r ⟨i,rfl,q.here R rfl RV.intI⟩
  ·exact fb hf
 | min2 =>
  cases hn
  have hf:(match lV l with|some [a,b]=>.ok (.int (if b<a then b else a)) st|_=>.bad:k6 kX)=.ok d F:=hf
  split at hf
  ·rename_i a b e
   cases hf
   have:=z9 e;subst this
   have:=RVL.ints hl;subst this
   exact aQ2 hc B s σ H _ us Q I r ⟨_,_,rfl,q.here R rfl RV.intI⟩
  ·exact fb hf
 | max2 =>
  cases hn
  have hf:(match lV l with|some [a,b]=>.ok (.int (if b > a then b else a)) st|_=>.bad:k6 kX)=.ok d F:=hf
  split at hf
  ·rename_i a b e
   cases hf
   have:=z9 e;subst this
   have:=RVL.ints hl;subst this
   exact aT0 hc B s σ H _ us Q I r ⟨_,_,rfl,q.here R rfl RV.intI⟩
  ·exact fb hf
 | _=>cases hn
theorem aJ5:∀ j:Nat,j<=9->bz (toString (j:Int))=(⟨[48+j].toArray⟩:Str):=by decide
theorem bP3:ac6 X (.type "int") (rCl Γ (mG .int)):=by
 intro B s σ H J us Q I r h
 obtain⟨φ,st,l,d,G,R,hl,Y,hf,q⟩:=h
 have hf:(match lZ l with|some [b]=>.ok (.int (if b then 1 else 0)) st|some _=>.bad|none=>DV.aL9 l st:k6 kX)=.ok d G:=hf
 split at hf
 ·rename_i b e
  cases hf
  have:=ak7 e;subst this
  have:=RVL.bls hl;subst this
  exact aT3 B s σ H _ us Q I r (.inr ⟨b,rfl,q.here R rfl RV.intI⟩)
 ·exact fb hf
 ·unfold DV.aL9 at hf
  split at hf
  ·rename_i c _ _
   split at hf
   ·rename_i hc
    cases hf
    obtain⟨x,F,rfl,r1,r2⟩:=hl.uncons
    cases(show F=[]from r2)
    have:=r1.strE
    subst this
    obtain⟨u,rfl,t,rfl⟩:=qR r
    obtain⟨j,hj,rfl⟩:∃ j:Nat,j<=9/\c=48+j:=⟨c - 48,by omega,by omega⟩
    rw[show(⟨[48+j].toArray⟩:Str)=bz (toString (j:Int))from(aJ5 j hj).symm]
    refine PySem.W.KIN.call_num (by omega) (by omega) ⟨.int (j:Int),H,I.tok _,⟨_,rfl⟩,?_⟩
    have:=q.here R rfl (RV.intI (i:=((48+j - 48:Nat):Int)))
    rw[show 48+j - 48=j by omega]at this
    exact this
   ·exact fb hf
  ·exact fb hf
theorem bO4:ac6 X (.type "str") (rCl Γ (mG .str)):=by
 intro G s σ H Y us Q I r h
 obtain⟨φ,st,l,d,F,R,hl,J,hf,q⟩:=h
 have hf:DV.aW3 l st=.ok d F:=hf
 unfold DV.aW3 at hf
 split at hf
 ·rename_i i _
  split at hf
  ·rename_i Z
   cases hf
   obtain⟨x,B,rfl,r1,r2⟩:=hl.uncons
   cases(show B=[]from r2)
   have:=r1.intE
   subst this
   obtain⟨u,rfl,t,rfl⟩:=qR r
   obtain⟨j,rfl⟩:∃ j:Nat,i=(j:Int):=⟨i.toNat,by omega⟩
   have hj:j<=9:=by omega
   refine PySem.P.str_of_int ?_ ⟨.str ⟨[48+j].toArray⟩,H,I.tok _,⟨s.toks,?_⟩,?_⟩
   ·have:(j:Int).natAbs.log2<=(j:Int).natAbs:=Nat.log2_le_self _
    omega
   ·rw[<-aJ5 j hj]
   ·have:=q.here R rfl (RV.strI (x:=[48+(j:Int).toNat]) (by show 1<=lf;decide))
    rw[bV]at this
    exact this
  ·exact fb hf
 ·rename_i w _
  cases hf
  obtain⟨x,B,rfl,r1,r2⟩:=hl.uncons
  cases(show B=[]from r2)
  have e:=r1.strE
  subst e
  obtain⟨u,rfl,t,rfl⟩:=qR r
  refine PySem.P.str_of_str ⟨.str ⟨w.toArray⟩,H,I,⟨_,rfl⟩,?_⟩
  unfold kY at J
  exact q.here R rfl r1
 ·exact fb hf
noncomputable def am9:Nat->String
 | 1 => "int" | 2 => "bool" | 3 => "str" | 4 => "tuple" | _ => "list"
theorem bp8 {K:ac}(k:Nat)(hk:1<=k/\k<=5):bI K (.type "NoneType") (.type (am9 k))=some false/\bI K (.type "bool") (.type (am9 k))=some (k==1||k==2) /\
  bI K (.type "int") (.type (am9 k))=some (k==1)/\bI K (.type "str") (.type (am9 k))=some (k==3)/\bI K (.type "tuple") (.type (am9 k))=some (k==4)/\bI K (.type "list") (.type (am9 k))=some (k==5):=by
 obtain⟨F,B⟩:=hk
 rcases(by omega:k=1\/k=2\/k=3\/k=4\/k=5)with h|h|h|h|h<;>subst h<;>refine⟨?_,?_,?_,?_,?_,?_⟩<;>with_unfolding_all rfl
theorem aO6 {B:List (Addr×Obj)}{σ:St}{H:Hp}{s:ae}{A:aO}{E:Value->ae->Prop}{Q:Value->ae->Prop}{c:Value}{b:Bool}{a:Addr}{F:List V}(I:Inv X B σ H s)(G:SqT X.K H a F)(e:bI X.K (.type "tuple") c=some b)
  (h:∀ tk,Q (.bool b) { s with toks:=tk }):wpAny (model X.prog X.w) A (call (.builtin "isinstance") [.ref a,c]) Q E s:=by
 obtain⟨its,_,⟨o,g1,J,_⟩,_⟩:=I.tuple G
 exact bC iY I.kIn ⟨o,g1,J⟩ e (λ z=>nomatch z) h
theorem bE4 (hK:X.K=Γ.K){k:Nat}(hk:1<=k/\k<=5):ac6 X (.builtin "isinstance") (λ F H Q=>∃ x,F=[x,.ty (am9 k)]/\rCl Γ (mR (m6 k)) [x] H Q):=by
 intro G s σ H F us Q I r h
 obtain⟨x,rfl,φ,st,l,d,B,R,hl,nl,hf,q⟩:=h
 obtain⟨a,rfl,hg⟩:=aZ0 hf
 clear hf
 obtain⟨u,w',rfl,r1,r2⟩:=bz6 r
 cases r2
 obtain⟨Z,e',hx⟩:=hl.one
 cases e'
 obtain⟨k0,k1,k2,k3,Y,k5⟩:=bp8 (K:=X.K) k hk
 unfold m6 at hg
 cases a with
 | non=>cases hg;have e:=hx.nonE;subst e;exact qB I r1 .non k0 λ tk=>⟨.bl _,H,I.tok _,rfl,q.here R rfl RV.blI⟩
 | bl b=>cases hg;have e:=hx.blE;subst e;exact qB I r1 (.bl b) k1 λ tk=>⟨.bl _,H,I.tok _,rfl,q.here R rfl RV.blI⟩
 | int b=>cases hg;have e:=hx.intE;subst e;exact qB I r1 (.int b) k2 λ tk=>⟨.bl _,H,I.tok _,rfl,q.here R rfl RV.blI⟩
 | str b=>cases hg;have e:=hx.strE;subst e;exact qB I r1 (.str _) k3 λ tk=>⟨.bl _,H,I.tok _,rfl,q.here R rfl RV.blI⟩
 | tup l =>
  cases hg
  obtain⟨p,ys,rfl,J,d1⟩:=hx.tupE
  cases r1
  rw[<-hK]at J
  exact aO6 I J Y λ tk=>⟨.bl _,H,I.tok _,rfl,q.here R rfl RV.blI⟩
 | ref n =>
  have e:=hx.refE;subst e
  have hg:(match st[n]? with|some (.lst _)=>.ok (.bl (k==5)) st|_=>.bad:k6 kX)=.ok d B:=hg
  cases hs:st[n]? with
  | none=>rw[hs]at hg;cases hg
  | some o =>
   rw[hs]at hg
   cases o with
   | lst l =>
    cases hg
    obtain⟨ys,e1,d1⟩:=R.addr hs
    exact qB I r1 (.lst e1) k5 λ tk=>⟨.bl _,H,I.tok _,rfl,q.here R rfl RV.blI⟩
   | _=>exact fb hg
 | _=>exact fb hg
variable {X:Cx}
theorem bu4 {bs:List Bool}{its:List Value}(r:Vals (bs.map V.bl) its){i:Nat}{v:Value}(h:its[i]?=some v):∃ z,bs[i]?=some z/\v=Value.bool z:=by
 induction bs generalizing its i with
 | nil=>rw[dm]at r;cases r;simp at h
 | cons b bs ih =>
  rw[aN]at r
  cases r with
  | cons r1 r2 =>
   cases i with
   | zero =>
    cases r1
    have:_=v:=ax h
    exact⟨b,rfl,this.symm⟩
   | succ i=>exact ih r2 h
theorem aZ4 {bs:List Bool}:(aU bs.length).all (λ i=>bs.getD i false)=bs.all id:=by
 rw[eX,aK,aK]
 constructor
 ·intro h b hb
  obtain⟨i,B,e⟩:=cF.mp hb
  have:=h i (b7.mpr B)
  rw[aW,aj B]at this
  rw[<-e];exact this
 ·intro h i B
  have B:=b7.mp B
  rw[aW,aj B]
  exact h _ (jC B)
theorem aW9 {K:ac}(hc:X.calm=true)(hK:X.K=K):ac6 X (.builtin "all") (λ J H Q=>∃(a:Addr) (bs:List Bool),J=[.ref a]/\SqL K H a (bs.map V.bl)/\Q (.bl (bs.all id)) H):=by
 subst hK
 intro Z s σ H J us Q I r h
 obtain⟨a,bs,rfl,hS,q⟩:=h
 obtain⟨u,rfl,ru⟩:=qR r
 cases ru
 obtain⟨its,Y,G,hz⟩:=I.list hS
 have hl:=Y.length
 rw[aw]at hl
 refine call_all_walk (da G.isList ?_)
 have F:a<s.heap.objs.size:=by obtain⟨o,_,e,_⟩:=G;exact aE e
 have W:=j3 (prog:=X.prog) (w:=X.w) (A:=X.A.in1) (I.ok.hd hc) s.heap.objs.size a (aD F) its.toArray
 refine⟨_,_,_,_,_,_,λ i=>bs.getD i false,rfl,W,⟨⟨_,aS _ rfl,rfl,rfl⟩,?_⟩,λ i v s' Q' E' B hQ=>?_,λ h' tk k=>?_⟩
 ·obtain⟨o,e,r⟩:=G.isList
  exact⟨o,ao _ e,r⟩
 ·obtain⟨z,e1,e2⟩:=bu4 Y (i:=i) (v:=v) (by have B:its.toArray[i]?=some v:=B;rw[cB]at B;exact B)
  subst e2
  refine bR ?_
  have:bs.getD i false=z:=by rw[aW,e1];rfl
  rw[<-this];exact hQ
 ·have es:its.toArray.size=bs.length:=by rw[au];omega
  rw[es,aZ4]
  refine⟨.bl (bs.all id),H,I.kept (h':=h') (t':=tk) λ b o q=>k b o ?_ (ao _ q),rfl,q⟩
  intro z
  have z':b=s.heap.objs.size:=by simpa using z
  exact absurd (aE q) (by rw[z'];exact bu _)
noncomputable def sgV (x:List Nat):List V:=x.map λ c=>.str ⟨#[c]⟩
theorem bA2 {vs:List V}{B:List Value}(hl:vs.length=B.length)(h:∀(i:Nat) (x:V) (u:Value),vs[i]?=some x->B[i]?=some u->RelV x u):Vals vs B:=by
 induction vs generalizing B with
 | nil=>cases B with
  | nil=>exact .nil
  | cons _ _=>cases hl
 | cons v vs ih=>cases B with
  | nil=>cases hl
  | cons a B=>exact .cons (h 0 v a rfl rfl) (ih (by simpa using hl) λ i x u e1 e2=>h (i+1) x u e1 e2)
theorem ao8 {x:List Nat}{B:Array Value}(h:ItemsOf (SignAt ⟨x.toArray⟩) B x.length):Vals (sgV x) B.toList:=by
 have hl:(sgV x).length=B.toList.length:=by unfold sgV;rw[aw];simpa using h.1.symm
 refine bA2 hl λ i v u e1 e2=>?_
 obtain⟨c,t,F,G⟩:=h.2 i u (by rw[<-Array.getElem?_toList];exact e2)
 unfold sgV at e1
 rw[aF]at e1
 have F:x[i]?=some c:=by simpa using F
 rw[F]at e1
 cases e1
 exact⟨t,G⟩
theorem aF4 (hc:X.calm=true):ac6 X (.type "tuple") (λ J H Q=>∃ x:List Nat,J=[.str ⟨x.toArray⟩]/\x.length<=lf/\∀ l,H l=none->Q (.ref l) (upd H l (.tup (sgV x)))):=by
 intro B s σ H J us Q I r h
 obtain⟨x,rfl,hl,q⟩:=h
 obtain⟨u,rfl,rx⟩:=qR r
 obtain⟨t,rfl⟩:=rx
 have hz:(sgV x).length<=aI:=by unfold sgV;rw[aw];exact am hl zK
 refine call_tuple_str (I.ok.hd hc) _ t (λ h' tk F kp G=>?_) (by show x.toArray.size<=_;rw[au];exact am hl zK)
 have G:ItemsOf (SignAt ⟨x.toArray⟩) F x.length:=by simpa using G
 have Z:=ao8 G
 have Y:Inv X B σ H { s with heap:=h',toks:=tk }:=I.kept (t':=tk) kp
 have I2:Inv X B σ (upd H h'.objs.size (.tup (sgV x))) { s with heap:=h'.push { cls:=.type "tuple",data:=.seq F },toks:=tk } :=
  Y.laid (t':=tk) (λ b o e=>ao _ e) (ak _) (show ab7 X.prog X.w _ _ _ (.tup (sgV x))from⟨hz,F.toList,Z,jv _ _⟩)
 exact⟨.ref h'.objs.size,_,I2,rfl,q _ (Y.hok.fresh (ak _))⟩
theorem aN8 (hc:X.calm=true):ac6 X (.type "list") (λ G H Q=>∃ x:List Nat,G=[.str ⟨x.toArray⟩]/\x.length<=lf/\∀ l,H l=none->Q (.ref l) (upd H l (.lst (sgV x)))):=by
 intro J s σ H G us Q I r h
 obtain⟨x,rfl,hl,q⟩:=h
 obtain⟨u,rfl,rx⟩:=qR r
 obtain⟨t,rfl⟩:=rx
 have hz:(sgV x).length<=aI:=by unfold sgV;rw[aw];exact am hl zK
 refine call_list_str (I.ok.hd hc) _ t (λ h' tk B Y kp e F=>?_) (by show x.toArray.size<=_;rw[au];exact am hl zK)
 have F:ItemsOf (SignAt ⟨x.toArray⟩) B x.length:=by simpa using F
 have Z:=ao8 F
 exact⟨.ref s.heap.objs.size,_,I.laid (t':=tk) kp (ak _) (show ab7 X.prog X.w _ h' _ (.lst (sgV x))from⟨hz,B.toList,Y,Z,e⟩),rfl,q _ (I.hok.fresh (ak _))⟩
section
variable {Γ:Gm} {φ φ':Nat->Addr} {H H' H1 H2 H3:Hp} {clos:List (Str×Addr)} {s s':kW}
theorem zN (hc:Cells clos H){a:Addr}{u:HO}(e:H a=some u)(hu:∀ o,u≠.frz o (.own a)):isC clos a≠true:=λ z=>by
 obtain⟨o,v,q,_⟩:=hc.at z
 rw[e]at q;cases q;exact hu o rfl
theorem SqT.dropC {K:ac}{a:Addr}{B:List V}(hc:Cells clos H)(h:SqT K H a B):SqT K (ac3 clos H) a B:=by
 rcases h with(h|⟨o,h⟩)|h
 ·exact .inl (.inl (by rw[ac3.ne (zN hc h (λ _ z=>by cases z))];exact h))
 ·exact .inl (.inr ⟨o,by rw[ac3.ne (zN hc h (λ _ z=>by cases z))];exact h⟩)
 ·exact .inr h
theorem SqL.dropC {K:ac}{a:Addr}{B:List V}(hc:Cells clos H)(h:SqL K H a B):SqL K (ac3 clos H) a B:=by
 rcases h with(h|⟨o,h⟩)|h
 ·exact .inl (.inl (by rw[ac3.ne (zN hc h (λ _ z=>by cases z))];exact h))
 ·exact .inl (.inr ⟨o,by rw[ac3.ne (zN hc h (λ _ z=>by cases z))];exact h⟩)
 ·exact .inr h
theorem SqF.dropC {K:ac}{a:Addr}{F:List V}(hc:Cells clos H)(h:SqF K H a F):SqF K (ac3 clos H) a F:=by
 refine⟨SqL.dropC hc h.1,λ B k=>?_⟩
 have hk:Kp H (λ b=>if isC clos b=true then H b else B b):=λ b o e f=>by
  by_cases z:isC clos b=true
  ·show(if isC clos b=true then H b else B b)=_;rw[if_pos z];exact e
  ·show(if isC clos b=true then H b else B b)=_
   rw[if_neg z]
   exact k b o (by rw[ac3.ne z];exact e) f
 have q:=h.2 _ hk
 have at_:∀ u,(if isC clos a=true then H a else B a)=some u->(∀ o,u≠.frz o (.own a))->B a=some u:=λ u e hu=>by
  by_cases z:isC clos a=true
  ·rw[if_pos z]at e
   exact absurd z (zN hc e hu)
  ·rw[if_neg z]at e;exact e
 rcases q with(q|⟨o,q⟩)|q
 ·exact .inl (.inl (at_ _ q (λ _ z=>by cases z)))
 ·exact .inl (.inr ⟨o,at_ _ q (λ _ z=>by cases z)⟩)
 ·exact .inr q
mutual
theorem RV.dropC (hc:Cells clos H):∀(d:kX) (v:V),d.ncl=true->RV Γ φ H d v->RV Γ φ (ac3 clos H) d v
 | .non,_,_,h=>by unfold RV at h ⊢;exact h
 | .bl _,_,_,h=>by unfold RV at h ⊢;exact h
 | .int _,_,_,h=>by unfold RV at h ⊢;exact h
 | .str _,_,_,h=>by unfold RV at h ⊢;exact h
 | .tup l,_,n,h=>by
  unfold RV at h ⊢
  unfold m7 at n
  obtain⟨a,B,e,q,r⟩:=h
  exact⟨a,B,e,⟨SqT.dropC hc q.1,λ z=>by rw[ac3.ne (zN hc (q.2 z) (λ _ z=>by cases z))];exact q.2 z⟩,RVL.dropC hc l B n r⟩
 | .ref k,_,_,h=>by unfold RV at h ⊢;exact h
 | .fn _,_,_,h=>by unfold RV at h ⊢;exact h
 | .clo id cs,_,n,h=>by unfold m7 at n;cases n
theorem RVL.dropC (hc:Cells clos H):∀(l:List kX) (B:List V),lU l=true->RVL Γ φ H l B->RVL Γ φ (ac3 clos H) l B
 | [],_,_,h=>by unfold RVL at h ⊢;exact h
 | d::l,_,n,h=>by
  unfold lU at n
  rw[ah]at n
  obtain⟨x,r,e,G,F⟩:=h.uncons
  subst e
  exact .cons (RV.dropC hc d x n.1 G) (RVL.dropC hc l r n.2 F)
end
theorem RVD.dropC {κ:Type}{F:kX->Option κ}(hc:Cells clos H):∀(l:List (kX×kX)) (B:List (κ×V)),lU (l.map (·.2))=true->RVD F Γ φ H l B->RVD F Γ φ (ac3 clos H) l B
 | [],_,_,h=>h
 | (d,e)::l,_,n,h=>by
  obtain⟨k,v,r,e1,e2,e3,G⟩:=h
  rw[aN]at n
  unfold lU at n
  rw[ah]at n
  exact⟨k,v,r,e1,e2,RV.dropC hc e v n.1 e3,RVD.dropC hc l r n.2 G⟩
theorem RO.dropC {a:Addr}{o:lD}(hc:Cells clos H)(h:RO Γ φ H a o)(n:o.ncl=true):RO Γ φ (ac3 clos H) a o:=by
 cases o with
 | lst l =>
  obtain⟨B,e,r⟩:=h
  exact⟨B,by rw[ac3.ne (zN hc e (λ _ z=>by cases z))];exact e,RVL.dropC hc l B n r⟩
 | ro l =>
  obtain⟨B,e,r⟩:=h
  exact⟨B,SqF.dropC hc e,RVL.dropC hc l B n r⟩
 | dic l =>
  obtain⟨B,e,r⟩:=h
  exact⟨B,by rw[ac3.ne (zN hc e (λ _ z=>by cases z))];exact e,RVD.dropC hc l B n r⟩
 | dit l =>
  obtain⟨B,e,r⟩:=h
  exact⟨B,by rw[ac3.ne (zN hc e (λ _ z=>by cases z))];exact e,RVD.dropC hc l B n r⟩
 | ins _ _=>exact h.elim
theorem TabsH.dropC {T:List (Addr×Str)}(hc:Cells clos H)(h:TabsH T H):TabsH T (ac3 clos H):=λ y hy=>by
 obtain⟨ps,e,t,c⟩:=h y hy
 refine⟨ps,by rw[ac3.ne (zN hc e (λ _ z=>by cases z))];exact e,t,λ pos B q=>?_⟩
 obtain⟨F,e1,e2⟩:=c pos B q
 exact⟨F,e1,by rw[ac3.ne (zN hc e2 (λ _ z=>by unfold aw1 at z;cases z))];exact e2⟩
theorem Rp.dropC (hc:Cells clos H)(r:Rp Γ φ H s)(n:s.all DV.O.ncl=true):Rp Γ φ (ac3 clos H) s :=
 ⟨r.inj,λ i o e=>RO.dropC hc (r.obj i o e) (aK.mp n o (a7 e)),r.wf,TabsH.dropC hc r.tab⟩
theorem aY1 (h:∀ b,isC clos b=true->H' b=none):ae3 H' (Put clos H H'):=λ b o e=>by
 rw[Put.ne (λ z=>by rw[h b z]at e;cases e)];exact e
theorem Gr.put (hc:Cells clos H)(B:∀ b,isC clos b=true->H' b=none)(hK:∀ b o,Γ.K.lookup b=some o->H b=none)(Y:Rp Γ φ' H' s')(g:Gr φ s (ac3 clos H) φ' s' H'):Gr φ s H φ' s' (Put clos H H'):=by
 refine⟨⟨g.w.map,λ b o e f=>?_⟩,g.le,λ i h1 G=>?_,g.kd,λ b e=>?_,λ b o e J no=>?_⟩
 ·by_cases z:isC clos b=true
  ·rw[Put.cell z];exact e
  ·rw[Put.ne z];exact g.w.kp b o (by rw[ac3.ne z];exact e) f
 ·have hd:=g.new i h1 G
  by_cases z:isC clos (φ' i)=true
  ·have hg:=B _ z
   obtain⟨o,Z⟩:∃ o,s'[i]?=some o:=⟨s'[i],aj G⟩
   have h:=Y.obj i o Z
   cases o with
   | lst l=>obtain⟨F,e,_⟩:=h;rw[hg]at e;cases e
   | ro l =>
    obtain⟨F,e,_⟩:=h
    rcases e.1 with(e|⟨_,e⟩)|⟨ob,its,n,e,_⟩
    ·rw[hg]at e;cases e
    ·rw[hg]at e;cases e
    ·exact hK _ _ e
   | dic l=>obtain⟨F,e,_⟩:=h;rw[hg]at e;cases e
   | dit l=>obtain⟨F,e,_⟩:=h;rw[hg]at e;cases e
   | ins _ _=>exact h.elim
  ·rw[ac3.ne z]at hd;exact hd
 ·by_cases z:isC clos b=true
  ·rw[Put.cell z];exact e
  ·rw[Put.ne z];exact g.st b (by rw[ac3.ne z];exact e)
 ·by_cases z:isC clos b=true
  ·rw[Put.cell z];exact e
  ·rw[Put.ne z];exact g.fr b o (by rw[ac3.ne z];exact e) J no
theorem bs7 {P:aA}{w:World}{K:ac}{mg:Str->Option Value}{base:Heap}{k:Nat}{f:Addr}{N ps fr:List Str}{name qual:Str}{params:bX}{body:List Stmt}{scope:Scope}{h:List (Str×Addr)}{cap:List V}{sp:Sp}
  (S:LamScope N ps fr scope) (len:∀ vs H Q E,sp vs H Q E->vs.length=ps.length) (a5:cap.length=fr.length)
  (a0:∀(Y pm:Value) (c':Addr) (G:Value) (us:List Value),us.length=ps.length->dW (fJ name qual params body scope h .none .none Y pm none (.ref c') G) ⟨us,[]⟩=pure (ps.zip us))
  (Z:∀(A:aO) (B:List Env) (s:ae) (H:Hp) (cd:Value) (vs:List V) (Q:VK),Room k (A.deeper (cQ qual scope s.heap.objs.size f cd (aL (s.heap.objs.size+1) scope.names h)))->am6 H f name qual params body scope fr cap h->(∀ b o,K.lookup b=some o->H b=none)->sp vs H Q E0 ->
   ∃ t,PSs (aF8 P w K mg base N qual scope f cd h A B s H) body t/\t { nx:=λ _ H'=>(∀ b,isC h b=true->H' b=none)->Q .non (Put h H H'),rt:=λ v H'=>(∀ b,isC h b=true->H' b=none)->Q v (Put h H H') } (vs.map some++cap.map some) (ac3 h H)) :
  ClOk P w K mg base (k+1) (λ H=>am6 H f name qual params body scope fr cap h) f sp:=by
 refine⟨λ A B s H us vs Q hr F hR r a1=>?_⟩
 have hl:=len _ _ _ _ a1
 obtain⟨Y,pm,c',G,h1,h2,h3,h4,h5,h6⟩:=id hR
 have a3:s.heap.NoLimit:=F.mod.nolimit.keeps λ b o e=>(F.bs b o e).1
 refine gT hr.depth (at9 F.hok h1) rfl S.co S.gen rfl (aA1 F.hok h2) ?_
 rw[a0 Y pm c' G us (by rw[<-r.length];exact hl)]
 refine av (ao0 S.kind (λ y hy=>?_) λ env he s1 x=>?_)
 ·rcases S.par y.1 (dF (show(y.1,y.2)∈ps.zip us from hy)).1 with q|q
  ·exact .inl q
  ·exact .inr ⟨q,zS q⟩
 ·subst he
  refine⟨a3.keeps x.toInCall.keep,codeAny_func ?_⟩
  obtain⟨t,ht,hq⟩:=Z A B s H (.ref c') vs Q (hr.deeper _) hR (λ b o e=>(F.bs b o (F.mod.kin b o e)).2) a1
  have I:=aW2 S hr.hd F hl a5 r h3 h4 h5 h6 x
  refine bf (ht [] s1 _ _ _ I hq) (λ fl s' hs=>?_) λ e s' hs=>hs.elim
  have fin:∀ {σ':St} {H':Hp} {v:V} {u:Value},Inv (aF8 P w K mg base N qual scope f (.ref c') h A B s H) [] σ' H' s'->RelV v u->((∀ b,isC h b=true->H' b=none)->Q v (Put h H H'))->CE B P w H s Q u s':=λ {σ' H' v u} J rv q=>by
   obtain⟨un,a4⟩:=aX8 F.hok h3 F.frf J.base J.hok
   have a2:∀ b,isC h b=true->H' b=none:=λ b y=>by
    obtain⟨o,v,z,_⟩:=h3.at y
    exact(show Un (frs B) [] (ac3 h H) H' s.heap s'.heap from J.base).free b o (F.hok b _ z).1 (ac3.cell y) (by simp)
   exact⟨v,_,J.os,J.bare,un,a4,rv,q a2⟩
  cases fl with
  | ret u =>
   obtain⟨v,σ',H',J,rv,q⟩:=hs
   exact fin J rv q
  | next =>
   obtain⟨σ',H',J,q⟩:=hs
   exact fin (v:=V.non) (u:=Value.none) J rfl q
  | brk =>
   obtain⟨_,_,_,q⟩:=hs
   exact bn q
  | cont =>
   obtain⟨_,_,_,q⟩:=hs
   exact bn q
theorem br0 {P:aA}{w:World}{K:ac}{mg:Str->Option Value}{base:Heap}{k:Nat}{f:Addr}{N ps fr:List Str}{qual:Str}{params:bX}{body:Expr}{scope:Scope}{h:List (Str×Addr)}{cap:List V}{sp:Sp}
  (S:LamScope N ps fr scope) (len:∀ vs H Q E,sp vs H Q E->vs.length=ps.length) (a4:cap.length=fr.length)
  (Z:∀(pm:Value) (c':Addr) (G:Value) (us:List Value),us.length=ps.length->dW (dk "<lambda>" qual params body scope h pm (.ref c') G) ⟨us,[]⟩=pure (ps.zip us))
  (Y:∀(A:aO) (B:List Env) (s:ae) (H:Hp) (cd:Value) (vs:List V) (Q:VK),Room k (A.deeper (cQ qual scope s.heap.objs.size f cd (aL (s.heap.objs.size+1) scope.names h)))->aE1 H f qual params body scope fr cap h->(∀ b o,K.lookup b=some o->H b=none)->sp vs H Q E0 ->
   ∃ t,PE (aF8 P w K mg base N qual scope f cd h A B s H) body t/\t (vs.map some++cap.map some) (ac3 h H) λ v H'=>(∀ b,isC h b=true->H' b=none)->Q v (Put h H H')) :
  ClOk P w K mg base (k+1) (λ H=>aE1 H f qual params body scope fr cap h) f sp:=by
 refine⟨λ A B s H us vs Q hr F hR r a0=>?_⟩
 have hl:=len _ _ _ _ a0
 obtain⟨pm,c',G,h1,h2,h3,h4,h5,h6⟩:=id hR
 have a2:s.heap.NoLimit:=F.mod.nolimit.keeps λ b o e=>(F.bs b o e).1
 refine PySem.W.kla_callFunE hr.depth (at9 F.hok h1) rfl S.co S.gen rfl (aA1 F.hok h2) ?_
 rw[Z pm c' G us (by rw[<-r.length];exact hl)]
 refine av (ao0 S.kind (λ y hy=>?_) λ env he s1 x=>?_)
 ·rcases S.par y.1 (dF (show(y.1,y.2)∈ps.zip us from hy)).1 with q|q
  ·exact .inl q
  ·exact .inr ⟨q,zS q⟩
 ·subst he
  refine⟨a2.keeps x.toInCall.keep,PySem.W.kla_codeExpr ?_⟩
  obtain⟨t,ht,hq⟩:=Y A B s H (.ref c') vs Q (hr.deeper _) hR (λ b o e=>(F.bs b o (F.mod.kin b o e)).2) a0
  have I:=aW2 S hr.hd F hl a4 r h3 h4 h5 h6 x
  refine bf (ht [] s1 _ _ _ I hq) (λ u s' hs=>?_) λ e s' hs=>hs.elim
  obtain⟨v,H',J,rv,q⟩:=hs
  obtain⟨un,a3⟩:=aX8 F.hok h3 F.frf J.base J.hok
  have a1:∀ b,isC h b=true->H' b=none:=λ b y=>by
   obtain⟨o,v,z,_⟩:=h3.at y
   exact(show Un (frs B) [] (ac3 h H) H' s.heap s'.heap from J.base).free b o (F.hok b _ z).1 (ac3.cell y) (by simp)
  exact⟨v,_,J.os,J.bare,un,a3,rv,q a1⟩
theorem Cells.kp {H H':Hp}(h:Cells clos H)(k:Kp H H'):Cells clos H':=λ x c e=>by
 obtain⟨o,v,q,d⟩:=h x c e
 exact⟨o,v,k _ _ q rfl,d⟩
noncomputable def PVp (Γ : Gm) (cells : List (Str × Addr)) (N : List Str) (σ : St) (φ : Nat -> Addr) (H : Hp) (d : DV.D) (v : V) : Prop := RV Γ φ H d v \/ ∃ id cs, d = .clo id cs /\ ∃ f J, v = .ref f /\ Γ.lg id J /\ az5 H f J (an1 cells J.scope.names []) /\
      cs.length = J.fr.length /\ (∀ x, J.scope.names.lookup x = some .free -> ∃ c, cells.lookup x = some c) /\
      ∃ cap, RVL Γ φ H cs cap /\ ∀(i : Nat) (x : Str) (v : V), J.fr[i]? = some x -> cap[i]? = some v -> J.scope.names.lookup x = some .free /\ ∃ j : Nat, N[j]? = some x /\ σ[j]? = some (some v)
inductive PVL (Γ:Gm)(cells:List (Str×Addr))(N:List Str)(σ:St)(φ:Nat->Addr)(H:Hp):List kX->List V->Prop where
 | nil:PVL Γ cells N σ φ H [] []
 | cons {d v l vs} (a:PVp Γ cells N σ φ H d v) (b:PVL Γ cells N σ φ H l vs):PVL Γ cells N σ φ H (d::l) (v::vs)
theorem PVp.mono {cells:List (Str×Addr)}{N:List Str}{σ:St}{φ φ':Nat->Addr}{s s':kW}{H H':Hp}(g:Gr φ s H φ' s' H'){d:kX}{v:V}(b:d.bnd s.length=true)(h:PVp Γ cells N σ φ H d v):PVp Γ cells N σ φ' H' d v:=by
 rcases h with h|⟨id,cs,rfl,h⟩
 ·exact .inl (RV.mono g _ _ b h)
 ·obtain⟨f,J,e,Y,F,G,B,cap,Z,h7⟩:=h
  unfold k8 at b
  exact .inr ⟨id,cs,rfl,f,J,e,Y,F.kp g.w.kp,G,B,cap,RVL.mono g cs cap b Z,h7⟩
end
variable {Γ:Gm} {X:Cx}
def TEv (Γ:Gm)(m:kZ->kW->k6 kX):TE:=λ σ H Q=>∃ φ ρ s d s',RE Γ φ H s.length ρ σ/\Rp Γ φ H s/\m ρ s=.ok d s'/\ad5 Γ φ s H d s' Q
def bE9 (Γ:Gm)(φ:Nat->Addr)(s:kW)(H:Hp)(l:List kX)(s':kW)(Q:List V->Hp->Prop):Prop :=
 ∀ vs φ' H',Gr φ s H φ' s' H'->s.length<=s'.length->kY s'.length l=true->RVL Γ φ' H' l vs->Rp Γ φ' H' s'->Q vs H'
def TAv (Γ:Gm)(m:kZ->kW->k6 (List kX)):TA:=λ σ H Q=>∃ φ ρ s l s',RE Γ φ H s.length ρ σ/\Rp Γ φ H s/\m ρ s=.ok l s'/\bE9 Γ φ s H l s' Q
def aI5 (Γ:Gm)(φ:Nat->Addr)(s:kW)(H:Hp)(b:Bool)(s':kW)(Q:Bool->Hp->Prop):Prop :=
 ∀ φ' H',Gr φ s H φ' s' H'->s.length<=s'.length->Rp Γ φ' H' s'->Q b H'
def TTv (Γ:Gm)(m:kZ->kW->k6 kX):TT:=λ σ H Q=>∃ φ ρ s b s',RE Γ φ H s.length ρ σ/\Rp Γ φ H s/\m ρ s=.ok (.bl b) s'/\aI5 Γ φ s H b s' Q
theorem PE.imp {e:Expr}{t t':TE}(h:PE X e t)(i:∀ σ H Q,t' σ H Q->t σ H Q):PE X e t':=λ B s σ H Q I q=>h B s σ H Q I (i σ H Q q)
theorem PT.imp {e:Expr}{t t':TT}(h:PT X e t)(i:∀ σ H Q,t' σ H Q->t σ H Q):PT X e t':=λ B s σ H Q I q=>h B s σ H Q I (i σ H Q q)
theorem PA.imp {e:List Expr}{t t':TA}(h:PA X e t)(i:∀ σ H Q,t' σ H Q->t σ H Q):PA X e t':=λ pos B s σ H Q I q=>h pos B s σ H Q I (i σ H Q q)
theorem aI5.trans {φ φ1:Nat->Addr}{s s1 s':kW}{H B:Hp}{b:Bool}{Q:Bool->Hp->Prop}(h:aI5 Γ φ s H b s' Q)(g:Gr φ s H φ1 s1 B)(l:s.length<=s1.length):aI5 Γ φ1 s1 B b s' Q :=
 λ φ' H' g' F p=>h φ' H' (g.trans g' l) (am l F) p
theorem bE5 (i:Nat){σ:St}{H:Hp}{Q:VK}(h:TEv Γ (λ ρ s=>mU ρ i s) σ H Q):cd8 i σ H Q:=by
 obtain⟨φ,ρ,s,d,s',E,R,B,q⟩:=h
 simp only[mU]at B
 split at B
 ·rename_i d' e
  cases B
  obtain⟨b,v,e1,e2⟩:=E.val i _ e
  exact⟨v,e1,q.here R b e2⟩
 ·exact fb B
theorem au8 {c:kX}{v:V}(hb:∀ n,c.bnd n=true)(hv:∀ φ H,RV Γ φ H c v){σ:St}{H:Hp}{Q:VK}(h:TEv Γ (λ ρ s=>.ok c s) σ H Q):tC v σ H Q:=by
 obtain⟨φ,ρ,s,d,s',E,R,B,q⟩:=h
 cases B
 exact q.here R (hb _) (hv _ _)
theorem bj1 {G J:kZ->kW->k6 kX}{f:kX->kX->kW->k6 kX}{σ:St}{H:Hp}{Q:VK}(h:TEv Γ (λ ρ s=>(G ρ s).bind λ x s=>(J ρ s).bind λ y s=>f x y s) σ H Q):tOp (rOp Γ f) (TEv Γ G) (TEv Γ J) σ H Q:=by
 obtain⟨φ,ρ,s,d,s',E,R,B,q⟩:=h
 obtain⟨x,s1,e1,B⟩:=aa1 B
 obtain⟨y,s2,e2,B⟩:=aa1 B
 refine⟨φ,ρ,s,x,s1,E,R,e1,λ v1 φ1 H1 g1 l1 Y r1 R1=>?_⟩
 refine⟨φ1,ρ,s1,y,s2,E.mono g1 l1,R1,e2,λ v2 φ2 H2 F Z b2 r2 R2=>?_⟩
 exact⟨φ2,s2,x,y,d,s',R2,RV.mono F x v1 Y r1,r2,zl Z x Y,b2,B,q.trans (g1.trans F l1) (am l1 Z)⟩
theorem cb1 {m:kZ->kW->k6 kX}{f:kX->kW->k6 kX}{r:V->Hp->VK->Prop}{σ:St}{H:Hp}{Q:VK}(h:TEv Γ (λ ρ s=>(m ρ s).bind λ x s=>f x s) σ H Q)
  (hr:∀ φ s x d s' v H',Rp Γ φ H' s->RV Γ φ H' x v->x.bnd s.length=true->f x s=.ok d s'->ad5 Γ φ s H' d s' Q->r v H' Q):tUn r (TEv Γ m) σ H Q:=by
 obtain⟨φ,ρ,s,d,s',E,R,B,q⟩:=h
 obtain⟨x,s1,e1,B⟩:=aa1 B
 exact⟨φ,ρ,s,x,s1,E,R,e1,λ F φ1 J g1 l1 G r1 R1=>hr φ1 s1 x d s' F J R1 r1 G B (q.trans g1 l1)⟩
theorem zH {α:Type}{r:k6 kX}{f:Bool->kW->k6 α}{a:α}{t:kW}(h:ln r f=.ok a t):∃ b s,r=.ok (.bl b) s/\f b s=.ok a t:=by
 unfold ln at h
 obtain⟨d,s,e,h⟩:=aa1 h
 cases d with
 | bl b=>exact⟨b,s,e,h⟩
 | _=>exact fb h
theorem aL4 {m:kZ->kW->k6 kX}{σ:St}{H:Hp}{Q:Bool->Hp->Prop}(h:TTv Γ m σ H Q):tB (TEv Γ m) σ H Q:=by
 obtain⟨φ,ρ,s,b,s',E,R,B,q⟩:=h
 refine⟨φ,ρ,s,.bl b,s',E,R,B,λ v φ' H' g l G r F=>?_⟩
 exact⟨b,r.blE,q φ' H' g l F⟩
theorem by4 {m:kZ->kW->k6 kX}{σ:St}{H:Hp}{Q:Bool->Hp->Prop}(h:TTv Γ m σ H Q):bN6 (TEv Γ m) σ H Q:=aL4 h
theorem bS9 {m:kZ->kW->k6 kX}{σ:St}{H:Hp}{Q:Bool->Hp->Prop}(h:TTv Γ (λ ρ s=>ln (m ρ s) λ b s=>.ok (.bl (!b)) s) σ H Q):cg2 (TTv Γ m) σ H Q:=by
 obtain⟨φ,ρ,s,b,s',E,R,B,q⟩:=h
 obtain⟨c,s1,e1,B⟩:=zH B
 cases B
 exact⟨φ,ρ,s,c,_,E,R,e1,q⟩
theorem bo0 {G F:kZ->kW->k6 kX}{σ:St}{H:Hp}{Q:Bool->Hp->Prop}(h:TTv Γ (λ ρ s=>ln (G ρ s) λ c s=>if c then ln (F ρ s) λ c s=>.ok (.bl c) s else .ok (.bl false) s) σ H Q):cd4 (TTv Γ G) (TTv Γ F) σ H Q:=by
 obtain⟨φ,ρ,s,b,s',E,R,B,q⟩:=h
 obtain⟨c,s1,e1,B⟩:=zH B
 refine⟨φ,ρ,s,c,s1,E,R,e1,λ φ1 J g1 l1 R1=>?_⟩
 cases c with
 | true =>
  rw[if_pos rfl]at B ⊢
  obtain⟨Y,s2,e2,B⟩:=zH B
  cases B
  exact⟨φ1,ρ,s1,_,_,E.mono g1 l1,R1,e2,q.trans g1 l1⟩
 | false =>
  rw[if_neg aQ]at B ⊢
  cases B
  exact q φ1 J g1 l1 R1
theorem bM3 {G F:kZ->kW->k6 kX}{σ:St}{H:Hp}{Q:Bool->Hp->Prop}(h:TTv Γ (λ ρ s=>ln (G ρ s) λ c s=>if c then .ok (.bl true) s else ln (F ρ s) λ c s=>.ok (.bl c) s) σ H Q):tOr (TTv Γ G) (TTv Γ F) σ H Q:=by
 obtain⟨φ,ρ,s,b,s',E,R,B,q⟩:=h
 obtain⟨c,s1,e1,B⟩:=zH B
 refine⟨φ,ρ,s,c,s1,E,R,e1,λ φ1 J g1 l1 R1=>?_⟩
 cases c with
 | true =>
  rw[if_pos rfl]at B ⊢
  cases B
  exact q φ1 J g1 l1 R1
 | false =>
  rw[if_neg aQ]at B ⊢
  obtain⟨Y,s2,e2,B⟩:=zH B
  cases B
  exact⟨φ1,ρ,s1,_,_,E.mono g1 l1,R1,e2,q.trans g1 l1⟩
theorem bI9 {m:kZ->kW->k6 kX}{σ:St}{H:Hp}{Q:VK}(h:TEv Γ (λ ρ s=>ln (m ρ s) λ b s=>.ok (.bl (!b)) s) σ H Q):bH6 (TEv Γ m) σ H Q:=by
 obtain⟨φ,ρ,s,d,s',E,R,B,q⟩:=h
 obtain⟨c,s1,e1,B⟩:=zH B
 cases B
 exact⟨φ,ρ,s,.bl c,_,E,R,e1,λ v φ1 F g l b r R1=>⟨c,r.blE,q _ φ1 F g l rfl RV.blI R1⟩⟩
theorem bo9 {G F:kZ->kW->k6 kX}{σ:St}{H:Hp}{Q:VK}(h:TEv Γ (λ ρ s=>ln (G ρ s) λ c s=>if c then ln (F ρ s) λ c s=>.ok (.bl c) s else .ok (.bl false) s) σ H Q):bQ7 (TEv Γ G) (TEv Γ F) σ H Q:=by
 obtain⟨φ,ρ,s,d,s',E,R,B,q⟩:=h
 obtain⟨c,s1,e1,B⟩:=zH B
 refine⟨φ,ρ,s,.bl c,s1,E,R,e1,λ v φ1 J g1 l1 Y r1 R1=>⟨c,r1.blE,?_⟩⟩
 cases c with
 | true =>
  rw[if_pos rfl]at B ⊢
  obtain⟨c,s2,e2,B⟩:=zH B
  cases B
  exact⟨φ1,ρ,s1,.bl c,_,E.mono g1 l1,R1,e2,q.trans g1 l1⟩
 | false =>
  rw[if_neg aQ]at B ⊢
  cases B
  exact q _ φ1 J g1 l1 rfl RV.blI R1
theorem bG6 {G F:kZ->kW->k6 kX}{σ:St}{H:Hp}{Q:VK}(h:TEv Γ (λ ρ s=>ln (G ρ s) λ c s=>if c then .ok (.bl true) s else ln (F ρ s) λ c s=>.ok (.bl c) s) σ H Q):cg0 (TEv Γ G) (TEv Γ F) σ H Q:=by
 obtain⟨φ,ρ,s,d,s',E,R,B,q⟩:=h
 obtain⟨c,s1,e1,B⟩:=zH B
 refine⟨φ,ρ,s,.bl c,s1,E,R,e1,λ v φ1 J g1 l1 Y r1 R1=>⟨c,r1.blE,?_⟩⟩
 cases c with
 | true =>
  rw[if_pos rfl]at B ⊢
  cases B
  exact q _ φ1 J g1 l1 rfl RV.blI R1
 | false =>
  rw[if_neg aQ]at B ⊢
  obtain⟨c,s2,e2,B⟩:=zH B
  cases B
  exact⟨φ1,ρ,s1,.bl c,_,E.mono g1 l1,R1,e2,q.trans g1 l1⟩
theorem bG7 {mc G F:kZ->kW->k6 kX}{σ:St}{H:Hp}{Q:VK}(h:TEv Γ (λ ρ s=>ln (mc ρ s) λ k s=>if k then G ρ s else F ρ s) σ H Q):tIf (TTv Γ mc) (TEv Γ G) (TEv Γ F) σ H Q:=by
 obtain⟨φ,ρ,s,d,s',E,R,B,q⟩:=h
 obtain⟨c,s1,e1,B⟩:=zH B
 refine⟨φ,ρ,s,c,s1,E,R,e1,λ φ1 J g1 l1 R1=>?_⟩
 cases c with
 | true =>
  rw[if_pos rfl]at B ⊢
  exact⟨φ1,ρ,s1,d,s',E.mono g1 l1,R1,B,q.trans g1 l1⟩
 | false =>
  rw[if_neg aQ]at B ⊢
  exact⟨φ1,ρ,s1,d,s',E.mono g1 l1,R1,B,q.trans g1 l1⟩
theorem aH2 {σ:St}{H:Hp}{Q:List V->Hp->Prop}(h:TAv Γ (λ ρ s=>.ok [] s) σ H Q):bc1 σ H Q:=by
 obtain⟨φ,ρ,s,d,s',E,R,B,q⟩:=h
 cases B
 exact q [] φ H (Gr.refl _ _ _) (ak _) rfl .nil R
theorem bw1 {m:kZ->kW->k6 kX}{J:kZ->kW->k6 (List kX)}{σ:St}{H:Hp}{Q:List V->Hp->Prop}(h:TAv Γ (λ ρ s=>(m ρ s).bind λ d s=>(J ρ s).bind λ l s=>.ok (d::l) s) σ H Q):av1 (TEv Γ m) (TAv Γ J) σ H Q:=by
 obtain⟨φ,ρ,s,l,s',E,R,B,q⟩:=h
 obtain⟨x,s1,e1,B⟩:=aa1 B
 obtain⟨y,s2,e2,B⟩:=aa1 B
 cases B
 refine⟨φ,ρ,s,x,s1,E,R,e1,λ G φ1 H1 g1 l1 Y r1 R1=>?_⟩
 refine⟨φ1,ρ,s1,y,_,E.mono g1 l1,R1,e2,λ v2 φ2 H2 F Z b2 r2 R2=>?_⟩
 refine q (G::v2) φ2 H2 (g1.trans F l1) (am l1 Z) ?_ (.cons (RV.mono F x G Y r1) r2) R2
 unfold kY
 rw[zl Z x Y,b2];rfl
theorem aF0 {F:kZ->kW->k6 (List kX)}{f:List kX->kW->k6 kX}{σ:St}{H:Hp}{Q:VK}(h:TEv Γ (λ ρ s=>(F ρ s).bind λ l s=>f l s) σ H Q):tCB (rCl Γ f) (TAv Γ F) σ H Q:=by
 obtain⟨φ,ρ,s,d,s',E,R,B,q⟩:=h
 obtain⟨l,s1,e1,B⟩:=aa1 B
 exact⟨φ,ρ,s,l,s1,E,R,e1,λ vs φ1 J g1 l1 G r1 R1=>⟨φ1,s1,l,d,s',R1,r1,G,B,q.trans g1 l1⟩⟩
theorem bY2 {m:kZ->kW->k6 kX}{ml Z:kZ->kW->k6 kX}{σ:St}{H:Hp}{Q:VK} :
  (TEv Γ (λ ρ s=>(m ρ s).bind λ x s=>(ml ρ s).bind λ y s=>match y with|.int i=>mw x (some i) none s|_=>.bad) σ H Q->tSl (rSl Γ) (TEv Γ m) (aZ7 (TEv Γ ml)) aC8 σ H Q) /\
  (TEv Γ (λ ρ s=>(m ρ s).bind λ x s=>(Z ρ s).bind λ y s=>match y with|.int i=>mw x none (some i) s|_=>.bad) σ H Q->tSl (rSl Γ) (TEv Γ m) aC8 (aZ7 (TEv Γ Z)) σ H Q) /\
  (TEv Γ (λ ρ s=>(m ρ s).bind λ x s=>(ml ρ s).bind λ y s=>match y with|.int i=>(Z ρ s).bind (λ z s=>match z with|.int j=>mw x (some i) (some j) s|_=>.bad)|_=>.bad) σ H Q->tSl (rSl Γ) (TEv Γ m) (aZ7 (TEv Γ ml)) (aZ7 (TEv Γ Z)) σ H Q):=by
 refine⟨λ h=>?_,λ h=>?_,λ h=>?_⟩
 ·obtain⟨φ,ρ,s,d,s',E,R,B,q⟩:=h
  obtain⟨x,s1,e1,B⟩:=aa1 B
  obtain⟨y,s2,e2,B⟩:=aa1 B
  refine⟨φ,ρ,s,x,s1,E,R,e1,λ Y φ1 H1 g1 l1 J r1 R1=>?_⟩
  refine⟨φ1,ρ,s1,y,s2,E.mono g1 l1,R1,e2,λ v2 φ2 H2 G F b2 r2 R2=>?_⟩
  cases y with
  | int i=>exact⟨i,r2.intE,φ2,s2,x,d,s',R2,RV.mono G x Y J r1,zl F x J,B,q.trans (g1.trans G l1) (am l1 F)⟩
  | _=>exact fb B
 ·obtain⟨φ,ρ,s,d,s',E,R,B,q⟩:=h
  obtain⟨x,s1,e1,B⟩:=aa1 B
  obtain⟨y,s2,e2,B⟩:=aa1 B
  refine⟨φ,ρ,s,x,s1,E,R,e1,λ Y φ1 H1 g1 l1 J r1 R1=>?_⟩
  refine⟨φ1,ρ,s1,y,s2,E.mono g1 l1,R1,e2,λ v2 φ2 H2 G F b2 r2 R2=>?_⟩
  cases y with
  | int i=>exact⟨i,r2.intE,φ2,s2,x,d,s',R2,RV.mono G x Y J r1,zl F x J,B,q.trans (g1.trans G l1) (am l1 F)⟩
  | _=>exact fb B
 ·obtain⟨φ,ρ,s,d,s',E,R,B,q⟩:=h
  obtain⟨x,s1,e1,B⟩:=aa1 B
  obtain⟨y,s2,e2,B⟩:=aa1 B
  refine⟨φ,ρ,s,x,s1,E,R,e1,λ Y φ1 H1 g1 l1 J r1 R1=>?_⟩
  refine⟨φ1,ρ,s1,y,s2,E.mono g1 l1,R1,e2,λ v2 φ2 H2 G F b2 r2 R2=>?_⟩
  cases y with
  | int i =>
   obtain⟨z,s3,e3,B⟩:=aa1 B
   refine⟨i,r2.intE,φ2,ρ,s2,z,s3,E.mono (g1.trans G l1) (am l1 F),R2,e3,λ v3 φ3 H3 g3 l3 b3 r3 R3=>?_⟩
   cases z with
   | int j=>exact⟨j,r3.intE,φ3,s3,x,d,s',R3,RV.mono (G.trans g3 F) x Y J r1,zl (am F l3) x J,B,q.trans ((g1.trans G l1).trans g3 (am l1 F)) (am (am l1 F) l3)⟩
   | _=>exact fb B
  | _=>exact fb B
variable {Γ:Gm} {X:Cx}
def ap6 (Γ:Gm)(J:It)(φ0:Nat->Addr)(H0:Hp)(s0:kW)(q:l6):Prop :=
 ∀ φ H s,Gr φ0 s0 H0 φ s H->s0.length<=s.length->Rp Γ φ H s->lG s0 s q.src=true->∀ i:Nat,
  (i<q.its.length->J.go i H/\∀ x H',J.yld i H x H'->ae3 H H'/\∀ d,q.its[i]?=some d->RV Γ φ H' d x)/\(q.its.length<=i->J.stop i H)
def TIv (Γ:Gm)(m:kZ->kW->k6 l6):TI:=λ σ H R=>∃ φ ρ s q s',RE Γ φ H s.length ρ σ/\Rp Γ φ H s/\m ρ s=.ok q s' /\
 ∀ J φ' H',Gr φ s H φ' s' H'->s.length<=s'.length->kY s'.length q.its=true->Rp Γ φ' H' s'->ap6 Γ J φ' H' s' q->R J H'
theorem PI.imp {tg e:Expr}{t t':TI}(h:PI X tg e t)(i:∀ σ H R,t' σ H R->t σ H R):PI X tg e t':=λ B s σ H R I q=>h B s σ H R I (i σ H R q)
theorem PI.or {tg e:Expr}{t t':TI}(h:PI X tg e t)(h':PI X tg e t'):PI X tg e (λ σ H R=>t σ H R\/t' σ H R):=λ B s σ H R I q=>q.elim (h B s σ H R I) (h' B s σ H R I)
theorem bg5 {φ0:Nat->Addr}{H0:Hp}{s0:kW}{a:Addr}{B:List V}{l:List kX}(h:SqT Γ.K H0 a B)(hl:RVL Γ φ0 H0 l B)(hb:kY s0.length l=true):ap6 Γ (Itt Γ.K a) φ0 H0 s0 ⟨l,[]⟩:=by
 intro φ H s g _ R _ i
 have h':=g.w.kp.sqT h
 have F:=RVL.mono g l B hb hl
 refine⟨λ hlt=>⟨⟨B,B[i]'(by rw[F.length];exact hlt),h',aj _⟩,λ x H' y=>?_⟩,λ G=>⟨B,h',by rw[F.length];exact G⟩⟩
 obtain⟨e,y⟩:=y
 subst e
 refine⟨ae3.refl _,λ d hd=>?_⟩
 obtain⟨v,e1,e2⟩:=F.get hd
 rw[y B h']at e1;cases e1
 exact e2
theorem bv6 {φ0:Nat->Addr}{H0:Hp}{s0:kW}{a:Addr}{B:List V}{l:List kX}(h:SqF Γ.K H0 a B)(hl:RVL Γ φ0 H0 l B)(hb:kY s0.length l=true):ap6 Γ (Itl Γ.K a) φ0 H0 s0 ⟨l,[]⟩:=by
 intro φ H s g _ R _ i
 have h':=h.2 _ g.w.kp
 have F:=RVL.mono g l B hb hl
 refine⟨λ hlt=>⟨⟨B,B[i]'(by rw[F.length];exact hlt),h',aj _⟩,λ x H' y=>?_⟩,λ G=>⟨B,h',by rw[F.length];exact G⟩⟩
 obtain⟨e,y⟩:=y
 subst e
 refine⟨ae3.refl _,λ d hd=>?_⟩
 obtain⟨v,e1,e2⟩:=F.get hd
 rw[y B h']at e1;cases e1
 exact e2
theorem bf4 {φ0:Nat->Addr}{H0:Hp}{s0:kW}{r:Nat}{l:List kX}(hr:s0[r]?=some (.lst l)):ap6 Γ (Itl Γ.K (φ0 r)) φ0 H0 s0 ⟨l,[r]⟩:=by
 intro φ H s g _ R G i
 have F:r<s0.length:=(ag.mp hr).1
 have hs:s[r]?=some (.lst l):=by
  unfold lG at G
  simp only[dz,List.all_nil,fW,decide_eq_true_eq]at G
  rw[G];exact hr
 obtain⟨B,e,h⟩:=R.addr hs
 rw[g.w.map r F]at e
 have h':SqL Γ.K H (φ0 r) B:=SqL.of e
 refine⟨λ hlt=>⟨⟨B,B[i]'(by rw[h.length];exact hlt),h',aj _⟩,λ x H' y=>?_⟩,λ J=>⟨B,h',by rw[h.length];exact J⟩⟩
 obtain⟨e,y⟩:=y
 subst e
 refine⟨ae3.refl _,λ d hd=>?_⟩
 obtain⟨v,e1,e2⟩:=h.get hd
 rw[y B h']at e1;cases e1
 exact e2
theorem bj0 {φ0:Nat->Addr}{H0:Hp}{s0:kW}{l:List Nat}:ap6 Γ (Its ⟨l.toArray⟩) φ0 H0 s0 ⟨l.map λ c=>.str [c],[]⟩:=by
 intro φ H s g _ R _ i
 have hsz:(⟨l.toArray⟩:Str).cps.size=l.length:=by simp
 refine⟨λ hlt=>?_,λ h=>?_⟩
 ·simp only[aw]at hlt
  refine⟨show i<(⟨l.toArray⟩:Str).cps.size by rw[hsz];exact hlt,λ x H' y=>?_⟩
  obtain⟨e,c,hc,rfl⟩:=y
  subst e
  refine⟨ae3.refl _,λ d hd=>?_⟩
  have B:l[i]?=some c:=by simpa using hc
  rw[aF,B]at hd
  cases hd
  exact RV.strI (by simp;decide)
 ·simp only[aw]at h
  show(⟨l.toArray⟩:Str).cps.size<=i
  rw[hsz];exact h
theorem bi8 {φ0:Nat->Addr}{H0:Hp}{s0:kW}{a b:Int}:ap6 Γ (Itr a (b - a).toNat) φ0 H0 s0 ⟨mH a b,[]⟩:=by
 intro φ H s g _ R _ i
 have hn:(mH a b).length=(b - a).toNat:=by simp[mH]
 refine⟨λ hlt=>⟨show i<(b - a).toNat by rw[<-hn];exact hlt,λ x H' y=>?_⟩,λ h=>show(b - a).toNat<=i by rw[<-hn];exact h⟩
 obtain⟨e,rfl⟩:=y
 subst e
 refine⟨ae3.refl _,λ d hd=>?_⟩
 simp only[mH]at hd hlt
 rw[aF,dv (by simpa using hlt)]at hd
 cases hd
 exact RV.intI
theorem bz3 {m:kZ->kW->k6 kX}{σ:St}{H:Hp}{R:It->Hp->Prop}(h:TIv Γ (λ ρ s=>(m ρ s).bind λ x s=>match x with|.int i=>if -m8<=i/\i<m8 then .ok ⟨mH 0 i,[]⟩ s else .bad|_=>.bad) σ H R) :
  bO6 (av1 (TEv Γ m) bc1) σ H R:=by
 obtain⟨φ,ρ,s,q,s',E,P,B,k⟩:=h
 obtain⟨x,s1,e1,B⟩:=aa1 B
 refine⟨φ,ρ,s,x,s1,E,P,e1,λ v φ1 G g l b r J=>?_⟩
 cases x with
 | int i =>
  simp only at B
  split at B
  ·rename_i F
   cases B
   have hw:m8=2^62:=by decide
   rw[hw]at F
   refine⟨i,by rw[r.intE],F.1,F.2,k _ φ1 G g l ?_ J ?_⟩
   ·refine aa7.mpr λ d hd=>?_
    simp only[mH,aP]at hd
    obtain⟨_,_,rfl⟩:=hd
    rfl
   ·have:=bi8 (Γ:=Γ) (φ0:=φ1) (H0:=G) (s0:=s') (a:=0) (b:=i)
    rwa [kF]at this
  ·exact fb B
 | _=>exact fb B
theorem bN7 {m:kZ->kW->k6 kX}{σ:St}{H:Hp}{R:It->Hp->Prop}(h:TIv Γ (λ ρ s=>(m ρ s).bind λ d s=>DV.aX0 d s) σ H R) :
  bW6 Γ.K (TEv Γ m) σ H R\/bw6 Γ.K (TEv Γ m) σ H R\/cd9 (TEv Γ m) σ H R:=by
 obtain⟨φ,ρ,s,q,s',E,P,B,k⟩:=h
 obtain⟨x,s1,e1,B⟩:=aa1 B
 unfold DV.aX0 at B
 cases x with
 | tup l =>
  cases B
  refine .inl ⟨φ,ρ,s,_,_,E,P,e1,λ v φ1 G g l b r F=>?_⟩
  obtain⟨a,J,rfl,h1,d1⟩:=r.tupE
  unfold k8 at b
  exact⟨a,rfl,⟨J,h1⟩,k _ φ1 G g l b F (bg5 h1 d1 b)⟩
 | str l =>
  cases B
  refine .inr (.inr ⟨φ,ρ,s,_,_,E,P,e1,λ v φ1 G g Y b r F=>?_⟩)
  refine⟨_,r.strE,k _ φ1 G g Y ?_ F bj0⟩
  refine aa7.mpr λ d hd=>?_
  simp only[aP]at hd
  obtain⟨_,_,rfl⟩:=hd
  rfl
 | ref r =>
  simp only at B
  cases hs:s1[r]? with
  | none=>rw[hs]at B;cases B
  | some o =>
   rw[hs]at B
   cases o with
   | lst l =>
    cases B
    refine .inr (.inl ⟨φ,ρ,s,_,_,E,P,e1,λ v φ1 G g Y b Z F=>?_⟩)
    have e:=Z.refE;subst e
    obtain⟨J,e2,d1⟩:=F.addr hs
    have wf:=F.wf _ _ hs
    unfold k9 at wf
    exact⟨φ1 r,rfl,⟨J,SqL.of e2⟩,k _ φ1 G g Y wf F (bf4 hs)⟩
   | ro l =>
    cases B
    refine .inr (.inl ⟨φ,ρ,s,_,_,E,P,e1,λ v φ1 G g Y b Z F=>?_⟩)
    have e:=Z.refE;subst e
    obtain⟨J,e2,d1⟩:=F.obj _ _ hs
    have wf:=F.wf _ _ hs
    unfold k9 at wf
    exact⟨φ1 r,rfl,⟨J,e2.1⟩,k _ φ1 G g Y wf F (bv6 e2 d1 wf)⟩
   | dic l=>exact fb B
   | dit l=>exact fb B
   | ins c l=>exact fb B
 | _=>exact fb B
variable {Γ:Gm} {X:Cx}
noncomputable def bV1:List Nat->TGs
 | []=>ce0
 | i::is=>bN5 (ax3 i) (bV1 is)
noncomputable def gOf (K:ac):lI->TG
 | .one i=>ax3 i
 | .tup is=>cb8 K is.length (bV1 is)
theorem aX7 {φ:Nat->Addr}{H:Hp}{n:Nat}{ρ ρ':kZ}{σ:St}{i:Nat}{d:kX}{v:V}(E:RE Γ φ H n ρ σ)(r:RV Γ φ H d v)(b:d.bnd n=true)(h:lJ ρ i d=some ρ'):RE Γ φ H n ρ' (σ.set i (some v)):=by
 unfold lJ at h
 split at h
 ·rename_i B
  cases h
  refine⟨by rw[bj,bj];exact E.len,λ j e hj=>?_⟩
  by_cases hij:j=i
  ·subst hij
   rw[aV B]at hj
   cases hj
   exact⟨b,v,by rw[aV (by rw[<-E.len];exact B)],r⟩
  ·rw[a9 (cq hij)]at hj
   obtain⟨G,w,F,h3⟩:=E.val j e hj
   exact⟨G,w,by rw[a9 (cq hij)];exact F,h3⟩
 ·cases h
theorem bE7 {φ:Nat->Addr}{H:Hp}{n:Nat}{Q:St->Hp->Prop}:∀(is:List Nat) (l:List kX) (B:List V) (ρ ρ':kZ) (σ:St),RE Γ φ H n ρ σ->RVL Γ φ H l B->kY n l=true->my ρ is l=some ρ'->(∀ σ',RE Γ φ H n ρ' σ'->Q σ' H)->bV1 is B σ H Q
 | [],[],B,ρ,ρ',σ,E,r,_,h,k=>by
  cases h
  exact⟨r.unnil,k σ E⟩
 | [],d::l,_,_,_,_,_,_,_,h,_=>by cases h
 | i::is,[],_,_,_,_,_,_,_,h,_=>by cases h
 | i::is,d::l,B,ρ,ρ',σ,E,r,b,h,k=>by
  have h:(lJ ρ i d).bind (λ ρ=>my ρ is l)=some ρ':=h
  obtain⟨x,F,rfl,J,G⟩:=r.uncons
  unfold kY at b
  rw[ah]at b
  cases e:lJ ρ i d with
  | none=>rw[e]at h;cases h
  | some ρ1 =>
   rw[e]at h
   exact⟨x,F,rfl,bE7 is l F ρ1 ρ' _ (aX7 E J b.1 e) G b.2 h k⟩
theorem aY3 {l:List kX}:∀ {is:List Nat} {ρ ρ':kZ},my ρ is l=some ρ'->is.length=l.length:=by
 induction l with
 | nil=>intro is ρ ρ' h;cases is with
  | nil=>rfl
  | cons i is=>cases h
 | cons d l ih=>intro is ρ ρ' h;cases is with
  | nil=>cases h
  | cons i is =>
   have h:(lJ ρ i d).bind (λ ρ=>my ρ is l)=some ρ':=h
   cases e:lJ ρ i d with
   | none=>rw[e]at h;cases h
   | some ρ1=>rw[e]at h;rw[aX,aX,ih h]
theorem be5 {φ:Nat->Addr}{H:Hp}{n:Nat}{Q:St->Hp->Prop}{tg:lI}{d:kX}{v:V}{ρ ρ':kZ}{σ:St}(E:RE Γ φ H n ρ σ)(r:RV Γ φ H d v)(b:d.bnd n=true)(h:ly ρ tg d=some ρ')(k:∀ σ',RE Γ φ H n ρ' σ'->Q σ' H):gOf Γ.K tg v σ H Q:=by
 cases tg with
 | one i=>exact k _ (aX7 E r b h)
 | tup is =>
  cases d with
  | tup l =>
   have h:my ρ is l=some ρ':=h
   obtain⟨a,B,rfl,F,d1⟩:=r.tupE
   unfold k8 at b
   exact⟨a,B,rfl,F,by rw[d1.length,aY3 h],bE7 is l B ρ ρ' σ E d1 b h k⟩
  | _=>cases h
def Off (φ:Nat->Addr)(s:kW)(b:Addr):Prop:=∀(i:Nat) (ob:lD),s[i]?=some ob->isMut ob=true->φ i≠b
theorem Off.mono {φ φ':Nat->Addr}{s s':kW}{H H':Hp}{b:Addr}{o:HO}(h:Off φ s b)(g:Gr φ s H φ' s' H')(hb:H b=some o):Off φ' s' b:=λ i ob e m z=>by
 by_cases F:i<s.length
 ·obtain⟨B,G⟩:∃ B,s[i]?=some B:=⟨s[i],aj F⟩
  exact h i B G (g.mu i B ob G e m) (by rw[<-g.w.map i F];exact z)
 ·have:=g.new i (by omega) (ag.mp e).1
  rw[z,hb]at this;cases this
theorem Off.new {φ:Nat->Addr}{s:kW}{H:Hp}{b:Addr}(r:Rp Γ φ H s)(h:H b=none):Off φ s b:=λ i ob e m z=>by
 obtain⟨u,hu,_⟩:=(r.obj i ob e).there m
 rw[z,h]at hu;cases hu
theorem Rp.foreign {φ:Nat->Addr}{s:kW}{H:Hp}{b:Addr}{ys h:List V}(r:Rp Γ φ H s)(hb:H b=some (.lst ys))(ho:Off φ s b):Rp Γ φ (upd H b (.lst h)) s:=by
 have g:Gw φ s.length H φ (upd H b (.lst h)):=⟨λ _ _=>rfl,(Kp.refl H).put hb rfl⟩
 exact⟨r.inj,λ i o e=>(r.obj i o e).mono g (r.wf i o e) λ m u hu=>by rw[zn (ho i o e m)];exact hu,r.wf,r.tab.put hb⟩
theorem Gr.foreign {φ φ':Nat->Addr}{s s':kW}{H H':Hp}{b:Addr}{ys F:List V}(g:Gr φ s H φ' s' H')(h0:H b=none)(hb:H' b=some (.lst ys)):Gr φ s H φ' s' (upd H' b (.lst F)):=by
 have ne:∀ c o,H c=some o->c≠b:=λ c o e=>zz e h0
 refine⟨⟨g.w.map,λ c o e f=>?_⟩,g.le,g.new,g.kd,λ c hc=>?_,λ c o e h B=>?_⟩
 ·rw[zn (ne c o e)];exact g.w.kp c o e f
 ·unfold upd;split
  ·simp
  ·exact g.st c hc
 ·rw[zn (ne c o e)];exact g.fr c o e h B
def bM6 (Γ:Gm)(φ:Nat->Addr)(s:kW)(H:Hp)(l:List kX)(s':kW)(Q:VK):Prop :=
 ∀ p ys φ' H',Gr φ s H φ' s' H'->s.length<=s'.length->kY s'.length l=true->H' p=some (.lst ys)->H p=none->Off φ' s' p->RVL Γ φ' H' l ys->Rp Γ φ' H' s'->Q (.ref p) H'
def TFv (Γ:Gm)(m:kZ->kW->k6 (List kX)):TE:=λ σ H Q=>∃ φ ρ s l s',RE Γ φ H s.length ρ σ/\Rp Γ φ H s/\m ρ s=.ok l s'/\bM6 Γ φ s H l s' Q
theorem aT1 {m:kZ->kW->k6 (List kX)}{σ:St}{H:Hp}{Q:VK}(h:TEv Γ (λ ρ s=>(m ρ s).bind λ l s=>lM (.lst l) s) σ H Q):TFv Γ m σ H Q:=by
 obtain⟨φ,ρ,s,d,s',E,R,hm,q⟩:=h
 obtain⟨l,s1,e1,hm⟩:=aa1 hm
 obtain⟨rfl,rfl⟩:=zW hm
 refine⟨φ,ρ,s,l,s1,E,R,e1,λ p ys φ' H' g hl hb hp h0 ho r J=>?_⟩
 have gw:Gw φ' s1.length H' (λ i=>if i=s1.length then p else φ' i) H':=⟨λ i B=>if_neg (aD B),Kp.refl _⟩
 have key:∀(i:Nat) (F:lD),(s1++[DV.O.lst l])[i]?=some F->(i<s1.length/\s1[i]?=some F)\/(i=s1.length/\F=.lst l):=λ i F e=>by
  rcases fL i s1.length with h|h|h
  ·rw[aM h]at e;exact .inl ⟨h,e⟩
  ·subst h;simp at e;exact .inr ⟨rfl,e.symm⟩
  ·rw[bG (by simp;omega)]at e;cases e
 have G:Gr φ s H (λ i=>if i=s1.length then p else φ' i) (s1++[.lst l]) H':=by
  refine⟨⟨λ i B=>by show(if i=s1.length then p else φ' i)=_;rw[if_neg (by omega)];exact g.w.map i B,g.w.kp⟩,by simp;omega,λ i h1 h2=>?_,λ i o F e e'=>?_,g.st,g.fr⟩
  ·by_cases B:i=s1.length
   ·show H (if i=s1.length then p else φ' i)=none
    rw[if_pos B];exact h0
   ·show H (if i=s1.length then p else φ' i)=none
    rw[if_neg B];exact g.new i h1 (by simp at h2;omega)
  ·rcases key i F e' with⟨_,e2⟩|⟨B,_⟩
   ·exact g.kd i o F e e2
   ·have:=(ag.mp e).1;omega
 have P:Rp Γ (λ i=>if i=s1.length then p else φ' i) H' (s1++[.lst l]):=by
  refine⟨λ i j oi Z Y ej mi mj e=>?_,λ i o e=>?_,λ i o e=>?_,J.tab⟩
  ·rcases key i oi Y with⟨B,Y⟩|⟨B,_⟩<;>rcases key j Z ej with⟨hj,ej⟩|⟨hj,_⟩
   ·rw[if_neg (aD B),if_neg (aD hj)]at e
    exact J.inj i j oi Z Y ej mi mj e
   ·rw[if_neg (aD B),if_pos hj]at e
    exact absurd e (ho i oi Y mi)
   ·rw[if_neg (aD hj),if_pos B]at e
    exact absurd e.symm (ho j Z ej mj)
   ·rw[B,hj]
  ·rcases key i o e with⟨B,e⟩|⟨B,rfl⟩
   ·show RO Γ _ _ (if i=s1.length then p else φ' i) o
    rw[if_neg (aD B)]
    exact(J.obj i o e).mono gw (J.wf i o e) λ _ u hu=>hu
   ·show RO Γ _ _ (if i=s1.length then p else φ' i) _
    rw[if_pos B]
    exact⟨ys,hp,RVL.monoW gw l ys hb r⟩
  ·rw[aG,c8]
   rcases key i o e with⟨_,e⟩|⟨_,rfl⟩
   ·exact z0 (dj _) _ (J.wf i o e)
   ·exact z0 (dj _) _ (by unfold k9;exact hb)
 exact q (.ref p) _ H' G (by simp;omega) (by unfold k8;simp) (by unfold RV;simp) P
theorem bN4 {φ:Nat->Addr}{H:Hp}{n:Nat}{ρ:kZ}{σ:St}(E:RE Γ φ H n ρ σ)(h:List (Option Nat)):RE Γ φ H n (l9 ρ h) (au4 h σ):=by
 refine⟨by unfold l9 au4;simp,λ i d e=>?_⟩
 unfold l9 at e
 rw[aF]at e
 cases q:h[i]? with
 | none=>rw[q]at e;cases e
 | some o =>
  rw[q]at e
  cases o with
  | none=>cases e
  | some j =>
   have e':(ρ[j]?).join=some d:=ax e
   have ej:ρ[j]?=some (some d):=by
    cases q2:ρ[j]? with
    | none=>rw[q2]at e';cases e'
    | some o2=>rw[q2]at e';exact congrArg some e'
   obtain⟨b,v,F,B⟩:=E.val j d ej
   refine⟨b,v,?_,B⟩
   unfold au4
   rw[aF,q]
   show some ((σ[j]?).join)=_
   rw[F];rfl
theorem aQ8 {mI:kZ->kW->k6 l6}{mc me:kZ->kW->k6 kX}{tg:lI}{G:List (Option Nat)}{σ:St}{H:Hp}{Q:VK}
  (h:TFv Γ (λ ρ s=>(mI ρ s).bind λ q s0=>if q.its.length<=lf then l7 (λ s=>lG s0 s q.src) (λ d ρ s=>match ly ρ tg d with
   | some ρ=>ln (mc ρ s) λ k s=>if k then(me ρ s).bind λ v s=>.ok (some v,ρ) s else .ok (none,ρ) s
   | none=>.bad) q.its (l9 ρ G) s0 else .bad) σ H Q):tComp G (TIv Γ mI) (gOf Γ.K tg) (TTv Γ mc) (TEv Γ me) σ H Q:=by
 obtain⟨φ,ρ,s,l,s',E,R,hm,k⟩:=h
 obtain⟨q,s0,e1,hm⟩:=aa1 hm
 split at hm
 case isFalse=>exact fb hm
 rename_i b4
 refine⟨φ,ρ,s,q,s0,E,R,e1,λ J φ1 H1 g1 l1 b1 R1 wk D hD=>?_⟩
 have h0:H D=none:=by
  cases e:H D with
  | none=>rfl
  | some o=>exact absurd hD (g1.st D (by rw[e];simp))
 refine⟨λ i m σ' H'=>∃ φ' ρ' t B ys rest,Gr φ1 s0 H1 φ' t H'/\Rp Γ φ' H' t/\RE Γ φ' H' t.length ρ' σ'/\H' D=some (.lst ys)/\Off φ' t D/\RVL Γ φ' H' B ys/\kY t.length B=true/\B.length<=i/\i<=q.its.length/\m=q.its.length - i /\
  l7 (λ s=>lG s0 s q.src) (λ d ρ s=>match ly ρ tg d with
   | some ρ=>ln (mc ρ s) λ k s=>if k then(me ρ s).bind λ v s=>.ok (some v,ρ) s else .ok (none,ρ) s
   | none=>.bad) (q.its.drop i) ρ' t=.ok rest s'/\l=B++rest,⟨q.its.length,?_⟩,?_⟩
 ·obtain⟨g2,R2⟩:=R1.same (H':=upd H1 D (.lst [])) ((ae3.refl H1).new hD)
  exact⟨φ1,l9 ρ G,s0,[],[],l,g2,R2,bN4 ((E.mono g1 l1).mono g2 (ak _)) G,zB,Off.new R1 hD,.nil,rfl,ak _,cc _,by simp,by rw[d6];exact hm,rfl⟩
 ·rintro i m σ' H' ⟨φ',ρ',t,B,ys,rest,g,R',E',hy,a2,ra,ba,c1,b6,rfl,hc,hl⟩
  have F:=g.le
  rcases gH i q.its.length with hlt|hge
  ·have hd:q.its[i]?=some q.its[i]:=aj hlt
   rw[du hlt]at hc
   unfold l7 at hc
   split at hc
   case isFalse=>exact fb hc
   rename_i a3
   obtain⟨b3,b2⟩:=(wk φ' H' t g F R' a3 i).1 hlt
   refine .inr ⟨b3,_,λ σ2 H2 n=>⟨q.its.length - (i+1),by omega,n⟩,λ x H2 b0=>?_⟩
   obtain⟨sm,rv⟩:=b2 x H2 b0
   obtain⟨g2,R2⟩:=R'.same sm
   have rd:=rv _ hd
   have bd:(q.its[i]).bnd t.length=true:=zl F _ (ae9 b1 hd)
   obtain⟨p,t3,hs,hc⟩:=aa1 hc
   obtain⟨r2,t4,a4,hc⟩:=aa1 hc
   cases hb:ly ρ' tg q.its[i]with
   | none=>rw[hb]at hs;cases hs
   | some ρ3 =>
    rw[hb]at hs
    refine be5 (E'.mono g2 (ak _)) rd bd hb λ σ3 E3=>?_
    obtain⟨c,t1,ec,hs⟩:=zH hs
    refine⟨φ',ρ3,t,c,t1,E3,R2,ec,λ φ2 H4 g4 l4 R4=>?_⟩
    have a5:H2 D=some (.lst ys):=sm _ _ hy
    have a1:H4 D=some (.lst ys):=g4.fr D _ a5 (by nofun) a2
    have Y:Off φ2 t1 D:=a2.mono g4 a5
    have G4:=(g.trans g2 F).trans g4 F
    cases c with
    | true =>
     rw[if_pos rfl]at hs
     refine iteT ?_
     obtain⟨v,t2,ev,hs⟩:=aa1 hs
     cases hs
     refine⟨φ2,ρ3,t1,v,t3,E3.mono g4 l4,R4,ev,λ w φ3 H5 g5 l5 b5 r5 R5=>?_⟩
     have Z:H5 D=some (.lst ys):=g5.fr D _ a1 (by nofun) Y
     have a0:Off φ3 t3 D:=Y.mono g5 a1
     refine⟨ys,Z,?_,?_⟩
     ·rw[ra.length]
      have:=zK
      omega
     ·have gw:Gw φ3 t3.length H5 φ3 (upd H5 D (.lst (ys++[w]))):=⟨λ _ _=>rfl,(Kp.refl H5).put Z rfl⟩
      have G5:=G4.trans g5 (am F l4)
      have GG:=g2.trans (g4.trans g5 l4) (ak _)
      have a6:RVL Γ φ3 H5 B ys:=RVL.mono GG _ _ ba ra
      have bb:kY t3.length (B++[v])=true:=zO (aa8 GG.le _ ba) (by unfold kY;rw[b5];rfl)
      refine⟨φ3,ρ3,t3,B++[v],ys++[w],r2,G5.foreign hD Z,R5.foreign Z a0,?_,zB,a0,RVL.monoW gw _ _ bb (a6.append (.cons r5 .nil)),bb,by simp;omega,hlt,rfl,?_,?_⟩
      ·have E5:=(E3.mono g4 l4).mono g5 l5
       exact⟨E5.len,λ j e hj=>by
        obtain⟨h1,z,h2,h3⟩:=E5.val j e hj
        exact⟨h1,z,h2,RV.monoW gw _ _ h1 h3⟩⟩
      ·cases hc;exact a4
      ·cases hc;rw[hl];simp
    | false =>
     rw[if_neg aQ]at hs
     refine ch3 ?_
     cases hs
     have GG:=g2.trans g4 (ak _)
     exact⟨φ2,ρ3,t3,B,ys,r2,G4,R4,E3.mono g4 l4,a1,Y,RVL.mono GG _ _ ba ra,aa8 l4 _ ba,by omega,hlt,rfl,by cases hc;exact a4,by cases hc;exact hl⟩
  ·have hi:i=q.its.length:=by omega
   rw[d8 hge]at hc
   unfold l7 at hc
   split at hc
   case isFalse=>exact fb hc
   rename_i a3
   cases hc
   refine .inl ⟨(wk φ' H' s' g F R' a3 i).2 hge,?_⟩
   rw[bq]at hl
   subst hl
   exact k D ys φ' H' (g1.trans g l1) (am l1 F) ba hy h0 a2 ra R'
variable {Γ:Gm} {X:Cx}
noncomputable def ce6 (Γ:Gm)(φ:Nat->Addr)(H:Hp)(n:Nat)(D:Ends):lE->Prop
 | .next ρ=>∀ σ,RE Γ φ H n ρ σ->D.nx σ H
 | .ret d=>∀ v,d.bnd n=true->RV Γ φ H d v->D.rt v H
 | .cont ρ=>∀ σ,RE Γ φ H n ρ σ->D.ct σ H
 | .brk ρ=>∀ σ,RE Γ φ H n ρ σ->D.bk σ H
def ak2 (Γ:Gm)(φ:Nat->Addr)(s:kW)(H:Hp)(c:lE)(s':kW)(D:Ends):Prop :=
 ∀ φ' H',Gr φ s H φ' s' H'->s.length<=s'.length->Rp Γ φ' H' s'->ce6 Γ φ' H' s'.length D c
def TSv (Γ:Gm)(m:kZ->kW->k6 lE):TS:=λ D σ H=>∃ φ ρ s c s',RE Γ φ H s.length ρ σ/\Rp Γ φ H s/\m ρ s=.ok c s'/\ak2 Γ φ s H c s' D
theorem PS.imp {e:Stmt}{t t':TS}(h:PS X e t)(i:∀ D σ H,t' D σ H->t D σ H):PS X e t':=λ B s σ H Q I q=>h B s σ H Q I (i Q σ H q)
theorem PSs.imp {e:List Stmt}{t t':TS}(h:PSs X e t)(i:∀ D σ H,t' D σ H->t D σ H):PSs X e t':=λ B s σ H Q I q=>h B s σ H Q I (i Q σ H q)
theorem ak2.trans {φ φ1:Nat->Addr}{s s1 s':kW}{H B:Hp}{c:lE}{D:Ends}(h:ak2 Γ φ s H c s' D)(g:Gr φ s H φ1 s1 B)(l:s.length<=s1.length):ak2 Γ φ1 s1 B c s' D :=
 λ φ' H' g' F p=>h φ' H' (g.trans g' l) (am l F) p
theorem ak2.here {φ:Nat->Addr}{s:kW}{H:Hp}{c:lE}{D:Ends}(h:ak2 Γ φ s H c s D)(p:Rp Γ φ H s):ce6 Γ φ H s.length D c:=h φ H (Gr.refl φ s H) (ak _) p
variable {D:Ends} {σ:St} {H:Hp}
theorem bC9 {m:kZ->kW->k6 lE}(B:∀ ρ s,m ρ s=.ok (.next ρ) s)(h:TSv Γ m D σ H):bR7 D σ H:=by
 obtain⟨φ,ρ,s,c,s',E,R,e,q⟩:=h
 rw[B]at e;cases e
 exact q.here R σ E
theorem bv1 (h:TSv Γ (λ ρ s=>.ok (.cont ρ) s) D σ H):bQ2 D σ H:=by
 obtain⟨φ,ρ,s,c,s',E,R,e,q⟩:=h
 cases e
 exact q.here R σ E
theorem bC5 (h:TSv Γ (λ ρ s=>.ok (.ret .non) s) D σ H):bK1 D σ H:=by
 obtain⟨φ,ρ,s,c,s',E,R,e,q⟩:=h
 cases e
 exact q.here R .non rfl RV.nonI
theorem bF0 {m:kZ->kW->k6 kX}(h:TSv Γ (λ ρ s=>(m ρ s).bind λ d s=>.ok (.ret d) s) D σ H):cf4 (TEv Γ m) D σ H:=by
 obtain⟨φ,ρ,s,c,s',E,R,e,q⟩:=h
 obtain⟨x,s1,e1,e⟩:=aa1 e
 cases e
 exact⟨φ,ρ,s,x,_,E,R,e1,λ v φ1 F g1 l1 B r1 R1=>q φ1 F g1 l1 R1 v B r1⟩
theorem bz8 {m:kZ->kW->k6 kX}(h:TSv Γ (λ ρ s=>(m ρ s).bind λ _ s=>.ok (.next ρ) s) D σ H):bP1 (TEv Γ m) D σ H:=by
 obtain⟨φ,ρ,s,c,s',E,R,e,q⟩:=h
 obtain⟨x,s1,e1,e⟩:=aa1 e
 cases e
 exact⟨φ,ρ,s,x,_,E,R,e1,λ v φ1 B g1 l1 F r1 R1=>q φ1 B g1 l1 R1 σ (E.mono g1 l1)⟩
theorem aU6 {m:kZ->kW->k6 kX}{tg:lI}(h:TSv Γ (λ ρ s=>(m ρ s).bind λ d s=>match ly ρ tg d with|some ρ=>.ok (.next ρ) s|none=>.bad) D σ H):bi3 (TEv Γ m) (gOf Γ.K tg) D σ H:=by
 obtain⟨φ,ρ,s,c,s',E,R,e,q⟩:=h
 obtain⟨x,s1,e1,e⟩:=aa1 e
 refine⟨φ,ρ,s,x,s1,E,R,e1,λ v φ1 F g1 l1 B r1 R1=>?_⟩
 cases hb:ly ρ tg x with
 | none=>rw[hb]at e;cases e
 | some ρ1 =>
  rw[hb]at e
  cases e
  exact be5 (E.mono g1 l1) r1 B hb λ σ' G=>q φ1 F g1 l1 R1 σ' G
theorem be3 {m:kZ->kW->k6 (List kX)}(h:TSv Γ (λ ρ s=>((m ρ s).bind λ l s=>lM (.lst l) s).bind λ d s=>match ly ρ tg d with|some ρ=>.ok (.next ρ) s|none=>.bad) D σ H):bi3 (TFv Γ m) (gOf Γ.K tg) D σ H :=
 aT1 (aU6 h)
def bG4 (Γ:Gm):bU6:=λ o i v H Q=>∃ φ s x y d s',Rp Γ φ H s/\RV Γ φ H x o/\RV Γ φ H y i/\RV Γ φ H d v/\x.bnd s.length=true/\y.bnd s.length=true/\d.bnd s.length=true/\DV.setIx x y d s=.ok () s' /\
 ∀ φ' H',Gr φ s H φ' s' H'->s.length<=s'.length->Rp Γ φ' H' s'->Q H'
theorem be4 {me mo mi:kZ->kW->k6 kX}(h:TSv Γ (λ ρ s=>(me ρ s).bind λ d s=>(mo ρ s).bind λ x s=>(mi ρ s).bind λ y s=>(DV.setIx x y d s).bind λ _ s=>.ok (.next ρ) s) D σ H) :
  bi3 (TEv Γ me) (ce4 (TEv Γ mo) (TEv Γ mi) (bG4 Γ)) D σ H:=by
 obtain⟨φ,ρ,s,c,s',E,R,e,q⟩:=h
 obtain⟨d,s1,e1,e⟩:=aa1 e
 obtain⟨x,s2,e2,e⟩:=aa1 e
 obtain⟨y,s3,e3,e⟩:=aa1 e
 obtain⟨u,s4,e4,e⟩:=aa1 e
 cases e
 refine⟨φ,ρ,s,d,s1,E,R,e1,λ v1 φ1 H1 g1 l1 b1 r1 R1=>?_⟩
 refine⟨φ1,ρ,s1,x,s2,E.mono g1 l1,R1,e2,λ v2 φ2 H2 Y G Z r2 R2=>?_⟩
 have J:=g1.trans Y l1
 have L2:=am l1 G
 refine⟨φ2,ρ,s2,y,s3,E.mono J L2,R2,e3,λ v3 φ3 H3 F B b3 r3 R3=>?_⟩
 refine⟨φ3,s3,x,y,d,_,R3,RV.mono F x v2 Z r2,r3,RV.mono (Y.trans F G) d v1 b1 r1,zl B x Z,b3,zl (am G B) d b1,e4,λ φ4 H4 g4 l4 R4=>?_⟩
 have G3:=J.trans F L2
 have L3:=am L2 B
 exact q φ4 H4 (G3.trans g4 L3) (am L3 l4) R4 σ (E.mono (G3.trans g4 L3) (am L3 l4))
theorem bI6 (hu:X.A.units+2<cLine):bZ1 X (bG4 Γ):=by
 intro a0 sh σ H o i v ov iv u Q I ro ri rv h
 obtain⟨φ,s,x,y,d,s',R,rx,ry,rd,bx,Z,bd,B,q⟩:=h
 cases x with
 | ref r =>
  have B:(match s[r]? with
   | some (.lst l)=>(match y with
    | .int i=>(match lT l.length i with|some j=>DV.R.ok () (s.set r (.lst (l.set j d)))|none=>.bad)
    | _=>.bad)
   | some (.dic l)=>if y.key&&decide (l.length<lf)then .ok () (s.set r (.dic (lu y d l)))else .bad
   | some (.dit l)=>if y.keyT&&decide (l.length<lf)then .ok () (s.set r (.dit (lu y d l)))else .bad
   | _=>.bad)=.ok () s':=B
  cases e:s[r]? with
  | none=>rw[e]at B;cases B
  | some ob =>
   rw[e]at B
   cases ob with
   | lst l =>
    cases y with
    | int k =>
     have B:(match lT l.length k with|some j=>DV.R.ok () (s.set r (.lst (l.set j d)))|none=>.bad)=.ok () s':=B
     cases ej:lT l.length k with
     | none=>rw[ej]at B;cases B
     | some j =>
      rw[ej]at B
      cases B
      obtain⟨xs,h1,F⟩:=R.addr e
      have hb:kY s.length (l.set j d)=true:=aa7.mpr λ z hz=>by
       rcases List.mem_or_eq_of_mem_set hz with h|h
       ·exact aa7.mp (by have:=R.wf r _ e;unfold k9 at this;exact this) z h
       ·subst h;exact bd
      refine bg9 a0 sh σ H o i v ov iv u Q I ro ri rv ⟨φ r,xs,k,j,rx.refE,ry.intE,h1,?_,?_⟩
      ·rw[F.length];exact ej
      ·obtain⟨g,Y⟩:=R.set (o:=.lst (l.set j d)) (u:=.lst (xs.set j v)) e rfl hb λ H' g e=>⟨_,e,RVL.monoW g _ _ hb (F.set j rd)⟩
       exact q _ _ g (by simp) Y
    | _=>exact fb B
   | dic l =>
    have B:(if y.key&&decide (l.length<lf)then DV.R.ok () (s.set r (.dic (lu y d l)))else .bad)=.ok () s':=B
    split at B
    case isFalse=>exact fb B
    rename_i hc
    cases B
    rw[ah]at hc
    obtain⟨k,hk⟩:=ai7 hc.1
    have hlt:=of_decide_eq_true hc.2
    obtain⟨J,h1,F⟩:=R.obj r _ e
    have ex:=rx.refE;subst ex
    cases ro
    have ey:=aJ4 hk ry;subst ey
    have hb:(DV.O.dic (lu y d l)).bnd s.length=true:=aJ8 (R.wf r _ e) Z bd
    have G:kY s.length ((lu y d l).map (·.2))=true:=by
     unfold k9 at hb
     rw[ah]at hb
     exact hb.2
    obtain⟨g,Y⟩:=R.set (o:=.dic (lu y d l)) (u:=.dK (ao1 J k v)) e rfl hb λ H' g e=>⟨_,e,RVD.monoW g _ _ G (F.put keyOf_inj hk rd)⟩
    exact aA0 hu I (by6.k h1 (by rw[F.length];exact ay hlt zK)) ri rv λ s4 I4=>⟨_,I4,q _ _ g (by simp) Y⟩
   | dit l =>
    have B:(if y.keyT&&decide (l.length<lf)then DV.R.ok () (s.set r (.dit (lu y d l)))else .bad)=.ok () s':=B
    split at B
    case isFalse=>exact fb B
    rename_i hc
    cases B
    rw[ah]at hc
    obtain⟨k,hk⟩:=af9 hc.1
    have hlt:=of_decide_eq_true hc.2
    obtain⟨J,h1,F⟩:=R.obj r _ e
    have ex:=rx.refE;subst ex
    cases ro
    obtain⟨kb,ey,a1⟩:=aq9 hk ry;subst ey
    have hb:(DV.O.dit (lu y d l)).bnd s.length=true:=bh2 (R.wf r _ e) Z bd
    have G:kY s.length ((lu y d l).map (·.2))=true:=by
     unfold k9 at hb
     rw[ah]at hb
     exact hb.2
    obtain⟨g,Y⟩:=R.set (o:=.dit (lu y d l)) (u:=.dT (ao1 J k v)) e rfl hb λ H' g e=>⟨_,e,RVD.monoW g _ _ G (F.put keyT_inj hk rd)⟩
    exact aA0 hu I (by6.t h1 a1 (by rw[F.length];exact ay hlt zK)) ri rv λ s4 I4=>⟨_,I4,q _ _ g (by simp) Y⟩
   | _=>exact fb B
 | _=>exact fb B
theorem bI5 {i:Nat}{m:kZ->kW->k6 kX} (h:TSv Γ (λ ρ s=>(mU ρ i s).bind λ x s=>(m ρ s).bind λ y s=>match x,y with
  | .int a,.int b=>match lJ ρ i (.int (a+b))with|some ρ=>.ok (.next ρ) s|none=>.bad
  | _,_=>.bad) D σ H):cf9 i (TEv Γ m) (ipI λ i j=>i+j) D σ H:=by
 obtain⟨φ,ρ,s,c,s',E,R,F,q⟩:=h
 obtain⟨x,s1,e1,B⟩:=aa1 F
 obtain⟨y,s2,e2,e⟩:=aa1 B
 clear F B
 unfold mU at e1
 split at e1
 case h_2=>cases e1
 rename_i d hd
 cases e1
 obtain⟨b,v,J,G⟩:=E.val i _ hd
 refine⟨v,J,φ,ρ,s,y,s2,E,R,e2,λ w φ1 Y g1 l1 Z r1 R1=>?_⟩
 cases x with
 | int a =>
  cases y with
  | int b =>
   refine⟨a,b,G.intE,r1.intE,?_⟩
   have e:(match lJ ρ i (.int (a+b))with|some ρ=>DV.R.ok (DV.Ct.next ρ) s2|none=>.bad)=.ok c s':=e
   cases hs:lJ ρ i (.int (a+b))with
   | none=>rw[hs]at e;cases e
   | some ρ1 =>
    rw[hs]at e
    cases e
    exact q φ1 Y g1 l1 R1 _ (aX7 (E.mono g1 l1) RV.intI rfl hs)
  | _=>cases e
 | _=>cases e
theorem bX8 {mc:kZ->kW->k6 kX}{G F:kZ->kW->k6 lE}(h:TSv Γ (λ ρ s=>ln (mc ρ s) λ k s=>if k then G ρ s else F ρ s) D σ H):ce9 (TTv Γ mc) (TSv Γ G) (TSv Γ F) D σ H:=by
 obtain⟨φ,ρ,s,d,s',E,R,B,q⟩:=h
 obtain⟨c,s1,e1,B⟩:=zH B
 refine⟨φ,ρ,s,c,s1,E,R,e1,λ φ1 J g1 l1 R1=>?_⟩
 cases c with
 | true =>
  rw[if_pos rfl]at B ⊢
  exact⟨φ1,ρ,s1,d,s',E.mono g1 l1,R1,B,q.trans g1 l1⟩
 | false =>
  rw[if_neg aQ]at B ⊢
  exact⟨φ1,ρ,s1,d,s',E.mono g1 l1,R1,B,q.trans g1 l1⟩
theorem bO1 {Y G:kZ->kW->k6 lE}(h:TSv Γ (λ ρ s=>(Y ρ s).bind λ c s=>match c with|.next ρ=>G ρ s|c=>.ok c s) D σ H):cf6 (TSv Γ Y) (TSv Γ G) D σ H:=by
 obtain⟨φ,ρ,s,c,s',E,R,B,q⟩:=h
 obtain⟨J,s1,e1,B⟩:=aa1 B
 refine⟨φ,ρ,s,J,s1,E,R,e1,λ φ1 F g1 l1 R1=>?_⟩
 cases J with
 | next ρ1=>exact λ σ1 Z=>⟨φ1,ρ1,s1,c,s',Z,R1,B,q.trans g1 l1⟩
 | ret d=>cases B;exact q φ1 F g1 l1 R1
 | cont ρ=>cases B;exact q φ1 F g1 l1 R1
 | brk ρ=>cases B;exact q φ1 F g1 l1 R1
theorem bi4 {mc:kZ->kW->k6 kX}{mb:kZ->kW->k6 lE}(h:TSv Γ (DV.whl mc mb) D σ H):aV3 (TTv Γ mc) (TSv Γ mb) D σ H:=by
 obtain⟨φ,ρ,s,c,s',E,R,B,q⟩:=h
 unfold DV.whl at B
 split at B
 case isFalse=>exact fb B
 rename_i hn
 generalize hn.choose=n at B
 refine⟨λ n σ H=>∃ φ ρ s,RE Γ φ H s.length ρ σ/\Rp Γ φ H s/\DV.qW mc mb n ρ s=.ok c s'/\ak2 Γ φ s H c s' D,⟨n,φ,ρ,s,E,R,B,q⟩,?_⟩
 clear E R B q hn
 rintro n σ H ⟨φ,ρ,s,E,R,B,q⟩
 cases n with
 | zero=>exact fb B
 | succ n =>
  unfold DV.qW at B
  obtain⟨b,s1,e1,B⟩:=zH B
  refine⟨φ,ρ,s,b,s1,E,R,e1,λ φ1 H1 g1 l1 R1=>?_⟩
  cases b with
  | false =>
   rw[if_neg aQ]at B ⊢
   cases B
   exact q φ1 H1 g1 l1 R1 σ (E.mono g1 l1)
  | true =>
   rw[if_pos rfl]at B ⊢
   obtain⟨Y,s2,e2,B⟩:=aa1 B
   refine⟨_,λ σ' H' w=>⟨n,dr n,w⟩,φ1,ρ,s1,Y,s2,E.mono g1 l1,R1,e2,λ φ2 J Z l2 R2=>?_⟩
   have G:=g1.trans Z l1
   have L:=am l1 l2
   cases Y with
   | next ρ1=>exact λ σ1 F=>⟨φ2,ρ1,s2,F,R2,B,q.trans G L⟩
   | cont ρ1=>exact λ σ1 F=>⟨φ2,ρ1,s2,F,R2,B,q.trans G L⟩
   | ret d=>cases B;exact q φ2 J G L R2
   | brk ρ=>cases B;exact q φ2 J G L R2
theorem bF4 {mI : DV.Env -> DV.Sto -> DV.R DV.Sq} {mb : DV.Env -> DV.Sto -> DV.R DV.Ct} {tg : DV.Tg} (h : TSv Γ (λ ρ s => (mI ρ s).bind λ q s0 => DV.qw (λ s => DV.chk s0 s q.src) (λ d ρ s => match DV.zV ρ tg d with
      | some ρ => mb ρ s
      | none => .bad) q.its ρ s0) D σ H) : bW3 (TIv Γ mI) (gOf Γ.K tg) (TSv Γ mb) D σ H := by
  obtain⟨φ, ρ, s, c, s', E, R, hm, k⟩ := h
  obtain⟨q, s0, e1, hm⟩ := aa1 hm
  refine⟨φ, ρ, s, q, s0, E, R, e1, λ J φ1 H1 g1 l1 b1 R1 wk => ?_⟩
  refine⟨λ i m σ' H' => ∃ φ' ρ' t, Gr φ1 s0 H1 φ' t H' /\ Rp Γ φ' H' t /\ RE Γ φ' H' t.length ρ' σ' /\ i <= q.its.length /\ m = q.its.length - i /\
    m9 (λ s => lG s0 s q.src) (λ d ρ s => match ly ρ tg d with
      | some ρ => mb ρ s
      | none => .bad) (q.its.drop i) ρ' t = .ok c s', ⟨q.its.length, ?_⟩, ?_⟩
  · exact⟨φ1, ρ, s0, Gr.refl _ _ _, R1, E.mono g1 l1, cc _, by simp, by rw[d6]; exact hm⟩
  · rintro i m σ' H' ⟨φ', ρ', t, g, R', E', hil, rfl, hc⟩
    have hle := g.le
    rcases gH i q.its.length with hlt|hge
    · have hd : q.its[i]? = some q.its[i] := aj hlt
      rw[du hlt]at hc
      unfold m9 at hc
      split at hc
      case isFalse => exact fb hc
      rename_i hck
      obtain⟨hgo, hy2⟩ := (wk φ' H' t g hle R' hck i).1 hlt
      refine .inr ⟨hgo, _, λ σ2 H2 n => ⟨q.its.length - (i + 1), by omega, n⟩, λ x H2 hyl => ?_⟩
      obtain⟨sm, rv⟩ := hy2 x H2 hyl
      obtain⟨g2, R2⟩ := R'.same sm
      have rd := rv _ hd
      have bd : (q.its[i]).bnd t.length = true := zl hle _ (ae9 b1 hd)
      obtain⟨c1, t3, hs, hc⟩ := aa1 hc
      cases hb : ly ρ' tg q.its[i]with
      | none => rw[hb]at hs; cases hs
      | some ρ3 =>
        rw[hb]at hs
        refine be5 (E'.mono g2 (ak _)) rd bd hb λ σ3 E3 => ?_
        refine⟨φ', ρ3, t, c1, t3, E3, R2, hs, λ φ2 H4 g4 l4 R4 => ?_⟩
        have G4 := (g.trans g2 hle).trans g4 hle
        have L4 := am hle l4
        have GG := g1.trans G4 l1
        cases c1 with
        | next ρ1 => exact λ σ1 E1 => ⟨φ2, ρ1, t3, G4, R4, E1, hlt, rfl, hc⟩
        | cont ρ1 => exact λ σ1 E1 => ⟨φ2, ρ1, t3, G4, R4, E1, hlt, rfl, hc⟩
        | ret d => cases hc; exact k φ2 H4 GG (am l1 L4) R4
        | brk ρ => cases hc; exact k φ2 H4 GG (am l1 L4) R4
    · rw[d8 hge]at hc
      unfold m9 at hc
      split at hc
      case isFalse => exact fb hc
      rename_i hck
      cases hc
      exact .inl ⟨(wk φ' H' s' g hle R' hck i).2 hge, k φ' H' (g1.trans g l1) (am l1 hle) R' σ' E'⟩
structure Ck where
 N:List Str
 sc:Scope
 lk:String->List Nat->Expr->Bool
noncomputable abbrev ck0 (N:List Str)(sc:Scope):Ck:=⟨N,sc,λ _ _ _=>false⟩
noncomputable def Ck.vis (c:Ck)(x:Str):Bool:=match c.sc.names.lookup x with|some .local=>true|some .cell=>true|some .free=>true|_=>false
noncomputable def Ck.loc (c:Ck)(x:Str):Bool:=match c.sc.names.lookup x with|some .local=>true|some .cell=>true|_=>false
noncomputable def Ck.gl (c:Ck)(x:Str):Bool:=(match c.sc.names.lookup x with|some .globalImplicit=>true|_=>false)&&!(x==("__debug__":Str))&&!decide (x=("__name__":Str))
noncomputable def Ck.var (c:Ck)(i:Nat)(x:Str):Bool:=decide (c.N[i]?=some x)&&c.vis x&&!(x==("__debug__":Str))&&!(x==("__classdict__":Str))
noncomputable def shp:Expr->Bool
 | .Starred ..=>false
 | .Set ..=>false
 | .SetComp ..=>false
 | .DictComp ..=>false
 | .GeneratorExp ..=>false
 | .Slice ..=>false
 | .NamedExpr ..=>false
 | _=>true
noncomputable def ap8:Expr->Bool
 | .ListComp ..=>false
 | .SetComp ..=>false
 | .DictComp ..=>false
 | _=>true
noncomputable def bF8:Expr->Bool
 | .Tuple ..=>false
 | _=>true
noncomputable def bL0:Expr->Bool
 | .Call _ [] [] _=>false
 | _=>true
noncomputable def mC:DV.Cn->Const->Bool
 | .non,.none=>true
 | .bl b,.bool c=>b==c
 | .int i,.int j=>decide (i=j)
 | .str x,.str y=>decide (y=⟨x.toArray⟩)&&decide (x.length<=1000)
 | _,_=>false
noncomputable def bV5 (ck:Ck):List Nat->List Expr->Bool
 | [],[]=>true
 | i::is,.Name x _::es=>decide (ck.N[i]?=some x)&&ck.loc x&&bV5 ck is es
 | _,_=>false
noncomputable def mTg (ck:Ck):lI->Expr->Bool
 | .one i,.Name x _=>decide (ck.N[i]?=some x)&&ck.loc x
 | .tup is,.Tuple es _ _=>bV5 ck is es
 | _,_=>false
noncomputable def tgN:Expr->List Str
 | .Name x _=>[x]
 | .Tuple es _ _=>es.filterMap λ e=>match e with|.Name x _=>some x|_=>none
 | _=>[]
structure ItT where
 x:Str
 y:Str
 ob:Expr
 sc:Scope
 p1:Pos
 p2:Pos
 p3:Pos
 p4:Pos
 p5:Pos
 p6:Pos
 p7:Pos
 k1:Nat
 k2:Nat
 ap:Pos
 cp:Pos
 pos:Pos
noncomputable def ItT.tg (q:ItT):Expr:=.Tuple [.Name q.x q.p5,.Name q.y q.p6] q.k2 q.p7
noncomputable def ItT.it (q:ItT):Expr:=.Call (.Attribute q.ob "items" q.ap) [] [] q.cp
noncomputable def ItT.text (q:ItT):Expr:=.ListComp (.BinOp (.Name q.x q.p1) .Add (.Tuple [.Name q.y q.p2] q.k1 q.p3) q.p4) [⟨q.tg,q.it,[],0⟩] q.sc q.pos
noncomputable def ckC (ck:Ck)(tgt:Expr)(caps:List (Option Nat))(scope:Scope):Ck:=⟨tgN tgt++(caps.filterMap id).map λ j=>ck.N.getD j "",scope,λ _ _ _=>false⟩
noncomputable def aP8 (ck:Ck)(tg:lI)(tgt iter:Expr)(caps:List (Option Nat))(scope:Scope):Bool :=
 zU (ckC ck tgt caps scope).N caps scope ck.N ck.sc&&decide ((ckC ck tgt caps scope).N.Nodup)&&mTg (ckC ck tgt caps scope) tg tgt&&shp iter
noncomputable def biT:lK->Option Str
 | .len=>some "len" | .abs=>some "abs" | .min2=>some "min" | .max2=>some "max" | .int=>some "int" | .str=>some "str" | _=>none
noncomputable def biK:lK->Option (Nat×Str)
 | .isInt=>some (1, "int")|.isBool=>some (2, "bool")|.isStr=>some (3, "str")|.isTup=>some (4, "tuple")|.isList=>some (5, "list")|_=>none
noncomputable def mkT:mJ->Option Str
 | .tuple=>some "tuple" | .list=>some "list" | _=>none
noncomputable def mkF:mJ->Option Str
 | .all=>some "all" | .min=>some "min" | _=>none
noncomputable def mtT:mK->Option (Str×Nat)
 | .append=>some ("append",1)|_=>none
noncomputable def bU1 (ck:Ck)(b:lK)(x:Str)(xs:List Expr)(m1 m2:Bool):Bool:=match biK b with
 | some p=>(match xs with|[_,.Name y _]=>decide (x=("isinstance":Str))&&ck.gl x&&decide (y=p.2)&&ck.gl y&&m2|_=>false)
 | none=>(match xs with|_::_=>decide (biT b=some x)&&ck.gl x&&m1|[]=>false)
noncomputable def lamArgs:bX->Option (List Str)
 | ⟨[],args,none,[],[],none,[]⟩=>some (args.map (·.arg))
 | _=>none
mutual
noncomputable def mE (ck:Ck):mz->Expr->Bool
 | .var i,E=>match E with|.Name x _=>ck.var i x|_=>false
 | .cst c,E=>match E with|.Constant v _ _=>mC c v|_=>false
 | .glob g,E=>match E with|.Name x _=>decide (x=(g:Str))&&ck.gl x|_=>false
 | .bin op a b,E=>match E with|.BinOp l o r _=>decide (o=cd0 op)&&mE ck a l&&mE ck b r|_=>false
 | .neg a,E=>match E with|.UnaryOp .USub l _=>mE ck a l|_=>false
 | .not a,E=>match E with|.UnaryOp .Not l _=>mE ck a l|_=>false
 | .cmp op a b,E=>match E with|.Compare l [o] [r] _=>decide (o=bs6 op)&&mE ck a l&&mE ck b r|_=>false
 | .chain _ _ _ _ _,_=>false
 | .isN a,E=>match E with|.Compare l [.Is] [.Constant .none _ _] _=>mE ck a l|_=>false
 | .notN a,E=>match E with|.Compare l [.IsNot] [.Constant .none _ _] _=>mE ck a l|_=>false
 | .isB _ _,_=>false
 | .notB _ _,_=>false
 | .and a b,E=>match E with
  | .BoolOp .And [l,r] _=>mE ck a l&&mE ck b r
  | .BoolOp .And (l::m::r::es) p=>mE ck a l&&mE ck b (.BoolOp .And (m::r::es) p)
  | _=>false
 | .or a b,E=>match E with
  | .BoolOp .Or [l,r] _=>mE ck a l&&mE ck b r
  | .BoolOp .Or (l::m::r::es) p=>mE ck a l&&mE ck b (.BoolOp .Or (m::r::es) p)
  | _=>false
 | .ite c a b,E=>match E with|.IfExp t l r _=>mE ck c t&&mE ck a l&&mE ck b r|_=>false
 | .tup es,E=>match E with|.Tuple xs _ _=>mEs ck es xs&&decide (xs.length<=1000)|_=>false
 | .lst es,E=>match E with|.List xs _=>mEs ck es xs&&decide (xs.length<=1000)|_=>false
 | .dic ks vs,E=>match E with|.Dict a b _=>(match a,b with|[],[]=>mEs ck ks []&&mEs ck vs []|[some x],[y]=>mEs ck ks [x]&&mEs ck vs [y]|_,_=>false)|_=>false
 | .slL _ _,_=>false
 | .slU a hi,E=>match E with|.Subscript o (.Slice none (some h) none _) _=>mE ck a o&&mE ck hi h|_=>false
 | .slLU _ _ _,_=>false
 | .rev _,_=>false
 | .fstr _,_=>false
 | .inC _ _,_=>false
 | .getC _ _,_=>false
 | .bitl _,_=>false
 | .lrng _,_=>false
 | .dicT,_=>false
 | .dicU k v,E=>match E with|.Dict a b _=>(match a,b with|[some x],[y]=>mE ck k x&&mE ck v y|_,_=>false)|_=>false
 | .get2 _ _ _,_=>false
 | .ix a b,E=>match E with|.Subscript o i _=>mE ck a o&&mE ck b i|_=>false
 | .call f as,E=>match E with|.Call (.Name x _) xs [] _=>decide (x=(f:Str))&&ck.gl x&&mAs ck as xs|_=>false
 | .callC _ _,_=>false
 | .callV _ _,_=>false
 | .bi b es,E=>match E with|.Call (.Name x _) xs [] _=>bU1 ck b x xs (mEs ck es xs) (mEs ck es (xs.take 1))|_=>false
 | .mk k l,E=>match E with
  | .Call (.Name x _) [a] [] _=>ck.gl x&&shp a&&((decide (mkT k=some x)&&mL ck 2 l a)||(decide (mkF k=some x)&&mL ck 1 l a))
  | .ListComp e gs sc p=>decide (k=.list)&&mL ck 0 l (.ListComp e gs sc p)
  | _=>false
 | .mkD k l d,E=>match E with
  | .Call (.Name x _) [a] [⟨some y,de,_⟩] _=>(decide (k=.min)&&decide (x=("min":Str)))&&decide (y=("default":Str))&&ck.gl x&&shp a&&mL ck 1 l a&&mE ck d de
  | _=>false
 | .meth m o es,E=>match E with
  | .Call (.Attribute ob x ap) xs [] cp=>decide (mtT m=some (x,xs.length))&&bL0 ob&&(ap.endLine==cp.line)&&mE ck o ob&&mEs ck es xs
  | _=>false
 | .ext _ _,_=>false
 | .extS _ _,_=>false
 | .mks _ _,_=>false
 | .mkDs _ _ _,_=>false
 | .minK _ _ _,_=>false
 | .spl o c,E=>match E with
  | .Call (.Attribute ob x ap) [a] [] cp=>(match a with|.Constant v _ _=>decide (v=.str ⟨#[c]⟩)|_=>false)&&decide (x=("split":Str))&&bL0 ob&&(ap.endLine==cp.line)&&mE ck o ob
  | _=>false
 | .join _ _,_=>false
noncomputable def mEs (ck:Ck):lB->List Expr->Bool
 | .nil,xs=>match xs with|[]=>true|_=>false
 | .cons e es,xs=>match xs with|x::xs=>mE ck e x&&shp x&&mEs ck es xs|_=>false
noncomputable def mFs (ck:Ck):lB->List Expr->Bool
 | .nil,xs=>match xs with|[]=>true|_=>false
 | .cons e es,xs=>match xs with
  | .FormattedValue v c none _::xs=>decide (c=-1)&&mE ck e v&&mFs ck es xs
  | .Constant v j p::xs=>mE ck e (.Constant v j p)&&mFs ck es xs
  | _=>false
noncomputable def mAs (ck:Ck):ma->List Expr->Bool
 | .nil,xs=>match xs with|[]=>true|_=>false
 | .ex e es,xs=>match xs with|x::xs=>mE ck e x&&shp x&&mAs ck es xs|_=>false
 | .lam _ _ _,_=>false
 | .fn _ _,_=>false
noncomputable def cd2 (ck:Ck):ma->List Expr->Bool
 | .nil,xs=>match xs with|[]=>true|_=>false
 | .ex e es,xs=>match xs with|x::xs=>mE ck e x&&shp x&&cd2 ck es xs|_=>false
 | .lam _ _ _,_=>false
 | .fn _ _,_=>false
noncomputable def mI (ck:Ck)(tgt:Expr):DV.I->Expr->Bool
 | .rng1 a,E=>match E with|.Call (.Name x _) [l] [] _=>decide (x=("range":Str))&&ck.gl x&&mE ck a l&&shp l|_=>false
 | .rng2 _ _,_=>false
 | .seq e,x=>mE ck e x&&shp x
 | .rng3 _ _ _,_=>false
 | .rngD _,_=>false
 | .enum (.seq _),_=>false
 | .zip (.seq _) (.seq _),_=>false
 | .enum _,_=>false
 | .zip _ _,_=>false
 | .items _,_=>false
noncomputable def mL (ck:Ck)(k:Nat):DV.L->Expr->Bool
 | .comp tg it e caps,E=>match E with|.ListComp elt [⟨tgt,iter,[],z⟩] scope _=>decide (z=0)&&aP8 ck tg tgt iter caps scope&&mI ck tgt it iter&&mE (ckC ck tgt caps scope) e elt|_=>false
 | .compIf tg it c e caps,E=>match E with|.ListComp elt [⟨tgt,iter,[i],z⟩] scope _=>decide (z=0)&&aP8 ck tg tgt iter caps scope&&mI ck tgt it iter&&mE (ckC ck tgt caps scope) c i&&mE (ckC ck tgt caps scope) e elt|_=>false
 | .disp es,E=>match E with|.List xs _=>decide (1<=k)&&mEs ck es xs&&decide (xs.length<=1000)|_=>false
 | .seq e,x=>decide (k=2)&&mE ck e x
 | .itm _,_=>false
end
theorem ff {p:Prop}(h:false=true):p:=Bool.noConfusion h
mutual
noncomputable def mS (ck:Ck):DV.S->Stmt->Bool
 | .asg tg e,S=>match S with
  | .Assign [t] v _=>mTg ck tg t&&mE ck e v&&(match tg with|.one _=>true|.tup _=>bF8 v&&ap8 v)
  | _=>false
 | .setIx o i e,S=>match S with|.Assign [.Subscript ob ix _] v _=>mE ck o ob&&mE ck i ix&&mE ck e v&&ap8 v|_=>false
 | .aug i e,S=>match S with|.AugAssign (.Name x _) .Add v _=>decide (ck.N[i]?=some x)&&ck.loc x&&mE ck e v|_=>false
 | .ex e,S=>match S with|.Expr v _=>mE ck e v&&ap8 v|_=>false
 | .ret e,S=>match S with|.Return (some v) _=>mE ck e v|_=>false
 | .retN,S=>match S with|.Return none _=>true|_=>false
 | .ite c a b,S=>match S with|.If t l r _=>mE ck c t&&mSs ck a l&&mSs ck b r|_=>false
 | .whl c b,S=>match S with|.While t l [] _=>mE ck c t&&mSs ck b l|_=>false
 | .for_ tg it b,S=>match S with|.For tgt iter l [] _=>mTg ck tg tgt&&mI ck tgt it iter&&mSs ck b l|_=>false
 | .pass,_=>false
 | .cont,S=>match S with|.Continue _=>true|_=>false
 | .brk,_=>false
 | .raise,_=>true
 | .und _,_=>false
noncomputable def mSs (ck:Ck):DV.Ss->List Stmt->Bool
 | .nil,xs=>match xs with|[]=>true|_=>false
 | .cons s ss,xs=>match xs with|x::xs=>(mS ck s x&&mSs ck ss xs)|_=>false
end
theorem aK5 {B:Ck}{e:mz}{E:Expr}(h:mE B e E=true):shp E=true:=by
 cases E<;>first|rfl|(exfalso;cases e<;>exact ff h)
theorem bm5 {F:Ck}{B:Expr}{e:DV.I}{E:Expr}(h:mI F B e E=true):shp E=true:=by
 cases e with
 | seq e=>have h:(mE F e E&&shp E)=true:=h;rw[ah]at h;exact h.2
 | enum a=>cases E<;>first|rfl|(exfalso;cases a<;>exact ff h)
 | zip a b=>cases E<;>first|rfl|(exfalso;cases a<;>first|exact ff h|(cases b<;>exact ff h))
 | _=>cases E<;>first|rfl|exact ff h
theorem zh {e:Expr}{es:List Expr}{env:Env}(h:shp e=true):br (e::es) env=(false,eval e env)::br es env:=by
 cases e<;>first|rfl|cases h
theorem zQ {env:Env}{pos:Pos}:∀ {es:List Expr},(∀ e∈es,shp e=true)->(dU pos (br es env)).any (·.1)=false/\(dU pos (br es env)).all (λ x=>!x.1)=true
 | [],_=>⟨rfl,rfl⟩
 | e::es,h=>by
  have F:=zh (es:=es) (env:=env) (h e (ar ..))
  obtain⟨B,h3⟩:=zQ (env:=env) (pos:=pos) (es:=es) λ x hx=>h x (ai _ hx)
  rw[F]
  unfold dU at B h3 ⊢
  simp only[aN,fT,dz,B,h3]
  exact⟨rfl,rfl⟩
theorem as0 {e:Expr}{env:Env}(h:shp e=true)(x:Value):db e env x=pure x:=by
 cases e<;>first|rfl|cases h
theorem aw2 {e:Expr}{op:CmpOp}(h:shp e=true):c0 op e=false:=by
 cases e<;>first|rfl|cases h
theorem ag7 {e:Expr}{t:Option Expr}{l:Nat}{env:Env}(h:ap8 e=true):ed e t l env=pure false:=by
 cases e<;>first|rfl|cases h
theorem aE9 {e:Expr}{f:Str}{env:Env}(h:bL0 e=true):eI e f env (eval e env)=eval e env:=by
 cases e with
 | Call g a k p =>
  cases g with
  | Name x p' =>
   cases a with
   | nil=>cases k with
    | nil=>cases h
    | cons _ _=>rfl
   | cons _ _=>rfl
  | _=>rfl
 | _=>rfl
theorem aP5 {es:List Expr}{k:Nat}{p:Pos}{e:Expr}{env:Env}(h:bF8 e=true):fO [.Tuple es k p] e env=pure none:=by
 cases e<;>first|rfl|cases h
theorem aL8 {o i:Expr}{p:Pos}{e:Expr}{env:Env}:fO [.Subscript o i p] e env=pure none:=by
 cases e<;>rfl
theorem ap4 {e:Expr}(h:shp e=true):aQ9 e:=by
 intro o i
 cases e<;>first|rfl|cases h
def spV (Γ:Gm)(c:List kX->kW->k6 kX):Sp:=λ vs H Q _=>rCl Γ c vs H Q
noncomputable def bNames:List Str:=["len", "abs", "min", "max", "int", "isinstance", "bool", "str", "tuple", "list", "range", "sum", "all", "any", "sorted", "zip", "enumerate", "ord"]
def spL (Γ:Gm)(c:List kX->List kX->kW->k6 kX)(cap:List V):Sp:=λ vs H Q _=>∃ φ s cs l d s',Rp Γ φ H s/\RVL Γ φ H l vs/\RVL Γ φ H cs cap/\kY s.length l=true/\kY s.length cs=true/\c cs l s=.ok d s'/\ad5 Γ φ s H d s' Q
noncomputable def LamI.own (J:LamI):Str:=match J.nm with|none => "<lambda>" | some p=>p.1
noncomputable def lamText (J:LamI)(params:bX)(body:Expr)(scope:Scope)(pos:Pos):Expr:=match J.nm with
 | none=>.Lambda params body scope pos
 | some p=>.NamedExpr (.Name p.1 p.2) (.Lambda params body scope pos) pos
structure LamHere (Γ:Gm)(X:Cx)(N:List Str)(id:String)(caps:List Nat)(params:bX)(body:Expr)(scope:Scope)(c P:Addr)(J:LamI):Prop where
 code:X.env.code=.ref c
 hd:bO X.base c P
 bm:BM X.mg X.base
 ck:lamCheck scope X.env.scope=true
 df:defaultsOf params X.env=([],[])
 lg:Γ.lg id J
 q:J.qual=X.env.qual++J.own
 p:J.params=params
 b:J.body=body
 s:J.scope=scope
 len:J.fr.length=caps.length
 at_:∀(i j:Nat) (x:Str),caps[i]?=some j->J.fr[i]?=some x->N[j]?=some x
 fr:∀ x∈J.fr,scope.names.lookup x=some .free
 cl:∀ x,scope.names.lookup x=some .free->∃ c,X.env.cells.lookup x=some c
 tab:(P,J.qual)∈Γ.T
 nd:(Γ.T.map (·.1)).Nodup
 fn:∀ x,X.fn x=true
 kd:∀ x c,X.env.cells.lookup x=some c->X.env.kindOf x=some .cell\/X.env.kindOf x=some .free
 gs:LamScope (J.ps++J.fr) J.ps J.fr J.scope
 gp:lamArgs J.params=some J.ps
 gb:∀(clos:List (Str×Addr)) (pm:Value) (c':Addr) (ctv:Value) (us:List Value),us.length=J.ps.length->dW (dk "<lambda>" J.qual J.params J.body J.scope clos pm (.ref c') ctv) ⟨us,[]⟩=pure (J.ps.zip us)
noncomputable def strD (kvs:List (List Nat×List Nat)):List (PyData×PyData):=kvs.map λ p=>(.str ⟨p.1.toArray⟩,.str ⟨p.2.toArray⟩)
structure CG (Γ:Gm)(F:lr)(n:Nat)(X:Cx)(ck:Ck):Prop where
 K:X.K=Γ.K
 N:X.N=ck.N
 nd:ck.N.Nodup
 xe:X.xe=λ _ _=>False
 calm:X.calm=true
 deep:lq+1<=n
 room:Room n X.A
 sc:∀ x k,ck.sc.names.lookup x=some k->X.env.scope.names.lookup x=some k\/(k=.free/\X.env.scope.names.lookup x=some .cell)
 fn:∀ x,ck.sc.names.lookup x=some .cell->X.fn x=true
 bi:∀ x∈bNames,X.mg x=none
 call:∀ f:String,(∀ l s,F.call f l s=.bad)\/∃ a fd ps,FnOk X.prog X.w X.K X.mg X.base CX0 n a fd ps (spV Γ (F.call f))/\X.mg (f:Str)=some (.ref a)/\b9 X.K (.ref a)=true/\Binds X.K fd ps []
 con:∀ x d,F.con x=some d->∃ v u,X.mg (x:Str)=some u/\RelV v u/\(∀ m,d.bnd m=true)/\∀ φ H,RV Γ φ H d v
 lam:∀ id caps E,ck.lk id caps E=true->∃ c P params body scope pos J,E=lamText J params body scope pos/\LamHere Γ X ck.N id caps params body scope c P J
 cl:∀(id:String) (J:LamI) (f:Addr) (cap:List V) (clos:List (Str×Addr)),Γ.lg id J->cap.length=J.fr.length->ClOk X.prog X.w X.K X.mg X.base n (λ H=>CloAt H f J cap clos) f (spL Γ (F.lam id) cap)
 fa:∀(f:String) (a:Addr),Γ.fa f=some a->X.mg (f:Str)=some (.ref a)/\∃ oc od fd sl,X.K.lookup a=some ⟨oc,od,.func fd,sl⟩
 fk:DV.FK F
 cdc:∀ c kvs,F.cdc c=some kvs->∃ a,X.mg (c:Str)=some (.ref a)/\∀ h:Heap,X.K.In h->StrTab X.prog X.w h a (strD kvs)
section
variable {Γ:Gm} {F:lr} {n:Nat} {X:Cx} {ck:Ck}
theorem CG.vis (G:CG Γ F n X ck){x:Str}(h:ck.vis x=true):Vis X.env.scope x:=by
 unfold Ck.vis at h
 split at h
 ·rename_i e;rcases G.sc _ _ e with z|⟨z,_⟩
  ·exact .inl z
  ·cases z
 ·rename_i e;rcases G.sc _ _ e with z|⟨z,_⟩
  ·exact .inr (.inl z)
  ·cases z
 ·rename_i e;rcases G.sc _ _ e with z|⟨_,z⟩
  ·exact .inr (.inr z)
  ·exact .inr (.inl z)
 ·cases h
theorem CG.loc (G:CG Γ F n X ck){x:Str}(h:ck.loc x=true):Loc X.env.scope x/\(X.fn x=true\/X.env.scope.names.lookup x=some .local):=by
 unfold Ck.loc at h
 split at h
 ·rename_i e;rcases G.sc _ _ e with z|⟨z,_⟩
  ·exact⟨.inl z,.inr z⟩
  ·cases z
 ·rename_i e;rcases G.sc _ _ e with z|⟨z,_⟩
  ·exact⟨.inr z,.inl (G.fn _ e)⟩
  ·cases z
 ·cases h
theorem CG.gl (G:CG Γ F n X ck){x:Str}(h:ck.gl x=true):Gl X x/\(x==("__debug__":Str))=false/\x ≠ "__name__":=by
 unfold Ck.gl at h
 simp only[ah,d5]at h
 obtain⟨⟨B,J⟩,h3⟩:=h
 refine⟨?_,J,of_decide_eq_false h3⟩
 split at B
 ·rename_i e;rcases G.sc _ _ e with z|⟨z,_⟩
  ·exact z
  ·cases z
 ·cases B
theorem bl1 (G:CG Γ F n X ck):∀ {is:List Nat} {es:List Expr},bV5 ck is es=true->PGs X es (bV1 is)/\(cy es X.env).length=is.length/\(cy es X.env).findIdx? (·.1)=none
 | [],[],_=>⟨by9,rfl,rfl⟩
 | [],_::_,h=>by cases h
 | i::is,[],h=>by cases h
 | i::is,e::es,h=>by
  cases e with
  | Name x p =>
   unfold bV5 at h
   simp only[ah,decide_eq_true_eq]at h
   obtain⟨⟨Y,B⟩,h3⟩:=h
   obtain⟨l1,J⟩:=G.loc B
   obtain⟨a,b,c⟩:=bl1 G h3
   have hs:cy (.Name x p::es) X.env=(false,gk (.Name x p) X.env)::cy es X.env:=rfl
   refine⟨be8 (aX2 (by rw[G.N];exact G.nd) (by rw[G.N];exact Y) l1 J) a (by rw[hs];rfl),by rw[hs,aX,aX,b],?_⟩
   rw[hs,List.findIdx?_cons]
   simp[c]
  | _=>cases h
theorem bh5 (G:CG Γ F n X ck){tg:lI}{e:Expr}(h:mTg ck tg e=true):PG X e (gOf Γ.K tg):=by
 unfold mTg at h
 split at h
 ·simp only[ah,decide_eq_true_eq]at h
  obtain⟨l1,B⟩:=G.loc h.2
  exact aX2 (by rw[G.N];exact G.nd) (by rw[G.N];exact h.1) l1 B
 ·obtain⟨a,b,c⟩:=bl1 G h
  exact bB3 G.K G.calm a b c
 ·cases h
theorem CG.comp (G:CG Γ F n X ck){tg:lI}{J iter:Expr}{B:List (Option Nat)}{scope:Scope}(h:aP8 ck tg J iter B scope=true) :
  zU (ckC ck J B scope).N B scope X.N X.env.scope=true/\shp iter=true /\
  ∀(C:Addr) (cells:List (Str×Addr)) (s:ae) (H:Hp) (ex:List Addr),CG Γ F n (zG X (ckC ck J B scope).N scope C cells s H ex) (ckC ck J B scope)/\PG (zG X (ckC ck J B scope).N scope C cells s H ex) J (gOf Γ.K tg):=by
 unfold aP8 at h
 simp only[ah,decide_eq_true_eq]at h
 obtain⟨⟨⟨Y,h2⟩,h3⟩,h4⟩:=h
 refine⟨?_,h4,λ C cells s H ex=>?_⟩
 ·rw[G.N]
  unfold zU at Y ⊢
  simp only[ah]at Y ⊢
  obtain⟨⟨⟨⟨⟨a1,Z⟩,a3⟩,a4⟩,a5⟩,a6⟩:=Y
  refine⟨⟨⟨⟨⟨a1,?_⟩,a3⟩,a4⟩,a5⟩,a6⟩
  rw[aK]at Z ⊢
  intro y hy
  have:=Z y hy
  rw[bJ]at this ⊢
  rcases this with q|q
  ·exact .inl q
  ·right
   rw[bJ]at q ⊢
   rcases q with q|q
   ·rcases G.sc _ _ (eq_of_beq q)with z|⟨z,_⟩
    ·left;rw[z];exact beq_self_eq_true _
    ·cases z
   ·rcases G.sc _ _ (eq_of_beq q)with z|⟨_,z⟩
    ·right;rw[z];exact beq_self_eq_true _
    ·left;rw[z];exact beq_self_eq_true _
 ·have G':CG Γ F n (zG X (ckC ck J B scope).N scope C cells s H ex) (ckC ck J B scope):=by
   refine⟨G.K,rfl,h2,rfl,G.calm,G.deep,G.room,λ x k e=>?_,λ x e=>?_,G.bi,G.call,G.con,λ _ _ _ h=>(by cases h),G.cl,G.fa,G.fk,G.cdc⟩
   ·have q:=qi (env:=X.env) e
    have q':(eJ scope X.env).names.lookup x=some (if(k==NameKind.free&&X.env.scope.kind==.function&&X.env.kindOf x==some .cell)then NameKind.cell else k):=q
    show(eJ scope X.env).names.lookup x=some k\/_
    rw[q']
    split
    ·rename_i hc
     simp only[ah]at hc
     exact .inr ⟨eq_of_beq hc.1.1,rfl⟩
    ·exact .inl rfl
   ·show(scope.names.lookup x==some .cell)=true
    rw[show scope.names.lookup x=some .cell from e];rfl
  exact⟨G',bh5 G' h3⟩
end
section
variable {Γ:Gm} {F:lr} {n:Nat} {X:Cx} {ck:Ck} {σ:St} {H:Hp} {Q:VK}
theorem TEv.eq {m m':kZ->kW->k6 kX}(e:∀ ρ s,m ρ s=m' ρ s)(q:TEv Γ m σ H Q):TEv Γ m' σ H Q:=by
 have:m=m':=funext λ ρ=>funext λ s=>e ρ s
 subst this;exact q
theorem TTv.eq {m m':kZ->kW->k6 kX}{Q:Bool->Hp->Prop}(e:∀ ρ s,m ρ s=m' ρ s)(q:TTv Γ m σ H Q):TTv Γ m' σ H Q:=by
 have:m=m':=funext λ ρ=>funext λ s=>e ρ s
 subst this;exact q
theorem TAv.eq {m m':kZ->kW->k6 (List kX)}{Q:List V->Hp->Prop}(e:∀ ρ s,m ρ s=m' ρ s)(q:TAv Γ m σ H Q):TAv Γ m' σ H Q:=by
 have:m=m':=funext λ ρ=>funext λ s=>e ρ s
 subst this;exact q
theorem TFv.eq {m m':kZ->kW->k6 (List kX)}(e:∀ ρ s,m ρ s=m' ρ s)(q:TFv Γ m σ H Q):TFv Γ m' σ H Q:=by
 have:m=m':=funext λ ρ=>funext λ s=>e ρ s
 subst this;exact q
theorem TIv.eq {m m':kZ->kW->k6 l6}{R:It->Hp->Prop}(e:∀ ρ s,m ρ s=m' ρ s)(q:TIv Γ m σ H R):TIv Γ m' σ H R:=by
 have:m=m':=funext λ ρ=>funext λ s=>e ρ s
 subst this;exact q
theorem TSv.eq {m m':kZ->kW->k6 lE}{D:Ends}(e:∀ ρ s,m ρ s=m' ρ s)(q:TSv Γ m D σ H):TSv Γ m' D σ H:=by
 have:m=m':=funext λ ρ=>funext λ s=>e ρ s
 subst this;exact q
def EvT (Γ:Gm)(X:Cx)(E:Expr)(m:kZ->kW->k6 kX):Prop:=PE X E (TEv Γ m)/\PT X E (TTv Γ m)
theorem EvT.val {E:Expr}{m:kZ->kW->k6 kX}(h:PE X E (TEv Γ m))(he:∀ B,dI E X.env B=(do let v <- B;standAt E.pos;i9 [v] (truthy v)):=by intro _;rfl):EvT Γ X E m :=
 ⟨h,(bL1 h he).imp λ σ H Q q=>aL4 q⟩
theorem bg7 {c a b:Expr}{pos:Pos}{Y tb G:TT}(hc:PT X c Y)(ha:PT X a tb)(hb:PT X b G):PT X (.IfExp c a b pos) (λ σ H Q=>Y σ H λ k F=>if k=true then tb σ F Q else G σ F Q):=by
 intro B s σ H Q I h
 have e:dI (.IfExp c a b pos) X.env (eval (.IfExp c a b pos) X.env)=(do if <- dI c X.env (eval c X.env)then dI a X.env (eval a X.env)else dI b X.env (eval b X.env)):=by rw[dI]
 rw[e]
 refine af (thn (hc B s σ H _ I h) λ k s1 ⟨F,Z,J⟩=>?_)
 cases k with
 | true=>exact ha B s1 σ F Q Z J
 | false=>exact hb B s1 σ F Q Z J
theorem bT3 {mc J G:kZ->kW->k6 kX}{Q:Bool->Hp->Prop}(h:TTv Γ (λ ρ s=>ln (mc ρ s) λ k s=>if k then J ρ s else G ρ s) σ H Q):TTv Γ mc σ H λ k F=>if k=true then TTv Γ J σ F Q else TTv Γ G σ F Q:=by
 obtain⟨φ,ρ,s,d,s',E,R,B,q⟩:=h
 obtain⟨c,s1,e1,B⟩:=zH B
 refine⟨φ,ρ,s,c,s1,E,R,e1,λ φ1 F g1 l1 R1=>?_⟩
 cases c with
 | true =>
  rw[if_pos rfl]at B ⊢
  exact⟨φ1,ρ,s1,d,s',E.mono g1 l1,R1,B,q.trans g1 l1⟩
 | false =>
  rw[if_neg aQ]at B ⊢
  exact⟨φ1,ρ,s1,d,s',E.mono g1 l1,R1,B,q.trans g1 l1⟩
section
variable {a b c:mz} {l r t:Expr} {pos:Pos}
theorem bq4 (G:CG Γ F n X ck)(op:mZ)(ha:EvT Γ X l (k7 F a))(hb:EvT Γ X r (k7 F b)):EvT Γ X (.BinOp l (cd0 op) r pos) (k7 F (.bin op a b)) :=
 .val ((cc2 (bO5 G.K op) ha.1 hb.1).imp λ σ H Q q=>bj1 (TEv.eq (λ ρ s=>rfl) q))
theorem by3 (ha:EvT Γ X l (k7 F a)):EvT Γ X (.UnaryOp .USub l pos) (k7 F (.neg a)) :=
 .val ((bX7 bF7 ha.1).imp λ σ H Q q=>cb1 (f:=λ x s=>match x with|.int i=>.ok (.int (-i)) s|_=>.bad) (TEv.eq (λ ρ s=>rfl) q) λ φ s x d s' v H' R r B h k=>by
  cases x with
  | int i =>
   cases h
   exact⟨i,r.intE,k.here R rfl RV.intI⟩
  | _=>cases h)
theorem bw4 (ha:EvT Γ X l (k7 F a)):EvT Γ X (.UnaryOp .Not l pos) (k7 F (.not a)) :=
 ⟨(bD6 ha.1).imp λ σ H Q q=>bI9 (TEv.eq (λ ρ s=>rfl) q),(bJ9 ha.2).imp λ σ H Q q=>bS9 (TTv.eq (λ ρ s=>rfl) q)⟩
theorem bw0 (G:CG Γ F n X ck)(op:mO)(hs:shp r=true)(ha:EvT Γ X l (k7 F a))(hb:EvT Γ X r (k7 F b)):EvT Γ X (.Compare l [bs6 op] [r] pos) (k7 F (.cmp op a b)):=by
 have ho:=bS8 (Γ:=Γ) G.K (G.room.mono G.deep) op
 refine⟨(bp2 ho ha.1 hb.1 (aw2 hs)).imp λ σ H Q q=>bj1 (TEv.eq (λ ρ s=>rfl) q),(bz1 ho ha.1 hb.1 (aw2 hs)).imp λ σ H Q q=>?_⟩
 have q:=by4 q
 exact bj1 (TEv.eq (λ ρ s=>rfl) q)
theorem RV.nonIff {φ:Nat->Addr}{x:kX}{v:V}(r:RV Γ φ H x v):decide (v=.non)=decide (x=.non):=by
 cases x with
 | non=>rw[r.nonE];rfl
 | bl b=>rw[r.blE];rfl
 | int i=>rw[r.intE];rfl
 | str z=>rw[r.strE];rfl
 | tup l=>obtain⟨a,h,rfl,_⟩:=r.tupE;rfl
 | ref k=>rw[r.refE];rfl
 | fn f=>unfold RV at r;obtain⟨a,_,rfl⟩:=r;rfl
 | clo f cs=>unfold RV at r;obtain⟨f,_,_,_,rfl,_⟩:=r;rfl
theorem bv3 {j pos'}(ha:EvT Γ X l (k7 F a)):EvT Γ X (.Compare l [.Is] [.Constant .none j pos'] pos) (k7 F (.isN a)):=by
 have key:∀ σ H Q,TEv Γ (k7 F (.isN a)) σ H Q->ce5 (TEv Γ (k7 F a)) σ H Q:=λ σ H Q q=>by
  obtain⟨φ,ρ,s,d,s',E,R,h,k⟩:=q
  obtain⟨x,s1,e1,h⟩:=aa1 h
  cases h
  refine⟨φ,ρ,s,x,_,E,R,e1,λ v φ1 B g1 l1 G r1 R1=>?_⟩
  show Q (.bl (decide (v=.non))) B
  rw[r1.nonIff]
  exact k _ φ1 B g1 l1 rfl RV.blI R1
 exact⟨(bn2 (bo1 ha.1)).imp key,(bm9 (bo1 ha.1)).imp λ σ H Q q=>key _ _ _ (aL4 q)⟩
theorem bg2 {j pos'}(ha:EvT Γ X l (k7 F a)):EvT Γ X (.Compare l [.IsNot] [.Constant .none j pos'] pos) (k7 F (.notN a)):=by
 have key:∀ σ H Q,TEv Γ (k7 F (.notN a)) σ H Q->bI1 (TEv Γ (k7 F a)) σ H Q:=λ σ H Q q=>by
  obtain⟨φ,ρ,s,d,s',E,R,h,k⟩:=q
  obtain⟨x,s1,e1,h⟩:=aa1 h
  cases h
  refine⟨φ,ρ,s,x,_,E,R,e1,λ v φ1 B g1 l1 G r1 R1=>?_⟩
  show Q (.bl (!decide (v=.non))) B
  rw[r1.nonIff]
  exact k _ φ1 B g1 l1 rfl RV.blI R1
 exact⟨(bn2 (aR7 ha.1)).imp key,(bm9 (aR7 ha.1)).imp λ σ H Q q=>key _ _ _ (aL4 q)⟩
theorem ba0 {op:BoolOp}{es:List Expr}{t:TT}(h:PT X (.BoolOp op es pos) t):PW X (.BoolOp op es pos) t:=by
 intro F B s σ H Q I q
 have:=h B s σ H Q I q
 have e:∀ w,dI (.BoolOp op es pos) X.env w=allTrue op es X.env:=λ w=>by rw[dI]
 rw[e]at this ⊢
 exact this
theorem bA3 (ha:EvT Γ X l (k7 F a))(hb:EvT Γ X r (k7 F b)):EvT Γ X (.BoolOp .And [l,r] pos) (k7 F (.and a b)) :=
 ⟨(bl5 ha.1 (bl4 hb.1)).imp λ σ H Q q=>bo9 (TEv.eq (λ ρ s=>rfl) q),(bk9 ha.2 (bB9 hb.2)).pt.imp λ σ H Q q=>bo0 (TTv.eq (λ ρ s=>rfl) q)⟩
theorem bz7 {es:List Expr}(ha:EvT Γ X l (k7 F a))(hb:EvT Γ X (.BoolOp .And (r::es) pos) (k7 F b)):EvT Γ X (.BoolOp .And (l::r::es) pos) (k7 F (.and a b)) :=
 ⟨(bl5 ha.1 hb.1).imp λ σ H Q q=>bo9 (TEv.eq (λ ρ s=>rfl) q),(bk9 ha.2 (ba0 hb.2)).pt.imp λ σ H Q q=>bo0 (TTv.eq (λ ρ s=>rfl) q)⟩
theorem bO2 (ha:EvT Γ X l (k7 F a))(hb:EvT Γ X r (k7 F b)):EvT Γ X (.BoolOp .Or [l,r] pos) (k7 F (.or a b)) :=
 ⟨(bH2 ha.1 (bl4 hb.1)).imp λ σ H Q q=>bG6 (TEv.eq (λ ρ s=>rfl) q),(bR2 ha.2 (bH5 hb.2)).pt.imp λ σ H Q q=>bM3 (TTv.eq (λ ρ s=>rfl) q)⟩
theorem bM4 {es:List Expr}(ha:EvT Γ X l (k7 F a))(hb:EvT Γ X (.BoolOp .Or (r::es) pos) (k7 F b)):EvT Γ X (.BoolOp .Or (l::r::es) pos) (k7 F (.or a b)) :=
 ⟨(bH2 ha.1 hb.1).imp λ σ H Q q=>bG6 (TEv.eq (λ ρ s=>rfl) q),(bR2 ha.2 (ba0 hb.2)).pt.imp λ σ H Q q=>bM3 (TTv.eq (λ ρ s=>rfl) q)⟩
theorem br5 (hc:EvT Γ X t (k7 F c))(ha:EvT Γ X l (k7 F a))(hb:EvT Γ X r (k7 F b)):EvT Γ X (.IfExp t l r pos) (k7 F (.ite c a b)) :=
 ⟨(bc9 hc.2 ha.1 hb.1).imp λ σ H Q q=>bG7 (TEv.eq (λ ρ s=>rfl) q),(bg7 hc.2 ha.2 hb.2).imp λ σ H Q q=>bT3 (TTv.eq (λ ρ s=>rfl) q)⟩
theorem bM0 (G:CG Γ F n X ck)(hs:shp r=true)(ha:EvT Γ X l (k7 F a))(hb:EvT Γ X r (k7 F b)):EvT Γ X (.Subscript l r pos) (k7 F (.ix a b)) :=
 .val ((bS7 (bS5 G.K (ah6 G.room)) ha.1 hb.1 (ap4 hs)).imp λ σ H Q q=>bj1 (TEv.eq (λ ρ s=>rfl) q))
theorem bC1 {h:Pos}(G:CG Γ F n X ck)(ha:EvT Γ X l (k7 F a))(hb:EvT Γ X r (k7 F b)):EvT Γ X (.Subscript l (.Slice none (some r) none h) pos) (k7 F (.slU a b)) :=
 .val ((bc8 (ca9 G.K) ha.1 by7 (bu6 hb.1)).imp λ σ H Q q=>(bY2 (ml:=k7 F b)).2.1 (TEv.eq (λ ρ s=>rfl) q))
end
end
section
variable {Γ:Gm} {F:lr} {n:Nat} {X:Cx} {ck:Ck} {σ:St} {H:Hp} {Q:VK}
theorem aq6:∀ {es:lB} {ρ:kZ} {s s':kW} {l:List kX} {B:List Expr} {G:Ck},lH F es ρ s=.ok l s'->mEs G es B=true->l.length=B.length
 | .nil,ρ,s,s',l,B,G,h,m=>by
  cases h
  cases B with
  | nil=>rfl
  | cons _ _=>rw[mEs]at m<;>first|cases m|(intros;simp_all)
 | .cons e es,ρ,s,s',l,B,G,h,m=>by
  obtain⟨d,s1,e1,h⟩:=aa1 h
  obtain⟨r,s2,e2,h⟩:=aa1 h
  cases h
  cases B with
  | nil=>rw[mEs]at m<;>first|cases m|(intros;simp_all)
  | cons x B =>
   rw[mEs,ah]at m
   rw[aX,aX,aq6 e2 m.2]
theorem aC4:∀ {es:lB} {B:List Expr},mEs ck es B=true->∀ x∈B,shp x=true
 | .nil,[],_,x,hx=>by cases hx
 | .nil,_::_,m,_,_=>by rw[mEs]at m<;>first|cases m|(intros;simp_all)
 | .cons e es,[],m,x,hx=>by cases hx
 | .cons e es,y::B,m,x,hx=>by
  rw[mEs,ah,ah]at m
  rcases aC.mp hx with h|h
  ·rw[h];exact m.1.2
  ·exact aC4 m.2 x h
theorem aD9:∀ {es:ma} {B:List Expr},mAs ck es B=true->∀ x∈B,shp x=true
 | .nil,[],_,x,hx=>by cases hx
 | .nil,_::_,m,_,_=>by rw[mAs]at m<;>first|cases m|(intros;simp_all)
 | .ex e es,[],m,x,hx=>by cases hx
 | .lam _ _ _,_,m,_,_=>by rw[mAs]at m<;>first|cases m|(intros;simp_all)
 | .fn _ _,_,m,_,_=>by rw[mAs]at m<;>first|cases m|(intros;simp_all)
 | .ex e es,y::B,m,x,hx=>by
  rw[mAs,ah,ah]at m
  rcases aC.mp hx with h|h
  ·rw[h];exact m.1.2
  ·exact aD9 m.2 x h
theorem aG5 {e:mz}{x:Expr}{B:List Expr}{h:kZ->kW->k6 (List kX)}(hs:shp x=true)(J:PE X x (TEv Γ (k7 F e)))(G:PA X B (TAv Γ h)) :
  PA X (x::B) (TAv Γ (λ ρ s=>(k7 F e ρ s).bind λ d s=>(h ρ s).bind λ l s=>.ok (d::l) s)) :=
 (zY J G (zh hs)).imp λ σ H Q q=>bw1 q
theorem aH9 {k:Nat}(h:k<=1000):k<=aI:=by rw[eM];omega
theorem bx7 {es:lB}{B:List Expr}{k:Nat}{pos:Pos}(m:mEs ck es B=true)(hz:B.length<=1000)(h:PA X B (TAv Γ (lH F es))):EvT Γ X (.Tuple B k pos) (k7 F (.tup es)) :=
 .val ((bH4 h).imp λ σ H Q q=>tv_tup' hz m q)
where
 tv_tup' {es:lB} {B:List Expr} {σ:St} {H:Hp} {Q:VK} (hz:B.length<=1000) (m:mEs ck es B=true) (q:TEv Γ (k7 F (.tup es)) σ H Q):cf1 (TAv Γ (lH F es)) σ H Q:=by
  obtain⟨φ,ρ,s,d,s',E,R,G,q⟩:=q
  obtain⟨l,s1,e1,G⟩:=aa1 G
  cases G
  refine⟨φ,ρ,s,l,_,E,R,e1,λ vs φ1 Z g1 l1 Y r1 R1=>⟨by rw[r1.length,aq6 e1 m];exact aH9 hz,λ p J=>?_⟩⟩
  exact(q.trans g1 l1).tup R1 r1 Y J
theorem bv2 {es:lB}{B:List Expr}{pos:Pos}(m:mEs ck es B=true)(hz:B.length<=1000)(h:PA X B (TAv Γ (lH F es))):EvT Γ X (.List B pos) (k7 F (.lst es)):=by
 refine .val ((aI1 h).imp λ σ H Q q=>?_)
 obtain⟨φ,ρ,s,d,s',E,R,G,q⟩:=q
 obtain⟨l,s1,e1,G⟩:=aa1 G
 obtain⟨rfl,rfl⟩:=zW G
 refine⟨φ,ρ,s,l,_,E,R,e1,λ vs φ1 Z g1 l1 Y r1 R1=>⟨by rw[r1.length,aq6 e1 m];exact aH9 hz,λ p J=>?_⟩⟩
 exact(q.trans g1 l1).alloc R1 r1 Y J
theorem bg6 {f:String}{B:ma}{J:List Expr}{p pos:Pos}(G:CG Γ F n X ck)(hg:ck.gl (f:Str)=true)(m:mAs ck B J=true)(h:PA X J (TAv Γ (lO F B))):EvT Γ X (.Call (.Name (f:Str) p) J [] pos) (k7 F (.call f B)):=by
 refine .val ?_
 obtain⟨g1,g2,g3⟩:=G.gl hg
 rcases G.call f with hbad|⟨a,fd,ps,hF,Y,hk,hb⟩
 ·intro a0 s σ H Q I q
  obtain⟨φ,ρ,s,d,s',E,R,Z,q⟩:=q
  obtain⟨l,s1,e1,Z⟩:=aa1 Z
  rw[hbad]at Z
  cases Z
 have key:∀ σ H Q,TEv Γ (k7 F (.call f B)) σ H Q->aP9 (spV Γ (F.call f)) [] E0 (TAv Γ (lO F B)) σ H Q:=λ σ H Q q=>by
  have:=aF0 (TEv.eq (m':=λ ρ s=>(lO F B ρ s).bind λ l s=>F.call f l s) (λ ρ s=>rfl) q)
  unfold tCB at this
  unfold aP9 spV
  simpa only[bq]using this
 cases J with
 | nil =>
  have h0:PE X (.Call (.Name (f:Str) p) [] [] pos) (aP9 (spV Γ (F.call f)) [] E0 bc1):=bf7 hF G.room g1 Y hk hb .nil bT0 g2
  cases B with
  | nil =>
   refine h0.imp λ σ H Q q=>?_
   have q1:=key σ H Q q
   unfold aP9 at q1 ⊢
   exact aH2 (TAv.eq (λ ρ s=>rfl) q1)
  | _=>rw[mAs]at m<;>first|cases m|(intros;simp_all)
 | cons x J =>
  have hs:=aD9 m
  exact(aW0 hF G.room g1 Y hk hb .nil bT0 h g2 (zh (hs x (ar ..))) (zQ λ e he=>hs e (ai _ he)).1).imp key
def BiC (Γ:Gm)(X:Cx)(b:lK)(x:Str):Prop:=(∃ id,be x=some (.builtin id)/\ac6 X (.builtin id) (rCl Γ (mG b)))\/∃ T,be x=some (.type T)/\ac6 X (.type T) (rCl Γ (mG b))
theorem bK7 (G:CG Γ F n X ck){b:lK}{x:Str}(h:biT b=some x):x∈bNames/\BiC Γ X b x:=by
 cases b<;>first|cases h|skip
 ·exact⟨by decide,.inl ⟨_,cc4,be6 G.K G.calm (k:=1) rfl⟩⟩
 ·exact⟨by decide,.inl ⟨_,cb6,be6 G.K G.calm (k:=1) rfl⟩⟩
 ·exact⟨by decide,.inr ⟨_,bT1,bP3⟩⟩
 ·exact⟨by decide,.inr ⟨_,bJ1,bO4⟩⟩
 ·exact⟨by decide,.inl ⟨_,by1,be6 G.K G.calm (k:=2) rfl⟩⟩
 ·exact⟨by decide,.inl ⟨_,cc3,be6 G.K G.calm (k:=2) rfl⟩⟩
theorem bM9 {b:lK}{es:lB}{x:Str}{y:Expr}{B:List Expr}{p pos:Pos}(G:CG Γ F n X ck)(hb:biT b=some x)(hg:ck.gl x=true)(m:mEs ck es (y::B)=true)(h:PA X (y::B) (TAv Γ (lH F es))) :
  EvT Γ X (.Call (.Name x p) (y::B) [] pos) (k7 F (.bi b es)):=by
 refine .val ?_
 obtain⟨g1,g2,g3⟩:=G.gl hg
 obtain⟨Z,hc⟩:=bK7 G hb
 have hs:=aC4 m
 have s1:=zh (es:=B) (env:=X.env) (hs y (ar ..))
 have s2:=(zQ (env:=X.env) (pos:=pos) λ e he=>hs e (ai _ he)).1
 rcases hc with⟨id,Y,J⟩|⟨T,Y,J⟩
 ·exact(as8 J g1 (G.bi _ Z) Y h g3 g2 s1 s2).imp λ σ H Q q=>aF0 (TEv.eq (λ ρ s=>rfl) q)
 ·exact(am2 J g1 (G.bi _ Z) Y h g3 g2 s1 s2).imp λ σ H Q q=>aF0 (TEv.eq (λ ρ s=>rfl) q)
theorem bP2 {b:lK}{k:Nat}{t:Str}(h:biK b=some (k,t)):(1<=k/\k<=5)/\t∈bNames/\be t=some (.type (am9 k))/\mG b=mR (m6 k):=by
 cases b<;>cases h
 ·exact⟨by omega,by decide,bT1,rfl⟩
 ·exact⟨by omega,by decide,bP0,rfl⟩
 ·exact⟨by omega,by decide,bJ1,rfl⟩
 ·exact⟨by omega,by decide,aR5,rfl⟩
 ·exact⟨by omega,by decide,bm6,rfl⟩
noncomputable def PEs (Γ:Gm)(F:lr)(X:Cx):lB->List Expr->Prop
 | .nil,[]=>True
 | .cons e es,x::xs=>(shp x=true/\EvT Γ X x (k7 F e))/\PEs Γ F X es xs
 | _,_=>False
theorem ao3:∀ {es:lB} {B:List Expr},PEs Γ F X es B->PA X B (TAv Γ (lH F es))
 | .nil,[],_=>ad0.imp λ σ H Q q=>aH2 (TAv.eq (λ ρ s=>rfl) q)
 | .nil,_::_,h=>h.elim
 | .cons _ _,[],h=>h.elim
 | .cons e es,x::B,h=>(aG5 h.1.1 h.1.2.1 (ao3 h.2)).imp λ σ H Q q=>TAv.eq (λ ρ s=>rfl) q
theorem bx6 {b:lK}{es:lB}{k:Nat}{t:Str}{a:Expr}{p Y pos:Pos}(G:CG Γ F n X ck)(hb:biK b=some (k,t))(hg:ck.gl "isinstance"=true)(a0:ck.gl t=true)(h:PEs Γ F X es [a]) :
  EvT Γ X (.Call (.Name "isinstance" p) [a,.Name t Y] [] pos) (k7 F (.bi b es)):=by
 refine .val ?_
 obtain⟨g1,g2,g3⟩:=G.gl hg
 obtain⟨t1,t2,t3⟩:=G.gl a0
 obtain⟨hk,B,hv,J⟩:=bP2 hb
 have Z:PE X (.Name t Y) (tC (.ty (am9 k))):=bu9 t1 (G.bi _ B) hv rfl t3 t2
 cases es with
 | nil=>exact h.elim
 | cons e es =>
  cases es with
  | cons _ _=>exact h.2.elim
  | nil =>
   obtain⟨⟨hs,ha,_⟩,_⟩:=h
   have hA:PA X [a,.Name t Y] (av1 (TEv Γ (k7 F e)) (av1 (tC (.ty (am9 k))) bc1)):=zY ha (zY Z ad0 (zh rfl)) (zh hs)
   refine(as8 (bE4 G.K hk) g1 (G.bi _ (by decide)) au2 hA g3 g2 (zh hs) (zQ λ e he=>by rw[az.mp he];rfl).1).imp λ σ H Q q=>?_
   obtain⟨φ,ρ,s,d,s',E,R,B,q⟩:=q
   obtain⟨l,s1,e1,B⟩:=aa1 B
   obtain⟨x,s2,e2,e1⟩:=aa1 e1
   obtain⟨l2,s3,e3,e1⟩:=aa1 e1
   cases e3
   cases e1
   rw[J]at B
   refine⟨φ,ρ,s,x,_,E,R,e2,λ v φ1 H1 g1 l1 b1 r1 R1=>?_⟩
   exact⟨v,rfl,φ1,_,[x],d,s',R1,.cons r1 .nil,by unfold kY;rw[b1];rfl,B,q.trans g1 l1⟩
end
section
variable {Γ:Gm} {F:lr} {n:Nat} {X:Cx} {ck:Ck} {σ:St} {H:Hp}
def TAp (Γ:Gm)(cells:List (Str×Addr))(N:List Str)(m:kZ->kW->k6 (List kX)):TA:=λ σ H Q=>∃ φ ρ s l s',RE Γ φ H s.length ρ σ/\Rp Γ φ H s/\m ρ s=.ok l s' /\
 ∀ vs φ' H',Gr φ s H φ' s' H'->s.length<=s'.length->kY s'.length l=true->PVL Γ cells N σ φ' H' l vs->Rp Γ φ' H' s'->Q vs H'
theorem TAp.eq {cells:List (Str×Addr)}{N:List Str}{m m':kZ->kW->k6 (List kX)}{Q:List V->Hp->Prop}(e:∀ ρ s,m ρ s=m' ρ s)(q:TAp Γ cells N m σ H Q):TAp Γ cells N m' σ H Q:=by
 obtain⟨φ,ρ,s,l,s',E,R,h,q⟩:=q
 exact⟨φ,ρ,s,l,s',E,R,by rw[<-e];exact h,q⟩
theorem bs0 {cells:List (Str×Addr)}{N:List Str}{Q:List V->Hp->Prop}(h:TAp Γ cells N (λ ρ s=>.ok [] s) σ H Q):bc1 σ H Q:=by
 obtain⟨φ,ρ,s,l,s',E,R,B,q⟩:=h
 cases B
 exact q [] φ H (Gr.refl _ _ _) (ak _) rfl .nil R
theorem bS1 {cells:List (Str×Addr)}{N:List Str}{m:kZ->kW->k6 kX}{G:kZ->kW->k6 (List kX)}{Q:List V->Hp->Prop}(h:TAp Γ cells N (λ ρ s=>(m ρ s).bind λ d s=>(G ρ s).bind λ l s=>.ok (d::l) s) σ H Q):av1 (TEv Γ m) (TAp Γ cells N G) σ H Q:=by
 obtain⟨φ,ρ,s,l,s',E,R,B,q⟩:=h
 obtain⟨x,s1,e1,B⟩:=aa1 B
 obtain⟨y,s2,e2,B⟩:=aa1 B
 cases B
 refine⟨φ,ρ,s,x,s1,E,R,e1,λ v φ1 H1 g1 l1 J r1 R1=>?_⟩
 refine⟨φ1,ρ,s1,y,s',E.mono g1 l1,R1,e2,λ vs φ2 Z F Y b2 r2 R2=>?_⟩
 exact q (v::vs) φ2 Z (g1.trans F l1) (am l1 Y) (by unfold kY;rw[zl Y x J,b2];rfl) (.cons (PVp.mono F J (.inl r1)) r2) R2
end
section
variable {Γ:Gm} {F:lr} {n:Nat} {X:Cx} {ck:Ck} {σ:St} {H:Hp} {Q:VK}
def ci3 (K:ac)(H:Hp)(v:V)(ys:List V)(z:Bool):Prop:=(∃ a,v=.ref a/\(SqL K H a ys\/(SqT K H a ys/\(z=true->H a=some (.tup ys)))))\/∃ x:List Nat,v=.str ⟨x.toArray⟩/\x.length<=lf/\ys=sgV x
def TLv (Γ:Gm)(m:kZ->kW->k6 (List kX)):TE:=λ σ H Q=>∃ φ ρ s l s',RE Γ φ H s.length ρ σ/\Rp Γ φ H s/\m ρ s=.ok l s' /\
 ∀ v ys φ' H',Gr φ s H φ' s' H'->s.length<=s'.length->kY s'.length l=true->ci3 Γ.K H' v ys (lh l)->RVL Γ φ' H' l ys->Rp Γ φ' H' s'->Q v H'
theorem aH0 {m:kZ->kW->k6 (List kX)}(h:TLv Γ m σ H Q):TFv Γ m σ H Q:=by
 obtain⟨φ,ρ,s,l,s',E,R,B,q⟩:=h
 exact⟨φ,ρ,s,l,s',E,R,B,λ p ys φ' H' g hl hb G h0 ho r F=>q (.ref p) ys φ' H' g hl hb (.inl ⟨p,rfl,.inl (SqL.of G)⟩) r F⟩
theorem aw6 {φ:Nat->Addr}:∀ x:List Nat,RVL Γ φ H (x.map λ c=>.str [c]) (sgV x)
 | []=>.nil
 | c::x=>.cons (RV.strI (by unfold lf;simp)) (aw6 x)
theorem ap5 {k:Nat}:∀ x:List Nat,kY k (x.map λ c=>.str [c])=true
 | []=>rfl
 | c::x=>by rw[aN];unfold kY;rw[ap5 x];rfl
theorem bK0 {m:kZ->kW->k6 kX}(h:TLv Γ (λ ρ s=>(m ρ s).bind λ d s=>DV.bm1 d s) σ H Q):TEv Γ m σ H Q:=by
 obtain⟨φ,ρ,s,l,s',E,R,B,q⟩:=h
 obtain⟨d,s1,e1,B⟩:=aa1 B
 refine⟨φ,ρ,s,d,s1,E,R,e1,λ v φ1 Y g1 l1 Z r1 R1=>?_⟩
 cases d with
 | tup l' =>
  cases B
  obtain⟨a,F,⟨rfl,z1⟩,J,G⟩:=r1.tupZ
  unfold k8 at Z
  exact q _ F φ1 Y g1 l1 Z (.inl ⟨a,rfl,.inr ⟨J,z1⟩⟩) G R1
 | str x =>
  cases B
  exact q v (sgV x) φ1 Y g1 l1 (ap5 x) (.inr ⟨x,r1.strE,r1.strL,rfl⟩) (aw6 x) R1
 | ref k =>
  have B:(match s1[k]? with
   | some (.lst l)=>DV.R.ok l s1
   | some (.ro l)=>.ok l s1
   | _=>.bad)=.ok l s':=B
  rw[r1.refE]
  cases e:s1[k]? with
  | none=>rw[e]at B;exact fb B
  | some ob =>
   rw[e]at B
   cases ob with
   | lst l' =>
    cases B
    obtain⟨F,J,G⟩:=R1.addr e
    have:=R1.wf k _ e
    unfold k9 at this
    exact q _ F φ1 Y g1 l1 this (.inl ⟨_,rfl,.inl (SqL.of J)⟩) G R1
   | ro l' =>
    cases B
    obtain⟨F,J,G⟩:=R1.obj k _ e
    have:=R1.wf k _ e
    unfold k9 at this
    exact q _ F φ1 Y g1 l1 this (.inl ⟨_,rfl,.inl J.1⟩) G R1
   | _=>exact fb B
 | _=>exact fb B
theorem TLv.eq {m m':kZ->kW->k6 (List kX)}(e:∀ ρ s,m ρ s=m' ρ s)(q:TLv Γ m σ H Q):TLv Γ m' σ H Q:=by
 have:m=m':=funext λ ρ=>funext λ s=>e ρ s
 subst this;exact q
theorem aO5 {m:kZ->kW->k6 (List kX)}{a:Expr}{p pos:Pos}(G:CG Γ F n X ck)(hg:ck.gl "tuple"=true)(hs:shp a=true)(h:PE X a (TLv Γ m)) :
  PE X (.Call (.Name "tuple" p) [a] [] pos) (TEv Γ (λ ρ s=>(m ρ s).bind λ l s=>mf .tuple l s)):=by
 obtain⟨g1,g2,Z⟩:=G.gl hg
 refine(am2 ((aE2 G.K).or (aF4 G.calm)) g1 (G.bi _ (by decide)) aR5 (zY h ad0 (zh hs)) Z g2 (zh hs) rfl).imp λ σ H Q q=>?_
 obtain⟨φ,ρ,s,d,s',E,R,J,q⟩:=q
 obtain⟨l,s1,e1,J⟩:=aa1 J
 cases J
 refine⟨φ,ρ,s,l,_,E,R,e1,λ v ys φ1 H1 g1 l1 Y hq r1 R1=>?_⟩
 rcases hq with⟨a,rfl,hq|hq⟩|⟨x,rfl,hx,rfl⟩
 ·exact .inl ⟨a,ys,rfl,.inl ⟨hq,λ p B=>(q.trans g1 l1).tup R1 r1 Y B⟩⟩
 ·exact .inl ⟨a,ys,rfl,.inr ⟨hq.1,q _ φ1 H1 g1 l1 (by unfold k8;exact Y) (RV.tupC hq.1 hq.2 r1) R1⟩⟩
 ·exact .inr ⟨x,rfl,hx,λ p B=>(q.trans g1 l1).tup R1 r1 Y B⟩
theorem aV4 {m:kZ->kW->k6 (List kX)}{a:Expr}{p pos:Pos}(G:CG Γ F n X ck)(hg:ck.gl "list"=true)(hs:shp a=true)(h:PE X a (TLv Γ m)) :
  PE X (.Call (.Name "list" p) [a] [] pos) (TEv Γ (λ ρ s=>(m ρ s).bind λ l s=>mf .list l s)):=by
 obtain⟨g1,g2,Z⟩:=G.gl hg
 refine(am2 ((aM8 G.K).or (aN8 G.calm)) g1 (G.bi _ (by decide)) bm6 (zY h ad0 (zh hs)) Z g2 (zh hs) rfl).imp λ σ H Q q=>?_
 obtain⟨φ,ρ,s,d,s',E,R,J,q⟩:=q
 obtain⟨l,s1,e1,J⟩:=aa1 J
 obtain⟨rfl,rfl⟩:=zW J
 refine⟨φ,ρ,s,l,_,E,R,e1,λ v ys φ1 H1 g1 l1 Y hq r1 R1=>?_⟩
 rcases hq with⟨a,rfl,hq⟩|⟨x,rfl,hx,rfl⟩
 ·exact .inl ⟨a,ys,rfl,hq.imp id (·.1),λ p B=>(q.trans g1 l1).alloc R1 r1 Y B⟩
 ·exact .inr ⟨x,rfl,hx,λ p B=>(q.trans g1 l1).alloc R1 r1 Y B⟩
theorem bQ6 {m:kZ->kW->k6 (List kX)}{k:mJ}{x:Str}{a:Expr}{p pos:Pos}(G:CG Γ F n X ck)(hk:mkT k=some x)(hg:ck.gl x=true)(hs:shp a=true)(h:PE X a (TLv Γ m)) :
  PE X (.Call (.Name x p) [a] [] pos) (TEv Γ (λ ρ s=>(m ρ s).bind λ l s=>mf k l s)):=by
 cases k<;>cases hk
 ·exact aO5 G hg hs h
 ·exact aV4 G hg hs h
def FrC (Γ:Gm)(X:Cx)(x:Str)(k:mJ):Prop:=∃ id r,be x=some (.builtin id)/\x∈bNames/\ac6 X (.builtin id) r/\∀ φ H s l ys p d s' Q,Rp Γ φ H s->RVL Γ φ H l ys->H p=some (.lst ys)->mf k l s=.ok d s'->ad5 Γ φ s H d s' Q->r [.ref p] H Q
theorem aH3:∀(l:List Int) (a:Int),(l.foldl min a=a\/l.foldl min a∈l)/\l.foldl min a<=a/\∀ y∈l,l.foldl min a<=y
 | [],a=>⟨.inl rfl,fI _,λ y hy=>by cases hy⟩
 | b::l,a=>by
  obtain⟨B,F,h3⟩:=aH3 l (min a b)
  rw[cV]
  refine⟨?_,by omega,λ y hy=>?_⟩
  ·rcases B with h|h
   ·rw[h]
    rcases kG a b with z|z
    ·left;omega
    ·right;rw[show min a b=b by omega];exact ar ..
   ·exact .inr (ai _ h)
  ·rcases aC.mp hy with z|z
   ·rw[z];omega
   ·exact h3 y z
theorem aH5 {l:List Int}{m:Int}(h:lW l=some m):m∈l/\∀ y∈l,m<=y:=by
 cases l with
 | nil=>cases h
 | cons a l =>
  cases h
  obtain⟨F,B,h3⟩:=aH3 l a
  refine⟨?_,λ y hy=>?_⟩
  ·rcases F with h|h
   ·rw[h];exact ar ..
   ·exact ai _ h
  ·rcases aC.mp hy with z|z
   ·rw[z];exact B
   ·exact h3 y z
theorem bA8 (G:CG Γ F n X ck){k:mJ}{x:Str}(hk:mkF k=some x):FrC Γ X x k:=by
 cases k<;>cases hk
 ·refine⟨_,_,bZ3,by decide,aW9 G.calm G.K,λ φ H s l ys p d s' Q R r J h q=>?_⟩
  unfold mf at h
  dsimp only at h
  cases e:lZ l with
  | none=>rw[e]at h;exact fb h
  | some bs =>
   rw[e]at h
   cases h
   have:=ak7 e
   subst this
   exact⟨p,bs,rfl,SqL.of (by rw[<-r.bls];exact J),q.here R rfl RV.blI⟩
 ·refine⟨_,_,by1,by decide,bb2 G.calm G.K,λ φ H s l ys p d s' Q R r J h q=>?_⟩
  unfold mf at h
  dsimp only at h
  cases e:lV l with
  | none=>rw[e]at h;exact fb h
  | some is =>
   rw[e]at h
   have h:(match lW is with|some m=>DV.R.ok (DV.D.int m) s|none=>.bad)=.ok d s':=h
   cases e2:lW is with
   | none=>rw[e2]at h;exact fb h
   | some mm =>
    rw[e2]at h
    cases h
    have:=z9 e
    subst this
    refine⟨p,is,rfl,SqL.of (by rw[<-r.ints];exact J),(λ(z:is=[])=>by rw[z]at e2;cases e2),λ m h B=>?_⟩
    obtain⟨a,b⟩:=aH5 e2
    have:m=mm:=jO (B mm a) (b m h)
    rw[this]
    exact q.here R rfl RV.intI
theorem bR9 {m:kZ->kW->k6 (List kX)}{k:mJ}{x:Str}{a:Expr}{p pos:Pos}(G:CG Γ F n X ck)(hk:mkF k=some x)(hg:ck.gl x=true)(hs:shp a=true)(h:PE X a (TFv Γ m)) :
  PE X (.Call (.Name x p) [a] [] pos) (TEv Γ (λ ρ s=>(m ρ s).bind λ l s=>mf k l s)):=by
 obtain⟨g1,g2,Y⟩:=G.gl hg
 obtain⟨id,r,hb,hx,hc,hr⟩:=bA8 (Γ:=Γ) G hk
 refine(as8 hc g1 (G.bi _ hx) hb (zY h ad0 (zh hs)) Y g2 (zh hs) rfl).imp λ σ H Q q=>?_
 obtain⟨φ,ρ,s,d,s',E,R,B,q⟩:=q
 obtain⟨l,s1,e1,B⟩:=aa1 B
 exact⟨φ,ρ,s,l,_,E,R,e1,λ p ys φ1 Z g1 l1 b1 J h0 ho r1 R1=>hr φ1 Z s1 l ys p d s' Q R1 r1 J B (q.trans g1 l1)⟩
theorem bJ7 {md:kZ->kW->k6 (kX)}{ml:kZ->kW->k6 (List kX)}{a de:Expr}{p pos kp:Pos}(G:CG Γ F n X ck)(hg:ck.gl "min"=true)(hs:shp a=true)(h:PE X a (TFv Γ ml))(hd:PE X de (TEv Γ md)) :
  PE X (.Call (.Name "min" p) [a] [⟨some "default",de,kp⟩] pos) (TEv Γ (λ ρ s=>(ml ρ s).bind λ l s=>(md ρ s).bind λ d s=>DV.mkD .min l d s)):=by
 obtain⟨g1,g2,g3⟩:=G.gl hg
 refine(bv4 rfl G.calm g1 (G.bi _ (by decide)) h hd (zh hs)).imp λ σ H Q q=>?_
 obtain⟨φ,ρ,s,d,s',E,R,B,q⟩:=q
 obtain⟨l,s1,e1,B⟩:=aa1 B
 obtain⟨d0,s2,e2,B⟩:=aa1 B
 refine⟨φ,ρ,s,l,s1,E,R,e1,λ p ys φ1 H1 g1 l1 b1 hp h0 ho r1 R1=>?_⟩
 refine⟨φ1,ρ,s1,d0,s2,E.mono g1 l1,R1,e2,λ v φ2 H2 g2 l2 b2 r2 R2=>?_⟩
 have a0:H2 p=some (.lst ys):=g2.fr p _ hp (by nofun) (λ i ob e mu=>ho i ob e mu)
 unfold DV.mkD at B
 dsimp only at B
 cases e:lV l with
 | none=>rw[e]at B;exact fb B
 | some is =>
  rw[e]at B
  have J:(match lW is with|some m=>DV.R.ok (DV.D.int m) s2|none=>DV.R.ok d0 s2)=.ok d s':=B
  have:=z9 e
  subst this
  have hq:=q.trans (g1.trans g2 l1) (am l1 l2)
  refine⟨p,is,rfl,SqL.of (by rw[<-r1.ints];exact a0),λ z=>?_,λ m Y Z=>?_⟩
  ·subst z
   cases J
   exact hq.here R2 b2 r2
  ·clear e2
   cases e2:lW is with
   | none =>
    cases is with
    | nil=>cases Y
    | cons _ _=>cases e2
   | some mm =>
    rw[e2]at J
    cases J
    obtain⟨x,y⟩:=aH5 e2
    have:m=mm:=jO (Z mm x) (y m Y)
    rw[this]
    exact hq.here R2 rfl RV.intI
theorem bc7 {φ φ':Nat->Addr}{s s':kW}{H':Hp}{r:Nat}{l:List kX}(R:Rp Γ φ H s)(g:Gr φ s H φ' s' H')(hb:r<s.length)(e:s'[r]?=some (.lst l)):tyV Γ.K "list" (.ref (φ r)) H:=by
 obtain⟨h,B⟩:∃ h,s[r]?=some h:=⟨s[r],aj hb⟩
 have G:=g.mu r h _ B e rfl
 have ho:=R.obj r h B
 cases h with
 | lst l0 =>
  obtain⟨F,J,_⟩:=ho
  exact .inl ⟨rfl,F,SqL.of J⟩
 | ro _=>cases G
 | dic _=>have:=g.kd r _ _ B e;cases this
 | dit _=>have:=g.kd r _ _ B e;cases this
 | ins _ _=>exact ho.elim
def mtR (Γ:Gm)(m:mK):V->List V->Hp->VK->Prop:=λ x vs H Q=>∃ φ s a l d s',Rp Γ φ H s/\RV Γ φ H a x/\RVL Γ φ H l vs/\a.bnd s.length=true/\kY s.length l=true/\mV m a l s=.ok d s'/\ad5 Γ φ s H d s' Q
theorem bK6:lf<aI:=by rw[eM];decide
theorem aL2 {m:mK}{x:Str}{k:Nat}(G:mtT m=some (x,k)){a:kX}{l:List kX}{s s':kW}{d:kX}(h:mV m a l s=.ok d s'):∃ r l0,a=.ref r/\s[r]?=some (.lst l0):=by
 have go:∀ {r:Nat} {f:List kX->k6 kX},(match s[r]? with|some (.lst l)=>f l|_=>.bad)=.ok d s'->∃ l0,s[r]?=some (.lst l0):=λ {r f} h=>by
  cases e:s[r]? with
  | none=>rw[e]at h;exact fb h
  | some ob =>
   cases ob with
   | lst l0=>exact⟨l0,rfl⟩
   | _=>rw[e]at h;exact fb h
 cases a with
 | ref r =>
  have B:∀ {f:List kX->k6 kX},(match s[r]? with|some (.lst l)=>f l|_=>.bad)=.ok d s'->∃ F l0,DV.D.ref r=.ref F/\s[F]?=some (.lst l0):=λ h=>by obtain⟨l0,e⟩:=go h;exact⟨_,l0,rfl,e⟩
  cases m with
  | append=>match l with
   | [d]=>exact B h
   | []=>exact fb h
   | _::_::_=>exact fb h
  | pop=>match l with
   | []=>exact B h
   | _::_=>exact fb h
  | reverse=>match l with
   | []=>exact B h
   | _::_=>exact fb h
  | clear=>match l with
   | []=>exact B h
   | _::_=>exact fb h
  | index=>match l with
   | [d]=>exact B h
   | []=>exact fb h
   | _::_::_=>exact fb h
  | _=>exact fb h
 | _=>cases m<;>exact fb h
theorem be7:MtR X "list.append" (mtR Γ .append):=by
 intro F sh σ H x vs v us Q I rx rv h
 obtain⟨φ,s,a,l,d,s',R,ra,Y,ba,bl,B,q⟩:=h
 obtain⟨r,l0,rfl,e⟩:=aL2 (m:=.append) rfl B
 cases l with
 | nil=>exact fb B
 | cons y t =>
  cases t with
  | cons _ _=>exact fb B
  | nil =>
   simp only[mV,e]at B
   split at B
   case isFalse=>exact fb B
   rename_i hlt
   cases B
   obtain⟨z,rfl,Z⟩:=Y.one
   obtain⟨xs,h1,J⟩:=R.addr e
   have G:kY s.length l0=true:=by have:=R.wf r _ e;unfold k9 at this;exact this
   refine au5 F sh σ H x [z] v us Q I rx rv ⟨φ r,xs,z,ra.refE,rfl,h1,by rw[J.length];have:=bK6;omega,?_⟩
   exact q.put R e (J.append (.cons Z .nil)) (zO G bl) rfl RV.nonI
structure MtOk (Γ:Gm)(X:Cx)(m:mK)(x:Str):Prop where
 ex:∃ id,PySem.Slot "list" x id/\kC (.builtin id)=pure (.type "method_descriptor")/\MtR X id (mtR Γ m)
theorem bQ8 (hK:X.K=Γ.K)(B:Room (lq+1) X.A){m:mK}{x:Str}{k:Nat}(h:mtT m=some (x,k)):MtOk Γ X m x:=by
 cases m<;>cases h
 ·exact⟨_,gW,PySem.F.type_list_append,be7⟩
theorem bg3 {m:mK}{o:mz}{es:lB}{ob:Expr}{J:List Expr}{x:Str}{ap cp:Pos}(G:CG Γ F n X ck)(hm:mtT m=some (x,J.length))(hab:bL0 ob=true)(hl:(ap.endLine==cp.line)=true)(ho:PE X ob (TEv Γ (k7 F o)))
  (a2:mEs ck es J=true) (h:PEs Γ F X es J):EvT Γ X (.Call (.Attribute ob x ap) J [] cp) (k7 F (.meth m o es)):=by
 refine .val ?_
 obtain⟨id,slot,a1,hr⟩:=(bQ8 (Γ:=Γ) (X:=X) G.K (G.room.mono G.deep) hm).ex
 have hs:=aC4 a2
 have key:∀ σ H Q,TEv Γ (k7 F (.meth m o es)) σ H Q->tBM Γ.K "list" (mtR Γ m) (TEv Γ (k7 F o)) (TAv Γ (lH F es)) σ H Q:=λ σ H Q q=>by
  obtain⟨φ,ρ,s,d,s',E,R,B,q⟩:=q
  obtain⟨a,s1,e1,B⟩:=aa1 B
  obtain⟨l,s2,e2,B⟩:=aa1 B
  refine⟨φ,ρ,s,a,s1,E,R,e1,λ v φ1 H1 g1 l1 Y r1 R1=>?_⟩
  obtain⟨r,l0,rfl,er⟩:=aL2 hm B
  rw[r1.refE]
  have hk:∀ φ2 H2,Gr φ1 s1 H1 φ2 s2 H2->tyV Γ.K "list" (.ref (φ1 r)) H1:=λ φ2 H2 g2=>bc7 R1 g2 (by unfold k8 at Y;exact of_decide_eq_true Y) er
  have a0:TAv Γ (lH F es) σ H1 λ J H2=>mtR Γ m (.ref (φ1 r)) J H2 Q:=by
   refine⟨φ1,ρ,s1,l,s2,E.mono g1 l1,R1,e2,λ vs φ2 H2 g2 l2 b2 r2 R2=>?_⟩
   refine⟨φ2,s2,.ref r,l,d,s',R2,?_,r2,zl l2 _ Y,b2,B,q.trans (g1.trans g2 l1) (am l1 l2)⟩
   have:=RV.mono g2 _ _ Y r1
   rw[r1.refE]at this
   exact this
  refine⟨?_,a0⟩
  have hlt:r<s1.length:=by unfold k8 at Y;exact of_decide_eq_true Y
  obtain⟨o0,e0⟩:∃ o0,s1[r]?=some o0:=⟨s1[r],aj hlt⟩
  have Z:=R1.obj r o0 e0
  cases o0 with
  | lst l0 =>
   obtain⟨J,h1,_⟩:=Z
   exact .inl ⟨rfl,J,SqL.of h1⟩
  | ro l0 =>
   obtain⟨J,h1,_⟩:=Z
   exact .inl ⟨rfl,J,h1.1⟩
  | dic _ =>
   obtain⟨o',eo,ek⟩:=DV.ae5 G.fk es ρ s1 _ _ e2 r _ e0
   rw[er]at eo;cases eo;cases ek
  | dit _ =>
   obtain⟨o',eo,ek⟩:=DV.ae5 G.fk es ρ s1 _ _ e2 r _ e0
   rw[er]at eo;cases eo;cases ek
  | ins _ _=>exact Z.elim
 cases J with
 | nil =>
  have p0:PE X (.Call (.Attribute ob x ap) [] [] cp) (cg1 X.K "list" (mtR Γ m) (TEv Γ (k7 F o))):=bP8 gf slot a1 hr ho (aE9 hab) hl
  rw[G.K]at p0
  refine p0.imp λ σ H Q q=>?_
  cases es with
  | cons _ _=>exact h.elim
  | nil =>
   obtain⟨φ,ρ,s,d,s',E,R,B,k⟩:=key σ H Q q
   refine⟨φ,ρ,s,d,s',E,R,B,λ v φ1 H1 g1 l1 Y r1 R1=>?_⟩
   obtain⟨h1,h2⟩:=k v φ1 H1 g1 l1 Y r1 R1
   exact⟨h1,aH2 (TAv.eq (λ ρ s=>rfl) h2)⟩
 | cons y ys =>
  refine(bm2 G.K gf slot a1 hr ho (ao3 h) (aE9 hab) ?_ hl (zh (hs y (ar ..))) (zQ λ e he=>hs e (ai _ he)).1).imp key
  rw[(zQ hs).2]
  have:(y::ys).length<=1:=by
   unfold mtT at hm
   split at hm<;>first|(have:=ax hm;have:=congrArg Prod.snd this;simp at this;simp;omega)|cases hm
  simp only[fX,eW,kH]
  show(true&&decide ((y::ys).length+0+0<30))=true
  rw[fX]
  exact decide_eq_true (by omega)
end
noncomputable abbrev mkS (x:List Nat):Str:=⟨x.toArray⟩
theorem aT9 (h:List Nat):∀ B:List (List Nat),Str.join (mkS h) (B.map mkS)=mkS (l8 h B)
 | []=>rfl
 | [x]=>rfl
 | x::y::r=>by
  show mkS x++mkS h++Str.join (mkS h) ((y::r).map mkS)=mkS (x++(h++l8 h (y::r)))
  rw[aT9 h (y::r),at3,at3,cf]
theorem ak3 {c:Nat}:∀ {p:List Nat},c ∉ p->lj c p=[p]
 | [],_=>rfl
 | x::p,h=>by
  have B:x≠c:=λ z=>h (by rw[z];exact ar ..)
  show(if x=c then _ else _)=_
  rw[if_neg B,ak3 (λ z=>h (ai _ z))]
theorem aJ1 {c:Nat}{l:List Nat}:∀ {p:List Nat},c ∉ p->lj c (p++c::l)=p::lj c l
 | [],_=>by show(if c=c then _ else _)=_;rw[if_pos rfl]
 | x::p,h=>by
  have B:x≠c:=λ z=>h (by rw[z];exact ar ..)
  rw[d9]
  show(if x=c then _ else(match lj c (p++c::l)with|p::ps=>(x::p)::ps|[]=>[[x]]))=_
  rw[if_neg B,aJ1 (λ z=>h (ai _ z))]
theorem an3 {c:Nat}:∀ {ps:List (List Nat)},ps≠[]->(∀ p∈ps,c ∉ p)->lj c (l8 [c] ps)=ps
 | [],h,_=>absurd rfl h
 | [p],_,h=>ak3 (h p (ar ..))
 | p::q::ps,_,h=>by
  show lj c (p++([c]++l8 [c] (q::ps)))=_
  rw[List.singleton_append,aJ1 (h p (ar ..)),an3 (by simp) λ x hx=>h x (ai _ hx)]
theorem aQ6 (w:List Nat)(c:Nat):eF (mkS w) ⟨#[c]⟩=(lj c w).map mkS:=by
 let B:=(eF (mkS w) ⟨#[c]⟩).map λ p=>p.cps.toList
 have e1:B.map mkS=eF (mkS w) ⟨#[c]⟩:=by
  show cj _ (cj _ _)=_
  rw[bL]
  conv=>rhs;rw[<-List.map_id (eF (mkS w) ⟨#[c]⟩)]
  refine dw λ p _=>?_
  simp
 have G:B≠[]:=by
  intro z
  have:=split_pos (mkS w) ⟨#[c]⟩
  rw[<-e1,z]at this
  simp at this
 have h:∀ p∈B,c ∉ p:=λ p J=>by
  obtain⟨q,hq,rfl⟩:=aP.mp J
  exact StrLaws.split_free (mkS w) c q hq
 have hj:mkS (l8 [c] B)=mkS w:=by
  rw[<-aT9,e1]
  exact StrLaws.join_split (mkS w) ⟨#[c]⟩
 have F:l8 [c] B=w:=by
  have:=congrArg (λ x:Str=>x.cps.toList) hj
  simpa using this
 rw[<-e1,<-an3 G h,F]
theorem aA3:∀(h:List (List Nat)) (tk:Nat),Vals (h.map bq6) (strsFrom tk (h.map mkS))
 | [],_=>.nil
 | x::h,tk=>.cons ⟨tk,rfl⟩ (aA3 h (tk+1))
theorem bk0 {X:Cx}:MtR X "str.split" (λ x vs H Q=>∃(w:List Nat) (c:Nat),x=bq6 w/\vs=[.str ⟨#[c]⟩]/\w.length+2<=aI/\∀ p,H p=none->Q (.ref p) (upd H p (.lst ((lj c w).map bq6)))):=by
 intro F s σ H x vs v us Q I rx rv h
 obtain⟨w,c,rfl,rfl,hz,q⟩:=h
 obtain⟨t,rfl⟩:=(show ∃ t,v=Value.str (mkS w) t from rx)
 obtain⟨u,rfl,ru⟩:=rv.one
 obtain⟨Y,rfl⟩:=(show ∃ t,u=Value.str ⟨#[c]⟩ t from ru)
 have a0:(mkS w).length=w.length:=by simp[j0]
 have G:=aQ6 w c
 have Z:=split_le (mkS w) ⟨#[c]⟩
 have B:((lj c w).map bq6).length<=aI:=by
  rw[G,aw,a0]at Z
  rw[aw];omega
 have one:eF (mkS w) ⟨#[c]⟩=[mkS w]->∀ sh:ae,Inv X F σ H sh->EP X F σ Q (.ref sh.heap.objs.size) { sh with heap:=sh.heap.push { cls:=.type "list",data:=.seq [Value.str (mkS w) t].toArray } }:=λ e1 sh J=>by
  have e2:(lj c w).map mkS=[mkS w]:=by rw[<-G,e1]
  have e3:lj c w=[w]:=by
   cases hd:lj c w with
   | nil=>rw[hd]at e2;cases e2
   | cons a r =>
    rw[hd,aN]at e2
    cases r with
    | nil =>
     have:=congrArg (λ x:Str=>x.cps.toList) (List.head_eq_of_cons_eq e2)
     have:a=w:=by simpa using this
     rw[this]
    | cons b r=>cases List.tail_eq_of_cons_eq e2
  refine⟨.ref _,_,J.lnew (t':=sh.toks) (ys:=(lj c w).map bq6) (its:=[Value.str (mkS w) t]) ?_ B,rfl,q _ J.fresh⟩
  rw[e3]
  exact .cons ⟨t,rfl⟩ .nil
 cases h1:(decide ((mkS w).length<(⟨#[c]⟩:Str).length)||decide (iO (mkS w)<iO ⟨#[c]⟩))with
 | true =>
  refine eB cR (fu s _ t) dP (dD _ _) (meets_str_split_cannot_occur (mkS w) ⟨#[c]⟩ t Y h1) ?_
  exact one (by unfold eF;rw[if_pos h1]) s I
 | false =>
  cases hf:(gg (mkS w) ⟨#[c]⟩ 0 (mkS w).length ((mkS w).length+1)).isEmpty with
  | true =>
   refine eB cR (fu s _ t) dP (dD _ _) (meets_str_split_not_found (mkS w) ⟨#[c]⟩ t Y h1 rfl hf) ?_
   exact one (by unfold eF;rw[if_neg (by rw[h1];decide),if_pos hf]) s I
  | false =>
   have hp:Builtin.Str.partsBetween (mkS w) (gg (mkS w) ⟨#[c]⟩ 0 (mkS w).length ((mkS w).length+1)) (⟨#[c]⟩:Str).length=(lj c w).map mkS:=by
    rw[<-G]
    unfold eF
    rw[if_neg (by rw[h1];decide),if_neg (by rw[hf];decide)]
   refine eB cR (fu s _ t) dP (dD _ _) (meets_str_split_sep (mkS w) ⟨#[c]⟩ t Y h1 rfl hf (by omega) (by rw[hp,aw];rw[aw]at B;exact B)) ?_
   rw[hp]
   exact⟨.ref _,_,I.lnew (t':=_) (ys:=(lj c w).map bq6) (aA3 _ _) B,rfl,q _ I.fresh⟩
section
variable {Γ:Gm} {F:lr} {n:Nat} {X:Cx} {ck:Ck} {σ:St} {H:Hp} {Q:VK}
theorem aK9 {φ:Nat->Addr}{H:Hp}:∀ {B:List (List Nat)},(∀ w∈B,w.length<=lf)->RVL Γ φ H (B.map DV.D.str) (B.map bq6)
 | [],_=>.nil
 | w::B,h=>.cons (RV.strI (h w (ar ..))) (aK9 λ x hx=>h x (ai _ hx))
theorem av5 {m:Nat}:∀ h:List (List Nat),kY m (h.map DV.D.str)=true
 | []=>rfl
 | w::h=>by rw[aN];unfold kY;rw[av5 h];rfl
theorem ag3 {c:Nat}:∀ {l:List Nat} (w:List Nat),w∈lj c l->w.length<=l.length
 | [],w,h=>by rw[az.mp h];exact ak _
 | x::l,w,h=>by
  have h:w∈(if x=c then[]::lj c l else match lj c l with|p::ps=>(x::p)::ps|[]=>[[x]]):=h
  split at h
  ·rcases aC.mp h with rfl|h
   ·exact cc _
   ·exact dg (ag3 w h)
  ·split at h
   ·rename_i p ps e
    rcases aC.mp h with rfl|h
    ·have:=ag3 (c:=c) (l:=l) p (by rw[e];exact ar ..)
     simp only[aX];omega
    ·exact dg (ag3 w (by rw[e];exact ai _ h))
   ·rw[az.mp h];simp
theorem bK9 {o:mz}{ob:Expr}{c k:Nat}{p ap cp:Pos}(G:CG Γ F n X ck)(hab:bL0 ob=true)(hl:(ap.endLine==cp.line)=true)(ho:PE X ob (TEv Γ (k7 F o))) :
  PE X (.Call (.Attribute ob "split" ap) [.Constant (.str ⟨#[c]⟩) k p] [] cp) (TEv Γ (λ ρ s=>(k7 F o ρ s).bind λ x s=>DV.bE1 c x s)):=by
 refine(bm2 G.K PySem.F.plainAttrs_str cR PySem.F.type_str_split bk0 ho (zY aV8 ad0 rfl) (aE9 hab) rfl hl rfl rfl).imp λ σ H Q q=>?_
 obtain⟨φ,ρ,s,d,s',E,R,h,q⟩:=q
 obtain⟨x,s1,e1,h⟩:=aa1 h
 unfold DV.bE1 at h
 cases x with
 | str w =>
  have h:(if w.length+2<=lf then lM (.lst ((lj c w).map DV.D.str)) s1 else .bad)=.ok d s':=h
  split at h
  case isFalse=>exact fb h
  rename_i hz
  obtain⟨rfl,rfl⟩:=zW h
  refine⟨φ,ρ,s,_,s1,E,R,e1,λ v φ1 Y g1 l1 J r1 R1=>?_⟩
  have ev:=r1.strE
  subst ev
  refine⟨rfl,w,c,rfl,rfl,by have:=zK;omega,λ p B=>?_⟩
  exact(q.trans g1 l1).alloc R1 (aK9 λ x hx=>by have:=ag3 x hx;omega) (av5 _) B
 | _=>exact fb h
theorem PIf.imp {e:List Expr}{t t':TT}(h:PIf X e t)(i:∀ σ H Q,t' σ H Q->t σ H Q):PIf X e t':=λ B s σ H Q I q=>h B s σ H Q I (i σ H Q q)
structure CompF (Γ:Gm)(X:Cx)(m:kZ->kW->k6 (List kX))(E:Expr):Prop where
 ex:∃ elt tgt iter ifs scope pos N' caps wi g tc te,E=.ListComp elt [⟨tgt,iter,ifs,0⟩] scope pos/\zU N' caps scope X.N X.env.scope=true/\PI X tgt iter wi /\
  (∀(C:Addr) (cells:List (Str×Addr)) (s:ae) (H:Hp) (ex:List Addr),PG (zG X N' scope C cells s H ex) tgt g/\PIf (zG X N' scope C cells s H ex) ifs tc/\PE (zG X N' scope C cells s H ex) elt te) /\
  (∀ x,db iter X.env x=pure x)/\∀ σ H Q,TFv Γ m σ H Q->tComp caps wi g tc te σ H Q
theorem CompF.pe {m:kZ->kW->k6 (List kX)}{E:Expr}(h:CompF Γ X m E)(hc:X.calm=true):PE X E (TFv Γ m):=by
 obtain⟨Z,a0,iter,F,scope,pos,N',B,wi,g,tc,te,rfl,h1,J,h3,Y,G⟩:=h.ex
 exact(aZ6 N' B h1 J hc h3 Y).imp G
theorem bC4 {tg:lI}{mI:kZ->kW->k6 l6}{mc Y:kZ->kW->k6 kX}{h:List (Option Nat)}{J B iter i:Expr}{scope:Scope}{pos:Pos}(G:CG Γ F n X ck)(hm:aP8 ck tg B iter h scope=true)
  (hi:PI X B iter (TIv Γ mI)) (hc:∀ C cells s H ex,PT (zG X (ckC ck B h scope).N scope C cells s H ex) i (TTv Γ mc)) (he:∀ C cells s H ex,PE (zG X (ckC ck B h scope).N scope C cells s H ex) J (TEv Γ Y)) :
  CompF Γ X (λ ρ s=>(mI ρ s).bind λ q s0=>if q.its.length<=lf then l7 (λ s=>lG s0 s q.src) (λ d ρ s=>match ly ρ tg d with
   | some ρ=>ln (mc ρ s) λ k s=>if k then(Y ρ s).bind λ v s=>.ok (some v,ρ) s else .ok (none,ρ) s
   | none=>.bad) q.its (l9 ρ h) s0 else .bad) (.ListComp J [⟨B,iter,[i],0⟩] scope pos):=by
 obtain⟨Z,c2,c3⟩:=G.comp hm
 exact⟨J,B,iter,[i],scope,pos,_,h,_,_,_,_,rfl,Z,hi,λ C cells s H ex=>⟨(c3 C cells s H ex).2,bs3 (hc C cells s H ex),he C cells s H ex⟩,as0 c2,λ σ H Q q=>aQ8 q⟩
theorem bj5 {tg:lI}{mI:kZ->kW->k6 l6}{Z:kZ->kW->k6 kX}{h:List (Option Nat)}{J B iter:Expr}{scope:Scope}{pos:Pos}(G:CG Γ F n X ck)(Y:aP8 ck tg B iter h scope=true)
  (hi:PI X B iter (TIv Γ mI)) (he:∀ C cells s H ex,PE (zG X (ckC ck B h scope).N scope C cells s H ex) J (TEv Γ Z)) :
  CompF Γ X (λ ρ s=>(mI ρ s).bind λ q s0=>if q.its.length<=lf then l7 (λ s=>lG s0 s q.src) (λ d ρ s=>match ly ρ tg d with
   | some ρ=>(Z ρ s).bind λ v s=>.ok (some v,ρ) s
   | none=>.bad) q.its (l9 ρ h) s0 else .bad) (.ListComp J [⟨B,iter,[],0⟩] scope pos):=by
 obtain⟨c1,c2,c3⟩:=G.comp Y
 refine⟨J,B,iter,[],scope,pos,_,h,_,_,TTv Γ (λ ρ s=>.ok (.bl true) s),_,rfl,c1,hi,λ C cells s H ex=>⟨(c3 C cells s H ex).2,bC7.imp λ σ H Q q=>?_,he C cells s H ex⟩,as0 c2,λ σ H Q q=>aQ8 (TFv.eq (λ ρ s=>?_) q)⟩
 ·obtain⟨φ,ρ,s,b,s',E,R,Y,q⟩:=q
  cases Y
  exact q φ H (Gr.refl _ _ _) (ak _) R
 ·congr 1
theorem by2 {tg:Expr}{e:mz}{E:Expr}(G:CG Γ F n X ck)(h:PE X E (TEv Γ (k7 F e))):PI X tg E (TIv Γ (mB F (.seq e))):=by
 refine(PI.or (bB2 G.K h) (PI.or (bj7 G.K h) (bQ5 h))).imp λ σ H R q=>bN7 (TIv.eq (λ ρ s=>rfl) q)
theorem bf9 {tg:Expr}{a:mz}{l:Expr}{p pos:Pos}(G:CG Γ F n X ck)(hg:ck.gl "range"=true)(hs:shp l=true)(h:PE X l (TEv Γ (k7 F a))):PI X tg (.Call (.Name "range" p) [l] [] pos) (TIv Γ (mB F (.rng1 a))) :=
 (aV5 (G.gl hg).1 (G.bi _ (by decide)) (zY h ad0 (zh hs)) (zh hs)).imp λ σ H R q=>bz3 (TIv.eq (λ ρ s=>rfl) q)
theorem bJ2 (h:TEv Γ (λ ρ s=>lM (.dic []) s) σ H Q):bn6 σ H Q:=by
 obtain⟨φ,ρ,s,d,s',E,R,G,q⟩:=h
 obtain⟨rfl,rfl⟩:=zW G
 intro p F
 obtain⟨g,B⟩:=R.new (o:=.dic []) (u:=.dK []) F rfl λ φ' H' g e=>⟨[],e,rfl⟩
 exact q (.ref p) _ _ g (by simp) (by unfold k8;simp) (by unfold RV;simp) B
theorem bQ3 {mk mv:kZ->kW->k6 kX}(h:TEv Γ (λ ρ s=>(mk ρ (s++[.dic []])).bind λ kd s1=>(mv ρ s1).bind λ G s2=>if kd.key=true/\s2[s.length]?=some (.dic [])then .ok (.ref s.length) (s2.set s.length (.dic [(kd,G)]))else .bad) σ H Q):bU0 [(TEv Γ mk,TEv Γ mv)] σ H Q:=by
 obtain⟨φ,ρ,s,d,s',E,R,B,q⟩:=h
 obtain⟨kd,s1,e1,B⟩:=aa1 B
 obtain⟨G,s2,e2,B⟩:=aa1 B
 split at B
 case isFalse=>exact fb B
 rename_i hc
 cases B
 intro p hp
 obtain⟨g0,R0⟩:=R.new (o:=.dic []) (u:=.dK []) hp rfl λ φ' H' g e=>⟨[],e,rfl⟩
 have l0:s.length<=(s++[DV.O.dic []]).length:=by simp
 refine⟨_,ρ,s++[DV.O.dic []],kd,s1,E.mono g0 l0,R0,e1,λ v1 φ1 H1 g1 l1 b1 r1 R1=>?_⟩
 refine⟨φ1,ρ,s1,G,s2,(E.mono g0 l0).mono g1 l1,R1,e2,λ Z φ2 H2 J l2 b2 r2 R2=>?_⟩
 have F:φ2 s.length=p:=by
  rw[J.w.map s.length (ay (by simp) l1),g1.w.map s.length (by simp)];simp
 obtain⟨k,hk⟩:=ai7 hc.1
 have ek:=aJ4 hk (RV.mono J kd v1 b1 r1)
 obtain⟨Y,z1,z2⟩:=R2.obj s.length _ hc.2
 have z2:Y=[]:=z2
 subst z2
 rw[F]at z1
 refine⟨z1,[(k,Z)],by rw[ek];rfl,by simp,?_⟩
 have hb:(DV.O.dic [(kd,G)]).bnd s2.length=true:=by
  unfold k9
  simp only[aN,dm,kY,fW,ah]
  exact⟨zl l2 _ b1,b2⟩
 obtain⟨g3,R3⟩:=R2.set (o:=.dic [(kd,G)]) (u:=.dK [(k,Z)]) hc.2 rfl hb λ H' g e=>⟨_,e,k,Z,[],rfl,hk,RV.monoW g _ _ b2 r2,rfl⟩
 rw[F]at g3 R3
 have L:s.length<=s2.length:=am l0 (am l1 l2)
 have lt:s.length<s2.length:=ay (by simp) (am l1 l2)
 exact q (.ref p) _ _ (((g0.trans g1 l0).trans J (am l0 l1)).trans g3 L) (by rw[bj];exact L) (by unfold k8;rw[bj];exact decide_eq_true lt) (by unfold RV;rw[F]) R3
theorem bw3 {mk mv:kZ->kW->k6 kX}(h:TEv Γ (λ ρ s=>(mk ρ (s++[.dit []])).bind λ kd s1=>(mv ρ s1).bind λ G s2=>if kd.keyT=true/\s2[s.length]?=some (.dit [])then .ok (.ref s.length) (s2.set s.length (.dit [(kd,G)]))else .bad) σ H Q):bo3 (TEv Γ mk) (TEv Γ mv) σ H Q:=by
 obtain⟨φ,ρ,s,d,s',E,R,B,q⟩:=h
 obtain⟨kd,s1,e1,B⟩:=aa1 B
 obtain⟨G,s2,e2,B⟩:=aa1 B
 split at B
 case isFalse=>exact fb B
 rename_i hc
 cases B
 intro p hp
 obtain⟨g0,R0⟩:=R.new (o:=.dit []) (u:=.dT []) hp rfl λ φ' H' g e=>⟨[],e,rfl⟩
 have l0:s.length<=(s++[DV.O.dit []]).length:=by simp
 refine⟨_,ρ,s++[DV.O.dit []],kd,s1,E.mono g0 l0,R0,e1,λ v1 φ1 H1 g1 l1 b1 r1 R1=>?_⟩
 refine⟨φ1,ρ,s1,G,s2,(E.mono g0 l0).mono g1 l1,R1,e2,λ v2 φ2 H2 J Z b2 r2 R2=>?_⟩
 have F:φ2 s.length=p:=by
  rw[J.w.map s.length (ay (by simp) l1),g1.w.map s.length (by simp)];simp
 obtain⟨k,hk⟩:=af9 hc.1
 obtain⟨kb,ek,nk⟩:=aq9 hk (RV.mono J kd v1 b1 r1)
 obtain⟨Y,z1,z2⟩:=R2.obj s.length _ hc.2
 have z2:Y=[]:=z2
 subst z2
 rw[F]at z1
 refine⟨z1,kb,k,ek,nk,?_⟩
 have hb:(DV.O.dit [(kd,G)]).bnd s2.length=true:=by
  unfold k9
  simp only[aN,dm,kY,fW,ah]
  exact⟨zl Z _ b1,b2⟩
 obtain⟨g3,R3⟩:=R2.set (o:=.dit [(kd,G)]) (u:=.dT [(k,v2)]) hc.2 rfl hb λ H' g e=>⟨_,e,k,v2,[],rfl,hk,RV.monoW g _ _ b2 r2,rfl⟩
 rw[F]at g3 R3
 have L:s.length<=s2.length:=am l0 (am l1 Z)
 have lt:s.length<s2.length:=ay (by simp) (am l1 Z)
 exact q (.ref p) _ _ (((g0.trans g1 l0).trans J (am l0 l1)).trans g3 L) (by rw[bj];exact L) (by unfold k8;rw[bj];exact decide_eq_true lt) (by unfold RV;rw[F]) R3
section
variable {c:String} {kvs:List (List Nat×List Nat)} {a:Addr}
end
end
section
variable {Γ:Gm} {F:lr} {n:Nat} {X:Cx} {ck:Ck}
end
section
variable {Γ:Gm} {F:lr} {n:Nat} {X:Cx} {ck:Ck}
def TJv (Γ:Gm)(m:kZ->kW->k6 (List kX))(out:List Nat):TE:=λ σ H Q=>∃ φ ρ s l s' ws,RE Γ φ H s.length ρ σ/\Rp Γ φ H s/\m ρ s=.ok l s'/\mD l=some ws/\(out++ws.flatten).length<=lf /\
 ∀ φ' H',Gr φ s H φ' s' H'->s.length<=s'.length->Rp Γ φ' H' s'->Q (.str ⟨(out++ws.flatten).toArray⟩) H'
def PF (Γ:Gm)(X:Cx)(vs:List Expr)(m:kZ->kW->k6 (List kX)):Prop :=
 ∀(out:List Nat) (pins:List (Addr×Obj)) (s:ae) (σ:St) (H:Hp) (Q:VK),Inv X pins σ H s->TJv Γ m out σ H Q->wpAny (model X.prog X.w) X.A (joinParts ⟨out.toArray⟩ (evalEach vs X.env)) (EP X pins σ Q) X.xe s
theorem PF.eq {vs:List Expr}{m m':kZ->kW->k6 (List kX)}(e:∀ ρ s,m ρ s=m' ρ s)(h:PF Γ X vs m):PF Γ X vs m':=λ out B s σ H Q I q=>by
 obtain⟨φ,ρ,s0,l,s',ws,E,R,F,q⟩:=q
 exact h out B s σ H Q I ⟨φ,ρ,s0,l,s',ws,E,R,by rw[e];exact F,q⟩
theorem aF6 (w:List Nat):(⟨w.toArray⟩:Str).length=w.length:=by simp[j0]
theorem bK5:PF Γ X [] (λ _ s=>.ok [] s):=λ out h s σ H Q I q=>by
 obtain⟨φ,ρ,s0,l,s',ws,E,R,B,hw,hl,q⟩:=q
 cases B
 cases hw
 rw[List.flatten_nil,bq]at q hl
 exact joinParts_nilE (joinParts_nil ⟨.str ⟨out.toArray⟩,H,I.tok _,⟨_,rfl⟩,q φ H (Gr.refl _ _ _) (ak _) R⟩ (by rw[aF6];exact am hl zK))
theorem bb3 {d:kX}{l:List kX}{ws:List (List Nat)}(h:mD (d::l)=some ws):∃ w B,d=.str w/\mD l=some B/\ws=w::B:=by
 cases d with
 | str w =>
  have h:(mD l).map (w::·)=some ws:=h
  cases e:mD l with
  | none=>rw[e]at h;cases h
  | some B=>rw[e]at h;cases h;exact⟨w,B,rfl,rfl,rfl⟩
 | _=>cases h
theorem ba2 {v:Expr}{vs:List Expr}{m1:kZ->kW->k6 kX}{m2:kZ->kW->k6 (List kX)}(h2:PF Γ X vs m2)
  (h1:∀(h:List (Addr×Obj)) (s:ae) (σ:St) (H:Hp) (w:List Nat) (Q:VK),w.length<=lf->Inv X h σ H s->TEv Γ m1 σ H (λ x B=>x=.str ⟨w.toArray⟩/\Q x B) ->
   wpAny (model X.prog X.w) X.A (eval v X.env) (λ u s1=>∃ t B,u=.str ⟨w.toArray⟩ t/\Inv X h σ B s1/\Q (.str ⟨w.toArray⟩) B) X.xe s) :
  PF Γ X (v::vs) (λ ρ s=>(m1 ρ s).bind λ d s=>(m2 ρ s).bind λ l s=>.ok (d::l) s):=λ out h s σ H Q I q=>by
 obtain⟨φ,ρ,s0,l,s',ws,E,R,G,hw,hl,q⟩:=q
 obtain⟨d,s1,e1,G⟩:=aa1 G
 obtain⟨l2,s2,e2,G⟩:=aa1 G
 cases G
 obtain⟨w,Z,rfl,a0,rfl⟩:=bb3 hw
 rw[cE,<-cf]at hl q
 have J:(out++w).length<=lf:=by rw[aG]at hl;omega
 have F:w.length<=lf:=by rw[aG]at J;omega
 refine joinParts_consE (joinParts_cons (bf (h1 h s σ H w (λ x B=>∃ φ1,Gr φ s0 H φ1 s1 B/\s0.length<=s1.length/\Rp Γ φ1 B s1) F I ⟨φ,ρ,s0,.str w,s1,E,R,e1,λ v φ1 B g1 l1 b1 r1 R1=>⟨r1.strE,φ1,g1,l1,R1⟩⟩) (λ u Y hu=>?_) λ _ _ x=>x))
 obtain⟨t,B,rfl,I1,φ1,g1,l1,R1⟩:=hu
 show(_++_:Str).length<=aI/\_
 rw[at3]
 refine⟨by rw[aF6];exact am J zK,h2 (out++w) h Y σ B Q I1 ⟨φ1,ρ,s1,l2,s',Z,E.mono g1 l1,R1,e2,a0,hl,λ φ2 H2 g2 l2 R2=>q φ2 H2 (g1.trans g2 l1) (am l1 l2) R2⟩⟩
theorem bo8 {v:Expr}{F:kZ->kW->k6 kX}(hv:PE X v (TEv Γ F))(h:List (Addr×Obj))(s:ae)(σ:St)(H:Hp)(w:List Nat)(Q:VK)(I:Inv X h σ H s)(q:TEv Γ F σ H (λ x B=>x=.str ⟨w.toArray⟩/\Q x B)) :
  wpAny (model X.prog X.w) X.A (eval v X.env) (λ u s1=>∃ t B,u=.str ⟨w.toArray⟩ t/\Inv X h σ B s1/\Q (.str ⟨w.toArray⟩) B) X.xe s :=
 bf (hv h s σ H _ I q) (λ u s1 hu=>by
  obtain⟨x,B,Y,G,ex,J⟩:=hu
  subst ex
  obtain⟨t,rfl⟩:=(show ∃ t,u=Value.str ⟨w.toArray⟩ t from G)
  exact⟨t,B,rfl,Y,J⟩) λ _ _ x=>x
theorem bJ8 {v:Expr}{p:Pos}{vs:List Expr}{B:kZ->kW->k6 kX}{F:kZ->kW->k6 (List kX)}(hv:PE X v (TEv Γ B))(G:PF Γ X vs F) :
  PF Γ X (.FormattedValue v (-1) none p::vs) (λ ρ s=>(B ρ s).bind λ d s=>(F ρ s).bind λ l s=>.ok (d::l) s) :=
 ba2 G λ h s σ H w Q hw I q=>FormattedValue_plain (bf (bo8 hv h s σ H w Q I q) (λ u s1 hu=>by
  obtain⟨t,Z,rfl,Y,J⟩:=hu
  exact formatField_str (λ t' tk=>⟨t',Z,rfl,Y.tok tk,J⟩) (by rw[aF6];exact am hw zK)) λ _ _ x=>x)
theorem bR5 {v:Expr}{vs:List Expr}{F:kZ->kW->k6 kX}{B:kZ->kW->k6 (List kX)}(hv:PE X v (TEv Γ F))(G:PF Γ X vs B) :
  PF Γ X (v::vs) (λ ρ s=>(F ρ s).bind λ d s=>(B ρ s).bind λ l s=>.ok (d::l) s) :=
 ba2 G λ h s σ H w Q hw I q=>bo8 hv h s σ H w Q I q
end
section
variable {Γ:Gm} {F:lr} {n:Nat}
theorem bG3 {X:Cx}{c:DV.Cn}{v:Const}{k:Nat}{pos:Pos}(h:mC c v=true):EvT Γ X (.Constant v k pos) (k7 F (.cst c)):=by
 refine .val ?_
 unfold mC at h
 split at h
 ·exact bS0.imp λ σ H Q q=>au8 (c:=.non) (λ _=>rfl) (λ _ _=>RV.nonI) (TEv.eq (λ ρ s=>rfl) q)
 ·rename_i b c
  have e:=eq_of_beq h
  subst e
  exact bP7.imp λ σ H Q q=>au8 (c:=.bl b) (λ _=>rfl) (λ _ _=>RV.blI) (TEv.eq (λ ρ s=>rfl) q)
 ·rename_i i j
  have e:=of_decide_eq_true h
  subst e
  exact bQ9.imp λ σ H Q q=>au8 (c:=.int i) (λ _=>rfl) (λ _ _=>RV.intI) (TEv.eq (λ ρ s=>rfl) q)
 ·rename_i x y
  rw[ah]at h
  have e:=of_decide_eq_true h.1
  have e2:=of_decide_eq_true h.2
  subst e
  exact aV8.imp λ σ H Q q=>au8 (c:=.str x) (λ _=>rfl) (λ _ _=>RV.strI (by unfold lf;omega)) (TEv.eq (λ ρ s=>rfl) q)
 ·cases h
theorem by0 {X:Cx}{ck:Ck}{es:lB}{B:List Expr}{pos:Pos}(m:mEs ck es B=true)(hz:B.length<=1000)(h:PA X B (TAv Γ (lH F es))):PE X (.List B pos) (TFv Γ (DV.evL F (.disp es))):=by
 refine(aI1 h).imp λ σ H Q q=>?_
 obtain⟨φ,ρ,s,l,s',E,R,J,q⟩:=q
 refine⟨φ,ρ,s,l,s',E,R,J,λ vs φ1 Z g1 l1 Y r1 R1=>⟨by rw[r1.length,aq6 J m];exact aH9 hz,λ p G=>?_⟩⟩
 obtain⟨g2,R2⟩:=R1.same (H':=upd Z p (.lst vs)) ((ae3.refl Z).new G)
 refine q p vs φ1 _ (g1.trans g2 l1) l1 Y zB ?_ (Off.new R1 G) (RVL.mono g2 _ _ Y r1) R2
 cases e:H p with
 | none=>rfl
 | some o=>exact absurd G (g1.st p (by rw[e];simp))
theorem CompF.eq {X:Cx}{m m':kZ->kW->k6 (List kX)}{E:Expr}(c:CompF Γ X m E)(e:∀ ρ s,m' ρ s=m ρ s):CompF Γ X m' E:=by
 have:m'=m:=funext λ ρ=>funext λ s=>e ρ s
 subst this;exact c
theorem zg {a b:Bool}(h:(a&&b)=true):a=true/\b=true:=by rw[ah]at h;exact h
theorem bv9 {X:Cx}{J:Ck}{g:String}{p:Pos}(G:CG Γ F n X J)(h:J.gl (g:Str)=true):EvT Γ X (.Name (g:Str) p) (k7 F (.glob g)):=by
 refine .val ?_
 obtain⟨g1,g2,g3⟩:=G.gl h
 cases e:F.con g with
 | none =>
  intro Y s σ H Q I q
  obtain⟨φ,ρ,s,d,s',E,R,B,q⟩:=q
  have B:(match F.con g with|some d=>DV.R.ok d s|none=>.bad)=.ok d s':=B
  rw[e]at B
  cases B
 | some d =>
  obtain⟨v,u,h1,Z,h3,h4⟩:=G.con g d e
  exact(aB5 g1 h1 Z g2).imp λ σ H Q q=>au8 (c:=d) h3 h4 (TEv.eq (λ ρ s=>by show(match F.con g with|some d=>DV.R.ok d s|none=>.bad)=DV.R.ok d s;rw[e]) q)
theorem bE8 {X:Cx}{B:Ck}{i:Nat}{x:Str}{p:Pos}(G:CG Γ F n X B)(h:B.var i x=true):EvT Γ X (.Name x p) (k7 F (.var i)):=by
 refine .val ?_
 unfold Ck.var at h
 obtain⟨h,Y⟩:=zg h
 obtain⟨h,h3⟩:=zg h
 obtain⟨Z,J⟩:=zg h
 have e1:(x==("__debug__":Str))=false:=by simpa using h3
 have e2:(x==("__classdict__":Str))=false:=by simpa using Y
 exact(bG8 (by rw[G.N];exact of_decide_eq_true Z) (G.vis J) e1 e2).imp λ σ H Q q=>bE5 i (TEv.eq (λ ρ s=>rfl) q)
theorem aH4 {X:Cx}{E:Expr}{m:kZ->kW->k6 kX}(h:∀ ρ s,m ρ s=.bad):EvT Γ X E m:=by
 refine⟨λ B s σ H Q I q=>?_,λ B s σ H Q I q=>?_⟩
 ·obtain⟨φ,ρ,s,d,s',E,R,F,q⟩:=q
  rw[h]at F;exact fb F
 ·obtain⟨φ,ρ,s,d,s',E,R,F,q⟩:=q
  rw[h]at F;exact fb F
inductive LK (Γ:Gm)(X:Cx)(m:kZ->kW->k6 (List kX))(E:Expr)(k:Nat):Prop where
 | c (h:CompF Γ X m E):LK Γ X m E k
 | f (hk:1<=k) (h:PE X E (TFv Γ m)):LK Γ X m E k
 | s (hk:k=2) (h:PE X E (TLv Γ m)):LK Γ X m E k
theorem bI4 {X:Cx}{m:kZ->kW->k6 (List kX)}{E:Expr}(h:LK Γ X m E 0):CompF Γ X m E:=by
 cases h with
 | c h=>exact h
 | f hk h=>omega
 | s hk h=>omega
theorem bL8 {X:Cx}{B:Ck}{m:kZ->kW->k6 (List kX)}{E:Expr}(G:CG Γ F n X B)(h:LK Γ X m E 1):PE X E (TFv Γ m):=by
 cases h with
 | c h=>exact h.pe G.calm
 | f hk h=>exact h
 | s hk h=>omega
theorem bW5 {X:Cx}{B:Ck}{m:kZ->kW->k6 (List kX)}{E:Expr}(G:CG Γ F n X B)(h:LK Γ X m E 2):PE X E (TLv Γ m):=by
 cases h with
 | c h=>exact(h.pe G.calm).imp λ σ H Q q=>aH0 q
 | f hk h=>exact h.imp λ σ H Q q=>aH0 q
 | s hk h=>exact h
theorem biOk_inv {B:Ck}{b:lK}{x:Str}{F:List Expr}{es:lB}(h:bU1 B b x F (mEs B es F) (mEs B es (F.take 1))=true) :
  (∃ k t a y G,biK b=some (k,t)/\F=[a,.Name y G]/\x=("isinstance":Str)/\y=t/\B.gl x=true/\B.gl y=true/\mEs B es [a]=true)\/∃ a ys,F=a::ys/\biT b=some x/\B.gl x=true/\mEs B es (a::ys)=true:=by
 unfold bU1 at h
 cases hk:biK b with
 | none =>
  rw[hk]at h
  cases F with
  | nil=>exact ff h
  | cons a ys =>
   obtain⟨h,h3⟩:=zg h
   obtain⟨Y,J⟩:=zg h
   exact .inr ⟨a,ys,rfl,of_decide_eq_true Y,J,h3⟩
 | some p =>
  rw[hk]at h
  cases F with
  | nil=>exact ff h
  | cons a ys=>cases ys with
   | nil=>exact ff h
   | cons b ys=>cases b with
    | Name y G=>cases ys with
     | nil =>
      obtain⟨h,Z⟩:=zg h
      obtain⟨h,h4⟩:=zg h
      obtain⟨h,h3⟩:=zg h
      obtain⟨Y,J⟩:=zg h
      exact .inl ⟨p.1,p.2,a,y,G,rfl,rfl,of_decide_eq_true Y,of_decide_eq_true h3,J,h4,Z⟩
     | cons _ _=>exact ff h
    | _=>exact ff h
mutual
theorem sE:∀(e:mz) (E:Expr) (X:Cx) (B:Ck),CG Γ F n X B->mE B e E=true->EvT Γ X E (k7 F e)
 | .var i,E,X,B,G,h=>by
  cases E with
  | Name x p =>
   exact bE8 G h
  | _=>exact ff h
 | .cst c,E,X,B,G,h=>by
  cases E with
  | Constant v k p =>
   exact bG3 h
  | _=>exact ff h
 | .glob g,E,X,B,G,h=>by
  cases E with
  | Name x p =>
   obtain⟨Y,J⟩:=zg h
   have e:=of_decide_eq_true Y
   subst e
   exact bv9 G J
  | _=>exact ff h
 | .bin op a b,E,X,B,G,h=>by
  cases E with
  | BinOp l o r pE =>
   obtain⟨h,h3⟩:=zg h
   obtain⟨Y,J⟩:=zg h
   have e:=of_decide_eq_true Y
   subst e
   exact bq4 G op (sE a _ X B G J) (sE b _ X B G h3)
  | _=>exact ff h
 | .neg a,E,X,B,G,h=>by
  cases E with
  | UnaryOp o l p =>
   cases o with
   | USub =>
    exact by3 (sE a _ X B G h)
   | _=>exact ff h
  | _=>exact ff h
 | .not a,E,X,B,G,h=>by
  cases E with
  | UnaryOp o l p =>
   cases o with
   | Not =>
    exact bw4 (sE a _ X B G h)
   | _=>exact ff h
  | _=>exact ff h
 | .cmp op a b,E,X,B,G,h=>by
  cases E with
  | Compare l os rs pE =>
   cases os with
   | cons o os_0 =>
    cases os_0 with
    | nil =>
     cases rs with
     | cons r rs_0 =>
      cases rs_0 with
      | nil =>
       obtain⟨h,h3⟩:=zg h
       obtain⟨Y,J⟩:=zg h
       have e:=of_decide_eq_true Y
       subst e
       exact bw0 G op (aK5 h3) (sE a _ X B G J) (sE b _ X B G h3)
      | _=>exact ff h
     | _=>exact ff h
    | _=>exact ff h
   | _=>exact ff h
  | _=>exact ff h
 | .chain _ _ _ _ _,E,X,B,G,h=>ff h
 | .isN a,E,X,B,G,h=>by
  cases E with
  | Compare l os rs pE =>
   cases os with
   | cons o os1 =>
    cases o with
    | Is =>
     cases os1 with
     | nil =>
      cases rs with
      | cons r rs1 =>
       cases r with
       | Constant v k p1 =>
        cases v with
        | none =>
         cases rs1 with
         | nil =>
          exact bv3 (sE a _ X B G h)
         | _=>exact ff h
        | _=>exact ff h
       | _=>exact ff h
      | _=>exact ff h
     | _=>exact ff h
    | _=>exact ff h
   | _=>exact ff h
  | _=>exact ff h
 | .notN a,E,X,B,G,h=>by
  cases E with
  | Compare l os rs pE =>
   cases os with
   | cons o os1 =>
    cases o with
    | IsNot =>
     cases os1 with
     | nil =>
      cases rs with
      | cons r rs1 =>
       cases r with
       | Constant v k p1 =>
        cases v with
        | none =>
         cases rs1 with
         | nil =>
          exact bg2 (sE a _ X B G h)
         | _=>exact ff h
        | _=>exact ff h
       | _=>exact ff h
      | _=>exact ff h
     | _=>exact ff h
    | _=>exact ff h
   | _=>exact ff h
  | _=>exact ff h
 | .isB _ _,E,X,B,G,h=>ff h
 | .notB _ _,E,X,B,G,h=>ff h
 | .and a b,E,X,B,G,h=>by
  cases E with
  | BoolOp op vs p=>cases op with
   | And =>
    cases vs with
    | nil=>exact ff h
    | cons l vs=>cases vs with
     | nil=>exact ff h
     | cons r vs=>cases vs with
      | nil =>
       obtain⟨Y,J⟩:=zg h
       exact bA3 (sE a _ X B G Y) (sE b _ X B G J)
      | cons r2 vs =>
       obtain⟨Y,J⟩:=zg h
       exact bz7 (sE a _ X B G Y) (sE b _ X B G J)
   | _=>exact ff h
  | _=>exact ff h
 | .or a b,E,X,B,G,h=>by
  cases E with
  | BoolOp op vs p=>cases op with
   | Or =>
    cases vs with
    | nil=>exact ff h
    | cons l vs=>cases vs with
     | nil=>exact ff h
     | cons r vs=>cases vs with
      | nil =>
       obtain⟨Y,J⟩:=zg h
       exact bO2 (sE a _ X B G Y) (sE b _ X B G J)
      | cons r2 vs =>
       obtain⟨Y,J⟩:=zg h
       exact bM4 (sE a _ X B G Y) (sE b _ X B G J)
   | _=>exact ff h
  | _=>exact ff h
 | .ite c a b,E,X,B,G,h=>by
  cases E with
  | IfExp tE l r pE =>
   obtain⟨h,h3⟩:=zg h
   obtain⟨Y,J⟩:=zg h
   exact br5 (sE c _ X B G Y) (sE a _ X B G J) (sE b _ X B G h3)
  | _=>exact ff h
 | .tup es,E,X,B,G,h=>by
  cases E with
  | Tuple xs k p =>
   obtain⟨Y,J⟩:=zg h
   exact bx7 Y (of_decide_eq_true J) (ao3 (sEs es _ X B G Y))
  | _=>exact ff h
 | .lst es,E,X,B,G,h=>by
  cases E with
  | List xs p =>
   obtain⟨Y,J⟩:=zg h
   exact bv2 Y (of_decide_eq_true J) (ao3 (sEs es _ X B G Y))
  | _=>exact ff h
 | .dic .nil .nil,E,X,B,G,h=>by
  cases E with
  | Dict a b p=>cases a with
   | nil=>cases b with
    | nil=>exact .val (bc5.imp λ σ H Q q=>bJ2 (TEv.eq (λ ρ s=>rfl) q))
    | _=>exact ff h
   | cons x a=>cases x with
    | none=>exact ff h
    | some x=>cases a with
     | nil=>cases b with
      | nil=>exact ff h
      | cons y b=>cases b with
       | nil=>exact ff h
       | _=>exact ff h
     | _=>exact ff h
  | _=>exact ff h
 | .dic (.cons k .nil) (.cons v .nil),E,X,B,G,h=>by
  cases E with
  | Dict a b p=>cases a with
   | nil=>cases b with
    | nil=>exact ff h
    | _=>exact ff h
   | cons x a=>cases x with
    | none=>exact ff h
    | some x=>cases a with
     | nil=>cases b with
      | nil=>exact ff h
      | cons y b=>cases b with
       | nil =>
        obtain⟨Y,J⟩:=zg h
        obtain⟨Y,_⟩:=zg Y
        obtain⟨Y,_⟩:=zg Y
        obtain⟨J,_⟩:=zg J
        obtain⟨J,_⟩:=zg J
        exact .val ((bw7 (aI4 (sE k _ X B G Y).1 (sE v _ X B G J).1 aQ5) rfl rfl (by nofun) (by show 1<=15;decide)).imp λ σ H Q q=>bQ3 (TEv.eq (λ ρ s=>rfl) q))
       | _=>exact ff h
     | _=>exact ff h
  | _=>exact ff h
 | .dic .nil (.cons _ _),E,X,B,G,h=>aH4 λ _ _=>rfl
 | .dic (.cons _ .nil) .nil,E,X,B,G,h=>aH4 λ _ _=>rfl
 | .dic (.cons _ .nil) (.cons _ (.cons _ _)),E,X,B,G,h=>aH4 λ _ _=>rfl
 | .dic (.cons _ (.cons _ _)) _,E,X,B,G,h=>aH4 λ _ _=>rfl
 | .bitl _,E,X,B,G,h=>ff h
 | .fstr _,E,X,B,G,h=>ff h
 | .inC _ _,E,X,B,G,h=>ff h
 | .getC _ _,E,X,B,G,h=>ff h
 | .lrng _,E,X,B,G,h=>ff h
 | .dicU k v,E,X,B,G,h=>by
  cases E with
  | Dict a b p=>cases a with
   | nil=>exact ff h
   | cons x a=>cases x with
    | none=>cases a with|nil=>exact ff h|_=>exact ff h
    | some x=>cases a with
     | nil=>cases b with
      | nil=>exact ff h
      | cons y b=>cases b with
       | nil =>
        obtain⟨Y,J⟩:=zg h
        exact .val ((bd9 (Nat.lt_of_succ_lt (ah6 G.room)) (sE k _ X B G Y).1 (sE v _ X B G J).1).imp λ σ H Q q=>bw3 (TEv.eq (λ ρ s=>rfl) q))
       | _=>exact ff h
     | _=>exact ff h
  | _=>exact ff h
 | .dicT,E,X,B,G,h=>ff h
 | .get2 _ _ _,E,X,B,G,h=>ff h
 | .ix a b,E,X,B,G,h=>by
  cases E with
  | Subscript o i p =>
   obtain⟨Y,J⟩:=zg h
   exact bM0 G (aK5 J) (sE a _ X B G Y) (sE b _ X B G J)
  | _=>exact ff h
 | .slL _ _,E,X,B,G,h=>ff h
 | .slU a hi,E,X,B,G,h=>by
  cases E with
  | Subscript o i p =>
   cases i with
   | Slice lo hi st p2 =>
    cases lo with
    | none =>
     cases hi with
     | some l =>
      cases st with
      | none =>
       obtain⟨Y,J⟩:=zg h
       exact bC1 G (sE a _ X B G Y) (sE hi _ X B G J)
      | _=>exact ff h
     | _=>exact ff h
    | _=>exact ff h
   | _=>exact ff h
  | _=>exact ff h
 | .slLU _ _ _,E,X,B,G,h=>ff h
 | .rev _,E,X,B,G,h=>ff h
 | .call f as,E,X,B,G,h=>by
  cases E with
  | Call fE xs kw p =>
   cases fE with
   | Name x pN =>
    cases kw with
    | nil =>
     obtain⟨h,h3⟩:=zg h
     obtain⟨Y,J⟩:=zg h
     have e:=of_decide_eq_true Y
     subst e
     exact bg6 G J h3 (sAs as _ X B G h3)
    | _=>exact ff h
   | _=>exact ff h
  | _=>exact ff h
 | .callC _ _,E,X,B,G,h=>ff h
 | .callV _ _,E,X,B,G,h=>ff h
 | .bi b es,E,X,B,G,h=>by
  cases E with
  | Call fE xs kw p =>
   cases fE with
   | Name x pN =>
    cases kw with
    | nil =>
     have h:bU1 B b x xs (mEs B es xs) (mEs B es (xs.take 1))=true:=h
     rcases biOk_inv h with⟨k,t,a,y,py,hk,rfl,rfl,rfl,J,h4,Z⟩|⟨a,ys,rfl,Y,J,h3⟩
     ·exact bx6 G hk J h4 (sEs es _ X B G Z)
     ·exact bM9 G Y J h3 (ao3 (sEs es _ X B G h3))
    | _=>exact ff h
   | _=>exact ff h
  | _=>exact ff h
 | .mk k l,E,X,B,G,h=>by
  cases E with
  | ListComp e gs sc p =>
   obtain⟨Y,J⟩:=zg h
   have e:=of_decide_eq_true Y
   subst e
   exact .val (((bI4 (sL l _ X B G 0 J)).pe G.calm).imp λ σ H Q q=>aT1 (TEv.eq (λ ρ s=>rfl) q))
  | Call fE xs kw p =>
   cases fE with
   | Name x pN =>
    cases xs with
    | cons a xs_0 =>
     cases xs_0 with
     | nil =>
      cases kw with
      | nil =>
       obtain⟨h,h4⟩:=zg h
       obtain⟨J,h3⟩:=zg h
       rw[bJ]at h4
       rcases h4 with h4|h4
       ·obtain⟨Z,h6⟩:=zg h4
        exact .val ((bQ6 G (of_decide_eq_true Z) J h3 (bW5 G (sL l _ X B G 2 h6))).imp λ σ H Q q=>TEv.eq (λ ρ s=>rfl) q)
       ·obtain⟨Z,h6⟩:=zg h4
        exact .val ((bR9 G (of_decide_eq_true Z) J h3 (bL8 G (sL l _ X B G 1 h6))).imp λ σ H Q q=>TEv.eq (λ ρ s=>rfl) q)
      | _=>exact ff h
     | _=>exact ff h
    | _=>exact ff h
   | _=>exact ff h
  | _=>exact ff h
 | .mks _ _,E,X,B,G,h=>ff h
 | .mkDs _ _ _,E,X,B,G,h=>ff h
 | .minK _ _ _,E,X,B,G,h=>ff h
 | .mkD k l d,E,X,B,G,h=>by
  cases E with
  | Call fE xs kw p =>
   cases fE with
   | Name x pN =>
    cases xs with
    | cons a xs_0 =>
     cases xs_0 with
     | nil =>
      cases kw with
      | cons kk kw1 =>
       cases kk with
       | mk ky de kp =>
        cases ky with
        | some y =>
         cases kw1 with
         | nil =>
          obtain⟨h,h7⟩:=zg h
          obtain⟨h,h6⟩:=zg h
          obtain⟨h,Z⟩:=zg h
          obtain⟨h,h3⟩:=zg h
          obtain⟨Y,J⟩:=zg h
          have e3:=of_decide_eq_true J
          subst e3
          obtain⟨e,e2⟩:=zg Y
          have e:=of_decide_eq_true e
          have e2:=of_decide_eq_true e2
          subst e e2
          exact .val ((bJ7 G h3 Z (bL8 G (sL l _ X B G 1 h6)) (sE d _ X B G h7).1).imp λ σ H Q q=>TEv.eq (λ ρ s=>rfl) q)
         | _=>exact ff h
        | _=>exact ff h
      | _=>exact ff h
     | _=>exact ff h
    | _=>exact ff h
   | _=>exact ff h
  | _=>exact ff h
 | .meth m o es,E,X,B,G,h=>by
  cases E with
  | Call fE xs kw p =>
   cases fE with
   | Attribute ob x ap =>
    cases kw with
    | nil =>
     obtain⟨h,Z⟩:=zg h
     obtain⟨h,h4⟩:=zg h
     obtain⟨h,h3⟩:=zg h
     obtain⟨Y,J⟩:=zg h
     exact bg3 G (of_decide_eq_true Y) J h3 (sE o _ X B G h4).1 Z (sEs es _ X B G Z)
    | _=>exact ff h
   | _=>exact ff h
  | _=>exact ff h
 | .ext _ _,E,X,B,G,h=>ff h
 | .extS _ _,E,X,B,G,h=>ff h
 | .spl o c,E,X,B,G,h=>by
  cases E with
  | Call fE xs kw p =>
   cases fE with
   | Attribute ob x ap =>
    cases xs with
    | cons a xs_0 =>
     cases xs_0 with
     | nil =>
      cases kw with
      | nil =>
       obtain⟨h,Z⟩:=zg h
       obtain⟨h,h4⟩:=zg h
       obtain⟨h,h3⟩:=zg h
       obtain⟨Y,J⟩:=zg h
       have e:=of_decide_eq_true J
       subst e
       cases a with
       | Constant v k pc =>
        have ev:=of_decide_eq_true Y
        subst ev
        exact .val ((bK9 G h3 h4 (sE o _ X B G Z).1).imp λ σ H Q q=>TEv.eq (λ ρ s=>rfl) q)
       | _=>exact ff Y
      | _=>exact ff h
     | _=>exact ff h
    | _=>exact ff h
   | _=>exact ff h
  | _=>exact ff h
 | .join _ _,E,X,B,G,h=>ff h
theorem sEs:∀(es:lB) (B:List Expr) (X:Cx) (J:Ck),CG Γ F n X J->mEs J es B=true->PEs Γ F X es B
 | .nil,B,X,J,G,h=>by
  cases B with
  | nil =>
   exact trivial
  | _=>exact ff h
 | .cons e es,B,X,J,G,h=>by
  cases B with
  | cons x B =>
   obtain⟨h,h3⟩:=zg h
   obtain⟨Z,Y⟩:=zg h
   exact⟨⟨Y,sE e _ X J G Z⟩,sEs es _ X J G h3⟩
  | _=>exact ff h
theorem sFs:∀(es:lB) (J:List Expr) (X:Cx) (B:Ck),CG Γ F n X B->mFs B es J=true->PF Γ X J (lH F es)
 | .nil,J,X,B,G,h=>by
  cases J with
  | nil=>exact(bK5).eq λ _ _=>rfl
  | _=>exact ff h
 | .cons e es,J,X,B,G,h=>by
  cases J with
  | cons x J =>
   cases x with
   | FormattedValue v c sp p =>
    cases sp with
    | none =>
     obtain⟨h,h3⟩:=zg h
     obtain⟨Z,Y⟩:=zg h
     have e1:=of_decide_eq_true Z
     subst e1
     exact(bJ8 (sE e _ X B G Y).1 (sFs es _ X B G h3)).eq λ _ _=>rfl
    | _=>exact ff h
   | Constant v j p =>
    obtain⟨Z,Y⟩:=zg h
    exact(bR5 (sE e _ X B G Z).1 (sFs es _ X B G Y)).eq λ _ _=>rfl
   | _=>exact ff h
  | _=>exact ff h
theorem sAs:∀(es:ma) (B:List Expr) (X:Cx) (J:Ck),CG Γ F n X J->mAs J es B=true->PA X B (TAv Γ (lO F es))
 | .nil,B,X,J,G,h=>by
  cases B with
  | nil =>
   exact ad0.imp λ σ H Q q=>aH2 (TAv.eq (λ ρ s=>rfl) q)
  | _=>exact ff h
 | .ex e es,B,X,J,G,h=>by
  cases B with
  | cons x B =>
   obtain⟨h,h3⟩:=zg h
   obtain⟨Z,Y⟩:=zg h
   exact(aG5 Y (sE e _ X J G Z).1 (sAs es _ X J G h3)).imp λ σ H Q q=>TAv.eq (λ ρ s=>rfl) q
  | _=>exact ff h
 | .lam _ _ _,B,X,J,G,h=>ff h
 | .fn _ _,B,X,J,G,h=>ff h
theorem ci2:∀(es:ma) (B:List Expr) (X:Cx) (J:Ck),CG Γ F n X J->cd2 J es B=true->PA X B (TAp Γ X.env.cells X.N (lO F es))
 | .nil,B,X,J,G,h=>by
  cases B with
  | nil =>
   exact ad0.imp λ σ H Q q=>bs0 (TAp.eq (λ ρ s=>rfl) q)
  | _=>exact ff h
 | .ex e es,B,X,J,G,h=>by
  cases B with
  | cons x B =>
   obtain⟨h,h3⟩:=zg h
   obtain⟨Z,Y⟩:=zg h
   exact(zY (sE e _ X J G Z).1 (ci2 es _ X J G h3) (zh Y)).imp λ σ H Q q=>bS1 (TAp.eq (λ ρ s=>rfl) q)
  | _=>exact ff h
 | .lam id caps es,B,X,J,G,h=>ff h
 | .fn _ _,B,X,J,G,h=>ff h
theorem sI:∀(i:DV.I) (E tg:Expr) (X:Cx) (B:Ck),CG Γ F n X B->mI B tg i E=true->PI X tg E (TIv Γ (mB F i))
 | .seq e,E,tg,X,B,G,h=>by
  obtain⟨J,Y⟩:=zg h
  exact by2 G (sE e _ X B G J).1
 | .rng1 a,E,tg,X,B,G,h=>by
  cases E with
  | Call fE xs kw p =>
   cases fE with
   | Name x pN =>
    cases xs with
    | cons l xs_0 =>
     cases xs_0 with
     | nil =>
      cases kw with
      | nil =>
       obtain⟨h,Z⟩:=zg h
       obtain⟨h,h3⟩:=zg h
       obtain⟨J,Y⟩:=zg h
       have e:=of_decide_eq_true J
       subst e
       exact bf9 G Y Z (sE a _ X B G h3).1
      | _=>exact ff h
     | _=>exact ff h
    | _=>exact ff h
   | _=>exact ff h
  | _=>exact ff h
 | .rng2 _ _,E,tg,X,B,G,h=>ff h
 | .rngD _,E,tg,X,B,G,h=>ff h
 | .rng3 _ _ _,E,tg,X,B,G,h=>ff h
 | .enum (.seq _),E,tg,X,B,G,h=>ff h
 | .enum (.rng1 _),E,tg,X,B,G,h=>ff h
 | .enum (.rng2 _ _),E,tg,X,B,G,h=>ff h
 | .enum (.rng3 _ _ _),E,tg,X,B,G,h=>ff h
 | .enum (.rngD _),E,tg,X,B,G,h=>ff h
 | .enum (.enum _),E,tg,X,B,G,h=>ff h
 | .enum (.zip _ _),E,tg,X,B,G,h=>ff h
 | .enum (.items _),E,tg,X,B,G,h=>ff h
 | .zip (.seq _) (.seq _),E,tg,X,B,G,h=>ff h
 | .zip (.seq _) (.rng1 _),E,tg,X,B,G,h=>ff h
 | .zip (.seq _) (.rng2 _ _),E,tg,X,B,G,h=>ff h
 | .zip (.seq _) (.rng3 _ _ _),E,tg,X,B,G,h=>ff h
 | .zip (.seq _) (.rngD _),E,tg,X,B,G,h=>ff h
 | .zip (.seq _) (.enum _),E,tg,X,B,G,h=>ff h
 | .zip (.seq _) (.zip _ _),E,tg,X,B,G,h=>ff h
 | .zip (.seq _) (.items _),E,tg,X,B,G,h=>ff h
 | .zip (.rng1 _) _,E,tg,X,B,G,h=>ff h
 | .zip (.rng2 _ _) _,E,tg,X,B,G,h=>ff h
 | .zip (.rng3 _ _ _) _,E,tg,X,B,G,h=>ff h
 | .zip (.rngD _) _,E,tg,X,B,G,h=>ff h
 | .zip (.enum _) _,E,tg,X,B,G,h=>ff h
 | .zip (.zip _ _) _,E,tg,X,B,G,h=>ff h
 | .zip (.items _) _,E,tg,X,B,G,h=>ff h
 | .items _,E,tg,X,B,G,h=>ff h
theorem sL:∀(l:DV.L) (E:Expr) (X:Cx) (B:Ck),CG Γ F n X B->∀ k,mL B k l E=true->LK Γ X (DV.evL F l) E k
 | .comp tg it e caps,E,X,B,G,k,h=>by
  cases E with
  | ListComp elt gs scope p =>
   cases gs with
   | cons g gs1 =>
    cases g with
    | mk tgt iter ifs z =>
     cases ifs with
     | nil =>
      cases gs1 with
      | nil =>
       obtain⟨h,h3⟩:=zg h
       obtain⟨h,Y⟩:=zg h
       obtain⟨h0,J⟩:=zg h
       have Z:=of_decide_eq_true h0
       subst Z
       have c:=bj5 (pos:=p) G J (sI it _ _ X B G Y) λ C cells s H ex=>(sE e _ _ _ ((G.comp J).2.2 C cells s H ex).1 h3).1
       exact .c (c.eq λ ρ s=>rfl)
      | _=>exact ff h
     | _=>exact ff h
   | _=>exact ff h
  | _=>exact ff h
 | .compIf tg it i e caps,E,X,B,G,k,h=>by
  cases E with
  | ListComp elt gs scope p =>
   cases gs with
   | cons g gs1 =>
    cases g with
    | mk tgt iter ifs z =>
     cases ifs with
     | cons i1 ifs1 =>
      cases ifs1 with
      | nil =>
       cases gs1 with
       | nil =>
        obtain⟨h,h4⟩:=zg h
        obtain⟨h,h3⟩:=zg h
        obtain⟨h,Y⟩:=zg h
        obtain⟨h0,J⟩:=zg h
        have Z:=of_decide_eq_true h0
        subst Z
        have c:=bC4 (pos:=p) G J (sI it _ _ X B G Y) (λ C cells s H ex=>(sE i _ _ _ ((G.comp J).2.2 C cells s H ex).1 h3).2) λ C cells s H ex=>(sE e _ _ _ ((G.comp J).2.2 C cells s H ex).1 h4).1
        exact .c (c.eq λ ρ s=>rfl)
       | _=>exact ff h
      | _=>exact ff h
     | _=>exact ff h
   | _=>exact ff h
  | _=>exact ff h
 | .disp es,E,X,B,G,k,h=>by
  cases E with
  | List xs p =>
   obtain⟨h,Y⟩:=zg h
   obtain⟨h0,J⟩:=zg h
   exact .f (of_decide_eq_true h0) (by0 J (of_decide_eq_true Y) (ao3 (sEs es _ X B G J)))
  | _=>exact ff h
 | .seq e,E,X,B,G,k,h=>by
  obtain⟨h0,J⟩:=zg h
  exact .s (of_decide_eq_true h0) ((sE e _ X B G J).1.imp λ σ H Q q=>bK0 (TLv.eq (λ ρ s=>rfl) q))
 | .itm _,E,X,B,G,k,h=>ff h
end
end
section
variable {Γ:Gm} {F:lr} {n:Nat}
theorem bh4 {X:Cx}{ck:Ck}{m:kZ->kW->k6 (List kX)}{E:Expr}{x:Str}{i:Nat}{px pos:Pos}(G:CG Γ F n X ck)(c:CompF Γ X m E)(hi:ck.N[i]?=some x)(hl:ck.loc x=true) :
  PS X (.Assign [.Name x px] E pos) (bi3 (TFv Γ m) (ax3 i)):=by
 obtain⟨Z,a0,iter,B,scope,p2,N',h,wi,g,tc,te,rfl,h1,h2,h3,h4,h5⟩:=c.ex
 obtain⟨l1,l2⟩:=G.loc hl
 have nd:X.N.Nodup:=by rw[G.N];exact G.nd
 have J:X.N[i]?=some x:=by rw[G.N];exact hi
 generalize hb:((X.env.blockKind==.function&&X.env.kindOf x==some .local&&px.line==(Expr.ListComp Z [⟨a0,iter,B,0⟩] scope p2).pos.line&&!(scope.names.any λ(n,k)=>n==x&&(k==.local||k==.cell))))=b
 have a1:ed (.ListComp Z [⟨a0,iter,B,0⟩] scope p2) (some (.Name x px)) pos.line X.env=pure b:=by rw[<-hb];rfl
 have imp:∀ D σ H,bi3 (TFv Γ m) (ax3 i) D σ H->bi3 (tComp h wi g tc te) (ax3 i) D σ H:=λ D σ H q=>h5 _ _ _ q
 cases b with
 | true =>
  have Y:X.env.scope.names.lookup x=some .local:=by
   simp only[ah]at hb
   exact eq_of_beq hb.1.1.2
  exact(aM2 N' h nd J Y h1 h2 G.calm h3 h4 a1).imp imp
 | false=>exact(bk7 nd J l1 (aZ6 N' h h1 h2 G.calm h3 h4) a1 l2).imp imp
theorem bC3 {X:Cx}{B:Ck}{e:mz}{v:Expr}{x:Str}{i:Nat}{px pos:Pos}(G:CG Γ F n X B)(Y:B.N[i]?=some x)(hl:B.loc x=true)(h:mE B e v=true) :
  PS X (.Assign [.Name x px] v pos) (TSv Γ (DV.ex F (.asg (.one i) e))):=by
 obtain⟨l1,l2⟩:=G.loc hl
 have nd:X.N.Nodup:=by rw[G.N];exact G.nd
 have J:X.N[i]?=some x:=by rw[G.N];exact Y
 by_cases hc:ap8 v=true
 ·exact(bk7 nd J l1 (sE e v X B G h).1 (ag7 hc) l2).imp λ D σ H q=>aU6 (tg:=.one i) (TSv.eq (λ ρ s=>rfl) q)
 ·have hs:=aK5 h
  cases v with
  | ListComp elt gs sc p =>
   cases e with
   | mk k l =>
    obtain⟨h1,Z⟩:=zg h
    have e:=of_decide_eq_true h1
    subst e
    exact(bh4 G (bI4 (sL l _ X B G 0 Z)) Y hl).imp λ D σ H q=>be3 (tg:=.one i) (TSv.eq (λ ρ s=>rfl) q)
   | _=>exact ff h
  | SetComp _ _ _ _=>cases hs
  | DictComp _ _ _ _ _=>cases hs
  | _=>exact absurd rfl hc
mutual
theorem sS:∀(st:DV.S) (S:Stmt) (X:Cx) (B:Ck),CG Γ F n X B->mS B st S=true->PS X S (TSv Γ (DV.ex F st))
 | .asg tg e,S,X,B,G,h=>by
  cases S with
  | Assign ts v p =>
   cases ts with
   | cons t ts1 =>
    cases ts1 with
    | nil =>
     obtain⟨h,h3⟩:=zg h
     obtain⟨Y,J⟩:=zg h
     cases tg with
     | one i =>
      have h:=Y
      cases t with
      | Name x px =>
       obtain⟨a1,a2⟩:=zg h
       exact bC3 G (of_decide_eq_true a1) a2 J
      | _=>exact ff h
     | tup is =>
      obtain⟨a1,a2⟩:=zg h3
      have h:=Y
      cases t with
      | Tuple te tk tp=>exact(aR6 (sE e _ X B G J).1 (bh5 G Y) (show ed v (some (.Tuple te tk tp)) p.line X.env=pure false from ag7 a2) (aP5 a1) rfl).imp λ D σ H q=>aU6 (TSv.eq (λ ρ s=>rfl) q)
      | _=>exact ff h
    | _=>exact ff h
   | _=>exact ff h
  | _=>exact ff h
 | .setIx o i e,S,X,B,G,h=>by
  cases S with
  | Assign ts v p2 =>
   cases ts with
   | cons tt ts1 =>
    cases tt with
    | Subscript ob ix p1 =>
     cases ts1 with
     | nil =>
      obtain⟨h,h4⟩:=zg h
      obtain⟨h,h3⟩:=zg h
      obtain⟨Y,J⟩:=zg h
      have Z:=aK5 J
      refine(aR6 (sE e _ X B G h3).1 (bL9 (sE o _ X B G Y).1 (sE i _ X B G J).1 (bI6 (ah6 G.room)) ?_) (show ed v (some (.Subscript ob ix p1)) p2.line X.env=pure false from ag7 h4) aL8 ?_).imp λ D σ H q=>be4 (TSv.eq (λ ρ s=>rfl) q)
      ·intro w
       cases ix<;>first|rfl|cases Z
      ·rfl
     | _=>exact ff h
    | _=>exact ff h
   | _=>exact ff h
  | _=>exact ff h
 | .aug i e,S,X,B,G,h=>by
  cases S with
  | AugAssign tt op v p =>
   cases tt with
   | Name x p1 =>
    cases op with
    | Add =>
     obtain⟨h,h3⟩:=zg h
     obtain⟨Y,J⟩:=zg h
     obtain⟨l1,l2⟩:=G.loc J
     exact(bP4 (by rw[G.N];exact G.nd) (by rw[G.N];exact of_decide_eq_true Y) l1 (sE e _ X B G h3).1 bI7 l2).imp λ D σ H q=>bI5 (TSv.eq (λ ρ s=>rfl) q)
    | _=>exact ff h
   | _=>exact ff h
  | _=>exact ff h
 | .ex e,S,X,B,G,h=>by
  cases S with
  | Expr v p =>
   obtain⟨Y,J⟩:=zg h
   exact(aW6 (sE e _ X B G Y).1 (ag7 J)).imp λ D σ H q=>bz8 (TSv.eq (λ ρ s=>rfl) q)
  | _=>exact ff h
 | .ret e,S,X,B,G,h=>by
  cases S with
  | Return vo p =>
   cases vo with
   | some v =>
    exact(an9 (sE e _ X B G h).1).imp λ D σ H q=>bF0 (TSv.eq (λ ρ s=>rfl) q)
   | _=>exact ff h
  | _=>exact ff h
 | .retN,S,X,B,G,h=>by
  cases S with
  | Return vo p =>
   cases vo with
   | none =>
    exact bx5.imp λ D σ H q=>bC5 (TSv.eq (λ ρ s=>rfl) q)
   | _=>exact ff h
  | _=>exact ff h
 | .ite c a b,S,X,B,G,h=>by
  cases S with
  | If t l r p =>
   obtain⟨h,h3⟩:=zg h
   obtain⟨Y,J⟩:=zg h
   exact(bI3 (sE c _ X B G Y).2 (sSs a _ X B G J) (sSs b _ X B G h3)).imp λ D σ H q=>bX8 (TSv.eq (λ ρ s=>rfl) q)
  | _=>exact ff h
 | .whl c b,S,X,B,G,h=>by
  cases S with
  | While t l o p =>
   cases o with
   | nil =>
    obtain⟨Y,J⟩:=zg h
    exact(aK6 (by rw[G.xe];exact jP) (sE c _ X B G Y).2 (sSs b _ X B G J)).imp λ D σ H q=>bi4 (TSv.eq (λ ρ s=>rfl) q)
   | _=>exact ff h
  | _=>exact ff h
 | .for_ tg it b,S,X,B,G,h=>by
  cases S with
  | For tgt iter l o p =>
   cases o with
   | nil =>
    obtain⟨h,h3⟩:=zg h
    obtain⟨Y,J⟩:=zg h
    exact(bl8 (by rw[G.xe];exact jP) G.calm (sI it _ _ X B G J) (bh5 G Y) (sSs b _ X B G h3) (as0 (bm5 J))).imp λ D σ H q=>bF4 (TSv.eq (λ ρ s=>rfl) q)
   | _=>exact ff h
  | _=>exact ff h
 | .pass,S,X,B,G,h=>ff h
 | .cont,S,X,B,G,h=>by
  cases S with
  | Continue p =>
   exact aC2.imp λ D σ H q=>bv1 (TSv.eq (λ ρ s=>rfl) q)
  | _=>exact ff h
 | .brk,S,X,B,G,h=>ff h
 | .und _,S,X,B,G,h=>ff h
 | .raise,S,X,B,G,h=>bj3.imp λ D σ H q=>by
  obtain⟨φ,ρ,s,c,s',E,R,hm,q⟩:=q
  cases hm
theorem sSs:∀(st:DV.Ss) (S:List Stmt) (X:Cx) (B:Ck),CG Γ F n X B->mSs B st S=true->PSs X S (TSv Γ (lP F st))
 | .nil,S,X,B,G,h=>by
  cases S with
  | nil =>
   exact aA7.imp λ D σ H q=>bC9 (m:=lP F .nil) (λ ρ s=>rfl) q
  | _=>exact ff h
 | .cons s ss,S,X,B,G,h=>by
  cases S with
  | cons x xs =>
   obtain⟨Y,J⟩:=zg h
   exact(zD (sS s _ X B G Y) (sSs ss _ X B G J)).imp λ D σ H q=>bO1 (TSv.eq (λ ρ s=>rfl) q)
  | _=>exact ff h
end
end
structure XC (F:lr)(K:ac)(mg:Str->Option Value):Prop where
 at_:∀ c:String,F.xc c=true->∃ C,mg (c:Str)=some (.ref C)/\ExcCls K C/\excI K C=true
 cls:∀ c:String,F.xt c=true->∃ C,mg (c:Str)=some (.ref C)
 sub:∀(c d:String) (C D:Addr),F.xc c=true->F.xt d=true->mg (c:Str)=some (.ref C)->mg (d:Str)=some (.ref D)->bI K (.ref C) (.ref D)=some (mF c d)
section
variable {Γ:Gm} {F:lr} {n:Nat} {X:Cx} {ck:Ck} {a C:Addr} {oe:Obj}
end
noncomputable def mX (ck:Ck):ng->List Stmt->Bool
 | .no,_=>true
 | .rais c,S=>match S with|.Raise (some (.Call (.Name x _) [.Constant (.str _) _ _] [] _)) none _::_=>decide (x=(c:Str))&&ck.gl x|_=>false
 | .call f as,S=>match S with
  | .Return (some (.Call (.Name x _) (e::es) [] _)) _::_=>decide (x=(f:Str))&&ck.gl x&&mAs ck as (e::es)
  | .Expr (.Call (.Name x _) (e::es) [] _) _::_=>decide (x=(f:Str))&&ck.gl x&&mAs ck as (e::es)
  | .Return (some (.List [.Call (.Name x _) (e::es) [] _] _)) _::_=>decide (x=(f:Str))&&ck.gl x&&mAs ck as (e::es)
  | .Assign [.Name _ _] (.Call (.Name x _) (e::es) [] _) _::_=>decide (x=(f:Str))&&ck.gl x&&mAs ck as (e::es)
  | .Assign [.Name _ _] (.Subscript (.Call (.Name x _) (e::es) [] _) ix _) _::_=>decide (x=(f:Str))&&ck.gl x&&mAs ck as (e::es)&&shp ix
  | _=>false
 | .iteT c a r,S=>match S with|.If t l [] _::rest=>mE ck c t&&mX ck a l&&mX ck r rest|_=>false
 | .seq s b,S=>match S with|x::rest=>mS ck s x&&mX ck b rest|_=>false
 | .forX tg it b x,S=>match S with|.For tgt iter l [] _::_=>mTg ck tg tgt&&mI ck tgt it iter&&mSs ck b l&&mX ck x l|_=>false
 | .whlX c b x,S=>match S with|.While t l [] _::_=>mE ck c t&&mSs ck b l&&mX ck x l|_=>false
noncomputable def noL:ng->Bool
 | .iteT _ a r=>noL a&&noL r
 | .seq _ b=>noL b
 | .forX _ _ _ _=>false
 | .whlX _ _ _=>false
 | _=>true
noncomputable def noR:ng->Bool
 | .rais _=>false
 | .iteT _ a r=>noR a&&noR r
 | .seq _ b=>noR b
 | .forX _ _ _ x=>noR x
 | .whlX _ _ x=>noR x
 | _=>true
def an8 (Γ:Gm)(mg:Str->Option Value)(φ:Nat->Addr)(s:kW)(H:Hp)(c:String)(s':kW)(E:XK):Prop :=
 ∀ φ' H' a C,Gr φ s H φ' s' H'->s.length<=s'.length->Rp Γ φ' H' s'->mg (c:Str)=some (.ref C)->E (.ref a) (some C) H'
def TXv (Γ:Gm)(mg:Str->Option Value)(m:kZ->kW->Option (String×kW))(E:XK):TS:=λ _ σ H=>∃ φ ρ s c s',RE Γ φ H s.length ρ σ/\Rp Γ φ H s/\m ρ s=some (c,s')/\an8 Γ mg φ s H c s' E
def spX (Γ:Gm)(mg:Str->Option Value)(x:List kX->kW->Option (String×kW)):Sp:=λ vs H _ E=>∃ φ s l c s',Rp Γ φ H s/\RVL Γ φ H l vs/\kY s.length l=true/\x l s=some (c,s')/\an8 Γ mg φ s H c s' E
theorem an8.trans {Γ:Gm}{mg:Str->Option Value}{φ φ1:Nat->Addr}{s s1 s':kW}{H B:Hp}{c:String}{E:XK}(h:an8 Γ mg φ s H c s' E)(g:Gr φ s H φ1 s1 B)(l:s.length<=s1.length):an8 Γ mg φ1 s1 B c s' E :=
 λ φ' H' a C g' F p m=>h φ' H' a C (g.trans g' l) (am l F) p m
theorem PA.nox {X:Cx}{e:List Expr}{t:TA}(h:PA X.nox e t):PA X e t:=λ pos B s σ H Q I hw =>
 bf (h pos B s σ H Q (I.wish _) hw) (λ _ _ ⟨v,H',F,r,q⟩=>⟨v,H',F.unwish,r,q⟩) λ _ _ z=>bn z
theorem PS.nox {X:Cx}{st:Stmt}{t:TS}(h:PS X.nox st t):PS X st t:=λ B s σ H D I hw =>
 bf (h B s σ H D (I.wish _) hw) (λ _ _ q=>q.unwish) λ _ _ z=>bn z
def XOk (Γ:Gm)(prog:aA)(w:World)(K:ac)(mg:Str->Option Value)(base:Heap)(F:lr)(n:Nat):Prop:=∀ f:String,(∀ l s,F.xcall f l s=none) \/
 ∃ a fd ps,FnOk prog w K mg base (CX1 prog w) n a fd ps (spX Γ mg (F.xcall f))/\mg (f:Str)=some (.ref a)/\b9 K (.ref a)=true/\Binds K fd ps []
section
variable {Γ:Gm} {F:lr} {n:Nat} {X:Cx} {ck:Ck} {a C:Addr} {oe:Obj}
theorem aS4 {y:Str}{F pos:Pos}{e:Expr}{G:TE}(he:PE X e G)(hn:ap8 e=true)(hw:fO [.Name y F] e X.env=pure none):PS X (.Assign [.Name y F] e pos) (λ D σ H=>G σ H λ _ _=>False):=by
 intro B s σ H D I h
 exact aR6 (X:=X) (tg:=.Name y F) (pos:=pos) he bg0 (show ed e (some (.Name y F)) pos.line X.env=pure false from ag7 hn) hw rfl B s σ H D I h
theorem av3 (G:CG Γ F n X.nox ck)(XO:XOk Γ X.prog X.w X.K X.mg X.base F n){E:XK}(hp:af0 (CX1 X.prog X.w) X E){f:String}{B:ma}{e:Expr}{es:List Expr}{p pos:Pos}(hg:ck.gl (f:Str)=true)(m:mAs ck B (e::es)=true) :
  ∃ t:TE,PE X (.Call (.Name (f:Str) p) (e::es) [] pos) t/\∀ D σ H Q,TXv Γ X.mg (lQ F (.call f B)) E D σ H->t σ H Q:=by
 obtain⟨g1,g2,g3⟩:=G.gl hg
 rcases XO f with hbad|⟨a,fd,ps,Z,J,hk,hb⟩
 ·refine⟨λ _ _ _=>False,λ _ _ _ _ _ _ z=>z.elim,λ D σ H Q q=>?_⟩
  obtain⟨φ,ρ,s,c,s',Y,R,h,q⟩:=q
  change(match lO F B ρ s with|.ok l s1=>F.xcall f l s1|_=>none)=_ at h
  split at h
  ·rw[hbad]at h;cases h
  ·cases h
 ·have hs:=aD9 m
  have pa:PA X (e::es) (TAv Γ (lO F B)):=(sAs B _ X.nox ck G m).nox
  refine⟨_,aW0 Z G.room g1 J hk hb .nil hp pa g2 (zh (hs e (ar ..))) (zQ λ x hx=>hs x (ai _ hx)).1,λ D σ H Q q=>?_⟩
  obtain⟨φ,ρ,s,c,s',Y,R,h,q⟩:=q
  change(match lO F B ρ s with|.ok l s1=>F.xcall f l s1|_=>none)=_ at h
  split at h
  ·rename_i l s1 e1
   refine⟨φ,ρ,s,l,s1,Y,R,e1,λ vs φ1 H1 g1 l1 b1 r1 R1=>?_⟩
   show spX Γ X.mg (F.xcall f) (vs++[]) H1 Q E
   rw[bq]
   exact⟨φ1,s1,l,c,s',R1,r1,b1,h,q.trans g1 l1⟩
  ·cases h
theorem bK2 {mg : Str -> Option Value} {E : XK} {mI : DV.Env -> DV.Sto -> DV.R DV.Sq} {mb : DV.Env -> DV.Sto -> DV.R DV.Ct} {mx : DV.Env -> DV.Sto -> Option (String × DV.Sto)} {tg : DV.Tg} {D D0 : Ends} {σ : St} {H : Hp} (h : TXv Γ mg (λ ρ s => match mI ρ s with
      | .ok q s0 => nh (λ s => lG s0 s q.src) (λ d ρ s => match ly ρ tg d with
        | some ρ => mb ρ s
        | none => .bad) (λ d ρ s => match ly ρ tg d with
        | some ρ => mx ρ s
        | none => none) q.its ρ s0
      | _ => none) E D0 σ H) : bW3 (TIv Γ mI) (gOf Γ.K tg) (λ D σ H => TSv Γ mb D σ H \/ TXv Γ mg mx E D σ H) D σ H := by
  obtain⟨φ, ρ, s, c, s', Ev, R, hm, k⟩ := h
  dsimp only at hm
  split at hm
  case h_2 => cases hm
  rename_i q s0 e1
  refine⟨φ, ρ, s, q, s0, Ev, R, e1, λ J φ1 H1 g1 l1 b1 R1 wk => ?_⟩
  refine⟨λ i m σ' H' => ∃ φ' ρ' t, Gr φ1 s0 H1 φ' t H' /\ Rp Γ φ' H' t /\ RE Γ φ' H' t.length ρ' σ' /\ i <= q.its.length /\ m = q.its.length - i /\
    nh (λ s => lG s0 s q.src) (λ d ρ s => match ly ρ tg d with
      | some ρ => mb ρ s
      | none => .bad) (λ d ρ s => match ly ρ tg d with
      | some ρ => mx ρ s
      | none => none) (q.its.drop i) ρ' t = some (c, s'), ⟨q.its.length, ?_⟩, ?_⟩
  · exact⟨φ1, ρ, s0, Gr.refl _ _ _, R1, Ev.mono g1 l1, cc _, by simp, by rw[d6]; exact hm⟩
  · rintro i m σ' H' ⟨φ', ρ', t, g, R', E', hil, rfl, hc⟩
    have hle := g.le
    rcases gH i q.its.length with hlt|hge
    · have hd : q.its[i]? = some q.its[i] := aj hlt
      rw[du hlt]at hc
      unfold nh at hc
      split at hc
      case isFalse => cases hc
      rename_i hck
      obtain⟨hgo, hy2⟩ := (wk φ' H' t g hle R' hck i).1 hlt
      refine .inr ⟨hgo, _, λ σ2 H2 n => ⟨q.its.length - (i + 1), by omega, n⟩, λ x H2 hyl => ?_⟩
      obtain⟨sm, rv⟩ := hy2 x H2 hyl
      obtain⟨g2, R2⟩ := R'.same sm
      have rd := rv _ hd
      have bd : (q.its[i]).bnd t.length = true := zl hle _ (ae9 b1 hd)
      cases hb : ly ρ' tg q.its[i]with
      | none =>
        rw[hb]at hc
        cases hc
      | some ρ3 =>
        rw[hb]at hc
        refine be5 (E'.mono g2 (ak _)) rd bd hb λ σ3 E3 => ?_
        have go : ∀ {c1 : lE} {t3 : kW}, mb ρ3 t = .ok c1 t3 -> (∀ φ2 H4, Gr φ' t H2 φ2 t3 H4 -> t.length <= t3.length -> Rp Γ φ2 H4 t3 -> Gr φ1 s0 H1 φ2 t3 H4) := λ _ φ2 H4 g4 l4 R4 => (g.trans g2 hle).trans g4 hle
        split at hc
        · rename_i ρ1 t3 hs
          exact .inl ⟨φ', ρ3, t, .next ρ1, t3, E3, R2, hs, λ φ2 H4 g4 l4 R4 σ1 E1 => ⟨φ2, ρ1, t3, go hs φ2 H4 g4 l4 R4, R4, E1, hlt, rfl, hc⟩⟩
        · rename_i ρ1 t3 hs
          exact .inl ⟨φ', ρ3, t, .cont ρ1, t3, E3, R2, hs, λ φ2 H4 g4 l4 R4 σ1 E1 => ⟨φ2, ρ1, t3, go hs φ2 H4 g4 l4 R4, R4, E1, hlt, rfl, hc⟩⟩
        · cases hc
        · exact .inr ⟨φ', ρ3, t, c, s', E3, R2, hc, k.trans (g1.trans (g.trans g2 hle) l1) (am l1 hle)⟩
    · rw[d8 hge]at hc
      cases hc
theorem bg8 {mg:Str->Option Value}{E:XK}{mc:kZ->kW->k6 kX}{mb:kZ->kW->k6 lE}{mx:kZ->kW->Option (String×kW)}{D D0:Ends}{σ:St}{H:Hp}(h:TXv Γ mg (DV.whlX mc mb mx) E D0 σ H):aV3 (TTv Γ mc) (λ D σ H=>TSv Γ mb D σ H\/TXv Γ mg mx E D σ H) D σ H:=by
 obtain⟨φ,ρ,s,c,s',F,R,B,q⟩:=h
 unfold DV.whlX at B
 split at B
 case isFalse=>cases B
 rename_i hn
 generalize hn.choose=n at B
 refine⟨λ n σ H=>∃ φ ρ s,RE Γ φ H s.length ρ σ/\Rp Γ φ H s/\DV.zL mc mb mx n ρ s=some (c,s')/\an8 Γ mg φ s H c s' E,⟨n,φ,ρ,s,F,R,B,q⟩,?_⟩
 clear F R B q hn
 rintro n σ H ⟨φ,ρ,s,F,R,B,q⟩
 cases n with
 | zero=>cases B
 | succ n =>
  unfold DV.zL at B
  split at B
  case h_2=>cases B
  rename_i s1 e1
  refine⟨φ,ρ,s,true,s1,F,R,e1,λ φ1 H1 g1 l1 R1=>?_⟩
  show if true=true then _ else _
  rw[if_pos rfl]
  refine⟨_,λ σ' H' w=>⟨n,dr n,w⟩,?_⟩
  split at B
  ·rename_i ρ1 s2 e2
   exact .inl ⟨φ1,ρ,s1,.next ρ1,s2,F.mono g1 l1,R1,e2,λ φ2 Z G Y R2 σ1 J=>⟨φ2,ρ1,s2,J,R2,B,q.trans (g1.trans G l1) (am l1 Y)⟩⟩
  ·rename_i ρ1 s2 e2
   exact .inl ⟨φ1,ρ,s1,.cont ρ1,s2,F.mono g1 l1,R1,e2,λ φ2 Z G Y R2 σ1 J=>⟨φ2,ρ1,s2,J,R2,B,q.trans (g1.trans G l1) (am l1 Y)⟩⟩
  ·cases B
  ·exact .inr ⟨φ1,ρ,s1,c,s',F.mono g1 l1,R1,B,q.trans g1 l1⟩
theorem aA8 (G:CG Γ F n X.nox ck)(xc:XC F X.K X.mg)(XO:XOk Γ X.prog X.w X.K X.mg X.base F n){E:XK}(hp:af0 (CX1 X.prog X.w) X E):∀(b:ng) (S:List Stmt),(noR b=true\/aO7 X E)->(noL b=true\/iu (model X.prog X.w) X.A X.env X.xe)->mX ck b S=true->PSs X S (TXv Γ X.mg (lQ F b) E)
 | .no,S,_,_,h=>λ B s σ H D I q=>by
  obtain⟨_,_,_,_,_,_,_,z,_⟩:=q
  cases z
 | .rais c,S,hT,_,h=>by
  have hT:aO7 X E:=hT.elim (λ z=>by cases z) id
  cases hx:F.xc c with
  | false =>
   intro B s σ H D I q
   obtain⟨_,_,s,_,_,_,_,z,_⟩:=q
   change(if F.xc c=true then some (c,s)else none)=_ at z
   rw[hx]at z;cases z
  | true =>
   cases S with
   | nil=>exact ff h
   | cons st S=>cases st with
    | Raise v k p=>cases v with
     | none=>exact ff h
     | some v=>cases v with
      | Call g xs kw pc=>cases g with
       | Name x pn=>cases xs with
        | nil=>exact ff h
        | cons y xs=>cases y with
         | Constant cv j py=>cases cv with
          | str t=>cases xs with
           | cons _ _=>exact ff h
           | nil=>cases kw with
            | cons _ _=>exact ff h
            | nil=>cases k with
             | some _=>exact ff h
             | none =>
              obtain⟨Y,J⟩:=zg h
              have e:=of_decide_eq_true Y
              subst e
              obtain⟨g1,g2,g3⟩:=G.gl J
              obtain⟨C,hC,hE,_⟩:=xc.at_ c hx
              refine(zD (bd7 hT hE g1 hC G.room.hd g2) zI).imp λ D σ H q a=>?_
              obtain⟨φ,ρ,s,c',s',Ev,R,Z,q⟩:=q
              change(if F.xc c=true then some (c,s)else none)=_ at Z
              rw[hx,if_pos rfl]at Z
              cases Z
              exact q φ H a C (Gr.refl φ s H) (ak _) R hC
          | _=>exact ff h
         | _=>exact ff h
       | _=>exact ff h
      | _=>exact ff h
    | _=>exact ff h
 | .call f as,S,_,_,h=>by
  cases S with
  | nil=>exact ff h
  | cons st S=>cases st with
   | Return v p=>cases v with
    | none=>exact ff h
    | some v=>cases v with
     | List vs pl=>cases vs with
      | nil=>exact ff h
      | cons v vs=>cases v with
       | Call g xs kw pc=>cases g with
        | Name x pn=>cases xs with
         | nil=>cases vs with|nil=>exact ff h|cons _ _=>exact ff h
         | cons y xs=>cases kw with
          | cons _ _=>cases vs with|nil=>exact ff h|cons _ _=>exact ff h
          | nil=>cases vs with
           | cons _ _=>exact ff h
           | nil =>
            obtain⟨h,h3⟩:=zg h
            obtain⟨Y,J⟩:=zg h
            have e:=of_decide_eq_true Y
            subst e
            obtain⟨t,ht,hq⟩:=av3 G XO hp J h3
            exact(zD (an9 (aI1 (zY ht ad0 rfl))) zI).imp λ D σ H q=>hq D σ H _ q
        | _=>cases vs with|nil=>exact ff h|cons _ _=>exact ff h
       | _=>cases vs with|nil=>exact ff h|cons _ _=>exact ff h
     | Call g xs kw pc=>cases g with
      | Name x pn=>cases xs with
       | nil=>exact ff h
       | cons y xs=>cases kw with
        | cons _ _=>exact ff h
        | nil =>
         obtain⟨h,h3⟩:=zg h
         obtain⟨Y,J⟩:=zg h
         have e:=of_decide_eq_true Y
         subst e
         obtain⟨t,ht,hq⟩:=av3 G XO hp J h3
         exact(zD (an9 ht) zI).imp λ D σ H q=>hq D σ H _ q
      | _=>exact ff h
     | _=>exact ff h
   | Assign ts v p=>cases ts with
    | nil=>exact ff h
    | cons t0 ts=>cases t0 with
     | Name y py=>cases ts with
      | cons _ _=>exact ff h
      | nil=>cases v with
       | Call g xs kw pc=>cases g with
        | Name x pn=>cases xs with
         | nil=>exact ff h
         | cons y xs=>cases kw with
          | cons _ _=>exact ff h
          | nil =>
           obtain⟨h,h3⟩:=zg h
           obtain⟨Y,J⟩:=zg h
           have e:=of_decide_eq_true Y
           subst e
           obtain⟨t,ht,hq⟩:=av3 G XO hp J h3
           exact(zD (aS4 ht rfl rfl) zI).imp λ D σ H q=>hq D σ H _ q
        | _=>exact ff h
       | Subscript g ix ps=>cases g with
        | Call g xs kw pc=>cases g with
         | Name x pn=>cases xs with
          | nil=>exact ff h
          | cons y xs=>cases kw with
           | cons _ _=>exact ff h
           | nil =>
            obtain⟨h,h4⟩:=zg h
            obtain⟨h,h3⟩:=zg h
            obtain⟨Y,J⟩:=zg h
            have e:=of_decide_eq_true Y
            subst e
            obtain⟨t,ht,hq⟩:=av3 G XO hp J h3
            exact(zD (aS4 (bS7 (bS5 (Γ:=Γ) (X:=X) (show X.K=Γ.K from G.K) (ah6 G.room)) ht bk3 (ap4 h4)) rfl rfl) zI).imp λ D σ H q=>hq D σ H _ q
         | _=>exact ff h
        | _=>exact ff h
       | _=>exact ff h
     | _=>exact ff h
   | Expr v p=>cases v with
    | Call g xs kw pc=>cases g with
     | Name x pn=>cases xs with
      | nil=>exact ff h
      | cons y xs=>cases kw with
       | cons _ _=>exact ff h
       | nil =>
        obtain⟨h,h3⟩:=zg h
        obtain⟨Y,J⟩:=zg h
        have e:=of_decide_eq_true Y
        subst e
        obtain⟨t,ht,hq⟩:=av3 G XO hp J h3
        exact(zD (aW6 ht (ag7 rfl)) zI).imp λ D σ H q=>hq D σ H _ q
     | _=>exact ff h
    | _=>exact ff h
   | _=>exact ff h
 | .iteT c a r,S,hT,hL,h=>by
  cases S with
  | nil=>exact ff h
  | cons st S=>cases st with
   | If t l o p=>cases o with
    | cons _ _=>exact ff h
    | nil =>
     obtain⟨h,h3⟩:=zg h
     obtain⟨Y,J⟩:=zg h
     have a4:noR a=true\/aO7 X E:=hT.elim (λ z=>.inl (zg z).1) .inr
     have a2:noR r=true\/aO7 X E:=hT.elim (λ z=>.inl (zg z).2) .inr
     have a0:noL a=true\/_:=hL.elim (λ z=>.inl (zg z).1) .inr
     have a3:noL r=true\/_:=hL.elim (λ z=>.inl (zg z).2) .inr
     refine(zD (bI3 (sE c _ X.nox ck G Y).2.nox (aA8 G xc XO hp a _ a4 a0 J) aA7) (aA8 G xc XO hp r _ a2 a3 h3)).imp λ D σ H q=>?_
     obtain⟨φ,ρ,s,c',s',Ev,R,Z,q⟩:=q
     change(match k7 F c ρ s with|.ok (.bl b) s1=>if b then lQ F a ρ s1 else lQ F r ρ s1|_=>none)=_ at Z
     split at Z
     ·rename_i b s1 e1
      refine⟨φ,ρ,s,b,s1,Ev,R,e1,λ φ1 H1 g1 l1 R1=>?_⟩
      cases b with
      | true=>exact⟨φ1,ρ,s1,c',s',Ev.mono g1 l1,R1,Z,q.trans g1 l1⟩
      | false=>exact⟨φ1,ρ,s1,c',s',Ev.mono g1 l1,R1,Z,q.trans g1 l1⟩
     ·cases Z
   | _=>exact ff h
 | .seq st b,S,hT,hL,h=>by
  cases S with
  | nil=>exact ff h
  | cons x S =>
   obtain⟨Y,J⟩:=zg h
   refine(zD (sS st _ X.nox ck G Y).nox (aA8 G xc XO hp b _ hT hL J)).imp λ D σ H q=>?_
   obtain⟨φ,ρ,s,c',s',Ev,R,Z,q⟩:=q
   change(match DV.ex F st ρ s with|.ok (.next ρ1) s1=>lQ F b ρ1 s1|_=>none)=_ at Z
   split at Z
   ·rename_i ρ1 s1 e1
    exact⟨φ,ρ,s,.next ρ1,s1,Ev,R,e1,λ φ1 H1 g1 l1 R1 σ1 a1=>⟨φ1,ρ1,s1,c',s',a1,R1,Z,q.trans g1 l1⟩⟩
   ·cases Z
 | .forX tg it b x,S,hT,hL,h=>by
  have hL:iu (model X.prog X.w) X.A X.env X.xe:=hL.elim (λ z=>by cases z) id
  cases S with
  | nil=>exact ff h
  | cons st S=>cases st with
   | For tgt iter l o p=>cases o with
    | cons _ _=>exact ff h
    | nil =>
     obtain⟨h,h4⟩:=zg h
     obtain⟨h,h3⟩:=zg h
     obtain⟨Y,J⟩:=zg h
     have hb:PSs X l (λ D σ H=>TSv Γ (lP F b) D σ H\/TXv Γ X.mg (lQ F x) E D σ H):=λ B s σ H D I q=>q.elim (λ z=>(sSs b _ X.nox ck G h3).nox B s σ H D I z) (λ z=>aA8 G xc XO hp x _ hT (.inr hL) h4 B s σ H D I z)
     have hi:PI X tgt iter (TIv Γ (mB F it)):=(sI it _ _ X.nox ck G J).nox
     have hg:PG X tgt (gOf Γ.K tg):=(bh5 G Y).nox
     refine(zD (bl8 hL G.calm hi hg hb (as0 (bm5 J))) zI).imp λ D σ H q=>?_
     exact bK2 (mI:=mB F it) (mb:=lP F b) (mx:=lQ F x) (tg:=tg) (q:TXv Γ X.mg _ E D σ H)
   | _=>exact ff h
 | .whlX c b x,S,hT,hL,h=>by
  have hL:iu (model X.prog X.w) X.A X.env X.xe:=hL.elim (λ z=>by cases z) id
  cases S with
  | nil=>exact ff h
  | cons st S=>cases st with
   | While t l o p=>cases o with
    | cons _ _=>exact ff h
    | nil =>
     obtain⟨h,h3⟩:=zg h
     obtain⟨Y,J⟩:=zg h
     have hb:PSs X l (λ D σ H=>TSv Γ (lP F b) D σ H\/TXv Γ X.mg (lQ F x) E D σ H):=λ B s σ H D I q=>q.elim (λ z=>(sSs b _ X.nox ck G J).nox B s σ H D I z) (λ z=>aA8 G xc XO hp x _ hT (.inr hL) h3 B s σ H D I z)
     exact(zD (aK6 hL (sE c _ X.nox ck G Y).2.nox hb) zI).imp λ D σ H q=>bg8 (mc:=k7 F c) (mb:=lP F b) (mx:=lQ F x) (q:TXv Γ X.mg _ E D σ H)
   | _=>exact ff h
theorem bA0 {tb:List Stmt}{h₀:fU}{hs:List fU}{p:Pos}{t:TS}(hx:X.xe=λ _ _=>False)(h:PSs X tb t):PS X (.Try tb (h₀::hs) [] [] p) t:=by
 intro B s σ H D I q
 refine jD (bf (h B s σ H D I q) (λ f s1 z=>?_) (λ e s1 z=>?_))
 ·cases f with
  | next=>exact cU z
  | _=>exact z
 ·rw[hx]at z;exact z.elim
noncomputable def mHn (h:DV.Hd)(S:List Stmt):Bool:=match h with
 | .nob b=>(match S with|[.Return (some (.Constant (.bool b') _ _)) _]=>decide (b'=b)|_=>false)
 | .noe=>(match S with|[.Return (some (.List [] _)) _]=>true|_=>false)
 | _=>false
noncomputable def thN:DV.Hd->TS
 | .nob b=>λ D σ H=>D.rt (.bl b) H
 | .noe=>λ D σ H=>∀ p,H p=none->D.rt (.ref p) (upd H p (.lst []))
 | _=>λ _ _ _=>False
theorem bY8 {h:DV.Hd}{S:List Stmt}(m:mHn h S=true):PSs X S (thN h):=by
 cases h with
 | nob b =>
  cases S with
  | nil=>exact ff m
  | cons s S=>cases s with
   | Return vo p=>cases vo with
    | none=>exact ff m
    | some v=>cases v with
     | Constant k j pk=>cases k with
      | bool b'=>cases S with
       | cons _ _=>exact ff m
       | nil =>
        have e:=of_decide_eq_true m
        subst e
        exact(aS2 (an9 bP7)).imp λ D σ H q=>q
      | _=>exact ff m
     | _=>exact ff m
   | _=>exact ff m
 | noe =>
  cases S with
  | nil=>exact ff m
  | cons s S=>cases s with
   | Return vo p=>cases vo with
    | none=>exact ff m
    | some v=>cases v with
     | List vs pl=>cases vs with
      | cons _ _=>cases S with|nil=>exact ff m|cons _ _=>exact ff m
      | nil=>cases S with
       | cons _ _=>exact ff m
       | nil=>exact(aS2 (an9 (aI1 ad0))).imp λ D σ H q=>⟨cc _,λ p B=>q p B⟩
     | _=>exact ff m
   | _=>exact ff m
 | _=>exact ff m
noncomputable def EN (C:Addr)(th:TS)(D:Ends):XK:=λ _ o H'=>o=some C/\∀ σ,th { nx:=λ _ _=>False,rt:=D.rt } σ H'
theorem bj6 {tb:List Stmt}{x:Str}{b₀:Stmt}{G:List Stmt}{np a1 p:Pos}{hs:List fU}{m:kZ->kW->Option (String×kW)}{th:TS}(a3:X.ex=[])(b1:X.stack=X.env::X.outer)(a5:X.env.frame=some X.env.locals)
  (hc:ExcCls X.K C) (hg:Gl X x) (hm:X.mg x=some (.ref C)) (hd:(x==("__debug__":Str))=false)
  (a2:∀(pn:List (Addr×Obj)) (W:Value->ae->Prop) (E:XK),af0 (CX1 X.prog X.w) { X with pn:=pn,xe:=W } E->PSs { X with pn:=pn,xe:=W } tb (TXv Γ X.mg m E)) (a4:∀ a oe,oe.cls=.ref C->PSs (X.hnd a oe) (b₀::G) th) :
  PS X (.Try tb (.ExceptHandler (some (.Name x np)) none (b₀::G) a1::hs) [] [] p) (λ D σ H=>TXv Γ X.mg m (EN C th D) D σ H):=by
 intro B s σ H D I q
 let W:Value->ae->Prop:=λ e s₁=>wpAny (model X.prog X.w) X.A (jy e X.env) (λ _ s₂=>wpAny (model X.prog X.w) X.A (kt e none) (λ _ s₃=>wpAny (model X.prog X.w) X.A (handleBy e X.env (.ExceptHandler (some (.Name x np)) none (b₀::G) a1::hs)) (SP X B D) X.xe s₃) X.xe s₂) X.xe s₁
 have b0:({ X with pn:=X.pn++B,xe:=W }:Cx).Ok:=⟨I.ok.mod,I.ok.kind,I.ok.glob,I.ok.blt,I.ok.above,I.ok.inj,I.ok.has,I.ok.cab,I.ok.hd,I.ok.frames,I.ok.stk,I.ok.exf,I.ok.bs,I.ok.bsz,I.ok.noex,I.ok.exfs,I.ok.funs,I.ok.frf⟩
 have I':Inv { X with pn:=X.pn++B,xe:=W } [] σ H s:=⟨b0,I.os,I.bare,I.base,I.loc,I.cell,I.free,I.freeC,λ p Z=>I.pin p (by rw[bq]at Z;exact Z),I.hok,I.len⟩
 have F:∀ {Y:List (Addr×Obj)} {σ':St} {H':Hp} {s':ae},Inv { X with pn:=X.pn++B,xe:=W } Y σ' H' s'->Inv X B σ' H' s':=λ J=>⟨I.ok,J.os,J.bare,J.base,J.loc,J.cell,J.free,J.freeC,λ p Z=>J.pin p (b8 _ Z),J.hok,J.len⟩
 have Z:af0 (CX1 X.prog X.w) { X with pn:=X.pn++B,xe:=W } (EN C th D):=λ Y σ' H' s' e b2 J h=>by
  obtain⟨a,C',b3,rfl,T,eC,hq⟩:=CX1.tr J a3 h
  cases eC
  obtain⟨a0,oe,vs,T0,oT,ts,h1,h2,h3,h4,h5,h6,a6,h7⟩:=T.tr
  exact aV6 ⟨F T.inv,T.n0,T.nH,λ p Z=>T.np p (b8 _ Z),a0,oe,vs,T0,oT,ts,h1,h2,h3,h4,h5,h6,λ p Z=>a6 p (b8 _ Z),h7⟩ a3 b1 a5 hc hg hm hd (a4 a) (hq σ')
 refine jD (bf (a2 _ W _ Z [] s σ H D I' q) (λ f s1 z=>?_) (λ e s1 z=>z))
 cases f with
 | next=>obtain⟨σ1,H1,J,z⟩:=z;exact cU ⟨σ1,H1,F J,z⟩
 | brk=>obtain⟨σ1,H1,J,z⟩:=z;exact⟨σ1,H1,F J,z⟩
 | cont=>obtain⟨σ1,H1,J,z⟩:=z;exact⟨σ1,H1,F J,z⟩
 | ret u=>obtain⟨v,σ1,H1,J,r,z⟩:=z;exact⟨v,σ1,H1,F J,r,z⟩
end
section
variable {Γ:Gm}
theorem aD2 {φ φ1:Nat->Addr}{H B:Hp}{s s1:kW}(R:Rp Γ φ H s)(g:Gr φ s H φ1 s1 B)(ho:ni s s1=true){i:Nat}{o:lD}(F:i<s.length)(e:s1[i]?=some o):o.bnd s.length=true:=by
 unfold ni at ho
 have:=aK.mp ho i (b7.mpr F)
 rw[e,bJ]at this
 rcases this with h|h
 ·exact R.wf i o (of_decide_eq_true h).symm
 ·exact h
theorem qr {s1:kW}{k i:Nat}{o:lD}(e:(s1.take k)[i]?=some o):i<k/\s1[i]?=some o:=by
 rw[i6]at e
 split at e
 ·exact⟨‹_›,e⟩
 ·cases e
theorem aN3 {φ φ1:Nat->Addr}{H h:Hp}{s s1:kW}(R:Rp Γ φ H s)(g:Gr φ s H φ1 s1 h)(R1:Rp Γ φ1 h s1)(ho:ni s s1=true):Gr φ s H φ1 (s1.take s.length) h/\Rp Γ φ1 h (s1.take s.length):=by
 have hl:(s1.take s.length).length=s.length:=by rw[bZ];have:=g.le;omega
 refine⟨⟨g.w,by rw[hl];exact ak _,λ i G F=>by rw[hl]at F;omega,λ i o B e e'=>g.kd i o B e (qr e').2,g.st,g.fr⟩,λ i j o B e e' m m' z=>R1.inj i j o B (qr e).2 (qr e').2 m m' z,λ i o e=>R1.obj i o (qr e).2,λ i o e=>?_,R1.tab⟩
 rw[hl]
 exact aD2 R g ho (qr e).1 (qr e).2
theorem qd {φ φ1:Nat->Addr}{H G:Hp}{s s1 s':kW}{v0 d:kX}{v:V}(R:Rp Γ φ H s)(g:Gr φ s H φ1 s1 G)(R1:Rp Γ φ1 G s1)(hb:v0.bnd s1.length=true)(r:RV Γ φ1 G v0 v)(h:mW s v0 s1=.ok d s') :
  ∃ φ',Gr φ s H φ' s' G/\s.length<=s'.length/\d.bnd s'.length=true/\RV Γ φ' G d v/\Rp Γ φ' G s':=by
 have all:d=v0->s'=s1->∃ φ',Gr φ s H φ' s' G/\s.length<=s'.length/\d.bnd s'.length=true/\RV Γ φ' G d v/\Rp Γ φ' G s':=λ e1 e2=>by
  subst e1;subst e2
  exact⟨φ1,g,g.le,hb,r,R1⟩
 unfold mW at h
 split at h
 case isFalse=>cases h;exact all rfl rfl
 rename_i ho
 obtain⟨gt,Rt⟩:=aN3 R g R1 ho
 have hl:(s1.take s.length).length=s.length:=by rw[bZ];have:=g.le;omega
 have tk:d=v0->s'=s1.take s.length->v0.bnd s.length=true->∃ φ',Gr φ s H φ' s' G/\s.length<=s'.length/\d.bnd s'.length=true/\RV Γ φ' G d v/\Rp Γ φ' G s':=λ e1 e2 b=>by
  subst e1;subst e2
  exact⟨φ1,gt,by rw[hl];exact ak _,by rw[hl];exact b,r,Rt⟩
 split at h
 ·rename_i k
  split at h
  ·cases h
   exact tk rfl rfl (by unfold k8;exact decide_eq_true ‹_›)
  ·rename_i hk
   split at h
   ·rename_i o Z
    split at h
    ·rename_i Y
     cases h
     have gw:Gw φ1 s.length G (λ i=>if i=s.length then φ1 k else φ1 i) G:=⟨λ i B=>if_neg (aD B),Kp.refl _⟩
     have key:∀(i:Nat) (J:lD),(s1.take s.length++[o])[i]?=some J->(i<s.length/\s1[i]?=some J)\/(i=s.length/\J=o):=λ i J e=>by
      rcases fL i s.length with h|h|h
      ·rw[aM (by rw[hl];exact h)]at e;exact .inl (qr e)
      ·subst h
       rw[aB (by rw[hl];exact ak _),hl,cG]at e
       exact .inr ⟨rfl,(ax e).symm⟩
      ·rw[bG (by rw[aG,hl];simp;omega)]at e;cases e
     have F:(s1.take s.length++[o]).length=s.length+1:=by rw[aG,hl];rfl
     refine⟨λ i=>if i=s.length then φ1 k else φ1 i,⟨⟨λ i B=>?_,g.w.kp⟩,by rw[F];omega,λ i h1 h2=>?_,λ i oo J e e'=>?_,g.st,g.fr⟩,by rw[F];omega,by unfold k8;rw[F];exact decide_eq_true (dr _),?_,⟨λ i j oi oj a0 a1 mi mj e=>?_,λ i J e=>?_,λ i J e=>?_,R1.tab⟩⟩
     ·show(if i=s.length then φ1 k else φ1 i)=φ i
      rw[if_neg (aD B)];exact g.w.map i B
     ·rw[F]at h2
      show H (if i=s.length then φ1 k else φ1 i)=none
      rw[if_pos (by omega)]
      exact g.new k (by omega) (ag.mp Z).1
     ·rcases key i J e' with⟨_,e2⟩|⟨B,_⟩
      ·exact g.kd i oo J e e2
      ·have:=(ag.mp e).1;omega
     ·rw[r.refE]
      unfold RV
      show V.ref (φ1 k)=V.ref (if s.length=s.length then φ1 k else φ1 s.length)
      rw[if_pos rfl]
     ·rcases key i oi a0 with⟨B,ei⟩|⟨B,zi⟩<;>rcases key j oj a1 with⟨hj,ej⟩|⟨hj,zj⟩
      ·rw[if_neg (aD B),if_neg (aD hj)]at e
       exact R1.inj i j oi oj ei ej mi mj e
      ·rw[if_neg (aD B),if_pos hj]at e
       subst zj
       have:=R1.inj i k oi _ ei Z mi mj e
       omega
      ·rw[if_neg (aD hj),if_pos B]at e
       subst zi
       have:=R1.inj k j _ oj Z ej mi mj e
       omega
      ·rw[B,hj]
     ·rcases key i J e with⟨B,e⟩|⟨B,rfl⟩
      ·show RO Γ _ _ (if i=s.length then φ1 k else φ1 i) J
       rw[if_neg (aD B)]
       exact(R1.obj i J e).mono gw (aD2 R g ho B e) λ _ u hu=>hu
      ·show RO Γ _ _ (if i=s.length then φ1 k else φ1 i) J
       rw[if_pos B]
       exact(R1.obj k _ Z).mono gw Y λ _ u hu=>hu
     ·rw[F]
      rcases key i J e with⟨B,e⟩|⟨_,rfl⟩
      ·exact z0 (dj _) _ (aD2 R g ho B e)
      ·exact z0 (dj _) _ Y
    ·cases h;exact all rfl rfl
   ·exact fb h
 ·split at h
  ·cases h;exact tk rfl rfl ‹_›
  ·cases h;exact all rfl rfl
structure LamGood (J:LamI)(L:mn):Prop where
 sc:LamScope (J.ps++J.fr) J.ps J.fr J.scope
 ps:J.ps.length=L.ps
 fr:J.fr.length=L.cs
 m:mE (ck0 (J.ps++J.fr) J.scope) L.body J.body=true
 pa:lamArgs J.params=some J.ps
 bind:∀(clos:List (Str×Addr)) (doc pm:Value) (c':Addr) (ctv:Value) (us:List Value),us.length=J.ps.length->dW (dk "<lambda>" J.qual J.params J.body J.scope clos pm (.ref c') ctv) ⟨us,[]⟩=pure (J.ps.zip us) /\
  ∀(nm:Str) (rp:Pos),dW (fJ nm J.qual J.params [.Return (some J.body) rp] J.scope clos .none .none doc pm none (.ref c') ctv) ⟨us,[]⟩=pure (J.ps.zip us)
structure LkAt (Γ:Gm)(cds:List (Addr×Addr))(f:Str)(sc:Scope)(N:List Str)(fd:bH)(id:String)(caps:List Nat)(params:bX)(body:Expr)(scope:Scope)(c P:Addr)(J:LamI):Prop where
 code:fd.code=.ref c
 cd:(c,P)∈cds
 ck:lamCheck scope sc=true
 fre:∀ x,scope.names.lookup x=some .free->sc.names.lookup x=some .cell
 cel:∀ y∈sc.names,y.2=.cell->sc.names.lookup y.1=some .cell
 df:∀ env,defaultsOf params env=([],[])
 lg:Γ.lg id J
 q:J.qual=f ++ ".<locals>."++J.own
 p:J.params=params
 b:J.body=body
 s:J.scope=scope
 len:J.fr.length=caps.length
 at_:∀(i j:Nat) (x:Str),caps[i]?=some j->J.fr[i]?=some x->N[j]?=some x
 fr:∀ x∈J.fr,scope.names.lookup x=some .free
 tab:(P,J.qual)∈Γ.T
def bt4 (Γ:Gm)(cds:List (Addr×Addr))(f:Str)(sc:Scope)(N:List Str)(fd:bH)(lk:String->List Nat->Expr->Bool):Prop :=
 ∀ id caps E,lk id caps E=true->∃ c P params body scope pos J,E=lamText J params body scope pos/\LkAt Γ cds f sc N fd id caps params body scope c P J
def GoodB (Γ:Gm)(cds:List (Addr×Addr))(mg:Str->Option Value)(f:String)(pc vc:Nat)(m:Ck->List Stmt->Bool):Prop:=∃ st N ps a fd lk,DefAt Γ.K mg (f:Str) st ps a fd/\FnScope N ps (defScope st)/\ps.length=pc/\N.length=pc+vc/\m ⟨N,defScope st,lk⟩ (zt st)=true/\bt4 Γ cds (f:Str) (defScope st) N fd lk
def Good (Γ:Gm)(cds:List (Addr×Addr))(mg:Str->Option Value)(f:String)(d:mq):Prop:=GoodB Γ cds mg f d.ps d.vs λ ck S=>mSs ck d.body S
noncomputable def mT (ck:Ck)(d:DV.Tf)(S:List Stmt):Bool:=match S with
 | st::rest=>(match st with|.Try tb hs [] [] _=>(match hs with|[eh]=>(match eh with|.ExceptHandler (some en) (some nm) hb _=>false|.ExceptHandler (some en) none hb _=>(match en,hb with|.Name x _,b::su=>mSs ck d.body tb&&(mX ck d.xb tb&&(noR d.xb&&(noL d.xb&&(decide (x=(d.c:Str))&&(ck.gl x&&(mHn d.h (b::su)&&mSs ck d.tl rest))))))|_,_=>false)|_=>false)|_=>false)|_=>false)
 | _=>false
structure PrOk (Γ:Gm)(cds:List (Addr×Addr))(P:lp)(mg:Str->Option Value)(w:World):Prop where
 df:∀ f d,P.df f=some d->Good Γ cds mg f d
 con:∀ x d,P.con x=some d->∃ v u,mg (x:Str)=some u/\RelV v u/\(∀ m,d.bnd m=true)/\∀ φ H,RV Γ φ H d v
 bi:∀ x∈bNames,mg x=none
 fa:∀(f:String) (a:Addr),Γ.fa f=some a->mg (f:Str)=some (.ref a)/\∃ oc od fd sl,Γ.K.lookup a=some ⟨oc,od,.func fd,sl⟩
 lg:∀ id J,Γ.lg id J->∃ L,P.lm id=some L/\LamGood J L
 nd:(Γ.T.map (·.1)).Nodup
 xf:∀ f d,P.xf f=some d->GoodB Γ cds mg f d.ps d.vs λ ck S=>mX ck d.body S
 tf:∀ f d,P.tf f=some d->GoodB Γ cds mg f d.ps d.vs λ ck S=>mT ck d S
 xc:∀ c:String,P.xc c=true->∃ C,mg (c:Str)=some (.ref C)/\ExcCls Γ.K C/\excI Γ.K C=true
 xt:∀ c:String,P.xt c=true->∃ C,mg (c:Str)=some (.ref C)
 xs:∀(c d:String) (C D:Addr),P.xc c=true->P.xt d=true->mg (c:Str)=some (.ref C)->mg (d:Str)=some (.ref D)->bI Γ.K (.ref C) (.ref D)=some (mF c d)
 cdc:∀(c:String) kvs,P.cdc c=some kvs->∃ a,mg (c:Str)=some (.ref a)/\∀(prog:aA) (h:Heap),Γ.K.In h->StrTab prog w h a (strD kvs)
noncomputable def ak8 (Γ : Gm) (prog : Program) (w : World) (mg : Str -> Option Value) (base : Heap) (F : DV.Fns) (n : Nat) : Prop := (∀ f : String, (∀ l s, F.call f l s = .bad) \/
      ∃ a fd ps, FnOk prog w Γ.K mg base CX0 n a fd ps (spV Γ (F.call f)) /\ mg (f : Str) = some (.ref a) /\ b9 Γ.K (.ref a) = true /\ Binds Γ.K fd ps []) /\
  ∀(id : String) (J : LamI) (f : Addr) (cap : List V) (clos : List (Str × Addr)), Γ.lg id J -> cap.length = J.fr.length -> ClOk prog w Γ.K mg base n (λ H => CloAt H f J cap clos) f (spL Γ (F.lam id) cap)
theorem aq0 {φ:Nat->Addr}{H:Hp}{n k:Nat}{N:List Str}{l:List kX}{vs:List V}(r:RVL Γ φ H l vs)(b:kY n l=true)(hN:N.length=l.length+k):RE Γ φ H n (l.map some++aq k none) (qU N vs):=by
 have hl:=r.length
 refine⟨?_,λ i d e=>?_⟩
 ·unfold qU;simp[hl,hN]
 ·by_cases hi:i<l.length
  ·rw[aM (by simpa using hi),aF]at e
   have e':l[i]?=some d:=by
    rw[aj hi]at e ⊢
    exact ax e
   obtain⟨v,e1,e2⟩:=r.get e'
   refine⟨ae9 b e',v,?_,e2⟩
   unfold qU
   rw[aM (by rw[aw,hl];exact hi),aF,e1];rfl
  ·rw[aB (by simpa using jx hi)]at e
   rw[f7]at e
   split at e<;>cases e
theorem bp1 {F:List (Addr×Addr)}{P:lp}{prog:aA}{w:World}{mg:Str->Option Value}(J:PrOk Γ F P mg w)(n:Nat):∀(c:String) B,(lb P n).cdc c=some B->∃ a,mg (c:Str)=some (.ref a)/\∀ h:Heap,Γ.K.In h->StrTab prog w h a (strD B):=by
 have:(lb P n).cdc=P.cdc:=by cases n<;>rfl
 rw[this]
 intro c B e
 obtain⟨a,Y,G⟩:=J.cdc c B e
 exact⟨a,Y,G prog⟩
theorem aS9 {G:List (Addr×Addr)}{P:lp}{prog:aA}{w:World}{mg:Str->Option Value}{base:Heap}(Z:PrOk Γ G P mg w)(hb:∀ y∈G,bO base y.1 y.2/\BM mg base)(n:Nat)(B:ak8 Γ prog w mg base (lb P n) (n+31))
  {f:String} {st:Stmt} {N ps:List Str} {a:Addr} {fd:bH} {lk:String->List Nat->Expr->Bool} (hS:FnScope N ps (defScope st)) (hL:bt4 Γ G (f:Str) (defScope st) N fd lk) (F:Value) (a5:∀ id h E,lk id h E=true->fd.code=F) (A:aO) (Y:List Env) (sh:ae) (H:Hp) (E:XK) (hr:Room (n+31) (A.deeper (eT (f:Str) (defScope st) sh.heap.objs.size a F))) :
  CG Γ (lb P n) (n+31) (ar2 CX0 prog w Γ.K mg base N (f:Str) (defScope st) a F A Y sh H E).nox ⟨N,defScope st,lk⟩:=by
 refine⟨rfl,rfl,hS.nd,rfl,rfl,?_,hr,λ x k e=>.inl e,λ _ _=>rfl,Z.bi,B.1,?_,λ id h E' a0=>?_,B.2,Z.fa,DV.ae4 P n,bp1 Z n⟩
 ·show lq+1<=n+31
  unfold lq;omega
 ·have:(lb P n).con=P.con:=by cases n<;>rfl
  rw[this];exact Z.con
 ·obtain⟨c,Pa,params,body,scope,pos,J,eE,L⟩:=hL id h E' a0
  obtain⟨a6,a2⟩:=hb _ L.cd
  obtain⟨L',_,lg⟩:=Z.lg id J L.lg
  refine⟨c,Pa,params,body,scope,pos,J,eE,⟨?_,a6,a2,L.ck,L.df _,L.lg,L.q,L.p,L.b,L.s,L.len,L.at_,L.fr,λ x hx=>?_,L.tab,Z.nd,λ _=>rfl,λ x c hx=>?_,lg.sc,lg.pa,λ a1 pm c' a3 us a4=>(lg.bind a1 .none pm c' a3 us a4).1⟩⟩
  ·show F=.ref c
   rw[<-a5 id h E' a0];exact L.code
  ·exact zS (L.fre x hx)
  ·rcases zy (aH hx)with z|z
   ·exact .inl (L.cel (x,.cell) z rfl)
   ·exact absurd z (by simp)
theorem bP6 {a1:List (Addr×Addr)}{P:lp}{prog:aA}{w:World}{mg:Str->Option Value}{base:Heap}(hP:PrOk Γ a1 P mg w)(hb:∀ y∈a1,bO base y.1 y.2/\BM mg base)(n:Nat)(a0:ak8 Γ prog w mg base (lb P n) (n+31))
  {f:String} {d:mq} (e:P.df f=some d) {st:Stmt} {N ps:List Str} {a:Addr} {fd:bH} {lk:String->List Nat->Expr->Bool} (hD:DefAt Γ.K mg (f:Str) st ps a fd) (hS:FnScope N ps (defScope st)) (h1:ps.length=d.ps) (h2:N.length=d.ps+d.vs) (hm:mSs ⟨N,defScope st,lk⟩ d.body (zt st)=true) (hL:bt4 Γ a1 (f:Str) (defScope st) N fd lk) :
  FnOk prog w Γ.K mg base CX0 (n+1+31) a fd ps (spV Γ ((lb P (n+1)).call f)):=by
 have Z:∀ vs H Q E,spV Γ ((lb P (n+1)).call f) vs H Q E->vs.length=ps.length:=λ vs H Q E q=>by
  obtain⟨φ,s,l,d',s',R,r,b,hc,k⟩:=q
  simp only[lb,e]at hc
  split at hc
  ·rw[r.length,h1];assumption
  ·exact fb hc
 have body:∀(F:Value),(∀ id B E,lk id B E=true->fd.code=F)->∀(A:aO) (Y:List Env) (sh:ae) (H:Hp) (vs:List V) (Q:VK) (E:XK),Room (n+31) (A.deeper (eT (f:Str) (defScope st) sh.heap.objs.size a F))->spV Γ ((lb P (n+1)).call f) vs H Q E ->
   ∃ t,PSs (ar2 CX0 prog w Γ.K mg base N (f:Str) (defScope st) a F A Y sh H E).nox (zt st) t/\t { nx:=λ _ H'=>Q .non H',rt:=Q } (qU N vs) H:=by
  intro F a4 A Y sh H vs Q E hr q
  have G:=aS9 hP hb n a0 hS hL (a:=a) F a4 A Y sh H E hr
  refine⟨_,sSs d.body (zt st) _ ⟨N,defScope st,lk⟩ G hm,?_⟩
  obtain⟨φ,s,l,d',s',R,r,b,hc,k⟩:=q
  simp only[lb,e]at hc
  split at hc
  case isFalse=>exact fb hc
  rename_i Z
  obtain⟨c,s1,e1,hc⟩:=aa1 hc
  refine⟨φ,l.map some++aq d.vs none,s,c,s1,aq0 r b (by rw[h2,Z]),R,e1,λ φ1 H1 g1 l1 R1=>?_⟩
  cases c with
  | ret v0 =>
   intro v hb rv
   obtain⟨φ',g',l',b',r',R'⟩:=qd R g1 R1 hb rv hc
   exact k v φ' H1 g' l' b' r' R'
  | next ρ =>
   intro σ' _
   obtain⟨φ',g',l',b',r',R'⟩:=qd (v0:=.non) R g1 R1 rfl RV.nonI hc
   exact k .non φ' H1 g' l' b' r' R'
  | cont ρ=>exact fb hc
  | brk ρ=>exact fb hc
 by_cases hl:∃ id B E,lk id B E=true
 ·obtain⟨id,B,E,a2⟩:=hl
  obtain⟨c,Pa,params,a3,scope,pos,J,eE,L⟩:=hL id B E a2
  exact hD.fn.okC L.code hS Z (body _ λ _ _ _ _=>L.code)
 ·exact hD.fn.ok hS Z (λ F=>body F λ id B E h=>absurd ⟨id,B,E,h⟩ hl)
theorem Fun.okX {Z:CXT}{P:aA}{w:World}{K:ac}{mg:Str->Option Value}{base:Heap}{x qual:Str}{st:Stmt}{f:Addr}{Y:bH}{N ps:List Str}{k:Nat}{sp:Sp}(F:Fun K x qual st f Y)(S:FnScope N ps (defScope st))(len:∀ vs H Q E,sp vs H Q E->vs.length=ps.length)
  (G:∀(B:Value),Y.code=B->∀(A:aO) (h:List Env) (s:ae) (H:Hp) (vs:List V) (Q:VK) (E:XK),Room k (A.deeper (eT qual (defScope st) s.heap.objs.size f B))->sp vs H Q E ->
   ∃ t,PSs (ar2 Z P w K mg base N qual (defScope st) f B A h s H E) (zt st) t/\t { nx:=λ _ H'=>Q .non H',rt:=Q } (qU N vs) H):FnOk P w K mg base Z (k+1) f Y ps sp:=by
 obtain⟨oc,od,kV,a0,pm,an,B,ct,a1,rfl,lk,hc⟩:=F.ex
 exact bs8 lk hc S len λ A h s H vs Q E hr J=>G B rfl A h s H vs Q E hr J
theorem bS4 {B:List (Addr×Addr)}{P:lp}{w:World}{mg:Str->Option Value}(F:PrOk Γ B P mg w)(n:Nat):XC (lb P n) Γ.K mg:=by
 have e:(lb P n).xc=P.xc:=by cases n<;>rfl
 have e':(lb P n).xt=P.xt:=by cases n<;>rfl
 exact⟨λ c h=>F.xc c (by rw[e]at h;exact h),λ c h=>F.xt c (by rw[e']at h;exact h),λ c d C D J G=>F.xs c d C D (by rw[e]at J;exact J) (by rw[e']at G;exact G)⟩
theorem bL5 {F:List (Addr×Addr)}{P:lp}{prog:aA}{w:World}{mg:Str->Option Value}{base:Heap}(hP:PrOk Γ F P mg w)(hb:∀ y∈F,bO base y.1 y.2/\BM mg base)(n:Nat)(B:ak8 Γ prog w mg base (lb P n) (n+31))(XO:XOk Γ prog w Γ.K mg base (lb P n) (n+31))
  {f:String} {d:DV.Xf} (e:P.xf f=some d) {st:Stmt} {N ps:List Str} {a:Addr} {Z:bH} {lk:String->List Nat->Expr->Bool} (hD:DefAt Γ.K mg (f:Str) st ps a Z) (hS:FnScope N ps (defScope st)) (h1:ps.length=d.ps) (h2:N.length=d.ps+d.vs) (hm:mX ⟨N,defScope st,lk⟩ d.body (zt st)=true) (hL:bt4 Γ F (f:Str) (defScope st) N Z lk) :
  FnOk prog w Γ.K mg base (CX1 prog w) (n+1+31) a Z ps (spX Γ mg ((lb P (n+1)).xcall f)):=by
 refine hD.fn.okX hS (λ vs H Q E q=>?_) λ J a0 A h sh H vs Q E hr q=>?_
 ·obtain⟨φ,s,l,c,s',R,r,b,hc,k⟩:=q
  simp only[lb,e]at hc
  split at hc
  ·rw[r.length,h1];assumption
  ·cases hc
 ·have G:=aS9 hP hb n B hS hL (a:=a) J (λ _ _ _ _=>a0) A h sh H E hr
  obtain⟨φ,s,l,c,s',R,r,b,hc,k⟩:=q
  simp only[lb,e]at hc
  split at hc
  case isFalse=>cases hc
  rename_i Y
  exact⟨_,aA8 (X:=ar2 (CX1 prog w) prog w Γ.K mg base N (f:Str) (defScope st) a J A h sh H E) G (bS4 hP n) XO bY9 d.body (zt st) (.inr bW4) (.inr PassesOwn.leaving) hm,φ,l.map some++aq d.vs none,s,c,s',aq0 r b (by rw[h2,Y]),R,hc,k⟩
theorem bI2 {cds : List (Addr × Addr)} {P : DV.Pr} {prog : Program} {w : World} {mg : Str -> Option Value} {base : Heap} (hP : PrOk Γ cds P mg w) (hb : ∀ y ∈ cds, PySem.W.CodeHd base y.1 y.2 /\ BM mg base) (n : Nat) (hcall : ak8 Γ prog w mg base (DV.aa0 P n) (n + 31)) (XO : XOk Γ prog w Γ.K mg base (DV.aa0 P n) (n + 31))
    {f : String} {d : DV.Tf} (e0 : P.df f = none) (e : P.tf f = some d) {st : Stmt} {N ps : List Str} {a : Addr} {fd : bH} {lk : String -> List Nat -> Expr -> Bool} (hD : DefAt Γ.K mg (f : Str) st ps a fd) (hS : FnScope N ps (defScope st)) (h1 : ps.length = d.ps) (h2 : N.length = d.ps + d.vs) (hm : mT ⟨N, defScope st, lk⟩ d (zt st) = true) (hL : bt4 Γ cds (f : Str) (defScope st) N fd lk) :
    FnOk prog w Γ.K mg base CX0 (n + 1 + 31) a fd ps (spV Γ ((lb P (n + 1)).call f)) := by
  refine hD.fn.okX hS (λ vs H Q E q => ?_) λ cdv hcd A outer sh H vs Q E hr q => ?_
  · obtain⟨φ, s, l, d', s', R, r, b, hc, k⟩ := q
    simp only[lb, e0, e]at hc
    split at hc
    · rw[r.length, h1]; assumption
    · exact fb hc
  have G := aS9 hP hb n hcall hS hL (a := a) cdv (λ _ _ _ _ => hcd) A outer sh H E hr
  have xc := bS4 hP n
  obtain⟨φ, s, l, d', s', R, r, b, hc, k⟩ := q
  simp only[lb, e0, e]at hc
  split at hc
  case isFalse => exact fb hc
  rename_i hlen
  have E0 := aq0 r b (k := d.vs) (N := N) (by rw[h2, hlen])
  unfold mT at hm
  split at hm
  case h_2 => exact ff hm
  rename_i st0 rest eb
  rw[eb]
  split at hm
  case h_2 => exact ff hm
  rename_i tb hs tp
  split at hm
  case h_2 => exact ff hm
  rename_i eh
  have run : mSs ⟨N, defScope st, lk⟩ d.body tb = true -> mSs ⟨N, defScope st, lk⟩ d.tl rest = true -> ((lP (lb P n) d.body (l.map some ++ aq d.vs none) s).bind λ c s1 => match c with
    | .ret v => mW s v s1
    | .next ρ => (lP (lb P n) d.tl ρ s1).bind λ c s2 => match c with
      | .ret v => mW s v s2
      | .next _ => mW s .non s2
      | _ => .bad
    | _ => .bad) = .ok d' s' -> ∃ t, PSs (ar2 CX0 prog w Γ.K mg base N (f : Str) (defScope st) a cdv A outer sh H E) (.Try tb [eh] [] [] tp :: rest) t /\ t { nx := λ _ H' => Q .non H', rt := Q } (qU N vs) H := λ m1 m11 hc => by
    refine⟨_, (zD (bA0 (X := (ar2 CX0 prog w Γ.K mg base N (f : Str) (defScope st) a cdv A outer sh H E).nox) rfl (sSs d.body tb _ ⟨N, defScope st, lk⟩ G m1)) (sSs d.tl rest _ ⟨N, defScope st, lk⟩ G m11)).nox, ?_⟩
    obtain⟨c, s1, e1, hc⟩ := aa1 hc
    refine⟨φ, l.map some ++ aq d.vs none, s, c, s1, E0, R, e1, λ φ1 H1 g1 l1 R1 => ?_⟩
    cases c with
    | ret v0 =>
      intro v hb rv
      obtain⟨φ', g', l', b', r', R'⟩ := qd R g1 R1 hb rv hc
      exact k v φ' H1 g' l' b' r' R'
    | next ρ =>
      intro σ' E1
      obtain⟨c, s2, e2, hc⟩ := aa1 hc
      refine⟨φ1, ρ, s1, c, s2, E1, R1, e2, λ φ2 H2 g2 l2 R2 => ?_⟩
      cases c with
      | ret v0 =>
        intro v hb rv
        obtain⟨φ', g', l', b', r', R'⟩ := qd R (g1.trans g2 l1) R2 hb rv hc
        exact k v φ' H2 g' l' b' r' R'
      | next ρ =>
        intro σ' _
        obtain⟨φ', g', l', b', r', R'⟩ := qd (v0 := .non) R (g1.trans g2 l1) R2 rfl RV.nonI hc
        exact k .non φ' H2 g' l' b' r' R'
      | cont ρ => exact fb hc
      | brk ρ => exact fb hc
    | cont ρ => exact fb hc
    | brk ρ => exact fb hc
  split at hm
  · exact ff hm
  · rename_i en hb0 hp
    split at hm
    case h_2 => exact ff hm
    rename_i x np b0 su
    obtain⟨m1, hm⟩ := zg hm
    obtain⟨m2, hm⟩ := zg hm
    obtain⟨m3, hm⟩ := zg hm
    obtain⟨m3b, hm⟩ := zg hm
    obtain⟨m4, hm⟩ := zg hm
    obtain⟨m5, hm⟩ := zg hm
    obtain⟨m10, m11⟩ := zg hm
    have ex := of_decide_eq_true m4
    subst ex
    unfold DV.bj4 at hc
    split at hc
    · rename_i c s1 hx
      split at hc
      case isFalse => exact fb hc
      rename_i hcond
      obtain⟨rfl, hxc, hok⟩ := hcond
      obtain⟨C, hC, hE, hI⟩ := xc.at_ _ hxc
      obtain⟨g1, g2, g3⟩ := G.gl m5
      refine⟨_, (zD (bj6 (X := (ar2 CX0 prog w Γ.K mg base N (f : Str) (defScope st) a cdv A outer sh H E).nox) (Γ := Γ) (C := C) (m := lQ (lb P n) d.xb) (th := thN d.h) rfl rfl rfl hE g1 hC g2 (λ pn W E1 hpas => ?_) λ a' oe hcl => bY8 m10) zI).nox, ?_⟩
      · have G' : CG Γ (DV.aa0 P n) (n + 31) ({ (ar2 CX0 prog w Γ.K mg base N (f : Str) (defScope st) a cdv A outer sh H E).nox with pn := pn, xe := W } : Cx).nox ⟨N, defScope st, lk⟩ := ⟨G.K, G.N, G.nd, rfl, G.calm, G.deep, G.room, G.sc, G.fn, G.bi, G.call, G.con, λ id caps E' hlk => by
            obtain⟨c, Pa, params, body, scope, pos, J, eE, L⟩ := G.lam id caps E' hlk
            exact⟨c, Pa, params, body, scope, pos, J, eE, ⟨L.code, L.hd, L.bm, L.ck, L.df, L.lg, L.q, L.p, L.b, L.s, L.len, L.at_, L.fr, L.cl, L.tab, L.nd, L.fn, L.kd, L.gs, L.gp, L.gb⟩⟩, G.cl, G.fa, G.fk, G.cdc⟩
        exact aA8 (X := { (ar2 CX0 prog w Γ.K mg base N (f : Str) (defScope st) a cdv A outer sh H E).nox with pn := pn, xe := W }) G' xc XO hpas d.xb tb (.inl m3) (.inl m3b) m2
      · refine⟨φ, l.map some ++ aq d.vs none, s, d.c, s1, E0, R, hx, λ φ' H' a' C' g' l' R' hC' => ?_⟩
        have hC' : mg (d.c : Str) = some (.ref C') := hC'
        rw[hC]at hC'
        cases hC'
        refine⟨rfl, λ σ => ?_⟩
        cases hh : d.h with
        | nob b =>
          rw[hh]at hc
          obtain⟨φ2, g2', l2, b2, r2, R2⟩ := qd (v0 := .bl b) R g' R' rfl RV.blI hc
          exact k _ φ2 H' g2' l2 b2 r2 R2
        | noe =>
          rw[hh]at hc
          intro p hp
          obtain⟨gn, Rn⟩ := R'.new (o := .lst []) (u := .lst []) hp rfl λ φ' H' g e => ⟨[], e, .nil⟩
          obtain⟨φ2, g2', l2, b2, r2, R2⟩ := qd (v0 := .ref s1.length) R (g'.trans gn l') Rn (by unfold k8; simp) (v := .ref p) (by unfold RV; simp) hc
          exact k _ φ2 _ g2' l2 b2 r2 R2
        | ret t => rw[hh]at m10; exact ff m10
        | iff t b h => rw[hh]at m10; exact ff m10
    · exact run m1 m11 hc
  · exact ff hm
theorem bB7 {b4:List (Addr×Addr)}{P:lp}{prog:aA}{w:World}{mg:Str->Option Value}{base:Heap}(hP:PrOk Γ b4 P mg w)(n:Nat)(Z:ak8 Γ prog w mg base (lb P n) (n+31))
  (id:String) (J:LamI) (f:Addr) (cap:List V) (F:List (Str×Addr)) (b3:Γ.lg id J) (a1:cap.length=J.fr.length) :
  ClOk prog w Γ.K mg base (n+1+31) (λ H=>CloAt H f J cap F) f (spL Γ ((lb P (n+1)).lam id) cap):=by
 obtain⟨L,eL,LG⟩:=hP.lg id J b3
 have a2:∀ vs H Q E,spL Γ ((lb P (n+1)).lam id) cap vs H Q E->vs.length=J.ps.length:=λ vs H Q E q=>by
  obtain⟨φ,s,cs,l,d,s',R,r,rc,b,bc,hc,k⟩:=q
  simp only[lb,eL]at hc
  split at hc
  ·rename_i hh;rw[r.length,LG.ps];exact hh.1
  ·exact fb hc
 have main:∀(A:aO) (Y:List Env) (sh:ae) (H:Hp) (cd:Value) (vs:List V) (Q:VK),Room (n+31) (A.deeper (cQ J.qual J.scope sh.heap.objs.size f cd (aL (sh.heap.objs.size+1) J.scope.names F)))->Cells F H->(∀ b o,Γ.K.lookup b=some o->H b=none)->spL Γ ((lb P (n+1)).lam id) cap vs H Q E0 ->
   ∃ t,PE (aF8 prog w Γ.K mg base (J.ps++J.fr) J.qual J.scope f cd F A Y sh H) J.body t/\t (vs.map some++cap.map some) (ac3 F H) λ v H'=>(∀ b,isC F b=true->H' b=none)->Q v (Put F H H'):=by
  intro A Y sh H cd vs Q hr B hK q
  have G:CG Γ (lb P n) (n+31) (aF8 prog w Γ.K mg base (J.ps++J.fr) J.qual J.scope f cd F A Y sh H) (ck0 (J.ps++J.fr) J.scope):=by
   refine⟨rfl,rfl,LG.sc.nd,rfl,rfl,?_,hr,λ x k e=>.inl e,λ x e=>?_,hP.bi,Z.1,?_,λ _ _ _ h=>(by cases h),Z.2,hP.fa,DV.ae4 P n,bp1 hP n⟩
   ·show lq+1<=n+31
    unfold lq;omega
   ·show(J.scope.names.lookup x==some .cell)=true
    rw[show J.scope.names.lookup x=some .cell from e];rfl
   ·have:(lb P n).con=P.con:=by cases n<;>rfl
    rw[this];exact hP.con
  refine⟨_,(sE L.body J.body _ (ck0 (J.ps++J.fr) J.scope) G LG.m).1,?_⟩
  obtain⟨φ,s,cs,l,d,s',R,r,rc,b,bc,hc,k⟩:=q
  simp only[lb,eL]at hc
  split at hc
  case isFalse=>exact fb hc
  rename_i hh
  obtain⟨h1,h2,h3⟩:=hh
  rw[ah,ah]at h3
  obtain⟨⟨b5,b6⟩,b2⟩:=h3
  obtain⟨v0,s1,e1,hc⟩:=aa1 hc
  have RD:Rp Γ φ (ac3 F H) s:=R.dropC B b2
  have a5:RVL Γ φ (ac3 F H) (l++cs) (vs++cap):=(RVL.dropC B l vs b5 r).append (RVL.dropC B cs cap b6 rc)
  refine⟨φ,l.map some++cs.map some,s,v0,s1,⟨by simp[r.length,rc.length],λ i x ei=>?_⟩,RD,e1,λ v φ1 H1 g1 l1 b1 r1 R1 a3=>?_⟩
  ·rw[<-bD,aF]at ei
   have b0:(l++cs)[i]?=some x:=by
    cases q:(l++cs)[i]? with
    | none=>rw[q]at ei;cases ei
    | some y=>rw[q]at ei;cases ei;rfl
   obtain⟨u,e3,e4⟩:=a5.get b0
   refine⟨ae9 (zO b bc) b0,u,?_,e4⟩
   rw[<-bD,aF,e3];rfl
  ·obtain⟨φ',g',l',b',r',R'⟩:=qd RD g1 R1 b1 r1 hc
   have gp:=Gr.put B a3 hK R' g'
   obtain⟨gs,Rs⟩:=R'.same (aY1 (H:=H) a3)
   exact k v φ' _ gp l' b' (RV.mono gs d v b' r') Rs
 unfold CloAt
 cases q:J.nm with
 | none=>exact br0 LG.sc a2 a1 (λ pm c' a0 us a4=>(LG.bind F .none pm c' a0 us a4).1) (λ A Y sh H cd vs Q hr hat hK q=>by
   obtain⟨pm,c',a0,_,_,B,_⟩:=hat
   exact main A Y sh H cd vs Q hr B hK q)
 | some p=>exact bs7 LG.sc a2 a1 (λ a6 pm c' a0 us a4=>(LG.bind F a6 pm c' a0 us a4).2 _ _) (λ A Y sh H cd vs Q hr hat hK q=>by
   obtain⟨a6,pm,c',a0,_,_,B,_⟩:=hat
   obtain⟨t,h1,h2⟩:=main A Y sh H cd vs Q hr B hK q
   exact⟨_,zD (an9 h1) aA7,h2⟩)
theorem aL7 {a0:List (Addr×Addr)}{P:lp}{prog:aA}{w:World}{mg:Str->Option Value}{base:Heap}(h:PrOk Γ a0 P mg w)(hb:∀ y∈a0,bO base y.1 y.2/\BM mg base):∀ n:Nat,ak8 Γ prog w mg base (lb P n) (n+31)/\XOk Γ prog w Γ.K mg base (lb P n) (n+31)
 | 0=>⟨⟨λ f=>.inl λ l s=>rfl,λ id J f cap B _ _=>⟨λ A a1 s H us vs Q _ _ _ _ q=>by
   obtain⟨φ,s,cs,l,d,s',R,r,rc,b,bc,hc,k⟩:=q
   cases hc⟩⟩,λ f=>.inl λ l s=>rfl⟩
 | n+1=>by
  obtain⟨ih,XO⟩:=aL7 (prog:=prog) (w:=w) (base:=base) h hb n
  refine⟨⟨λ f=>?_,λ id J f cap B G F=>bB7 h n ih id J f cap B G F⟩,λ f=>?_⟩
  ·cases e:P.df f with
   | none =>
    cases e2:P.tf f with
    | none=>exact .inl λ l s=>by simp only[lb,e,e2]
    | some d =>
     obtain⟨st,N,ps,a,Z,lk,hD,hS,G,F,Y,hL⟩:=h.tf f d e2
     exact .inr ⟨a,Z,ps,bI2 h hb n ih XO e e2 hD hS G F Y hL,hD.mg,hD.fn.kp,hD.bi⟩
   | some d =>
    obtain⟨st,N,ps,a,Z,lk,hD,hS,G,F,Y,hL⟩:=h.df f d e
    exact .inr ⟨a,Z,ps,bP6 h hb n ih e hD hS G F Y hL,hD.mg,hD.fn.kp,hD.bi⟩
  ·cases e:P.xf f with
   | none=>exact .inl λ l s=>by simp only[lb,e]
   | some d =>
    obtain⟨st,N,ps,a,Z,lk,hD,hS,G,F,Y,hL⟩:=h.xf f d e
    exact .inr ⟨a,Z,ps,bL5 h hb n ih XO e hD hS G F Y hL,hD.mg,hD.fn.kp,hD.bi⟩
theorem bB6 {h:List (Addr×Addr)}{P:lp}{prog:aA}{w:World}{mg:Str->Option Value}{base:Heap}(B:PrOk Γ h P mg w)(hb:∀ y∈h,bO base y.1 y.2/\BM mg base)(n:Nat):ak8 Γ prog w mg base (lb P n) (n+31):=(aL7 B hb n).1
def spT (Γ:Gm):Sp:=λ vs H Q _=>∃(a:Addr) (ns:List Int),vs=[.ref a]/\SqF Γ.K H a (ns.map V.int)/\ns.length<=63/\TabsH Γ.T H/\∀ H',Q (.bl true) H'
theorem aK7 {φ:Nat->Addr}{H:Hp}:∀ ns:List Int,RVL Γ φ H (ns.map DV.D.int) (ns.map V.int)
 | []=>.nil
 | n::ns=>.cons RV.intI (aK7 ns)
theorem ay8 {m:Nat}:∀ ns:List Int,kY m (ns.map DV.D.int)=true
 | []=>rfl
 | n::ns=>by rw[aN];unfold kY;rw[ay8 ns];rfl
theorem bO9 {P:lp}{k:Nat}(h:∀ ns:List Int,ns.length<=63->∃ s',(lb P k).call "law" [.ref 0] [.ro (ns.map DV.D.int)]=.ok (.bl true) s')(vs:List V)(H:Hp)(Q:VK)(E:XK)(q:spT Γ vs H Q E):spV Γ ((lb P k).call "law") vs H Q E:=by
 obtain⟨a,ns,rfl,F,hl,hT,B⟩:=q
 obtain⟨s',hs⟩:=h ns hl
 refine⟨λ _=>a,[.ro (ns.map DV.D.int)],[.ref 0],.bl true,s',⟨λ i j o G e e' m m' _=>?_,λ i o e=>?_,λ i o e=>?_,hT⟩,.cons RV.refI .nil,?_,hs,λ v φ' H' g l b r R=>?_⟩
 ·cases i with
  | zero=>cases e;cases m
  | succ i=>cases e
 ·cases i with
  | zero=>cases e;exact⟨_,F,aK7 ns⟩
  | succ i=>cases e
 ·cases i with
  | zero=>cases e;unfold k9;exact ay8 ns
  | succ i=>cases e
 ·unfold kY k8 kY;rfl
 ·rw[r.blE];exact B H'
theorem aI7 {B:List (Addr×Addr)}{mg:Str->Option Value}:∀ {tbl:List (String×mq)},(∀ p∈tbl,Good Γ B mg p.1 p.2)->∀ f d,tbl.lookup f=some d->Good Γ B mg f d
 | [],_,f,d,h=>by cases h
 | (g,e)::tbl,H,f,d,h=>by
  rw[aY]at h
  cases q:f==g with
  | true =>
   rw[q]at h
   cases h
   rw[eq_of_beq q]
   exact H (g,_) (ar ..)
  | false =>
   rw[q]at h
   exact aI7 (λ p F=>H p (ai _ F)) f d h
def bi6 (Γ:Gm)(mg:Str->Option Value)(x:String)(d:kX):Prop:=∃ v u,mg (x:Str)=some u/\RelV v u/\(∀ m,d.bnd m=true)/\∀ φ H,RV Γ φ H d v
theorem aV0 {mg:Str->Option Value}:∀ {tbl:List (String×kX)},(∀ p∈tbl,bi6 Γ mg p.1 p.2)->∀ f d,tbl.lookup f=some d->bi6 Γ mg f d
 | [],_,f,d,h=>by cases h
 | (g,e)::tbl,H,f,d,h=>by
  rw[aY]at h
  cases q:f==g with
  | true =>
   rw[q]at h
   cases h
   rw[eq_of_beq q]
   exact H (g,_) (ar ..)
  | false =>
   rw[q]at h
   exact aV0 (λ p B=>H p (ai _ B)) f d h
theorem bt0 {mg:Str->Option Value}{x:String}{i:Int}{t:Tok}(h:mg (x:Str)=some (.int i t)):bi6 Γ mg x (.int i):=⟨.int i,_,h,⟨t,rfl⟩,λ _=>rfl,λ _ _=>RV.intI⟩
inductive ConV (Γ:Gm):kX->Value->Prop where
 | int (i:Int) (t:Tok):ConV Γ (.int i) (.int i t)
 | str (x:List Nat) (t:Tok) (h:x.length<=1000):ConV Γ (.str x) (.str ⟨x.toArray⟩ t)
inductive ConL (Γ:Gm):List kX->List Value->Prop where
 | nil:ConL Γ [] []
 | cons {d v l vs} (a:ConV Γ d v) (b:ConL Γ l vs):ConL Γ (d::l) (v::vs)
theorem br4 {mg:Str->Option Value}{x:String}{a:Addr}{o:Obj}{its:List Value}{n:Nat}{l:List kX}(h:mg (x:Str)=some (.ref a))(hk:Γ.K.lookup a=some o)(hc:o.cls=.type "tuple")(hd:o.data=.seq its.toArray n)(hz:its.length<=1000)
  (hl:ConL Γ l its) (J:lh l=false:=by rfl):bi6 Γ mg x (.tup l):=by
 have key:∃ B,Vals B its/\(∀ m,kY m l=true)/\∀ φ H,RVL Γ φ H l B:=by
  clear hd hz J
  induction hl with
  | nil=>exact⟨[],.nil,λ _=>rfl,λ _ _=>.nil⟩
  | cons a b ih =>
   obtain⟨B,G,F,h3⟩:=ih
   cases a with
   | int i t=>exact⟨.int i::B,.cons ⟨t,rfl⟩ G,λ m=>by unfold kY;rw[F];rfl,λ φ H=>.cons RV.intI (h3 φ H)⟩
   | str x t h=>exact⟨.str ⟨x.toArray⟩::B,.cons ⟨t,rfl⟩ G,λ m=>by unfold kY;rw[F];rfl,λ φ H=>.cons (RV.strI (by unfold lf;omega)) (h3 φ H)⟩
 obtain⟨B,G,F,h3⟩:=key
 refine⟨.ref a,_,h,rfl,λ m=>by unfold k8;exact F m,λ φ H=>RV.tupC (.inr ⟨o,its.toArray,n,hk,hc,hd,?_,G⟩) (λ z=>by rw[J]at z;cases z) (h3 φ H)⟩
 rw[au];exact aH9 hz
end
theorem aN7 {P:aA}{w:World}{K:ac}{mg mb:Str->Option Value}{k:Nat}{fa a:Addr}{fd:bH}{x:Str}{sp:Sp}{B:ae}{vs:List Value}{ns:List Int}{tabs:List (Addr×Addr)}
  (KX:K.In B.heap) (c1:B.heap.Ns bh mg) (hb:B.heap.Ns gj mb) (c3:∀ x:Str,x ≠ "__name__"->mb x=be x) (a4:B.heap.NoLimit) (hg:B.gens=#[]) (d2:BM mg B.heap) (hT:j8 tabs B.heap) (f0:j9 K=true)
  (ha:B.heap.get? a=some { cls:=.type "list",data:=.seq vs.toArray }) (hi:jS vs ns) (hl:ns.length<=aI) (hr:Room k iz)
  (F:∀ base:Heap,K.In base->base.Ns bh mg->BM mg base->(∀ q∈tabs,bO base q.1 q.2)->FnOk P w K mg base CX0 k fa fd [x] sp) (a2:∀(s:ae) (u:Value),jR s fd ⟨[u],[]⟩ [(x,u)])
  (c4:∀ H:Hp,(∀ q∈tabs,H q.2=some (.tbl #[]))->SqL K H a (ns.map V.int)->(∀ u,H a=some u->(∃ o xs,u=.frz o (.lst xs))\/∃ ps,u=.tbl ps)->sp [.ref a] H (λ v _=>v=.bl true) E0) :
  fC (model P w) iz (.call (.ref fa) ⟨[.ref a],[]⟩) (λ r s'=>r=.ok (.ret (.bool true))/\OldK B.heap s'.heap/\s'.os=B.os/\eZ s'.gens) B:=by
 have rv:=ay1 hi
 have a6:=hi.length
 have G:∀ b,b∈tabs.map (·.2)->B.heap.get? b=some (io #[]):=λ b h=>by
  obtain⟨q,hq,rfl⟩:=aP.mp h
  exact(hT q hq).2
 have a0:∀ H:Hp,(∀ b u,H b=some u->(b=a/\∃ o xs,u=.frz o (.lst xs))\/(b∈tabs.map (·.2)/\u=.tbl #[]))->(∀ q∈tabs,H q.2=some (.tbl #[]))->SqL K H a (ns.map V.int)->HOk P w H B.heap->(H a≠none->K.lookup a=none) ->
   fC (model P w) iz (.call (.ref fa) ⟨[.ref a],[]⟩) (λ r s'=>r=.ok (.ret (.bool true))/\OldK B.heap s'.heap/\s'.os=B.os/\eZ s'.gens) B:=by
  intro H hO d1 hS hok hK
  have un:∀ b o,B.heap.get? b=some o->o.cls≠.type "list"->(∀ vs,o.data≠.fields vs)->H b=none:=λ b o e n1 n2=>by
   cases q:H b with
   | none=>rfl
   | some u =>
    rcases hO b u q with⟨z,_⟩|⟨z,_⟩
    ·rw[z,ha]at e;cases e;exact absurd rfl n1
    ·rw[G b z]at e;cases e;exact absurd rfl (n2 #[])
  have J:∀ {b:Addr} {m:Str->Option Value},B.heap.Ns b m->(bb8 B.heap H).Ns b m:=λ {b m} ⟨o,es,ep,e,d,r⟩=>by
   refine⟨o,es,ep,ai8 e ?_,d,r⟩
   cases q:H b with
   | none=>rfl
   | some u =>
    rcases hO b u q with⟨z,_⟩|⟨z,_⟩
    ·rw[z,ha]at e;cases e;cases d
    ·rw[G b z]at e;cases e;cases d
  have b0:K.In (bb8 B.heap H):=λ b o e=>ai8 (KX b o e) (by
   cases q:H b with
   | none=>rfl
   | some u =>
    rcases hO b u q with⟨z,_⟩|⟨z,_⟩
    ·subst z
     rw[hK (by rw[q];simp)]at e;cases e
    ·have e2:=KX b o e
     rw[G b z]at e2
     have h2:=aK.mp f0 (b,o) (PySem.W.mem_of_lookupK e)
     have e3:o=io #[]:=(ax e2).symm
     subst e3
     exact absurd (show false=true from h2) aQ)
  have hM:Mod K mg (bb8 B.heap H):=⟨b0,J c1,⟨mb,J hb,c3⟩,let⟨mc,h1,h2⟩:=a4;⟨mc,J h1,h2⟩⟩
  have c2:BM mg (bb8 B.heap H):=by
   obtain⟨bm,ob,b1,b2,b3,b4,b5,b6⟩:=d2
   exact⟨bm,ob,b1,b2,ai8 b3 (un bm ob b3 (by rw[b4];nofun) (by rw[b6];nofun)),b4,b5,b6⟩
  have e4:∀ q∈tabs,bO (bb8 B.heap H) q.1 q.2:=λ q hq=>by
   obtain⟨o,d0,a5,tf,a1,tg,e5,text,tt,e1,r1,r2⟩:=(hT q hq).1
   refine⟨o,d0,a5,tf,a1,tg,e5,text,tt,ai8 e1 ?_,r1,r2⟩
   cases q2:H q.1 with
   | none=>rfl
   | some u =>
    rcases hO _ u q2 with⟨z,_⟩|⟨z,_⟩
    ·rw[z,ha]at e1;cases e1;exact absurd r1 (by simp)
    ·rw[G _ z]at e1;cases e1;exact absurd r1 (by simp)
  have e0:Env0 P w K mg (bb8 B.heap H) iz [] B H:=⟨rfl,hM,λ b o e=>bu0 e,Nat.le_of_eq (ba9 _ _),trivial,λ b hb=>absurd (show b∈([]:List Addr)from hb) (by simp),hok,.of_eq hg⟩
  refine jg ((F _ b0 (J c1) c2 e4).run iz [] B H ⟨[.ref a],[]⟩ [.ref a] [.ref a] _ _ hr e0 (a2 B (.ref a)) (.cons rfl .nil) (c4 H d1 hS (λ u e=>(hO a u e).elim (λ z=>.inl z.2) (λ z=>.inr ⟨_,z.2⟩)))) λ r s' h=>?_
  cases r with
  | error e=>exact bn h
  | ok fl =>
   cases fl with
   | next=>exact bn h
   | brk=>exact bn h
   | cont=>exact bn h
   | ret u =>
    obtain⟨v,H',os,bare,a3,Y,r',q⟩:=h
    have q':v=.bl true:=q
    subst q'
    obtain rfl:u=Value.bool true:=r'
    have key:∀ b o,B.heap.get? b=some o->asItWas B.heap s'.heap b o/\∃ o',s'.heap.get? b=some o':=λ b o e=>by
     cases q:H b with
     | none =>
      have z:=a3.keep b o e q (by intro z;exact absurd (show b∈([]:List Addr)from z) (by simp)) (by simp)
      exact⟨.inl z,o,z⟩
     | some u =>
      rcases hO b u q with⟨_,ob,xs,z⟩|⟨z,z2⟩
      ·subst z
       have z2:=a3.frzs b ob _ q
       obtain⟨e1,_⟩:=hok b _ q
       obtain⟨e2,_⟩:=Y b _ z2
       rw[e]at e1;cases e1
       exact⟨.inl e2,_,e2⟩
      ·subst z2
       obtain⟨Z,z3⟩:=a3.tbls b _ q
       have g:s'.heap.get? b=some { cls:=.none,data:=.fields (#[]++Z) }:=Y b _ z3
       have e1:=G b z
       rw[e]at e1;cases e1
       obtain⟨p,hp,ep⟩:=aP.mp z
       refine⟨.inr (.inl ⟨?_,rfl,#[],Z,rfl,g⟩),_,g⟩
       have t:=((hT p hp).1.tab (hT p hp).2).isCodeTable
       rw[ep]at t
       exact t
    exact⟨rfl,⟨λ b o e=>(key b o e).1,λ b o e=>(key b o e).2⟩,os,bare⟩
 have tbl:∀ b,b∈tabs.map (·.2)->b≠a:=λ b h z=>by
  have e:=G b h
  rw[z,ha]at e;cases e
 cases hk:K.lookup a with
 | some o =>
  have e:=KX a o hk
  rw[ha]at e
  cases e
  refine a0 (λ b=>if b∈tabs.map (·.2)then some (.tbl #[])else none) (λ b u z=>?_) (λ q hq=>if_pos (bN hq)) (.inr ⟨_,vs.toArray,_,hk,rfl,rfl,rfl,by rw[au,a6];exact hl,by simpa using rv⟩) (λ b u z=>?_) λ z=>?_
  ·by_cases hb:b∈tabs.map (·.2)
   ·have z':=(if_pos hb).symm.trans z
    cases z'
    exact .inr ⟨hb,rfl⟩
   ·have z':=(if_neg hb).symm.trans z
    cases z'
  ·by_cases hb:b∈tabs.map (·.2)
   ·have z':=(if_pos hb).symm.trans z
    cases z'
    exact G b hb
   ·have z':=(if_neg hb).symm.trans z
    cases z'
  ·exact absurd (if_neg λ y=>tbl a y rfl) z
 | none =>
  refine a0 (λ b=>if b=a then some (.frz { cls:=.type "list",data:=.seq vs.toArray } (.lst (ns.map V.int)))else if b∈tabs.map (·.2)then some (.tbl #[])else none) (λ b u z=>?_) (λ q hq=>?_) (.inl (.inr ⟨{ cls:=.type "list",data:=.seq vs.toArray },if_pos rfl⟩)) (λ b u z=>?_) λ _=>hk
  ·by_cases hb:b=a
   ·have z':=(if_pos hb).symm.trans z
    cases z'
    exact .inl ⟨hb,_,_,rfl⟩
   ·have z':=(if_neg hb).symm.trans z
    by_cases hc:b∈tabs.map (·.2)
    ·rw[if_pos hc]at z';cases z';exact .inr ⟨hc,rfl⟩
    ·rw[if_neg hc]at z';cases z'
  ·have hm:q.2∈tabs.map (·.2):=bN hq
   show(if _ then _ else if _ then _ else _)=_
   rw[if_neg (tbl _ hm),if_pos hm]
  ·by_cases hb:b=a
   ·have z':=(if_pos hb).symm.trans z
    cases z'
    subst hb
    exact⟨ha,by rw[aw];exact hl,vs,_,rv,ha⟩
   ·have z':=(if_neg hb).symm.trans z
    by_cases hc:b∈tabs.map (·.2)
    ·rw[if_pos hc]at z';cases z';exact G b hc
    ·rw[if_neg hc]at z';cases z'
theorem ba5 {ts:List Addr}{l:cS}{n k:Nat}{q:aA}{loose:List Str}{XP:(Str->Option Value)->Heap->Prop}{YP:World->Heap->Prop}{d:DefRec}{K:Params->ac}{sp:ac->Sp}{x:Str}(names:List Str)
  (hn:l.most=some n) (a5:n<=aI) (a4:d.params.defaults=[]) (hr:Room k iz)
  (hY:∀(w:World) (h:Heap),YP w h->(K w.params).In h/\∀ P∈ts,h.get? P=some (io #[])) (Z:∀ w:World,bJ4 (K w.params) names ts=true) (a6:∀ w:World,j9 (K w.params)=true)
  (F:∀(w:World) (mg:Str->Option Value) (fa:Addr) (h:Heap),(K w.params).In h->h.Ns bh mg->mg d.name=some (.ref fa) ->
   ∃ fd:bH,(∀(s:ae) (u:Value),jR s fd ⟨[u],[]⟩ [(x,u)]) /\
    ∀ base:Heap,(K w.params).In base->base.Ns bh mg->BM mg base->bB8 (K w.params) names base->FnOk l.prog w (K w.params) mg base CX0 k fa fd [x] (sp (K w.params)))
  (a2:∀(K:ac) (H:Hp) (a:Addr) (ns:List Int),ns.length<=n->bA9 K names H->SqL K H a (ns.map V.int)->(∀ u,H a=some u->(∃ o xs,u=.frz o (.lst xs))\/∃ ps,u=.tbl ps)->sp K [.ref a] H (λ v _=>v=.bl true) E0) :
  kg q loose XP YP l.row.toRowW d [] (λ f vs=>jT f vs):=by
 refine Att.attach_call hn a4 λ w s₀ s₁ mg mb fa o pm cd b0 a vs ns G Y ho hd b1 a3 a0 J B hg=>?_
 obtain⟨KX,a1⟩:=hY w _ Y
 obtain⟨fd,hb,hF⟩:=F w mg fa _ KX G.T.g a3
 have hT:j8 ((au3 (K w.params) names).map (·.2)) s₁.heap:=λ p hp=>by
  obtain⟨y,hy,rfl⟩:=aP.mp hp
  obtain⟨h1,h2⟩:=ao4.mp hy
  have z:=aK.mp (Z w) y.1 h1
  rw[h2]at z
  have z':(jA (K w.params) y.2.1 y.2.2&&ts.contains y.2.2)=true:=z
  rw[ah]at z'
  exact⟨PySem.W.codeHd_of_K KX z'.1,a1 _ (by simpa using z'.2)⟩
 have hm:∀ x∈names,∀ c P,a8 (K w.params) x=some (c,P)->(c,P)∈(au3 (K w.params) names).map (·.2):=λ x hx c P e=>aP.mpr ⟨(x,c,P),ao4.mpr ⟨hx,e⟩,rfl⟩
 refine aN7 (tabs:=(au3 (K w.params) names).map (·.2)) KX G.T.g G.T.b G.T.builtins G.T.nolimit hg ?_ hT (a6 w) a0 J (am B a5) hr (λ base k1 k2 k3 k4=>hF base k1 k2 k3 λ x hx c P e=>k4 _ (hm x hx c P e)) hb λ H hO hS hF=>a2 (K w.params) H a ns B (λ x hx c P e=>hO _ (hm x hx c P e)) hS hF
 obtain⟨bm,ob,h1,h2,h3,h4,h5,h6⟩:=G.T.bmain
 exact⟨bm,ob,h1,h2,h3,h4,h5,h6⟩
def spB (names:List Str)(K:ac):Sp:=λ vs H Q _=>∃(a:Addr) (ns:List Int),vs=[.ref a]/\SqF K H a (ns.map V.int)/\ns.length<=63/\bA9 K names H/\∀ H',Q (.bl true) H'
theorem bJ5 {names:List Str}{K:ac}{H:Hp}{a:Addr}{ns:List Int}(hl:ns.length<=63)(hB:bA9 K names H)(B:SqL K H a (ns.map V.int))(F:∀ u,H a=some u->(∃ o G,u=.frz o (.lst G))\/∃ ps,u=.tbl ps):spB names K [.ref a] H (λ v _=>v=.bl true) E0:=by
 refine⟨a,ns,rfl,⟨B,λ H' k=>?_⟩,hl,hB,λ _=>rfl⟩
 rcases B with(h|⟨o,h⟩)|h
 ·rcases F _ h with⟨_,_,z⟩|⟨_,z⟩<;>cases z
 ·exact .inl (.inr ⟨o,k _ _ h rfl⟩)
 ·exact .inr h
def ci0 (P:lp):String->LamI->Prop:=λ id J=>∃ L,P.lm id=some L/\LamGood J L
noncomputable def sfx (x:Str):Str:=if x = "letter_table" then "least_fee" else "<lambda>"
noncomputable def bt1 (names:List Str)(K:ac):List (Addr×Str):=names.map λ x=>(((a8 K x).getD (0,0)).2,x ++ ".<locals>."++sfx x)
noncomputable def bp7 (names:List Str)(K:ac):List (Addr×Addr):=names.map λ x=>(a8 K x).getD (0,0)
noncomputable def cc0 (K:ac)(f:String):Option Addr:=match cr K bh (f:Str)with
 | some (some (.ref a))=>(match K.lookup a with
  | some ⟨_,_,.func _,_⟩=>some a
  | _=>none)
 | _=>none
theorem aL6 {K:ac}{f:String}{a:Addr}(h:cc0 K f=some a):cr K bh (f:Str)=some (some (.ref a))/\∃ oc od B sl,K.lookup a=some ⟨oc,od,.func B,sl⟩:=by
 unfold cc0 at h
 split at h
 ·rename_i F e
  split at h
  ·rename_i oc od B sl e2
   cases h
   exact⟨e,_,_,_,_,e2⟩
  ·cases h
 ·cases h
noncomputable abbrev bb5 (names:List Str)(P:lp)(K:ac):Gm:=⟨K,cc0 K,ci0 P,bt1 names K⟩
theorem ca2 {names:List Str}{P:lp}{K:ac}{h:Heap}{mg:Str->Option Value}(X:K.In h)(G:h.Ns bh mg):∀(f:String) (a:Addr),(bb5 names P K).fa f=some a->mg (f:Str)=some (.ref a)/\∃ oc od B sl,(bb5 names P K).K.lookup a=some ⟨oc,od,.func B,sl⟩:=λ f a e=>⟨bQ X G (aL6 e).1,(aL6 e).2⟩
theorem be2 {names:List Str}{P:lp}{K:ac}(B:∀ x∈names,(a8 K x).isSome=true){vs:List V}{H:Hp}{Q:VK}{E:XK}(q:spB names K vs H Q E):spT (bb5 names P K) vs H Q E:=by
 obtain⟨a,ns,e,G,hl,hB,F⟩:=q
 refine⟨a,ns,e,G,hl,TabsH.init λ p h=>?_,F⟩
 simp only[bt1,bL]at h
 obtain⟨x,hx,rfl⟩:=aP.mp h
 exact hB x hx _ _ (at2 (B x hx))
theorem bn4 {names:List Str}{K:ac}{mg:Str->Option Value}{base:Heap}(h:∀ x∈names,(a8 K x).isSome=true)(bm:BM mg base)(hc:bB8 K names base):∀ y∈bp7 names K,bO base y.1 y.2/\BM mg base:=λ y hy=>by
 obtain⟨x,hx,rfl⟩:=aP.mp hy
 exact⟨hc x hx _ _ (at2 (h x hx)),bm⟩
theorem aC9 {p:bX}{ps:List Str}(h:lamArgs p=some ps):∃ args,p=⟨[],args,none,[],[],none,[]⟩/\args.map (·.arg)=ps:=by
 unfold lamArgs at h
 split at h
 ·exact⟨_,rfl,ax h⟩
 ·cases h
def bk2 (ps:List Str):Prop:=∀ params,lamArgs params=some ps->∀(qual:Str) (body:Expr) (scope:Scope) (clos:List (Str×Addr)) (doc pm:Value) (c':Addr) (ctv:Value) (us:List Value),us.length=ps.length->dW (dk "<lambda>" qual params body scope clos pm (.ref c') ctv) ⟨us,[]⟩=pure (ps.zip us) /\
 ∀(nm:Str) (rp:Pos),dW (fJ nm qual params [.Return (some body) rp] scope clos .none .none doc pm none (.ref c') ctv) ⟨us,[]⟩=pure (ps.zip us)
noncomputable def aY9 (ps fr:List Str)(sc:Scope):Bool:=decide (sc.kind=.function)&&!sc.isCoroutine&&!sc.isGenerator&&decide ((ps++fr).Nodup)&&(ps.all λ x=>decide (sc.names.lookup x=some .local)||decide (sc.names.lookup x=some .cell))&&(fr.all λ x=>decide (sc.names.lookup x=some .free))&&(sc.names.all λ y=>!decide (y.2=.cell)||decide (sc.names.lookup y.1=some .cell))
theorem aT2 {ps fr:List Str}{sc:Scope}(h:aY9 ps fr sc=true):LamScope (ps++fr) ps fr sc:=by
 unfold aY9 at h
 simp only[ah,decide_eq_true_eq,d5,aK,bJ]at h
 obtain⟨⟨⟨⟨⟨⟨J,F⟩,h3⟩,G⟩,B⟩,Y⟩,h7⟩:=h
 exact⟨J,F,h3,G,rfl,B,Y,λ y hy e=>by
  rcases h7 y hy with z|z
  ·rw[e]at z;simp at z
  ·exact z⟩
noncomputable def bD8 (scope sc:Scope):Bool:=scope.names.all λ y=>!decide (scope.names.lookup y.1=some .free)||decide (sc.names.lookup y.1=some .cell)
theorem bh7 {scope sc:Scope}(h:bD8 scope sc=true):∀ x,scope.names.lookup x=some .free->sc.names.lookup x=some .cell:=λ x hx=>by
 have:=aK.mp h (x,.free) (aH hx)
 simp only[bJ,d5,decide_eq_false_iff_not,decide_eq_true_eq]at this
 rcases this with z|z
 ·exact absurd hx z
 ·exact z
noncomputable def lkB (sc:Scope)(N:List Str)(caps:List Nat)(params:bX)(body:Expr)(scope:Scope)(t:mn×List Str×List Str):Bool :=
 decide (lamArgs params=some t.2.1)&&decide (caps.map (λ j=>N[j]?)=t.2.2.map some)&&lamCheck scope sc&&bD8 scope sc&&aY9 t.2.1 t.2.2 scope&&decide (t.2.1.length=t.1.ps)&&decide (t.2.2.length=t.1.cs)&&mE (ck0 (t.2.1++t.2.2) scope) t.1.body body
noncomputable def lkG (f:Str)(sc:Scope)(N:List Str)(tab:List (String×mn×List Str×List Str))(id:String)(caps:List Nat)(E:Expr):Bool:=match tab.lookup id,E with
 | some t,.Lambda params body scope _=>decide (sfx f = "<lambda>")&&lkB sc N caps params body scope t
 | some t,.NamedExpr (.Name nm _) (.Lambda params body scope p1) p2=>decide (sfx f=nm)&&decide (p1=p2)&&lkB sc N caps params body scope t
 | _,_=>false
theorem bq5 {names:List Str}{P:lp}{K:ac}{f:Str}{sc:Scope}{N:List Str}{fd:bH}{tab:List (String×mn×List Str×List Str)}(hf:f∈names)(G:fd.code=.ref ((a8 K f).getD (0,0)).1)(Y:∀ y∈sc.names,y.2=.cell->sc.names.lookup y.1=some .cell)
  (J:∀ id t,tab.lookup id=some t->P.lm id=some t.1/\bk2 t.2.1):bt4 (bb5 names P K) (bp7 names K) f sc N fd (lkG f sc N tab):=by
 intro id B E h
 have F:∀(t:mn×List Str×List Str) (params:bX) (body:Expr) (scope:Scope) (nm:Option (Str×Pos)),tab.lookup id=some t->lkB sc N B params body scope t=true->(match nm with|none => "<lambda>" | some p=>p.1)=sfx f ->
   LkAt (bb5 names P K) (bp7 names K) f sc N fd id B params body scope ((a8 K f).getD (0,0)).1 ((a8 K f).getD (0,0)).2 ⟨f ++ ".<locals>."++sfx f,params,body,scope,t.2.1,t.2.2,nm⟩:=λ t params body scope nm e h hs=>by
  obtain⟨L,ps,fr⟩:=t
  unfold lkB at h
  simp only[ah,decide_eq_true_eq]at h
  obtain⟨⟨⟨⟨⟨⟨⟨h1,h2⟩,h3⟩,h4⟩,h5⟩,h6⟩,h7⟩,h8⟩:=h
  obtain⟨hL,hB⟩:=J id _ e
  obtain⟨args,rfl,a0⟩:=aC9 h1
  have Z:fr.length=B.length:=by have:=congrArg kM h2;simpa using this.symm
  have S:=aT2 h5
  refine⟨G,aP.mpr ⟨f,hf,rfl⟩,h3,bh7 h4,Y,λ env=>rfl,⟨L,hL,⟨S,h6,h7,h8,h1,λ a2 a4 pm c' a3 us a1=>hB _ h1 _ _ _ _ _ _ _ _ _ a1⟩⟩,?_,rfl,rfl,rfl,Z,λ i j x e1 e2=>?_,S.frs,aP.mpr ⟨f,hf,rfl⟩⟩
  ·show f ++ ".<locals>."++sfx f=f ++ ".<locals>."++LamI.own _
   unfold LamI.own
   rw[<-hs]<;>rfl
  ·have e3:(B.map (λ j=>N[j]?))[i]?=some (N[j]?):=by rw[aF,e1];rfl
   rw[h2,aF,e2]at e3
   exact(ax e3).symm
 unfold lkG at h
 split at h
 case h_3=>cases h
 ·rename_i t params body scope pos e
  rw[ah]at h
  exact⟨_,_,params,body,scope,pos,_,rfl,F t params body scope none e h.2 (of_decide_eq_true h.1).symm⟩
 ·rename_i t nm rp params body scope p1 p2 e
  rw[ah,ah]at h
  have ep:=of_decide_eq_true h.1.2
  subst ep
  exact⟨_,_,params,body,scope,p1,_,rfl,F t params body scope (some (nm,rp)) e h.2 (of_decide_eq_true h.1.1).symm⟩
theorem aR1 {names:List Str}{P:lp}{K:ac}{f:Str}{sc:Scope}{N:List Str}{B:bH}:bt4 (bb5 names P K) (bp7 names K) f sc N B (λ _ _ _=>false):=λ _ _ _ h=>by cases h
theorem cc8 {names:List Str}{P:lp}{K:ac}:∀ id J,(bb5 names P K).lg id J->∃ L,P.lm id=some L/\LamGood J L:=λ _ _ h=>h
theorem bY1 {P:lp}{tab:List (String×mn×List Str×List Str)}(h:∀ p∈tab,P.lm p.1=some p.2.1/\bk2 p.2.2.1):∀ id t,tab.lookup id=some t->P.lm id=some t.1/\bk2 t.2.1:=by
 induction tab with
 | nil=>intro id t e;cases e
 | cons y l ih =>
  intro id t e
  rw[aY]at e
  cases q:id==y.1 with
  | true =>
   rw[q]at e
   cases e
   rw[eq_of_beq q]
   exact h y (ar ..)
  | false =>
   rw[q]at e
   exact ih (λ p B=>h p (ai _ B)) id t e
def bV4 (K:ac)(n:Str)(st:Stmt):Prop:=∃(f:Addr) (od an:Option Addr) (sl:Array (Option Value)) (oc kV dc pm cd ct:Value),cr K bh n=some (some (.ref f)) /\
 K.lookup f=some ⟨oc,od,.func (cO n n (defArgs st) (zt st) (defScope st) .none kV dc pm an cd ct),sl⟩/\fo K cd n=true/\b9 K (.ref f)=true
def cd6 (n:Str)(st:Stmt)(ps:List Str):Prop:=∀(kV doc pm:Value) (an:Option Addr) (cdv ct:Value) (us:List Value),us.length=ps.length->dW (cO n n (defArgs st) (zt st) (defScope st) .none kV doc pm an cdv ct) ⟨us,[]⟩=pure (ps.zip us)
theorem bd0 {Q:List Value->Prop}(h:Q [])(us:List Value)(hl:us.length=0):Q us:=by
 cases us with
 | nil=>exact h
 | cons _ _=>cases hl
theorem bdS {k:Nat}{Q:List Value->Prop}(h:∀ a us,us.length=k->Q (a::us))(us:List Value)(hl:us.length=k+1):Q us:=by
 cases us with
 | nil=>cases hl
 | cons a us=>exact h a us (Nat.succ.inj hl)
theorem bd1 {Q:List Value->Prop}(h:∀ a,Q [a]):∀ us:List Value,us.length=1->Q us:=bdS λ a=>bd0 (h a)
theorem bd2 {Q:List Value->Prop}(h:∀ a b,Q [a,b]):∀ us:List Value,us.length=2->Q us:=bdS λ a=>bd1 (h a)
theorem bd3 {Q:List Value->Prop}(h:∀ a b c,Q [a,b,c]):∀ us:List Value,us.length=3->Q us:=bdS λ a=>bd2 (h a)
theorem bd4 {Q:List Value->Prop}(h:∀ a b c d,Q [a,b,c,d]):∀ us:List Value,us.length=4->Q us:=bdS λ a=>bd3 (h a)
theorem bd5 {Q:List Value->Prop}(h:∀ a b c d e,Q [a,b,c,d,e]):∀ us:List Value,us.length=5->Q us:=bdS λ a=>bd4 (h a)
def DTB (names:List Str)(P:lp)(n:String)(pc vc:Nat)(m:Ck->List Stmt->Bool)(st:Stmt):Prop:=∃ N ps,FnScope N ps (defScope st)/\ps.length=pc/\N.length=pc+vc/\cd6 n st ps/\(m ⟨N,defScope st,λ _ _ _=>false⟩ (zt st)=true \/
 ((n:Str)∈names/\∃ tab,m ⟨N,defScope st,lkG n (defScope st) N tab⟩ (zt st)=true/\(∀ y∈(defScope st).names,y.2=.cell->(defScope st).names.lookup y.1=some .cell)/\∀ p∈tab,P.lm p.1=some p.2.1/\bk2 p.2.2.1))
def DT (names:List Str)(P:lp)(n:String)(d:mq)(st:Stmt):Prop:=DTB names P n d.ps d.vs (λ ck S=>mSs ck d.body S) st
theorem af1 {names:List Str}{P:lp}{K:ac}{h:Heap}{mg:Str->Option Value}{n:String}{Z J:Nat}{m:Ck->List Stmt->Bool}{st:Stmt}(X:K.In h)(G:h.Ns bh mg)(hT:∀ x∈names,(a8 K x).isSome=true)(hD:bV4 K n st)(hd:DTB names P n Z J m st):GoodB (bb5 names P K) (bp7 names K) mg n Z J m:=by
 obtain⟨f,od,an,sl,oc,kV,dc,pm,cd,ct,a,l,c,k⟩:=hD
 obtain⟨N,ps,h1,Y,h3,h4,B⟩:=hd
 have F:=bn0 (st:=st) l c k
 have D:DefAt K mg n st ps f _:=⟨F,bQ X G a,F.binds h4⟩
 rcases B with B|⟨hn,tab,B,h6,h7⟩
 ·exact⟨_,_,_,_,_,_,D,h1,Y,h3,B,aR1⟩
 ·exact⟨_,_,_,_,_,_,D,h1,Y,h3,B,bq5 hn (PySem.W.law_code X G (at2 (hT _ hn)) (bQ X G a) (X _ _ l) rfl) h6 (bY1 h7)⟩
theorem good_of {names:List Str}{P:lp}{K:ac}{h:Heap}{mg:Str->Option Value}{n:String}{d:mq}{st:Stmt}(X:K.In h)(G:h.Ns bh mg)(hT:∀ x∈names,(a8 K x).isSome=true)(hD:bV4 K n st)(hd:DT names P n d st):Good (bb5 names P K) (bp7 names K) mg n d:=af1 X G hT hD hd
theorem aB8 {α:Type}{Q:String->α->Prop}:∀ {tbl:List (String×α)},(∀ p∈tbl,Q p.1 p.2)->∀ f d,tbl.lookup f=some d->Q f d
 | [],_,f,d,h=>by cases h
 | (g,e)::tbl,H,f,d,h=>by
  rw[aY]at h
  cases q:f==g with
  | true =>
   rw[q]at h
   cases h
   rw[eq_of_beq q]
   exact H (g,_) (ar ..)
  | false =>
   rw[q]at h
   exact aB8 (λ p B=>H p (ai _ B)) f d h
noncomputable def ce1 (K:ac)(c:String):Bool:=match cr K bh (c:Str)with|some (some (.ref C))=>bV7 K C&&excI K C|_=>false
noncomputable def cd1 (K:ac)(c:String):Bool:=match cr K bh (c:Str)with|some (some (.ref _))=>true|_=>false
noncomputable def cf3 (K:ac)(c d:String):Bool:=match cr K bh (c:Str),cr K bh (d:Str)with|some (some (.ref C)),some (some (.ref D))=>bI K (.ref C) (.ref D)==some (mF c d)|_,_=>false
noncomputable def bz5 (K:ac)(cs ts:List String):Bool:=cs.all (ce1 K)&&(ts.all (cd1 K)&&cs.all λ c=>ts.all λ d=>cf3 K c d)
theorem aU2 {K:ac}{h:Heap}{mg:Str->Option Value}{cs ts:List String}(X:K.In h)(G:h.Ns bh mg)(hx:bz5 K cs ts=true) :
  (∀ c:String,cs.contains c=true->∃ C,mg (c:Str)=some (.ref C)/\ExcCls K C/\excI K C=true)/\(∀ c:String,ts.contains c=true->∃ C,mg (c:Str)=some (.ref C)) /\
  ∀(c d:String) (C D:Addr),cs.contains c=true->ts.contains d=true->mg (c:Str)=some (.ref C)->mg (d:Str)=some (.ref D)->bI K (.ref C) (.ref D)=some (mF c d):=by
 unfold bz5 at hx
 simp only[ah]at hx
 obtain⟨Z,Y,h3⟩:=hx
 refine⟨λ c hc=>?_,λ c hc=>?_,λ c d C D hc hd mc J=>?_⟩
 ·have q:=aK.mp Z c (c9.mp hc)
  unfold ce1 at q
  split at q
  ·rename_i C e
   rw[ah]at q
   exact⟨C,bQ X G e,bq2 q.1,q.2⟩
  ·cases q
 ·have q:=aK.mp Y c (c9.mp hc)
  unfold cd1 at q
  split at q
  ·rename_i C e
   exact⟨C,bQ X G e⟩
  ·cases q
 ·have q:=aK.mp (aK.mp h3 c (c9.mp hc)) d (c9.mp hd)
  unfold cf3 at q
  split at q
  ·rename_i C' D' e1 e2
   have B:=bQ X G e1
   have F:=bQ X G e2
   rw[mc]at B;cases B
   rw[J]at F;cases F
   exact eq_of_beq q
  ·cases q
end L2
end
noncomputable section
namespace DV
noncomputable def av4:Df:=⟨"_law_bag",2,3,(.cons (.asg (.one 2) (.cst (.int 0))) (.cons (.ite (.cmp .lt (.var 1) (.bi .len (.cons (.var 0) .nil))) (.cons (.asg (.one 2) (.bi .abs (.cons (.ix (.var 0) (.var 1)) .nil))) .nil) .nil) (.cons (.asg (.one 3) (.bin .add (.bin .mul (.cst (.int 7919)) (.var 1)) (.cst (.int 17)))) (.cons (.for_ (.one 4) (.rng1 (.bi .min2 (.cons (.bi .len (.cons (.var 0) .nil)) (.cons (.cst (.int 60)) .nil)))) (.cons (.asg (.one 3) (.bin .mod (.bin .add (.bin .add (.bin .mul (.var 3) (.cst (.int 48271))) (.bin .mod (.ix (.var 0) (.var 4)) (.cst (.int 2147483647)))) (.var 4)) (.cst (.int 2147483629)))) .nil)) (.cons (.ite (.cmp .lt (.var 2) (.bin .pow (.cst (.int 10)) (.cst (.int 18)))) (.cons (.asg (.one 2) (.cst (.int 0))) .nil) .nil) (.cons (.ret (.lst (.cons (.var 2) (.cons (.var 3) .nil)))) .nil))))))⟩
noncomputable def ac8:Df:=⟨"_law_take",2,3,(.cons (.ite (.cmp .gt (.ix (.var 0) (.cst (.int 0))) (.cst (.int 0))) (.cons (.asg (.one 2) (.bin .mod (.ix (.var 0) (.cst (.int 0))) (.var 1))) (.cons (.setIx (.var 0) (.cst (.int 0)) (.bin .fdiv (.ix (.var 0) (.cst (.int 0))) (.var 1))) (.cons (.ret (.var 2)) .nil))) .nil) (.cons (.asg (.one 3) (.cst (.int 0))) (.cons (.asg (.one 4) (.cst (.int 1))) (.cons (.whl (.cmp .lt (.var 4) (.var 1)) (.cons (.setIx (.var 0) (.cst (.int 1)) (.bin .mod (.bin .add (.bin .mul (.ix (.var 0) (.cst (.int 1))) (.cst (.int 48271))) (.cst (.int 7919))) (.cst (.int 2147483647)))) (.cons (.asg (.one 3) (.bin .add (.bin .mul (.var 3) (.cst (.int 1073741789))) (.bin .mod (.bin .mul (.bin .fdiv (.ix (.var 0) (.cst (.int 1))) (.cst (.int 8))) (.cst (.int 69621))) (.cst (.int 1073741789))))) (.cons (.asg (.one 4) (.bin .mul (.var 4) (.cst (.int 1073741789)))) .nil)))) (.cons (.ret (.bin .mod (.var 3) (.var 1))) .nil)))))⟩
noncomputable def ad4:Df:=⟨"_law_rooms",2,1,(.cons (.asg (.one 2) (.call "_law_take" (.ex (.var 0) (.ex (.bin .shl (.cst (.int 1)) (.var 1)) .nil)))) (.cons (.ret (.mk .tuple (.compIf (.one 0) (.rng1 (.var 1)) (.cmp .eq (.bin .mod (.bin .fdiv (.var 1) (.bin .shl (.cst (.int 1)) (.var 0))) (.cst (.int 2))) (.cst (.int 1))) (.var 0) [none,some 2]))) .nil))⟩
noncomputable def aa6:Df:=⟨"letters_of",1,0,(.cons (.ret (.slU (.glob "LETTERS") (.ix (.var 0) (.cst (.int 0))))) .nil)⟩
noncomputable def ab0:Df:=⟨"rooms_of",1,0,(.cons (.ret (.ix (.var 0) (.cst (.int 1)))) .nil)⟩
noncomputable def ab2:Df:=⟨"begins_of",1,0,(.cons (.ret (.ix (.var 0) (.cst (.int 2)))) .nil)⟩
noncomputable def ab1:Df:=⟨"ends_of",1,0,(.cons (.ret (.ix (.var 0) (.cst (.int 3)))) .nil)⟩
noncomputable def aa9:Df:=⟨"doors_of",1,0,(.cons (.ret (.ix (.var 0) (.cst (.int 4)))) .nil)⟩
noncomputable def bm7:Df:=⟨"grid",2,2,(.cons (.asg (.one 2) (.lst .nil)) (.cons (.for_ (.one 3) (.rng1 (.var 0)) (.cons (.ex (.meth .append (.var 2) (.cons (.mk .tuple (.comp (.one 0) (.rng1 (.var 0)) (.callV 1 (.cons (.var 2) (.cons (.var 0) .nil))) [none,some 1,some 3])) .nil))) .nil)) (.cons (.ret (.mk .tuple (.seq (.var 2)))) .nil)))⟩
noncomputable def ab8:Df:=⟨"least",1,0,(.cons (.ret (.mkD .min (.compIf (.one 0) (.seq (.var 0)) (.notN (.var 0)) (.var 0) [none]) (.cst .non))) .nil)⟩
noncomputable def ac5:Df:=⟨"added",2,0,(.cons (.ite (.or (.isN (.var 0)) (.isN (.var 1))) (.cons (.ret (.cst .non)) .nil) .nil) (.cons (.ret (.bin .add (.var 0) (.var 1))) .nil))⟩
noncomputable def ag9:Df:=⟨"cut",2,0,(.cons (.ite (.or (.isN (.var 0)) (.cmp .le (.var 0) (.var 1))) (.cons (.ret (.var 0)) .nil) .nil) (.cons (.ret (.bin .add (.var 1) (.cst (.int 1)))) .nil))⟩
noncomputable def ae8:Df:=⟨"_law_bound",1,0,(.cons (.ret (.ix (.lst (.cons (.call "_law_take" (.ex (.var 0) (.ex (.cst (.int 3)) .nil))) (.cons (.call "_law_take" (.ex (.var 0) (.ex (.cst (.int 13)) .nil))) (.cons (.call "_law_take" (.ex (.var 0) (.ex (.bin .pow (.cst (.int 10)) (.cst (.int 9))) .nil))) (.cons (.call "_law_take" (.ex (.var 0) (.ex (.bin .pow (.cst (.int 10)) (.cst (.int 30))) .nil))) .nil))))) (.call "_law_take" (.ex (.var 0) (.ex (.cst (.int 4)) .nil))))) .nil)⟩
noncomputable def ab3:Df:=⟨"first_row",1,1,(.cons (.asg (.one 1) (.call "begins_of" (.ex (.var 0) .nil))) (.cons (.ret (.mk .tuple (.comp (.one 0) (.rng1 (.call "rooms_of" (.ex (.var 0) .nil))) (.ite (.cmp .isin (.var 0) (.var 1)) (.cst (.int 0)) (.cst .non)) [none,some 1]))) .nil))⟩
noncomputable def aa2:Df:=⟨"least_into",4,0,(.cons (.ret (.call "least" (.ex (.mk .list (.compIf (.tup [0,1,2,3]) (.seq (.call "doors_of" (.ex (.var 0) .nil))) (.and (.cmp .eq (.var 1) (.var 4)) (.cmp .eq (.var 2) (.var 5))) (.call "added" (.ex (.ix (.var 6) (.var 0)) (.ex (.var 3) .nil))) [none,none,none,none,some 2,some 3,some 1])) .nil))) .nil)⟩
noncomputable def ai0:Df:=⟨"led",4,0,(.cons (.ret (.mk .tuple (.comp (.one 0) (.rng1 (.call "rooms_of" (.ex (.var 0) .nil))) (.call "cut" (.ex (.call "least_into" (.ex (.var 1) (.ex (.var 2) (.ex (.var 3) (.ex (.var 0) .nil))))) (.ex (.var 4) .nil))) [none,some 0,some 2,some 3,some 1]))) .nil)⟩
noncomputable def ab5:Df:=⟨"end_of",2,0,(.cons (.ret (.call "least" (.ex (.mk .list (.comp (.one 0) (.seq (.call "ends_of" (.ex (.var 0) .nil))) (.ix (.var 1) (.var 0)) [none,some 1])) .nil))) .nil)⟩
noncomputable def ac0:Df:=⟨"_law_machine",1,5,(.cons (.asg (.one 1) (.bin .add (.cst (.int 1)) (.call "_law_take" (.ex (.var 0) (.ex (.cst (.int 3)) .nil))))) (.cons (.asg (.one 2) (.bin .add (.cst (.int 1)) (.call "_law_take" (.ex (.var 0) (.ex (.cst (.int 5)) .nil))))) (.cons (.asg (.one 3) (.call "_law_take" (.ex (.var 0) (.ex (.cst (.int 13)) .nil)))) (.cons (.ite (.cmp .eq (.call "_law_take" (.ex (.var 0) (.ex (.cst (.int 8)) .nil))) (.cst (.int 7))) (.cons (.asg (.one 3) (.call "_law_take" (.ex (.var 0) (.ex (.cst (.int 31)) .nil)))) .nil) .nil) (.cons (.asg (.one 4) (.lst .nil)) (.cons (.for_ (.one 5) (.rng1 (.var 3)) (.cons (.ex (.meth .append (.var 4) (.cons (.tup (.cons (.call "_law_take" (.ex (.var 0) (.ex (.var 2) .nil))) (.cons (.ix (.cst (.str [97,98,99])) (.call "_law_take" (.ex (.var 0) (.ex (.var 1) .nil)))) (.cons (.call "_law_take" (.ex (.var 0) (.ex (.var 2) .nil))) (.cons (.call "_law_take" (.ex (.var 0) (.ex (.cst (.int 4)) .nil))) .nil))))) .nil))) .nil)) (.cons (.ret (.tup (.cons (.var 1) (.cons (.var 2) (.cons (.call "_law_rooms" (.ex (.var 0) (.ex (.var 2) .nil))) (.cons (.call "_law_rooms" (.ex (.var 0) (.ex (.var 2) .nil))) (.cons (.mk .tuple (.seq (.var 4))) .nil))))))) .nil)))))))⟩
noncomputable def ad2:Df:=⟨"_law_first",1,0,(.cons (.ret (.mk .tuple (.comp (.one 0) (.rng1 (.ix (.var 0) (.cst (.int 1)))) (.ix (.lst (.cons (.cst .non) (.cons (.cst (.int 0)) .nil))) (.bi .int (.cons (.cmp .isin (.var 0) (.ix (.var 1) (.cst (.int 2)))) .nil))) [none,some 0]))) .nil)⟩
noncomputable def as2:Df:=⟨"_law_end",2,0,(.cons (.ret (.mkD .min (.compIf (.one 0) (.seq (.ix (.var 0) (.cst (.int 3)))) (.notN (.ix (.var 1) (.var 0))) (.ix (.var 1) (.var 0)) [none,some 1]) (.cst .non))) .nil)⟩
noncomputable def ac1:Df:=⟨"rows_met",2,4,(.cons (.asg (.one 2) (.call "first_row" (.ex (.var 0) .nil))) (.cons (.asg (.one 3) (.lst (.cons (.tup (.cons (.cst (.str [])) (.cons (.var 2) .nil))) .nil))) (.cons (.asg (.one 4) (.dicU (.var 2) (.cst (.bl true)))) (.cons (.asg (.one 5) (.cst (.int 0))) (.cons (.whl (.and (.cmp .lt (.var 5) (.bi .len (.cons (.var 3) .nil))) (.not (.call "ends_above" (.ex (.var 0) (.ex (.var 1) (.ex (.ix (.ix (.var 3) (.neg (.cst (.int 1)))) (.cst (.int 1))) .nil)))))) (.cons (.ex (.call "meet_behind" (.ex (.var 0) (.ex (.var 1) (.ex (.ix (.var 3) (.var 5)) (.ex (.var 3) (.ex (.var 4) .nil))))))) (.cons (.aug 5 (.cst (.int 1))) .nil))) (.cons (.ret (.var 3)) .nil))))))⟩
noncomputable def aa4:Df:=⟨"ends_above",3,0,(.cons (.ret (.cmp .eq (.call "end_of" (.ex (.var 0) (.ex (.var 2) .nil))) (.bin .add (.var 1) (.cst (.int 1))))) .nil)⟩
noncomputable def aa3:Df:=⟨"meet_behind",5,2,(.cons (.for_ (.one 5) (.seq (.call "letters_of" (.ex (.var 0) .nil))) (.cons (.asg (.one 6) (.call "led" (.ex (.var 0) (.ex (.var 1) (.ex (.ix (.var 2) (.cst (.int 1))) (.ex (.var 5) .nil)))))) (.cons (.ite (.cmp .isin (.var 6) (.var 4)) (.cons .cont .nil) .nil) (.cons (.ite (.cmp .eq (.bi .len (.cons (.var 3) .nil)) (.glob "MOST_ROWS")) (.cons .raise .nil) .nil) (.cons (.setIx (.var 4) (.var 6) (.cst (.bl true))) (.cons (.ex (.meth .append (.var 3) (.cons (.tup (.cons (.bin .add (.ix (.var 2) (.cst (.int 0))) (.var 5)) (.cons (.var 6) .nil))) .nil))) (.cons (.ite (.call "ends_above" (.ex (.var 0) (.ex (.var 1) (.ex (.var 6) .nil)))) (.cons .retN .nil) .nil) .nil))))))) .nil)⟩
noncomputable def ad9:Df:=⟨"above",2,1,(.cons (.asg (.one 2) (.ix (.call "rows_met" (.ex (.var 0) (.ex (.var 1) .nil))) (.neg (.cst (.int 1))))) (.cons (.ite (.call "ends_above" (.ex (.var 0) (.ex (.var 1) (.ex (.ix (.var 2) (.cst (.int 1))) .nil)))) (.cons (.ret (.ix (.var 2) (.cst (.int 0)))) .nil) .nil) (.cons (.ret (.cst .non)) .nil)))⟩
noncomputable def ad6:Df:=⟨"_law_led",4,6,(.cons (.asg (.one 4) (.mk .list (.comp (.one 0) (.seq (.var 2)) (.cst .non) [none]))) (.cons (.for_ (.tup [5,6,7,8]) (.seq (.ix (.var 0) (.cst (.int 4)))) (.cons (.ite (.and (.cmp .eq (.var 6) (.var 3)) (.notN (.ix (.var 2) (.var 5)))) (.cons (.asg (.one 9) (.bi .min2 (.cons (.bin .add (.ix (.var 2) (.var 5)) (.var 8)) (.cons (.bin .add (.var 1) (.cst (.int 1))) .nil)))) (.cons (.ite (.or (.isN (.ix (.var 4) (.var 7))) (.cmp .lt (.var 9) (.ix (.var 4) (.var 7)))) (.cons (.setIx (.var 4) (.var 7) (.var 9)) .nil) .nil) .nil)) .nil) .nil)) (.cons (.ret (.mk .tuple (.seq (.var 4)))) .nil)))⟩
noncomputable def ae2:Df:=⟨"_law_found",2,6,(.cons (.asg (.one 2) (.lst (.cons (.call "_law_first" (.ex (.var 0) .nil)) .nil))) (.cons (.asg (.one 3) (.lst (.cons (.cst (.str [])) .nil))) (.cons (.asg (.one 4) (.dicU (.ix (.var 2) (.cst (.int 0))) (.cst (.bl true)))) (.cons (.for_ (.one 5) (.rng1 (.cst (.int 300))) (.cons (.ite (.cmp .eq (.var 5) (.bi .len (.cons (.var 2) .nil))) (.cons (.ret (.var 3)) .nil) .nil) (.cons (.for_ (.one 6) (.seq (.slU (.cst (.str [97,98,99])) (.ix (.var 0) (.cst (.int 0))))) (.cons (.asg (.one 7) (.call "_law_led" (.ex (.var 0) (.ex (.var 1) (.ex (.ix (.var 2) (.var 5)) (.ex (.var 6) .nil)))))) (.cons (.ite (.cmp .notin (.var 7) (.var 4)) (.cons (.ite (.cmp .eq (.bi .len (.cons (.var 2) .nil)) (.cst (.int 300))) (.cons (.ret (.cst .non)) .nil) .nil) (.cons (.setIx (.var 4) (.var 7) (.cst (.bl true))) (.cons (.ex (.meth .append (.var 2) (.cons (.var 7) .nil))) (.cons (.ex (.meth .append (.var 3) (.cons (.bin .add (.ix (.var 3) (.var 5)) (.var 6)) .nil))) (.cons (.ite (.cmp .eq (.call "_law_end" (.ex (.var 0) (.ex (.var 7) .nil))) (.bin .add (.var 1) (.cst (.int 1)))) (.cons (.ret (.var 3)) .nil) .nil) .nil))))) .nil) .nil))) .nil))) (.cons (.ret (.var 3)) .nil)))))⟩
noncomputable def ab9:Df:=⟨"law",1,8,(.cons (.for_ (.one 1) (.rng1 (.cst (.int 2))) (.cons (.asg (.one 2) (.call "_law_bag" (.ex (.var 0) (.ex (.var 1) .nil)))) (.cons (.asg (.one 3) (.call "_law_machine" (.ex (.var 2) .nil))) (.cons (.asg (.one 4) (.call "_law_bound" (.ex (.var 2) .nil))) (.cons (.asg (.one 5) (.call "_law_found" (.ex (.var 3) (.ex (.var 4) .nil)))) (.cons (.asg (.one 6) (.lst .nil)) (.cons (.ite (.notN (.var 5)) (.cons (.asg (.one 7) (.call "_law_first" (.ex (.var 3) .nil))) (.cons (.for_ (.one 8) (.seq (.ix (.var 5) (.neg (.cst (.int 1))))) (.cons (.asg (.one 7) (.call "_law_led" (.ex (.var 3) (.ex (.var 4) (.ex (.var 7) (.ex (.var 8) .nil)))))) .nil)) (.cons (.asg (.one 6) (.lst (.cons (.cst .non) .nil))) (.cons (.ite (.cmp .eq (.call "_law_end" (.ex (.var 3) (.ex (.var 7) .nil))) (.bin .add (.var 4) (.cst (.int 1)))) (.cons (.asg (.one 6) (.lst (.cons (.ix (.var 5) (.neg (.cst (.int 1)))) .nil))) .nil) .nil) .nil)))) .nil) (.cons (.ite (.cmp .ne (.call "_law_above" (.ex (.var 3) (.ex (.var 4) .nil))) (.var 6)) (.cons (.ret (.cst (.bl false))) .nil) .nil) .nil)))))))) (.cons (.ret (.cst (.bl true))) .nil))⟩
noncomputable def an0:Df:=⟨"sign_product",2,1,(.cons (.asg (.one 2) (.bi .len (.cons (.var 0) .nil))) (.cons (.ret (.callC "grid" (.ex (.var 2) (.lam "sign_product.0" [2,0,1] .nil)))) .nil))⟩
noncomputable def ag6:Lm:=⟨"sign_product.0",2,3,(.mk .min (.comp (.one 0) (.rng1 (.var 2)) (.bi .max2 (.cons (.ix (.ix (.var 1) (.var 2)) (.var 0)) (.cons (.ix (.ix (.var 3) (.var 0)) (.var 4)) .nil))) [none,some 3,some 0,some 4,some 1]))⟩
noncomputable def ch8:Df:=⟨"_law_on",3,5,(.cons (.asg (.one 3) (.mk .list (.comp (.one 0) (.seq (.var 2)) (.cst .non) [none]))) (.cons (.for_ (.tup [4,5,6,7]) (.seq (.ix (.var 0) (.cst (.int 4)))) (.cons (.ite (.and (.cmp .eq (.var 5) (.var 1)) (.notN (.ix (.var 2) (.var 4)))) (.cons (.ite (.or (.isN (.ix (.var 3) (.var 6))) (.cmp .lt (.bin .add (.ix (.var 2) (.var 4)) (.var 7)) (.ix (.var 3) (.var 6)))) (.cons (.setIx (.var 3) (.var 6) (.bin .add (.ix (.var 2) (.var 4)) (.var 7))) .nil) .nil) .nil) .nil) .nil)) (.cons (.ret (.var 3)) .nil)))⟩
class Has (P:Pr)(d:Df):Prop where
 eq:P.df d.name=some d
class HasL (P:Pr)(d:Lm):Prop where
 eq:P.lm d.id=some d
class HasC (P:Pr)(x:String)(v:D):Prop where
 eq:P.con x=some v
noncomputable def fin (s:Sto)(c:Ct)(s':Sto):R D:=match c with
 | .ret v=>zo s v s'
 | .next _=>zo s .non s'
 | _=>.bad
@[simp] theorem fin_ret (s:Sto) (v:D) (s':Sto):fin s (.ret v) s'=zo s v s':=rfl
@[simp] theorem fin_next (s:Sto) (ρ:Env) (s':Sto):fin s (.next ρ) s'=zo s .non s':=rfl
theorem zd {P:Pr}(d:Df)[h:Has P d]{n:Nat}{l:List D}{s:Sto}(hl:l.length=d.ps) :
  (aa0 P (n+1)).call d.name l s=(exs (aa0 P n) d.body (l.map some++aq d.vs none) s).bind (fin s):=by
 simp only[aa0,h.eq,hl,if_true]
 rfl
theorem bt7 {P:Pr}{x:String}{v:D}[h:HasC P x v]{n:Nat}:(aa0 P n).con x=some v:=by
 cases n<;>exact h.eq
theorem ay5 (s t:Sto):aj9 s (s++t)=true:=by
 unfold aj9
 rw[aK]
 intro i h
 rw[b7]at h
 rw[aM h]
 simp
theorem aX1 (s t:Sto)(r:Nat)(o:O)(h:o.bnd s.length=true):aj9 s (s.set r o++t)=true:=by
 unfold aj9
 rw[aK]
 intro i B
 rw[b7]at B
 rw[aM (by rw[bj];exact B)]
 by_cases e:r=i
 ·subst e;rw[aV B];simp[h]
 ·rw[a9 e];simp
theorem zT {s t:Sto}{d:D}(h:∀ n,d.bnd n=true)(hr:∀ r,d≠.ref r):zo s d (s++t)=.ok d s:=by
 unfold zo
 rw[ay5,if_pos rfl]
 cases d with
 | ref r=>exact absurd rfl (hr r)
 | _=>simp[h]
theorem zx {s:Sto}{d:D}(h:∀ n,d.bnd n=true)(hr:∀ r,d≠.ref r):zo s d s=.ok d s:=by
 have:=zT (s:=s) (t:=[]) h hr
 rwa [bq]at this
theorem ak6 {s t:Sto}{d:D}{r:Nat}{o:O}(h:∀ n,d.bnd n=true)(hr:∀ r,d≠.ref r)(ho:o.bnd s.length=true):zo s d (s.set r o++t)=.ok d (s.set r o):=by
 unfold zo
 rw[aX1 s t r o ho,if_pos rfl]
 have e:(s.set r o++t).take s.length=s.set r o:=by rw[List.take_append_of_le_length (by simp),d7 (by simp)]
 cases d with
 | ref r=>exact absurd rfl (hr r)
 | _=>simp only[h,if_true,e]
theorem ah0 {s:Sto}{d:D}{r:Nat}{o:O}(h:∀ n,d.bnd n=true)(hr:∀ r,d≠.ref r)(ho:o.bnd s.length=true):zo s d (s.set r o)=.ok d (s.set r o):=by
 have:=ak6 (s:=s) (t:=[]) (r:=r) h hr ho
 rwa [bq]at this
theorem qF {s t u:Sto}{o:O}(ho:o.bnd s.length=true):zo s (.ref (s.length+t.length)) (s++(t++o::u))=.ok (.ref s.length) (s++[o]):=by
 unfold zo
 rw[ay5,if_pos rfl]
 simp[ho,aB]
@[simp] theorem aW8 {s:Sto} {i:Int}:zo s (.int i) s=.ok (.int i) s:=zx (λ _=>rfl) (by nofun)
@[simp] theorem bh3 {s:Sto} {i:Bool}:zo s (.bl i) s=.ok (.bl i) s:=zx (λ _=>rfl) (by nofun)
@[simp] theorem au7 {s:Sto}:zo s .non s=.ok .non s:=zx (λ _=>rfl) (by nofun)
@[simp] theorem bI0 {s:Sto} {x:List Nat}:zo s (.str x) s=.ok (.str x) s:=zx (λ _=>rfl) (by nofun)
theorem qC {c:Env->Sto->R D}{g:Env->Sto->R Ct}:∀ {n:Nat} {ρ:Env} {s:Sto},qW c g n ρ s≠.bad->qW c g (n+1) ρ s=qW c g n ρ s
 | 0,_,_,h=>absurd rfl h
 | n+1,ρ,s,h=>by
  rw[show qW c g (n+1+1) ρ s=tru (c ρ s) (λ b s=>if b then(g ρ s).bind λ B s=>match B with
   | .next ρ=>qW c g (n+1) ρ s|.cont ρ=>qW c g (n+1) ρ s|.brk ρ=>.ok (.next ρ) s|.ret d=>.ok (.ret d) s else .ok (.next ρ) s)from rfl]
  have e:qW c g (n+1) ρ s=tru (c ρ s) (λ b s=>if b then(g ρ s).bind λ B s=>match B with
   | .next ρ=>qW c g n ρ s|.cont ρ=>qW c g n ρ s|.brk ρ=>.ok (.next ρ) s|.ret d=>.ok (.ret d) s else .ok (.next ρ) s):=rfl
  rw[e]at h ⊢
  unfold tru at h ⊢
  cases hc:c ρ s with
  | exc _ _=>rfl
  | bad=>rfl
  | ok d s1 =>
   rw[hc]at h
   cases d with
   | bl b =>
    cases b with
    | false=>rfl
    | true =>
     simp only[R.bind_ok,if_true]at h ⊢
     cases hg:g ρ s1 with
     | exc _ _=>rfl
     | bad=>rfl
     | ok B s2 =>
      rw[hg]at h
      simp only[R.bind_ok]at h ⊢
      cases B with
      | next ρ'=>exact qC h
      | cont ρ'=>exact qC h
      | _=>rfl
   | _=>rfl
theorem qb {c:Env->Sto->R D}{g:Env->Sto->R Ct}{n:Nat}{ρ:Env}{s:Sto}(h:qW c g n ρ s≠.bad):∀ k,qW c g (n+k) ρ s=qW c g n ρ s
 | 0=>rfl
 | k+1=>by
  have e:=qb h k
  rw[<-cY,qC (by rw[e];exact h),e]
theorem bM1 {c:Env->Sto->R D}{g:Env->Sto->R Ct}{n:Nat}{ρ:Env}{s:Sto}{r:Ct}{t:Sto}(h:qW c g n ρ s=.ok r t):whl c g ρ s=.ok r t:=by
 have hb:qW c g n ρ s≠.bad:=by rw[h];nofun
 have hx:∃ n,qW c g n ρ s≠.bad:=⟨n,hb⟩
 unfold whl
 rw[dif_pos hx]
 have F:=qb hx.choose_spec n
 have B:=qb hb hx.choose
 rw[<-F,e8,B,h]
theorem aj3 {c:Env->Sto->R D}{g:Env->Sto->R Ct}{ρ ρ':Env}{s s1 s':Sto}(hc:c ρ s=.ok (.bl true) s1)(hg:g ρ s1=.ok (.next ρ') s'):whl c g ρ s=whl c g ρ' s':=by
 have key:∀ n,qW c g (n+1) ρ s=qW c g n ρ' s':=λ n=>by
  show tru (c ρ s) _=_
  rw[hc,tru_bl,if_pos rfl,hg];rfl
 unfold whl
 by_cases hx:∃ n,qW c g n ρ' s'≠.bad
 ·have hy:∃ n,qW c g n ρ s≠.bad:=⟨hx.choose+1,by rw[key];exact hx.choose_spec⟩
  rw[dif_pos hx,dif_pos hy]
  have B:=qb hy.choose_spec (hx.choose+1)
  have h:=qb (n:=hx.choose+1) (ρ:=ρ) (s:=s) (by rw[key];exact hx.choose_spec) hy.choose
  rw[<-B,e8,h,key]
 ·have hy:¬ ∃ n,qW c g n ρ s≠.bad:=λ⟨n,hn⟩=>by
   cases n with
   | zero=>exact hn rfl
   | succ n=>exact hx ⟨n,by rw[<-key];exact hn⟩
  rw[dif_neg hx,dif_neg hy]
theorem aE8 {c:Env->Sto->R D}{g:Env->Sto->R Ct}{ρ:Env}{s s1:Sto}(hc:c ρ s=.ok (.bl false) s1):whl c g ρ s=.ok (.next ρ) s1 :=
 bM1 (n:=1) (by show tru (c ρ s) _=_;rw[hc,tru_bl];rfl)
theorem aB1 {ok:Sto->Bool}{g:D->Env->Sto->R Ct}(P:Nat->Env->Sto->Prop):∀(l:List D) (k:Nat) (ρ:Env) (s:Sto),
  P k ρ s->(∀(j:Nat) (ρ:Env) (s:Sto),j<=l.length->P (k+j) ρ s->ok s=true)->(∀(j:Nat) (d:D) (ρ:Env) (s:Sto),l[j]?=some d->P (k+j) ρ s->∃ ρ' s',(g d ρ s=.ok (.next ρ') s'\/g d ρ s=.ok (.cont ρ') s')/\P (k+j+1) ρ' s') ->
  ∃ ρ' s',qw ok g l ρ s=.ok (.next ρ') s'/\P (k+l.length) ρ' s'
 | [],k,ρ,s,h,o,_=>⟨ρ,s,by show(if ok s then _ else _)=_;rw[if_pos (o 0 ρ s (ak _) h)],h⟩
 | d::l,k,ρ,s,h,o,t=>by
  have ho:=o 0 ρ s (cc _) h
  obtain⟨ρ1,s1,hg,F⟩:=t 0 d ρ s rfl h
  obtain⟨ρ2,s2,e,G⟩:=aB1 P l (k+1) ρ1 s1 F (λ j ρ' s' hj B=>o (j+1) ρ' s' (by simpa using hj) (by rwa [show k+(j+1)=k+1+j by omega])) λ j d' ρ' s' hj B=>by
   have:=t (j+1) d' ρ' s' (by simpa using hj) (by rwa [show k+(j+1)=k+1+j by omega])
   rwa [show k+(j+1)+1=k+1+j+1 by omega]at this
  refine⟨ρ2,s2,?_,by rwa [aX,show k+(l.length+1)=k+1+l.length by omega]⟩
  show(if ok s then _ else _)=_
  rw[if_pos ho]
  rcases hg with hg|hg<;>(rw[hg];exact e)
noncomputable def Nx (Q:Env->Sto->Prop):R Ct->Prop
 | .ok (.next ρ) s=>Q ρ s
 | .ok (.cont ρ) s=>Q ρ s
 | _=>False
@[simp] theorem cc1 (Q:Env->Sto->Prop) (ρ:Env) (s:Sto):Nx Q (.ok (.next ρ) s)=Q ρ s:=rfl
@[simp] theorem ca1 (Q:Env->Sto->Prop) (ρ:Env) (s:Sto):Nx Q (.ok (.cont ρ) s)=Q ρ s:=rfl
theorem at4 {Q:Env->Sto->Prop}{r:R Ct}{ρ:Env}{s:Sto}(e:r=.ok (.next ρ) s)(h:Q ρ s):Nx Q r:=by rw[e];exact h
theorem Nx.out {Q:Env->Sto->Prop}:∀ {r:R Ct},Nx Q r->∃ ρ s,(r=.ok (.next ρ) s\/r=.ok (.cont ρ) s)/\Q ρ s
 | .ok (.next ρ) s,h=>⟨ρ,s,.inl rfl,h⟩
 | .ok (.cont ρ) s,h=>⟨ρ,s,.inr rfl,h⟩
 | .ok (.ret _) _,h=>h.elim
 | .ok (.brk _) _,h=>h.elim
 | .exc _ _,h=>h.elim
 | .bad,h=>h.elim
noncomputable def Tst (A B:Sto->Prop):R D->Prop
 | .ok (.bl false) s=>A s
 | .ok (.bl true) s=>B s
 | _=>False
@[simp] theorem bo5 (A B:Sto->Prop) (b:Bool) (s:Sto):Tst A B (.ok (.bl b) s)=if b then B s else A s:=by cases b<;>rfl
theorem Tst.out {A B:Sto->Prop}:∀ {r:R D},Tst A B r->(∃ s,r=.ok (.bl false) s/\A s)\/∃ s,r=.ok (.bl true) s/\B s
 | .ok (.bl false) s,h=>.inl ⟨s,rfl,h⟩
 | .ok (.bl true) s,h=>.inr ⟨s,rfl,h⟩
 | .ok .non _,h=>h.elim
 | .ok (.int _) _,h=>h.elim
 | .ok (.str _) _,h=>h.elim
 | .ok (.tup _) _,h=>h.elim
 | .ok (.ref _) _,h=>h.elim
 | .ok (.fn _) _,h=>h.elim
 | .ok (.clo _ _) _,h=>h.elim
 | .exc _ _,h=>h.elim
 | .bad,h=>h.elim
theorem bf2 {c:Env->Sto->R D}{g:Env->Sto->R Ct}{ρ ρ':Env}{s s1 s':Sto}(hc:c ρ s=.ok (.bl true) s1)(hg:g ρ s1=.ok (.cont ρ') s'):whl c g ρ s=whl c g ρ' s':=by
 have key:∀ n,qW c g (n+1) ρ s=qW c g n ρ' s':=λ n=>by
  show tru (c ρ s) _=_
  rw[hc,tru_bl,if_pos rfl,hg];rfl
 unfold whl
 by_cases hx:∃ n,qW c g n ρ' s'≠.bad
 ·have hy:∃ n,qW c g n ρ s≠.bad:=⟨hx.choose+1,by rw[key];exact hx.choose_spec⟩
  rw[dif_pos hx,dif_pos hy]
  have B:=qb hy.choose_spec (hx.choose+1)
  have h:=qb (n:=hx.choose+1) (ρ:=ρ) (s:=s) (by rw[key];exact hx.choose_spec) hy.choose
  rw[<-B,e8,h,key]
 ·have hy:¬ ∃ n,qW c g n ρ s≠.bad:=λ⟨n,hn⟩=>by
   cases n with
   | zero=>exact hn rfl
   | succ n=>exact hx ⟨n,by rw[<-key];exact hn⟩
  rw[dif_neg hx,dif_neg hy]
theorem bK3 {c:Env->Sto->R D}{g:Env->Sto->R Ct}(P:Nat->Env->Sto->Prop)(Q:Env->Sto->Prop)
  (step:∀ k ρ s,P k ρ s->Tst (λ s1=>Q ρ s1) (λ s1=>Nx (λ ρ' s'=>∃ B,B<k/\P B ρ' s') (g ρ s1)) (c ρ s)) :
  ∀(k:Nat) (ρ:Env) (s:Sto),P k ρ s->∃ ρ' s',whl c g ρ s=.ok (.next ρ') s'/\Q ρ' s':=by
 intro k
 induction k using Nat.strongRecOn with
 | _ k ih =>
  intro ρ s h
  rcases(step k ρ s h).out with⟨s1,hc,hq⟩|⟨s1,hc,hn⟩
  ·exact⟨ρ,s1,aE8 hc,hq⟩
  ·obtain⟨ρ',s',hg,B,hk,F⟩:=hn.out
   rcases hg with hg|hg
   ·rw[aj3 hc hg];exact ih B hk ρ' s' F
   ·rw[bf2 hc hg];exact ih B hk ρ' s' F
theorem be1 {c:Env->Sto->R D}{g:Env->Sto->R Ct}{ρ:Env}{s:Sto}{α:Type}{f:Ct->Sto->R α}{W:R α->Prop}(P:Nat->Env->Sto->Prop)(Q:Env->Sto->Prop)(k:Nat)(h:P k ρ s)
  (step:∀ k ρ s,P k ρ s->Tst (λ s1=>Q ρ s1) (λ s1=>Nx (λ ρ' s'=>∃ B,B<k/\P B ρ' s') (g ρ s1)) (c ρ s))
  (hf:∀ ρ' s',Q ρ' s'->W (f (.next ρ') s')):W ((whl c g ρ s).bind f):=by
 obtain⟨ρ',s',e,q⟩:=bK3 P Q step k ρ s h
 rw[e]
 exact hf ρ' s' q
theorem bg4 {c:Env->Sto->R D}{g:Env->Sto->R Ct}{ρ:Env}{s:Sto}{α:Type}{f:Ct->Sto->R α}{x:R α}(P:Nat->Env->Sto->Prop)(Q:Env->Sto->Prop)(k:Nat)(h:P k ρ s)
  (step:∀ k ρ s,P k ρ s->Tst (λ s1=>Q ρ s1) (λ s1=>Nx (λ ρ' s'=>∃ B,B<k/\P B ρ' s') (g ρ s1)) (c ρ s))
  (hf:∀ ρ' s',Q ρ' s'->f (.next ρ') s'=x):(whl c g ρ s).bind f=x:=be1 (W:=(·=x)) P Q k h step hf
theorem aj4 {ok:Sto->Bool}{g:D->Env->Sto->R Ct}{l:List D}{ρ:Env}{s:Sto}{α:Type}{f:Ct->Sto->R α}{W:R α->Prop}(P:Nat->Env->Sto->Prop)(h:P 0 ρ s)
  (o:∀(j:Nat) (ρ:Env) (s:Sto),j<=l.length->P j ρ s->ok s=true) (step:∀(j:Nat) (d:D) (ρ:Env) (s:Sto),l[j]?=some d->P j ρ s->Nx (P (j+1)) (g d ρ s))
  (hf:∀ ρ' s',P l.length ρ' s'->W (f (.next ρ') s')):W ((qw ok g l ρ s).bind f):=by
 obtain⟨ρ',s',e,q⟩:=aB1 P l 0 ρ s h (λ j ρ s hj B=>o j ρ s hj (by rwa [d4]at B)) (λ j d ρ s hj B=>by
  rw[d4]at B ⊢
  exact(step j d ρ s hj B).out)
 rw[e]
 rw[d4]at q
 exact hf ρ' s' q
theorem bc3 {ok:Sto->Bool}{g:D->Env->Sto->R Ct}{l:List D}{ρ:Env}{s:Sto}{α:Type}{f:Ct->Sto->R α}{x:R α}(P:Nat->Env->Sto->Prop)(h:P 0 ρ s)
  (o:∀(j:Nat) (ρ:Env) (s:Sto),j<=l.length->P j ρ s->ok s=true) (step:∀(j:Nat) (d:D) (ρ:Env) (s:Sto),l[j]?=some d->P j ρ s->Nx (P (j+1)) (g d ρ s))
  (hf:∀ ρ' s',P l.length ρ' s'->f (.next ρ') s'=x):(qw ok g l ρ s).bind f=x:=aj4 (W:=(·=x)) P h o step hf
section
variable {F:Fns} {ρ:Env} {s:Sto}
@[simp] theorem ev_var (i:Nat):ev F (.var i) ρ s=aC1 ρ i s:=rfl
@[simp] theorem ev_cst (c:Cn):ev F (.cst c) ρ s=.ok c.d s:=rfl
@[simp] theorem ev_bin (op:BOp) (a b:E):ev F (.bin op a b) ρ s=(ev F a ρ s).bind λ x s=>(ev F b ρ s).bind λ y s=>ai2 op x y s:=rfl
@[simp] theorem ev_not (a:E):ev F (.not a) ρ s=tru (ev F a ρ s) λ b s=>.ok (.bl (!b)) s:=rfl
@[simp] theorem ev_cmp (op:COp) (a b:E):ev F (.cmp op a b) ρ s=(ev F a ρ s).bind λ x s=>(ev F b ρ s).bind λ y s=>ql op x y s:=rfl
@[simp] theorem bU4 (o p:COp) (a b c:E):ev F (.chain o p a b c) ρ s=(ev F a ρ s).bind λ x s=>(ev F b ρ s).bind λ y s=>tru (ql o x y s) λ k s=>if k then(ev F c ρ s).bind λ z s=>ql p y z s else .ok (.bl false) s:=rfl
@[simp] theorem ev_isN (a:E):ev F (.isN a) ρ s=(ev F a ρ s).bind λ x s=>.ok (.bl (decide (x=.non))) s:=rfl
@[simp] theorem ev_notN (a:E):ev F (.notN a) ρ s=(ev F a ρ s).bind λ x s=>.ok (.bl (!decide (x=.non))) s:=rfl
@[simp] theorem ev_and (a b:E):ev F (.and a b) ρ s=tru (ev F a ρ s) λ c s=>if c then tru (ev F b ρ s) λ c s=>.ok (.bl c) s else .ok (.bl false) s:=rfl
@[simp] theorem ev_or (a b:E):ev F (.or a b) ρ s=tru (ev F a ρ s) λ c s=>if c then .ok (.bl true) s else tru (ev F b ρ s) λ c s=>.ok (.bl c) s:=rfl
@[simp] theorem ev_ite (c a b:E):ev F (.ite c a b) ρ s=tru (ev F c ρ s) λ k s=>if k then ev F a ρ s else ev F b ρ s:=rfl
@[simp] theorem ev_tup (es:Es):ev F (.tup es) ρ s=(evs F es ρ s).bind λ l s=>.ok (.tup l) s:=rfl
@[simp] theorem ev_lst (es:Es):ev F (.lst es) ρ s=(evs F es ρ s).bind λ l s=>ac7 (.lst l) s:=rfl
@[simp] theorem ev_ix (a b:E):ev F (.ix a b) ρ s=(ev F a ρ s).bind λ x s=>(ev F b ρ s).bind λ y s=>ixM x y s:=rfl
@[simp] theorem ev_call (f:String) (h:As):ev F (.call f h) ρ s=(ag2 F h ρ s).bind λ l s=>F.call f l s:=rfl
@[simp] theorem bU9 (f:String) (h:As):ev F (.callC f h) ρ s=(ag2 F h ρ s).bind λ l s=>(F.call f l s).bind λ d s'=>if(d.ncl&&s'.all O.ncl)=true then .ok d s' else .bad:=rfl
@[simp] theorem ev_bi (b:Bi) (es:Es):ev F (.bi b es) ρ s=(evs F es ρ s).bind λ l s=>bi b l s:=rfl
@[simp] theorem ev_mk (k:Mk) (it:L):ev F (.mk k it) ρ s=(evL F it ρ s).bind λ q s=>mk k q s:=rfl
@[simp] theorem ev_mkD (k:Mk) (it:L) (d:E):ev F (.mkD k it d) ρ s=(evL F it ρ s).bind λ q s=>(ev F d ρ s).bind λ d s=>mkD k q d s:=rfl
@[simp] theorem ev_mks (k:Mk) (e:E):ev F (.mks k e) ρ s=(ev F e ρ s).bind λ x s=>(bo6 x s).bind λ q s=>mk k q s:=rfl
@[simp] theorem cg3 (o:E) (c:Nat):ev F (.spl o c) ρ s=(ev F o ρ s).bind λ x s=>bE1 c x s:=rfl
@[simp] theorem cb9 (id:String) (e:E) (j:Int):ev F (.minK id e j) ρ s=(ev F e ρ s).bind λ x s=>(bo6 x s).bind λ q s=>br9 j q s:=rfl
@[simp] theorem ev_mkDs (k:Mk) (e d:E):ev F (.mkDs k e d) ρ s=(ev F e ρ s).bind λ x s=>(ev F d ρ s).bind λ z s=>(bo6 x s).bind λ q s=>mkD k q z s:=rfl
@[simp] theorem ev_meth (m:Mt) (o:E) (es:Es):ev F (.meth m o es) ρ s=(ev F o ρ s).bind λ x s=>(evs F es ρ s).bind λ l s=>meth m x l s:=rfl
@[simp] theorem cb4 (o e:E):ev F (.extS o e) ρ s=(ev F o ρ s).bind λ x s=>(ev F e ρ s).bind λ y s=>extS x y s:=rfl
@[simp] theorem cf0 (a:E):ev F (.rev a) ρ s=(ev F a ρ s).bind λ x s=>cc6 x s:=rfl
@[simp] theorem cf8 (o:E) (it:L):ev F (.ext o it) ρ s=(ev F o ρ s).bind λ x s=>(evL F it ρ s).bind λ q s=>bG5 x q s:=rfl
@[simp] theorem evs_nil:evs F .nil ρ s=.ok [] s:=rfl
@[simp] theorem evs_cons (e:E) (es:Es):evs F (.cons e es) ρ s=(ev F e ρ s).bind λ d s=>(evs F es ρ s).bind λ l s=>.ok (d::l) s:=rfl
@[simp] theorem evas_nil:ag2 F .nil ρ s=.ok [] s:=rfl
@[simp] theorem evas_ex (e:E) (h:As):ag2 F (.ex e h) ρ s=(ev F e ρ s).bind λ d s=>(ag2 F h ρ s).bind λ l s=>.ok (d::l) s:=rfl
@[simp] theorem bX4 (f:String) (h:As):ag2 F (.fn f h) ρ s=(ag2 F h ρ s).bind λ l s=>.ok (.fn f::l) s:=rfl
@[simp] theorem evI_seq (e:E):evI F (.seq e) ρ s=(ev F e ρ s).bind λ d s=>aX0 d s:=rfl
@[simp] theorem bV2 (es:Es):evL F (.disp es) ρ s=evs F es ρ s:=rfl
@[simp] theorem evL_seq (e:E):evL F (.seq e) ρ s=(ev F e ρ s).bind λ d s=>bm1 d s:=rfl
noncomputable def bb9 (x:D):M Sq:=λ s=>match x with|.int i=>if -W62<=i/\i<W62 then .ok ⟨qe 0 i,[]⟩ s else .bad|_=>.bad
@[simp] theorem evI_rng1 (a:E):evI F (.rng1 a) ρ s=(ev F a ρ s).bind λ x s=>bb9 x s:=rfl
theorem qG {i:Int}(h0:-W62<=i)(h:i<W62):bb9 (.int i) s=.ok ⟨qe 0 i,[]⟩ s:=by unfold bb9;simp only[h0,h,and_self,if_true]
noncomputable def nxt (F:Fns)(ss:Ss)(c:Ct)(s:Sto):R Ct:=match c with|.next ρ=>exs F ss ρ s|c=>.ok c s
@[simp] theorem nxt_next (h:Ss) (ρ:Env) (s:Sto):nxt F h (.next ρ) s=exs F h ρ s:=rfl
@[simp] theorem nxt_ret (h:Ss) (d:D) (s:Sto):nxt F h (.ret d) s=.ok (.ret d) s:=rfl
@[simp] theorem nxt_cont (h:Ss) (ρ:Env) (s:Sto):nxt F h (.cont ρ) s=.ok (.cont ρ) s:=rfl
@[simp] theorem exs_nil:exs F .nil ρ s=.ok (.next ρ) s:=rfl
@[simp] theorem exs_cons (st:S) (h:Ss):exs F (.cons st h) ρ s=(ex F st ρ s).bind (nxt F h):=rfl
noncomputable def bX6 (ρ:Option Env)(s:Sto):R Ct:=match ρ with|some ρ=>.ok (.next ρ) s|none=>.bad
@[simp] theorem setC_some (ρ:Env) (s:Sto):bX6 (some ρ) s=.ok (.next ρ) s:=rfl
@[simp] theorem ex_asg (tg:Tg) (e:E):ex F (.asg tg e) ρ s=(ev F e ρ s).bind λ d s=>bX6 (zV ρ tg d) s:=rfl
@[simp] theorem ex_setIx (o i e:E):ex F (.setIx o i e) ρ s=(ev F e ρ s).bind λ d s=>(ev F o ρ s).bind λ x s=>(ev F i ρ s).bind λ y s=>(setIx x y d s).bind λ _ s=>.ok (.next ρ) s:=rfl
@[simp] theorem ex_ex (e:E):ex F (.ex e) ρ s=(ev F e ρ s).bind λ _ s=>.ok (.next ρ) s:=rfl
@[simp] theorem ex_ret (e:E):ex F (.ret e) ρ s=(ev F e ρ s).bind λ d s=>.ok (.ret d) s:=rfl
@[simp] theorem bs9:ex F .retN ρ s=.ok (.ret .non) s:=rfl
@[simp] theorem ex_ite (c:E) (a b:Ss):ex F (.ite c a b) ρ s=tru (ev F c ρ s) λ k s=>if k then exs F a ρ s else exs F b ρ s:=rfl
@[simp] theorem ex_whl (c:E) (b:Ss):ex F (.whl c b) ρ s=whl (ev F c) (exs F b) ρ s:=rfl
noncomputable def turn (F:Fns)(tg:Tg)(b:Ss)(d:D)(ρ:Env)(s:Sto):R Ct:=match zV ρ tg d with
 | some ρ=>exs F b ρ s
 | none=>.bad
@[simp] theorem ex_for (tg:Tg) (it:I) (b:Ss):ex F (.for_ tg it b) ρ s=(evI F it ρ s).bind λ q s0=>qw (λ s=>chk s0 s q.src) (turn F tg b) q.its ρ s0:=rfl
@[simp] theorem ex_cont:ex F .cont ρ s=.ok (.cont ρ) s:=rfl
@[simp] theorem ex_und (i:Nat):ex F (.und i) ρ s=bX6 (ak9 ρ i) s:=rfl
@[simp] theorem ex_pass:ex F .pass ρ s=.ok (.next ρ) s:=rfl
@[simp] theorem bindT_one (i:Nat) (d:D):zV ρ (.one i) d=am8 ρ i d:=rfl
@[simp] theorem bindT_tup (is:List Nat) (l:List D):zV ρ (.tup is) (.tup l)=al1 ρ is l:=rfl
@[simp] theorem setVs_nil:al1 ρ [] []=some ρ:=rfl
@[simp] theorem setVs_cons (i:Nat) (is:List Nat) (d:D) (l:List D):al1 ρ (i::is) (d::l)=(am8 ρ i d).bind λ ρ=>al1 ρ is l:=rfl
@[simp] theorem getV_0 (d:D) (ρ:Env):aC1 (some d::ρ) 0 s=.ok d s:=rfl
@[simp] theorem getV_s (x:Option D) (ρ:Env) (i:Nat):aC1 (x::ρ) (i+1) s=aC1 ρ i s:=by unfold aC1;rw[List.getElem?_cons_succ]
@[simp] theorem setV_0 (d:D) (x:Option D) (ρ:Env):am8 (x::ρ) 0 d=some (some d::ρ):=rfl
@[simp] theorem setV_s (d:D) (x:Option D) (ρ:Env) (i:Nat):am8 (x::ρ) (i+1) d=(am8 ρ i d).map (x::·):=by
 unfold am8
 by_cases h:i < ρ.length
 ·rw[if_pos (by simpa using h),if_pos h];rfl
 ·rw[if_neg (by simpa using h),if_neg h];rfl
@[simp] theorem unsetV_0 (x:Option D) (ρ:Env):ak9 (x::ρ) 0=some (none::ρ):=rfl
@[simp] theorem unsetV_s (x:Option D) (ρ:Env) (i:Nat):ak9 (x::ρ) (i+1)=(ak9 ρ i).map (x::·):=by
 unfold ak9
 by_cases h:i < ρ.length
 ·rw[if_pos (by simpa using h),if_pos h];rfl
 ·rw[if_neg (by simpa using h),if_neg h];rfl
@[simp] theorem Cn_int (i:Int):(Cn.int i).d=.int i:=rfl
@[simp] theorem Cn_bl (i:Bool):(Cn.bl i).d=.bl i:=rfl
@[simp] theorem Cn_str (i:List Nat):(Cn.str i).d=.str i:=rfl
@[simp] theorem Cn_non:Cn.non.d=.non:=rfl
@[simp] theorem add_int (a b:Int):ai2 .add (.int a) (.int b) s=.ok (.int (a+b)) s:=rfl
@[simp] theorem sub_int (a b:Int):ai2 .sub (.int a) (.int b) s=.ok (.int (a - b)) s:=rfl
theorem ah1 {a b:Int}(h:mulOk a b=true):ai2 .mul (.int a) (.int b) s=.ok (.int (a*b)) s:=by show(if mulOk a b then _ else _:M D) s=_;rw[if_pos h];rfl
theorem bw2 {a b:Int}(h:a.natAbs<2^64):mulOk a b=true:=by unfold mulOk;simp[h]
theorem ar1 {a b:Int}(h:b.natAbs<2^64):mulOk a b=true:=by unfold mulOk;simp[h]
theorem aj5 {a b:Int}(h:0<b):ai2 .mod (.int a) (.int b) s=.ok (.int (a % b)) s:=by show(if 0<b then _ else _:M D) s=_;rw[if_pos h];rfl
theorem bt8:(10:Int)^200<=(DIVL:Int):=by unfold DIVL;decide +kernel
theorem aq4 {a b:Int}(h:0<b)(B:b<10^200):ai2 .fdiv (.int a) (.int b) s=.ok (.int (a / b)) s:=by show(if 0<b/\b<(DIVL:Int)then _ else _:M D) s=_;rw[if_pos ⟨h,Int.lt_of_lt_of_le B bt8⟩];rfl
theorem aB9 {a b:Int}(h:0<=b/\b<=1000000/\a.natAbs<2^64):ai2 .pow (.int a) (.int b) s=.ok (.int (a^b.toNat)) s:=by show(if _ then _ else _:M D) s=_;rw[if_pos h];rfl
@[simp] theorem lt_int (a b:Int):ql .lt (.int a) (.int b) s=.ok (.bl (decide (a<b))) s:=rfl
@[simp] theorem le_int (a b:Int):ql .le (.int a) (.int b) s=.ok (.bl (decide (a<=b))) s:=rfl
@[simp] theorem gt_int (a b:Int):ql .gt (.int a) (.int b) s=.ok (.bl (decide (b<a))) s:=rfl
@[simp] theorem ge_int (a b:Int):ql .ge (.int a) (.int b) s=.ok (.bl (decide (b<=a))) s:=rfl
@[simp] theorem eq_int (a b:Int):ql .eq (.int a) (.int b) s=.ok (.bl (decide (a=b))) s:=rfl
@[simp] theorem ne_int (a b:Int):ql .ne (.int a) (.int b) s=.ok (.bl (!decide (a=b))) s:=rfl
@[simp] theorem alloc_eq (o:O):ac7 o s=.ok (.ref s.length) (s++[o]):=rfl
@[simp] theorem bY3 (l:List D):bi .len [.tup l] s=.ok (.int l.length) s:=rfl
@[simp] theorem bx3 (l:List Nat):bi .len [.str l] s=.ok (.int l.length) s:=rfl
theorem au0 {r:Nat}{l:List D}(h:s[r]?=some (.lst l)):bi .len [.ref r] s=.ok (.int l.length) s:=by simp only[bi,bi1,bu2,h]
theorem bN2 {r:Nat}{l:List D}(h:s[r]?=some (.ro l)):bi .len [.ref r] s=.ok (.int l.length) s:=by simp only[bi,bi1,bu2,h]
@[simp] theorem bW9 (i:Int):bi .abs [.int i] s=.ok (.int (if i<0 then -i else i)) s:=rfl
@[simp] theorem at5 (a b:Int):bi .min2 [.int a,.int b] s=.ok (.int (if b<a then b else a)) s:=rfl
@[simp] theorem bU7 (a b:Int):bi .max2 [.int a,.int b] s=.ok (.int (if b > a then b else a)) s:=rfl
@[simp] theorem bD9 (a:Int):bi .isInt [.int a] s=.ok (.bl true) s:=rfl
@[simp] theorem bD3 (a:Int):bi .isBool [.int a] s=.ok (.bl false) s:=rfl
@[simp] theorem bL2 (l:List D):bi .isTup [.tup l] s=.ok (.bl true) s:=rfl
theorem bQ4 {r:Nat}{l:List D}{j:Nat}{d:D}(h:s[r]?=some (.ro l))(hj:l[j]?=some d):ixM (.ref r) (.int (j:Int)) s=.ok d s:=by
 have hl:j<l.length:=(ag.mp hj).1
 have e:l[j]=d:=(ag.mp hj).2
 simp[ixM,h,ixn,hl,e]
theorem ah4 {r:Nat}{l:List D}{j:Nat}{d:D}(h:s[r]?=some (.lst l))(hj:l[j]?=some d):ixM (.ref r) (.int (j:Int)) s=.ok d s:=by
 have hl:j<l.length:=(ag.mp hj).1
 have e:l[j]=d:=(ag.mp hj).2
 simp[ixM,h,ixn,hl,e]
theorem ix_tup {l:List D}{j:Nat}{d:D}(hj:l[j]?=some d):ixM (.tup l) (.int (j:Int)) s=.ok d s:=by
 have hl:j<l.length:=(ag.mp hj).1
 have e:l[j]=d:=(ag.mp hj).2
 simp[ixM,ixn,hl,e]
theorem bz4 {r:Nat}{l:List D}{j:Nat}{v:D}(h:s[r]?=some (.lst l))(hl:j<l.length):setIx (.ref r) (.int (j:Int)) v s=.ok () (s.set r (.lst (l.set j v))):=by
 simp[setIx,h,ixn,hl]
theorem qI {r:Nat}{l:List D}{v:D}(h:s[r]?=some (.lst l))(hl:l.length<LIM):meth .append (.ref r) [v] s=.ok .non (s.set r (.lst (l++[v]))):=by
 show(match s[r]? with|some (.lst l)=>(if l.length<LIM then R.ok D.non (s.set r (.lst (l++[v])))else .bad)|_=>.bad:R D)=_
 rw[h]
 exact if_pos hl
end
theorem aF2 (s t:Sto)(b:Bool):∃ s',zo s (.bl b) t=.ok (.bl b) s':=by
 unfold zo
 by_cases h:aj9 s t=true
 ·rw[if_pos h];exact⟨_,rfl⟩
 ·rw[if_neg h];exact⟨_,rfl⟩
def Yes (r:R D):Prop:=∃ s',r=.ok (.bl true) s'
theorem aT4 (s t:Sto):Yes (zo s (.bl true) t):=aF2 s t true
theorem ai5 {a b:Int}{j:Nat}{d:D}(h:(qe a b)[j]?=some d):(j:Int)<b - a/\d=.int (a+j):=by
 have hj:=(ag.mp h).1
 simp only[qe,aw,List.length_range]at hj
 unfold qe at h
 rw[aF,dv hj]at h
 exact⟨by omega,(ax h).symm⟩
def ca4 (P:Pr)(k:Nat):Prop:=∀ ns:List Int,ns.length<=63->Yes ((aa0 P k).call "law" [.ref 0] [.ro (ns.map D.int)])
noncomputable def qh:Option Int->D
 | none=>.non
 | some i=>.int i
@[simp] theorem qc:qh none=.non:=rfl
@[simp] theorem zE (i:Int):qh (some i)=.int i:=rfl
@[simp] theorem aj1 (p:Option Int) (n:Nat):(qh p).bnd n=true:=by cases p<;>rfl
theorem as3 (p:Option Int)(r:Nat):qh p≠.ref r:=by cases p<;>nofun
@[simp] theorem ap7 {s:Sto} {p:Option Int}:zo s (qh p) s=.ok (qh p) s:=zx (aj1 p) (as3 p)
noncomputable def cutO (k:Int):Option Int->Option Int
 | none=>none
 | some p=>if p<=k then some p else some (k+1)
theorem bS6 {P:Pr}[Has P ag9](n:Nat)(p:Option Int)(k:Int)(s:Sto):(aa0 P (n+1)).call "cut" [qh p,.int k] s=.ok (qh (cutO k p)) s:=by
 refine(zd ag9 rfl).trans ?_
 cases p with
 | none=>simp[ag9,cutO]
 | some p =>
  by_cases h:p<=k<;>simp[ag9,cutO,h]
noncomputable def zX (b:Nat×Nat):O:=.lst [.int b.1,.int b.2]
@[simp] theorem bV0 (b:Nat×Nat) (n:Nat):(zX b).bnd n=true:=rfl
noncomputable def tkW (many:Nat):Nat->Nat->Nat->Nat->Nat×Nat
 | 0,mix,num,_=>(num,mix)
 | n+1,mix,num,room=>if room<many then tkW many n ((mix*48271+7919) % 2147483647) (num*1073741789+(mix*48271+7919) % 2147483647 / 8*69621 % 1073741789) (room*1073741789)else(num,mix)
noncomputable def tk (b:Nat×Nat)(many:Nat):Nat×(Nat×Nat) :=
 if 0<b.1 then(b.1 % many,(b.1 / many,b.2))else let r:=tkW many 12 b.2 0 1;(r.1 % many,(b.1,r.2))
theorem aF3 (b:Nat×Nat){many:Nat}(h:0<many):(tk b many).1<many:=by
 unfold tk
 split
 ·exact Nat.mod_lt _ h
 ·exact Nat.mod_lt _ h
theorem aV1 {many:Nat}{k F B room:Nat}(h:many<=room):tkW many k F B room=(B,F):=by
 cases k with
 | zero=>rfl
 | succ k=>unfold tkW;rw[if_neg (by omega)]
theorem be0 {many:Nat}{k B F room:Nat}(h:room<many):tkW many (k+1) B F room=tkW many k ((B*48271+7919) % 2147483647) (F*1073741789+(B*48271+7919) % 2147483647 / 8*69621 % 1073741789) (room*1073741789):=by
 conv=>lhs;unfold tkW
 rw[if_pos h]
theorem bu3 {P:Pr}[Has P ac8](n:Nat)(b:Nat×Nat)(many:Nat)(h0:0<many)(h:many<=10^90)(s:Sto)(r:Nat)(hs:s[r]?=some (zX b)) :
  (aa0 P (n+1)).call "_law_take" [.ref r,.int many] s=.ok (.int (tk b many).1) (s.set r (zX (tk b many).2)):=by
 refine(zd ac8 rfl).trans ?_
 obtain⟨c,m⟩:=b
 have hr:r<s.length:=(ag.mp hs).1
 have Y:(0:Int)<(many:Int):=by omega
 have Z:(many:Int)<10^200:=by
  have:(10:Int)^90<10^200:=by decide +kernel
  have:((many:Nat):Int)<=((10^90:Nat):Int):=by exact_mod_cast h
  omega
 by_cases hc:0<c
 ·have J:s[r]?=some (.lst [.int c,.int m]):=hs
  simp[ac8,ixM,J,ixn,hc,aj5 Y,aq4 Y Z,setIx,tk]
  exact ah0 (λ _=>rfl) (by nofun) rfl
 ·have a0:c=0:=by omega
  subst a0
  have J:s[r]?=some (.lst [.int 0,.int m]):=hs
  simp[ac8,ixM,J,ixn]
  refine bg4 (λ k ρ t=>∃ B F room:Nat,ρ=[some (.ref r),some (.int many),none,some (.int F),some (.int room)]/\t=s.set r (zX (0,B))/\many<=room*1073741789^k/\tkW many k B F room=tkW many 12 m 0 1)
   (λ ρ t=>∃ room:Nat,ρ=[some (.ref r),some (.int many),none,some (.int (tkW many 12 m 0 1).1),some (.int room)]/\t=s.set r (zX (0,(tkW many 12 m 0 1).2))) 12 ⟨m,0,1,by simp,?_,?_,rfl⟩ ?_ ?_
  ·have e:s[r]=zX (0,m):=(ag.mp hs).2
   rw[<-e,gY]
  ·refine am h ?_
   decide +kernel
  ·rintro k ρ t ⟨B,F,room,rfl,rfl,G,he⟩
   by_cases hlt:room<many
   ·simp only[ev_cmp,ev_var,getV_0,getV_s,R.bind_ok,lt_int,bo5,jm,hlt,decide_true,if_true]
    cases k with
    | zero=>simp at G;omega
    | succ k =>
     have h1:(s.set r (zX (0,B)))[r]?=some (.lst [.int 0,.int B]):=by rw[aV hr];rfl
     have m1:∀ a:Int,mulOk a 48271=true:=λ a=>ar1 (by decide)
     have m2:∀ a:Int,mulOk a 1073741789=true:=λ a=>ar1 (by decide)
     have m3:∀ a:Int,mulOk a 69621=true:=λ a=>ar1 (by decide)
     refine at4 ?_ ⟨k,dr k,(B*48271+7919) % 2147483647,F*1073741789+(B*48271+7919) % 2147483647 / 8*69621 % 1073741789,room*1073741789,rfl,rfl,?_,?_⟩
     ·simp[ixM,h1,ixn,ah1 (m1 _),aj5,setIx,hr,ah1 (m2 _),ah1 (m3 _),aq4,zX]
     ·rw[Nat.pow_succ]at G
      rw[Nat.mul_assoc,kD 1073741789];exact G
     ·rw[<-he,be0 hlt]
   ·simp only[ev_cmp,ev_var,getV_0,getV_s,R.bind_ok,lt_int,bo5,jm,hlt,decide_false,if_false,bB]
    refine⟨room,?_,?_⟩
    ·rw[<-he,aV1 (by omega)]
    ·rw[<-he,aV1 (by omega)]
  ·rintro ρ t ⟨room,rfl,rfl⟩
   simp[aj5 Y,tk]
   exact ah0 (λ _=>rfl) (by nofun) rfl
noncomputable def bo4 (at_:Int)(ns:List Int):Nat->Int
 | 0=>7919*at_+17
 | k+1=>(bo4 at_ ns k*48271+(ns.getD k 0) % 2147483647+k) % 2147483629
theorem bx4 (at_:Int)(h:0<=at_)(ns:List Int):∀ k,0<=bo4 at_ ns k
 | 0=>by unfold bo4;omega
 | k+1=>by unfold bo4;exact Int.emod_nonneg _ (by decide)
noncomputable def cellF (ns:List Int)(at_:Nat):Nat:=if 10^18<=(ns.getD at_ 0).natAbs then(ns.getD at_ 0).natAbs else 0
noncomputable def bD2 (ns:List Int)(at_:Nat):Nat×Nat:=(cellF ns at_,(bo4 at_ ns (min ns.length 60)).toNat)
theorem bG0 {P:Pr}[Has P av4](n:Nat)(ns:List Int)(at_:Nat)(s:Sto)(r:Nat)(hs:s[r]?=some (.ro (ns.map D.int)))(hl:ns.length<=63) :
  (aa0 P (n+1)).call "_law_bag" [.ref r,.int at_] s=.ok (.ref s.length) (s++[zX (bD2 ns at_)]):=by
 refine(zd av4 rfl).trans ?_
 have m1:∀ a:Int,mulOk 7919 a=true:=λ a=>bw2 (by decide)
 have m2:∀ a:Int,mulOk a 48271=true:=λ a=>ar1 (by decide)
 have B:bi .len [.ref r] s=.ok (.int ns.length) s:=by rw[bN2 hs,aw]
 have G:∀(c:Int),(c<10^18->cellF ns at_=0)->(10^18<=c->(cellF ns at_:Int)=c) ->
   (exs (aa0 P n) (.cons (.asg (.one 3) (.bin .add (.bin .mul (.cst (.int 7919)) (.var 1)) (.cst (.int 17)))) (.cons (.for_ (.one 4) (.rng1 (.bi .min2 (.cons (.bi .len (.cons (.var 0) .nil)) (.cons (.cst (.int 60)) .nil)))) (.cons (.asg (.one 3) (.bin .mod (.bin .add (.bin .add (.bin .mul (.var 3) (.cst (.int 48271))) (.bin .mod (.ix (.var 0) (.var 4)) (.cst (.int 2147483647)))) (.var 4)) (.cst (.int 2147483629)))) .nil)) (.cons (.ite (.cmp .lt (.var 2) (.bin .pow (.cst (.int 10)) (.cst (.int 18)))) (.cons (.asg (.one 2) (.cst (.int 0))) .nil) .nil) (.cons (.ret (.lst (.cons (.var 2) (.cons (.var 3) .nil)))) .nil)))) [some (.ref r),some (.int at_),some (.int c),none,none] s).bind (fin s)=.ok (.ref s.length) (s++[zX (bD2 ns at_)]):=by
  intro c h1 h2
  simp[ah1 (m1 _),B]
  have hk:(if(60:Int)<(ns.length:Int)then 60 else(ns.length:Int))=((min ns.length 60:Nat):Int):=by omega
  rw[hk,qG (by unfold W62;omega) (by unfold W62;omega)]
  simp only[R.bind_ok]
  refine bc3 (λ j ρ t=>t=s/\∃ x,ρ=[some (.ref r),some (.int at_),some (.int c),some (.int (bo4 at_ ns j)),x]) ⟨rfl,none,rfl⟩ (λ _ _ _ _ _=>rfl) ?_ ?_
  ·rintro j d ρ t hj ⟨rfl,x,rfl⟩
   have Z:j<min ns.length 60:=by have:=(ag.mp hj).1;simpa [qe]using this
   have hd:d=.int (j:Int):=by simpa [qe,Z]using hj.symm
   subst hd
   refine at4 ?_ ⟨rfl,some (.int (j:Int)),rfl⟩
   have hx:ixM (.ref r) (.int (j:Int)) t=.ok (.int (ns.getD j 0)) t:=bQ4 hs (by simp[show j<ns.length by omega])
   simp[turn,ah1 (m2 _),hx,aj5,bo4]
  ·rintro ρ t ⟨rfl,x,rfl⟩
   have a1:(qe 0 ((min ns.length 60:Nat):Int)).length=min ns.length 60:=by simp[qe]
   rw[a1]
   have a0:=bx4 at_ (by omega) ns (min ns.length 60)
   have F:∀ J,(J:Int)=cellF ns at_->zo t (.ref t.length) (t++[.lst [.int J,.int (bo4 at_ ns (min ns.length 60))]])=.ok (.ref t.length) (t++[zX (bD2 ns at_)]):=by
    intro J Y
    have:=qF (s:=t) (t:=[]) (u:=[]) (o:=zX (bD2 ns at_)) rfl
    simp only[eW,kH,gK]at this
    rw[<-this]
    simp[zX,bD2,Y,eY a0]
   by_cases h:c<10^18
   ·have h':c<1000000000000000000:=h
    simp[aB9,h']
    exact F 0 (by rw[h1 h];rfl)
   ·have h':¬ c<1000000000000000000:=h
    simp[aB9,h']
    exact F c (h2 (by omega)).symm
 by_cases hat:at_<ns.length
 ·have hx:ixM (.ref r) (.int at_) s=.ok (.int (ns.getD at_ 0)) s:=bQ4 hs (by simp[hat])
  have e:=G (if ns.getD at_ 0<0 then -ns.getD at_ 0 else ns.getD at_ 0) (by unfold cellF;intro h;rw[if_neg (by omega)]) (by unfold cellF;intro h;rw[if_pos (by omega)];omega)
  rw[<-e]
  simp[av4,B,hat,hx]
 ·have e:=G 0 (by unfold cellF;intro h;rw[if_neg];rw[aW,bG (by omega)];decide) (by intro h;exact absurd h (by decide))
  rw[<-e]
  simp[av4,B,hat]
theorem ar4 {s t:Sto}{r:Nat}{o:O}(h:r<s.length):(s++t).set r o=s.set r o++t:=by rw[bE,if_pos h]
theorem zq {s t:Sto}{r:Nat}{o:O}(h:s[r]?=some o):(s++t)[r]?=some o:=by
 rw[aM (ag.mp h).1];exact h
theorem qg {s:Sto}{r:Nat}{o:O}(h:r<s.length):(s.set r o)[r]?=some o:=aV h
theorem aG8 {P:Pr}[Has P ac8](n:Nat)(b:Nat×Nat)(many:Int)(h0:0<many)(h:many<=10^90)(s:Sto)(r:Nat)(hs:s[r]?=some (zX b)) :
  (aa0 P (n+1)).call "_law_take" [.ref r,.int many] s=.ok (.int (tk b many.toNat).1) (s.set r (zX (tk b many.toNat).2)):=by
 have:=bu3 n b many.toNat (P:=P) (by omega) (by have:many<=((10^90:Nat):Int):=(by simpa using h);omega) s r hs
 rwa [show((many.toNat:Nat):Int)=many by omega]at this
noncomputable def bd (b:Nat×Nat):Nat×(Nat×Nat) :=
 let x0:=tk b 3
 let x1:=tk x0.2 13
 let x2:=tk x1.2 1000000000
 let x3:=tk x2.2 1000000000000000000000000000000
 let i:=tk x3.2 4
 ([x0.1,x1.1,x2.1,x3.1].getD i.1 0,i.2)
theorem bV8 (b:Nat×Nat):(bd b).1<10^30:=by
 unfold bd
 have h0:=aF3 b (many:=3) (by decide)
 have B:=aF3 (tk b 3).2 (many:=13) (by decide)
 have F:=aF3 (tk (tk b 3).2 13).2 (many:=1000000000) (by decide)
 have h3:=aF3 (tk (tk (tk b 3).2 13).2 1000000000).2 (many:=1000000000000000000000000000000) (by decide)
 have h:=aF3 (tk (tk (tk (tk b 3).2 13).2 1000000000).2 1000000000000000000000000000000).2 (many:=4) (by decide)
 simp only
 generalize (tk (tk (tk (tk (tk b 3).2 13).2 1000000000).2 1000000000000000000000000000000).2 4).1=i at *
 match i,h with
 | 0,_=>simp;omega
 | 1,_=>simp;omega
 | 2,_=>simp;omega
 | 3,_=>simpa using h3
theorem bf8 {P:Pr}[Has P ac8][Has P ae8](n:Nat)(b:Nat×Nat)(s:Sto)(r:Nat)(hs:s[r]?=some (zX b)) :
  (aa0 P (n+2)).call "_law_bound" [.ref r] s=.ok (.int (bd b).1) (s.set r (zX (bd b).2)):=by
 refine(zd ae8 rfl).trans ?_
 have hr:r<s.length:=(ag.mp hs).1
 have T:=λ b many h0 h s r hs=>aG8 (P:=P) n b many h0 h s r hs
 simp[ae8,aB9,T _ 3 (by decide) (by decide) _ _ hs]
 rw[T _ 13 (by decide) (by decide) _ _ (qg hr)]
 simp[hr]
 rw[T _ 1000000000 (by decide) (by decide) _ _ (qg hr)]
 simp[hr]
 rw[T _ 1000000000000000000000000000000 (by decide) (by decide) _ _ (qg hr)]
 simp[hr]
 rw[T _ 4 (by decide) (by decide) _ _ (zq (qg hr))]
 have G:=aF3 (tk (tk (tk (tk b 3).2 13).2 1000000000).2 1000000000000000000000000000000).2 (many:=4) (by decide)
 rw[ar4 (by simpa using hr),bW]
 simp only[R.bind_ok,Int.reduceToNat]
 generalize B:tk (tk (tk (tk (tk b 3).2 13).2 1000000000).2 1000000000000000000000000000000).2 4=i at G
 have F:∀(l:List D) (t:Sto) (q:Nat) (d:D),t[q]?=some (.lst l)->l[i.1]?=some d->ixM (.ref q) (.int (i.1:Int)) t=.ok d t:=λ l t q d Y J=>ah4 Y J
 rw[F [.int (tk b 3).1,.int (tk (tk b 3).2 13).1,.int (tk (tk (tk b 3).2 13).2 1000000000).1,.int (tk (tk (tk (tk b 3).2 13).2 1000000000).2 1000000000000000000000000000000).1] _ _ (.int (bd b).1) (by simp) ?_]
 ·simp only[R.bind_ok,fin_ret,bd,B]
  exact ak6 (λ _=>rfl) (by nofun) rfl
 ·unfold bd
  simp only[B]
  obtain⟨i,Z⟩:=i
  match i,G with
  | 0,_=>rfl
  | 1,_=>rfl
  | 2,_=>rfl
  | 3,_=>rfl
section
variable {F:Fns} {ρ:Env} {s:Sto}
noncomputable def ai1 (F:Fns)(tg:Tg)(e:E)(d:D)(ρ:Env)(s:Sto):R (Option D×Env):=match zV ρ tg d with
 | some ρ=>(ev F e ρ s).bind λ v s=>.ok (some v,ρ) s
 | none=>.bad
noncomputable def aq7 (F:Fns)(tg:Tg)(c e:E)(d:D)(ρ:Env)(s:Sto):R (Option D×Env):=match zV ρ tg d with
 | some ρ=>tru (ev F c ρ s) λ k s=>if k then(ev F e ρ s).bind λ v s=>.ok (some v,ρ) s else .ok (none,ρ) s
 | none=>.bad
@[simp] theorem af3 (tg:Tg) (it:I) (e:E) (h:List (Option Nat)):evL F (.comp tg it e h) ρ s=(evI F it ρ s).bind λ q s0=>if q.its.length<=LIM then ad7 (λ s=>chk s0 s q.src) (ai1 F tg e) q.its (qj ρ h) s0 else .bad:=rfl
@[simp] theorem qN (tg:Tg) (it:I) (c e:E) (h:List (Option Nat)):evL F (.compIf tg it c e h) ρ s=(evI F it ρ s).bind λ q s0=>if q.its.length<=LIM then ad7 (λ s=>chk s0 s q.src) (aq7 F tg c e) q.its (qj ρ h) s0 else .bad:=rfl
@[simp] theorem aU7 (a h:E):ev F (.slU a h) ρ s=(ev F a ρ s).bind λ x s=>(ev F h ρ s).bind λ y s=>match y with|.int i=>slM x none (some i) s|_=>.bad:=rfl
@[simp] theorem cg4 (a h:E):ev F (.slL a h) ρ s=(ev F a ρ s).bind λ x s=>(ev F h ρ s).bind λ y s=>match y with|.int i=>slM x (some i) none s|_=>.bad:=rfl
end
theorem qq {ok:Sto->Bool}{g:D->Env->Sto->R (Option D×Env)}(P:Env->Sto->Prop)(f:D->Option D):∀(l:List D) (ρ:Env) (s:Sto),P ρ s ->
  (∀ ρ s,P ρ s->ok s=true)->(∀ d∈l,∀ ρ s,P ρ s->∃ ρ' s',g d ρ s=.ok (f d,ρ') s'/\P ρ' s')->∃ ρ' s',ad7 ok g l ρ s=.ok (l.filterMap f) s'/\P ρ' s'
 | [],ρ,s,h,o,_=>⟨ρ,s,by unfold ad7;rw[if_pos (o ρ s h)];rfl,h⟩
 | d::l,ρ,s,h,o,st=>by
  obtain⟨ρ1,s1,e1,F⟩:=st d (ar ..) ρ s h
  obtain⟨ρ2,s2,e2,B⟩:=qq P f l ρ1 s1 F o λ x hx=>st x (ai _ hx)
  refine⟨ρ2,s2,?_,B⟩
  unfold ad7
  rw[if_pos (o ρ s h),e1]
  simp only[R.bind_ok]
  rw[e2,aR]
  cases f d<;>rfl
theorem qT {P:Pr}[Has P ac8](n:Nat){s:Sto}{r:Nat}(hs:∃ b,s[r]?=some (zX b))(many:Int)(h0:0<many)(h:many<=10^90) :
  ∃(k:Nat) (b:Nat×Nat),(k:Int)<many/\(aa0 P (n+1)).call "_law_take" [.ref r,.int many] s=.ok (.int k) (s.set r (zX b)):=by
 obtain⟨b,hb⟩:=hs
 have:=aF3 b (many:=many.toNat) (by omega)
 exact⟨(tk b many.toNat).1,(tk b many.toNat).2,by omega,aG8 n b many h0 h s r hb⟩
theorem aq1 {k:Int}(h:k<=1000):k<=10^90:=Int.le_trans h (by decide)
theorem at6 {s:Sto}{r:Nat}{b:Nat×Nat}(h:r<s.length):∃ B,(s.set r (zX b))[r]?=some (zX B):=⟨b,qg h⟩
theorem bl3 {s:Sto}{r:Nat}(h:∃ b,s[r]?=some (zX b)):r<s.length:=by obtain⟨b,hb⟩:=h;exact(ag.mp hb).1
theorem aR4 {k:Int}{s:Sto}(h:0<=k/\k<=1000000):ai2 .shl (.int 1) (.int k) s=.ok (.int (1*2^k.toNat)) s:=by
 show(if 0<=k/\k<=1000000/\(1:Int).natAbs<2^64 then _ else _:M D) s=_
 rw[if_pos ⟨h.1,h.2,by decide⟩];rfl
theorem zr {l:List D}(h:∀ d∈l,∀ n,d.bnd n=true)(n:Nat):D.bndL n l=true:=by
 induction l with
 | nil=>rfl
 | cons d l ih=>unfold D.bndL;rw[h d (ar ..),ih λ x hx=>h x (ai _ hx)];rfl
noncomputable def av9 (bits:Nat):D->Option D
 | .int i=>if(bits:Int) / (1*2^i.toNat) % 2=1 then some (.int i)else none
 | _=>none
theorem aY7 {h:Nat}{l:List D}:∀ d∈l.filterMap (av9 h),∀ n,d.bnd n=true:=λ d hd n=>by
 obtain⟨x,hx,e⟩:=cz.mp hd
 cases x with
 | int i =>
  simp only[av9]at e
  split at e
  ·cases e;rfl
  ·cases e
 | _=>cases e
theorem aM9 {P:Pr}[Has P ac8][Has P ad4](n:Nat){s:Sto}{r:Nat}(hs:∃ b,s[r]?=some (zX b))(k:Int)(h0:0<=k)(h:k<=5) :
  ∃(B:Nat) (b:Nat×Nat),(aa0 P (n+2)).call "_law_rooms" [.ref r,.int k] s=.ok (.tup ((qe 0 k).filterMap (av9 B))) (s.set r (zX b)):=by
 have e0:(aa0 P (n+2)).call "_law_rooms" [.ref r,.int k] s=_:=zd ad4 (n:=n+1) rfl
 have hr:=bl3 hs
 have hp:(1:Int)*2^k.toNat<=32:=by
  have:k.toNat<=5:=by omega
  have G:(2:Nat)^k.toNat<=2^5:=ip (by decide) this
  have h3:((2^k.toNat:Nat):Int)<=32:=by exact_mod_cast G
  rw[fM];simpa using h3
 have Y:(0:Int)<1*2^k.toNat:=by rw[fM];exact Int.pow_pos (by decide)
 obtain⟨B,b,hb,eb⟩:=qT (P:=P) n hs (1*2^k.toNat) Y (aq1 (by omega))
 rw[e0]
 simp only[ad4,exs_cons,ex_asg,ev_call,evas_ex,evas_nil,ev_var,ev_bin,ev_cst,Cn_int,aN,dm,d9,gK,getV_0,getV_s,R.bind_ok,aR4 ⟨h0,by omega⟩,eb,bindT_one]
 simp only[aq,setV_s,setV_0,dG,setC_some,R.bind_ok,nxt_next,exs_cons,exs_nil,ex_ret,ev_mk,qN,evI_rng1,ev_var,getV_0,getV_s]
 rw[qG (by unfold W62;omega) (by unfold W62;omega)]
 simp only[R.bind_ok]
 rw[if_pos (by simp[qe];unfold LIM;omega)]
 have key:∃(ρ':Env) (s':Sto),ad7 (λ J=>chk (s.set r (zX b)) J []) (aq7 (aa0 P (n+1)) (.one 0) (.cmp .eq (.bin .mod (.bin .fdiv (.var 1) (.bin .shl (.cst (.int 1)) (.var 0))) (.cst (.int 2))) (.cst (.int 1))) (.var 0)) (qe 0 k) (qj [some (.ref r),some (.int k),some (.int B)] [none,some 2]) (s.set r (zX b))=.ok ((qe 0 k).filterMap (av9 B)) s'/\(s'=s.set r (zX b)/\∃ x,ρ'=[x,some (D.int B)]):=by
  refine qq (λ ρ u=>u=s.set r (zX b)/\∃ x,ρ=[x,some (.int B)]) (av9 B) (qe 0 k) _ _ ⟨rfl,none,rfl⟩ (λ _ _ _=>rfl) ?_
  rintro d hd ρ u ⟨rfl,x,rfl⟩
  obtain⟨j,hj⟩:=iq hd
  obtain⟨G,rfl⟩:=ai5 hj
  refine⟨[some (.int (0+j)),some (.int B)],_,?_,rfl,_,rfl⟩
  have a0:j<5:=by omega
  have Z:(1:Int)*2^((0:Int)+j).toNat<=32:=by
   have:((0:Int)+j).toNat<=5:=by omega
   have G:(2:Nat)^((0:Int)+j).toNat<=2^5:=ip (by decide) this
   have h3:((2^((0:Int)+j).toNat:Nat):Int)<=32:=by exact_mod_cast G
   rw[fM];simpa using h3
  have F:(0:Int)<1*2^((0:Int)+j).toNat:=by rw[fM];exact Int.pow_pos (by decide)
  unfold aq7
  simp only[bindT_one,setV_0,ev_cmp,ev_bin,ev_var,ev_cst,Cn_int,getV_0,getV_s,R.bind_ok]
  rw[aR4 ⟨by omega,by omega⟩]
  simp only[R.bind_ok]
  rw[aq4 F (by omega)]
  simp only[R.bind_ok]
  rw[aj5 (by decide)]
  simp only[R.bind_ok,eq_int,tru_bl]
  simp[av9]
  split<;>rfl
 obtain⟨ρ',s',e,h1⟩:=key
 rw[e]
 obtain⟨rfl,_⟩:=h1
 refine⟨B,b,?_⟩
 simp only[R.bind_ok,mk,nxt_ret,fin_ret]
 exact ah0 (λ m=>by unfold D.bnd;exact zr aY7 m) (by nofun) rfl
theorem bR6 {k:Nat}(h:k<3)(s:Sto):ixM (.str [97,98,99]) (.int (k:Int)) s=.ok (.str [97+k]) s:=by
 match k,h with
 | 0,_=>rfl
 | 1,_=>rfl
 | 2,_=>rfl
theorem ar5 {P:Pr}[Has P ac8](n:Nat){s t:Sto}{r:Nat}(hr:r<s.length)(b:Nat×Nat)(many:Int)(h0:0<many)(h:many<=10^90) :
  ∃(k:Nat) (B:Nat×Nat),(k:Int)<many/\(aa0 P (n+1)).call "_law_take" [.ref r,.int many] (s.set r (zX b)++t)=.ok (.int k) (s.set r (zX B)++t):=by
 obtain⟨k,B,G,F⟩:=qT (P:=P) n (s:=s.set r (zX b)++t) (r:=r) ⟨b,zq (qg hr)⟩ many h0 h
 refine⟨k,B,G,?_⟩
 rw[F,ar4 (by rw[bj];exact hr),bW]
theorem bO3 {s t:Sto}{r:Nat}{b:Nat×Nat}{l:List D}{v:D}(h:l.length<LIM):meth .append (.ref s.length) [v] (s.set r (zX b)++(.lst l::t))=.ok .non (s.set r (zX b)++(.lst (l++[v])::t)):=by
 rw[qI (l:=l) (by rw[aB (by simp)];simp) h]
 congr 1
 rw[bE,if_neg (by simp)]
 simp
theorem aE4 {a b:List Nat}{s:Sto}(h:a.length+b.length<=LIM):ai2 .add (.str a) (.str b) s=.ok (.str (a++b)) s:=by
 show(if a.length+b.length<=LIM then _ else _:M D) s=_;rw[if_pos h];rfl
def Lts (L:Nat)(w:List Nat):Prop:=∀ c∈w,97<=c/\c<97+L
theorem rep_len (l:List Nat):∀ n,(rep n l).length=l.length*n
 | 0=>by simp[rep]
 | n+1=>by simp[rep,rep_len l n,jJ];omega
noncomputable def bE0 (L:Nat)(d:D):Bool:=match d with
 | .str w=>decide (w.length<=200)&&w.all λ c=>decide (97<=c/\c<97+L)
 | _=>false
theorem aR8 {P:Pr}{x:String}{v:D}[HasC P x v]{n:Nat}{ρ:Env}{s:Sto}:ev (aa0 P n) (.glob x) ρ s=.ok v s:=by
 show(match(aa0 P n).con x with|some d=>R.ok d s|none=>.bad)=_
 rw[bt7 (v:=v)]
noncomputable abbrev aS7:List D:=[.str [97],.str [98],.str [99]]
theorem bv8 {L:Nat}(h:L<=3)(s:Sto):slM (.tup aS7) none (some (L:Int)) s=.ok (.tup (aS7.take L)) s:=by
 match L,h with
 | 0,_=>rfl
 | 1,_=>rfl
 | 2,_=>rfl
 | 3,_=>rfl
theorem aM0 {P:Pr}[Has P aa6][HasC P "LETTERS" (.tup aS7)](n:Nat){L:Nat}(h:L<=3)(l:List D)(s:Sto):(aa0 P (n+1)).call "letters_of" [.tup (.int L::l)] s=.ok (.tup (aS7.take L)) s:=by
 refine(zd aa6 rfl).trans ?_
 have B:ixM (.tup (.int L::l)) (.int ((0:Nat):Int)) s=.ok (.int L) s:=ix_tup rfl
 simp -implicitDefEqProofs [aa6,aR8 (v:=.tup aS7)]
 rw[show(0:Int)=((0:Nat):Int)from rfl,B]
 simp only[R.bind_ok]
 rw[bv8 h]
 simp -implicitDefEqProofs
 match L,h with
 | 0,_=>exact zx (λ _=>rfl) (by nofun)
 | 1,_=>exact zx (λ _=>rfl) (by nofun)
 | 2,_=>exact zx (λ _=>rfl) (by nofun)
 | 3,_=>exact zx (λ _=>rfl) (by nofun)
theorem qp {a b:D}{s:Sto}:ql .isin a b s=(inM a b s).bind λ r s=>.ok (.bl r) s:=rfl
theorem aj0 {a b:D}{s:Sto}:ql .notin a b s=(inM a b s).bind λ r s=>.ok (.bl (!r)) s:=rfl
@[simp] theorem cf7 {F:Fns} {ρ:Env} {s:Sto} (a:E):ev F (.neg a) ρ s=(ev F a ρ s).bind λ x s=>match x with|.int i=>.ok (.int (-i)) s|_=>.bad:=rfl
structure Dr where
 a:Nat
 l:Nat
 b:Nat
 t:Nat
noncomputable def Dr.d (x:Dr):D:=.tup [.int x.a,.str [x.l],.int x.b,.int x.t]
structure Mc where
 L:Nat
 R:Nat
 bg:List Nat
 en:List Nat
 ds:List Dr
noncomputable def qV (l:List Nat):List D:=l.map λ(k:Nat)=>D.int (k:Int)
noncomputable def sg (w:List Nat):List D:=w.map λ c=>.str [c]
noncomputable def Mc.ps (m:Mc):List D:=[.int m.L,.int m.R,.tup (qV m.bg),.tup (qV m.en),.tup (m.ds.map Dr.d)]
noncomputable def Mc.d (m:Mc):D:=.tup m.ps
structure Dr.Ok (m:Mc)(x:Dr):Prop where
 a:x.a<m.R
 l:97<=x.l/\x.l<97+m.L
 b:x.b<m.R
 t:x.t<4
structure Mc.Ok (m:Mc):Prop where
 L1:1<=m.L
 L3:m.L<=3
 R1:1<=m.R
 R5:m.R<=5
 bg:(∀ k∈m.bg,k<m.R)/\m.bg.Pairwise (· < ·)
 en:(∀ k∈m.en,k<m.R)/\m.en.Pairwise (· < ·)
 ds:(∀ x∈m.ds,x.Ok m)/\m.ds.length<=75
theorem ai4 {l:List Nat}:∀ d∈qV l,∀ n,d.bnd n=true:=λ d hd n=>by
 obtain⟨c,_,rfl⟩:=aP.mp hd;rfl
theorem aW5 {l:List Dr}:∀ d∈l.map Dr.d,∀ n,d.bnd n=true:=λ d hd n=>by
 obtain⟨c,_,rfl⟩:=aP.mp hd;rfl
theorem bC0 {m:Mc}:∀ d∈m.ps,∀ n,d.bnd n=true:=λ d hd n=>by
 simp only[Mc.ps,aC,bP,or_false]at hd
 rcases hd with rfl|rfl|rfl|rfl|rfl
 ·rfl
 ·rfl
 ·unfold D.bnd;exact zr ai4 n
 ·unfold D.bnd;exact zr ai4 n
 ·unfold D.bnd;exact zr aW5 n
theorem bE2 (m:Mc)(n:Nat):m.d.bnd n=true:=by unfold Mc.d D.bnd;exact zr bC0 n
noncomputable def aG4 (bits k:Nat):List Nat:=(aU k).filter λ i=>decide (bits / 2^i % 2=1)
theorem ba1 (h k:Nat):(∀ i∈aG4 h k,i<k)/\(aG4 h k).Pairwise (· < ·) :=
 ⟨λ i B=>b7.mp (eQ.mp B).1,kQ _ List.pairwise_lt_range⟩
theorem bc2 (B:Nat)(k:Nat):(qe 0 (k:Int)).filterMap (av9 B)=qV (aG4 B k):=by
 unfold qe aG4 qV
 simp only[kF,bV]
 rw[cP]
 induction (aU k)with
 | nil=>rfl
 | cons i l ih =>
  rw[aR,gh]
  have e:((B:Int) / (1*2^((0:Int)+(i:Int)).toNat) % 2=1)↔(B / 2^i % 2=1):=by
   rw[fM,show((0:Int)+(i:Int)).toNat=i by omega]
   have:((B:Int) / 2^i % 2)=((B / 2^i % 2:Nat):Int):=by simp
   rw[this];omega
  simp only[ko,av9]
  by_cases h:B / 2^i % 2=1
  ·rw[if_pos (e.mpr h)]
   simp only[h,decide_true,if_true,aN]
   rw[<-ih,jn]
  ·rw[if_neg λ z=>h (e.mp z)]
   simp only[h,decide_false]
   exact ih
theorem aJ0 {P:Pr}[Has P ac8][Has P ad4](n:Nat){s:Sto}{r:Nat}(hs:∃ b,s[r]?=some (zX b))(k:Nat)(h:k<=5) :
  ∃(l:List Nat) (b:Nat×Nat),((∀ i∈l,i<k)/\l.Pairwise (· < ·))/\(aa0 P (n+2)).call "_law_rooms" [.ref r,.int k] s=.ok (.tup (qV l)) (s.set r (zX b)):=by
 obtain⟨B,b,e⟩:=aM9 (P:=P) n hs k (by omega) (by omega)
 rw[bc2]at e
 exact⟨_,b,ba1 B k,e⟩
def McR (s:Sto)(r:Nat)(x:R D):Prop:=∃(m:Mc) (b:Nat×Nat),m.Ok/\x=.ok m.d (s.set r (zX b))
section
variable {P:Pr}
theorem aE6 {l:List D}{s:Sto}(j:Nat){d:D}(h:l[j]?=some d):ixM (.tup l) (.int (j:Int)) s=.ok d s:=ix_tup h
theorem ixL (m:Mc)(s:Sto):ixM m.d (.int 0) s=.ok (.int m.L) s:=aE6 0 rfl
theorem ixR (m:Mc)(s:Sto):ixM m.d (.int 1) s=.ok (.int m.R) s:=aE6 1 rfl
theorem ixB (m:Mc)(s:Sto):ixM m.d (.int 2) s=.ok (.tup (qV m.bg)) s:=aE6 2 rfl
theorem ixE (m:Mc)(s:Sto):ixM m.d (.int 3) s=.ok (.tup (qV m.en)) s:=aE6 3 rfl
theorem ixD (m:Mc)(s:Sto):ixM m.d (.int 4) s=.ok (.tup (m.ds.map Dr.d)) s:=aE6 4 rfl
theorem aj8 [Has P ab0](n:Nat)(m:Mc)(s:Sto):(aa0 P (n+1)).call "rooms_of" [m.d] s=.ok (.int m.R) s:=by
 refine(zd ab0 rfl).trans ?_
 simp -implicitDefEqProofs [ab0,ixR]
theorem qy {s:Sto}{l:List D}(h:∀ d∈l,∀ n,d.bnd n=true):zo s (.tup l) s=.ok (.tup l) s:=zx (λ n=>by unfold D.bnd;exact zr h n) (by nofun)
theorem ay4 [Has P ab2](n:Nat)(m:Mc)(s:Sto):(aa0 P (n+1)).call "begins_of" [m.d] s=.ok (.tup (qV m.bg)) s:=by
 refine(zd ab2 rfl).trans ?_
 simp -implicitDefEqProofs [ab2,ixB,qy ai4]
theorem aP1 [Has P ab1](n:Nat)(m:Mc)(s:Sto):(aa0 P (n+1)).call "ends_of" [m.d] s=.ok (.tup (qV m.en)) s:=by
 refine(zd ab1 rfl).trans ?_
 simp -implicitDefEqProofs [ab1,ixE,qy ai4]
theorem aC0 [Has P aa9](n:Nat)(m:Mc)(s:Sto):(aa0 P (n+1)).call "doors_of" [m.d] s=.ok (.tup (m.ds.map Dr.d)) s:=by
 refine(zd aa9 rfl).trans ?_
 simp -implicitDefEqProofs [aa9,ixD,qy aW5]
theorem aT8 {a b:Int}(h:a<b):qe a b=.int a::qe (a+1) b:=by
 unfold qe
 obtain⟨n,hn⟩:∃ n:Nat,(b - a).toNat=n+1:=⟨(b - a).toNat - 1,by omega⟩
 rw[hn,show(b - (a+1)).toNat=n by omega,dR,aN,bL]
 congr 1
 ·simp
 ·apply dw
  intro k _
  simp only[ko]
  congr 1;omega
theorem bi9 {a b:Int}(h:b<=a):qe a b=[]:=by
 unfold qe
 rw[show(b - a).toNat=0 by omega];rfl
@[simp] theorem cc9 (a b:Nat) (s:Sto):ql .ne (.str [a]) (.str [b]) s=.ok (.bl (!decide (a=b))) s:=by
 show(match eqv s DEEP (.str [a]) (.str [b])with|some r=>R.ok (D.bl (!r)) s|none=>.bad)=_
 have:eqv s DEEP (.str [a]) (.str [b])=some ([a]==[b]):=rfl
 rw[this]
 have e:([a]==[b])=decide (a=b):=by rw[eX];simp
 rw[e]
@[simp] theorem qz (a b:Nat) (s:Sto):ql .eq (.str [a]) (.str [b]) s=.ok (.bl (decide (a=b))) s:=by
 show(match eqv s DEEP (.str [a]) (.str [b])with|some r=>R.ok (D.bl r) s|none=>.bad)=_
 have:eqv s DEEP (.str [a]) (.str [b])=some ([a]==[b]):=rfl
 rw[this]
 have e:([a]==[b])=decide (a=b):=by rw[eX];simp
 rw[e]
end
theorem good_of {L:Nat}{w:List Nat}(h:w.length<=200)(hw:Lts L w):bE0 L (.str w)=true:=by
 unfold bE0
 simp only[h,decide_true,fX,aK,decide_eq_true_eq]
 exact hw
@[simp] theorem bW0 {F:Fns} {ρ:Env} {s:Sto} (a h B:E):ev F (.slLU a h B) ρ s=(ev F a ρ s).bind λ x s=>(ev F h ρ s).bind λ y s=>match y with|.int i=>(ev F B ρ s).bind (λ z s=>match z with|.int j=>slM x (some i) (some j) s|_=>.bad)|_=>.bad:=rfl
@[simp] theorem bV3 {F:Fns} {ρ:Env} {s:Sto} (e:E):evI F (.enum (.seq e)) ρ s=(ev F e ρ s).bind λ d s=>(bk1 d s).bind λ q s=>.ok ⟨bq7 0 q.its,q.src⟩ s:=rfl
noncomputable def row (m:Nat)(f:Nat->Int):List D:=(aU m).map λ j=>.int (f j)
@[simp] theorem bX1 {m:Nat} {f:Nat->Int}:(row m f).length=m:=by unfold row;simp
theorem qD {l:List D}(s:Sto):aX0 (.tup l) s=.ok ⟨l,[]⟩ s:=rfl
theorem aK0 {ok:Sto->Bool}{g:D->Env->Sto->R (Option D×Env)}(P:Env->Sto->Prop)(f:D->D)(l:List D)(ρ:Env)(s:Sto)(h:P ρ s)
  (o:∀ ρ s,P ρ s->ok s=true) (st:∀ d∈l,∀ ρ s,P ρ s->∃ ρ' s',g d ρ s=.ok (some (f d),ρ') s'/\P ρ' s'):∃ ρ' s',ad7 ok g l ρ s=.ok (l.map f) s'/\P ρ' s':=by
 obtain⟨ρ',s',e,p⟩:=qq P (λ d=>some (f d)) l ρ s h o st
 refine⟨ρ',s',?_,p⟩
 rw[e];congr 1;induction l<;>simp_all
theorem at1 {ok:Sto->Bool}{g:D->Env->Sto->R (Option D×Env)}(P:Env->Sto->Prop)(f:Nat->D)(n:Nat)(ρ:Env)(s:Sto)(h:P ρ s)
  (o:∀ ρ s,P ρ s->ok s=true) (st:∀ j,j<n->∀ ρ s,P ρ s->∃ ρ' s',g (.int (j:Int)) ρ s=.ok (some (f j),ρ') s'/\P ρ' s'):∃ ρ' s',ad7 ok g (qe 0 (n:Int)) ρ s=.ok ((aU n).map f) s'/\P ρ' s':=by
 obtain⟨ρ',s',e,p⟩:=aK0 (g:=g) P (λ d=>match d with|.int i=>f i.toNat|d=>d) (qe 0 (n:Int)) ρ s h o λ d hd ρ s B=>by
  obtain⟨j,hj⟩:=iq hd
  obtain⟨F,rfl⟩:=ai5 hj
  obtain⟨ρ',s',e,p⟩:=st j (by omega) ρ s B
  refine⟨ρ',s',?_,p⟩
  rw[jn,e];rfl
 refine⟨ρ',s',?_,p⟩
 rw[e]
 congr 1
 unfold qe
 rw[bL,show((n:Int) - 0).toNat=n by omega]
 exact dw λ j _=>by
  show f ((0:Int)+(j:Int)).toNat=f j
  congr 1;omega
theorem at7 (n:Nat):(qe 0 (n:Int)).length=n:=by simp[qe]
noncomputable def prN (f g:Nat->Nat->Int)(i j:Nat):Nat->Int
 | 0=>3
 | k+1=>if f i k<3 then(let b:=(if g k j > f i k then g k j else f i k);if b<prN f g i j k then b else prN f g i j k)else prN f g i j k
noncomputable def pr (m:Nat)(f g:Nat->Nat->Int)(i j:Nat):Int:=prN f g i j m
noncomputable def bF6 (m:Nat)(f:Nat->Nat->Int):Sto:=(aU m).map λ i=>.lst (row m (f i))
@[simp] theorem bF5 {m:Nat} {f:Nat->Nat->Int}:(bF6 m f).length=m:=by unfold bF6;simp
noncomputable def ci7 (p m:Nat):List D:=(aU m).map λ i=>.ref (p+i)
@[simp] theorem ca8 {F:Fns} {ρ:Env} {s:Sto} (a b:E):evI F (.zip (.seq a) (.seq b)) ρ s=(ev F a ρ s).bind λ x s=>(ev F b ρ s).bind λ y s=>(aM6 x s).bind λ p s=>(aM6 y s).bind λ q s=>.ok ⟨cc5 p.its q.its,p.src++q.src⟩ s:=rfl
theorem ix_str {l:List Nat}{j c:Nat}{s:Sto}(hj:l[j]?=some c):ixM (.str l) (.int (j:Int)) s=.ok (.str [c]) s:=by
 have hl:j<l.length:=(ag.mp hj).1
 have e:l[j]=c:=(ag.mp hj).2
 simp[ixM,ixn,hl,e]
noncomputable def shN (f:Nat->Nat->Int)(i j:Nat):Nat->Int
 | 0=>3
 | k+1=>let b:=max (max (f i k) (if f k k=1 then 2 else f k k)) (f k j);if b<shN f i j k then b else shN f i j k
noncomputable def sh (m:Nat)(f:Nat->Nat->Int)(i j:Nat):Int:=shN f i j m
inductive Stp where
 | let_ (c:Nat)|pair (i j:Nat)|sharp (i:Nat)
noncomputable def Stp.d:Stp->D
 | .let_ c=>.tup [.str [108,101,116,116,101,114],.str [c]]
 | .pair i j=>.tup [.str [112,97,105,114],.int i,.int j]
 | .sharp i=>.tup [.str [115,104,97,114,112],.int i]
section
variable {s:Sto} {r:Nat} {b:Int} {A B C:List D} {T:Sto}
end
section
variable {m:Nat} {f:Nat->Nat->Int} {x:Int}
end
noncomputable def bW2 (a c:Int)(vs:List Int):Stp->Int
 | .let_ _=>a
 | .pair i j=>vs.getD i 0+vs.getD j 0
 | .sharp i=>vs.getD i 0*c
noncomputable def vl (a c:Int)(l:List Stp):List Int:=l.foldl (λ vs x=>vs++[bW2 a c vs x]) []
section
variable {F:Fns} {ρ:Env} {s:Sto}
end
noncomputable def Stp.t (c:Int):Stp->D
 | .sharp i=>.tup [.str [116,105,109,101,115],.int i,.int c]
 | x=>x.d
section
variable {P:Pr} [Has P bm7] [Has P an0] [HasL P ag6]
end
noncomputable def ad8 (S:Int->Prop):Option Int->Prop
 | none=>∀ c,¬ S c
 | some c=>S c/\∀ c',S c'->c<=c'
theorem ad8.eq {S F:Int->Prop}{o B:Option Int}(h:ad8 S o)(h':ad8 F B)(e:∀ c,S c↔F c):o=B:=by
 cases o with
 | none =>
  cases B with
  | none=>rfl
  | some c=>exact absurd ((e c).mpr h'.1) (h c)
 | some c =>
  cases B with
  | none=>exact absurd ((e c).mp h.1) (h' c)
  | some c' =>
   have J:=h.2 c' ((e c').mpr h'.1)
   have G:=h'.2 c ((e c).mp h.1)
   rw[show c=c' by omega]
theorem ad8.congr {S B:Int->Prop}{o:Option Int}(h:ad8 S o)(e:∀ c,S c↔B c):ad8 B o:=by
 cases o with
 | none=>exact λ c hc=>h c ((e c).mpr hc)
 | some c=>exact⟨(e c).mp h.1,λ F hc=>h.2 F ((e F).mpr hc)⟩
noncomputable def minO:Option Int->Option Int->Option Int
 | none,x=>x
 | some a,none=>some a
 | some a,some b=>if b<a then some b else some a
theorem ad8.or {S F:Int->Prop}{o B:Option Int}(h:ad8 S o)(h':ad8 F B):ad8 (λ c=>S c\/F c) (minO o B):=by
 cases o with
 | none =>
  cases B with
  | none=>exact λ c hc=>hc.elim (h c) (h' c)
  | some b=>exact⟨.inr h'.1,λ c hc=>hc.elim (λ z=>absurd z (h c)) (h'.2 c)⟩
 | some a =>
  cases B with
  | none=>exact⟨.inl h.1,λ c hc=>hc.elim (h.2 c) (λ z=>absurd z (h' c))⟩
  | some b =>
   show ad8 _ (if b<a then some b else some a)
   by_cases hlt:b<a
   ·rw[if_pos hlt]
    exact⟨.inr h'.1,λ c hc=>hc.elim (λ z=>by have:=h.2 c z;omega) (h'.2 c)⟩
   ·rw[if_neg hlt]
    exact⟨.inl h.1,λ c hc=>hc.elim (h.2 c) (λ z=>by have:=h'.2 c z;omega)⟩
theorem ad8.add {S:Int->Prop}{o:Option Int}(h:ad8 S o)(k:Int):ad8 (λ c=>∃ B,S B/\c=B+k) (o.map (·+k)):=by
 cases o with
 | none=>rintro c ⟨B,h',_⟩;exact h B h'
 | some a=>exact⟨⟨a,h.1,rfl⟩,by rintro c ⟨B,h',rfl⟩;have:=h.2 B h';show a+k<=B+k;omega⟩
noncomputable def Dr.turn (x:Dr):Dr:=⟨x.b,x.l,x.a,x.t⟩
noncomputable def Mc.turn (m:Mc):Mc:=⟨m.L,m.R,m.en,m.bg,m.ds.map Dr.turn⟩
noncomputable def za (row:List (Option Int)):List D:=row.map qh
theorem ai6 (row:List (Option Int)):(za row).length=row.length:=aw ..
theorem as4 {row:List (Option Int)}{k:Nat}{o:Option Int}(h:row[k]?=some o):(za row)[k]?=some (qh o):=by unfold za;rw[aF,h];rfl
def aC7 (S:Nat->Int->Prop)(row:List (Option Int)):Prop:=∀ k o,row[k]?=some o->ad8 (S k) o
theorem az6 {s:Sto}{k:Nat}:∀ {l:List Nat},inL s (.int k) (qV l)=some (decide (k∈l))
 | []=>rfl
 | a::l=>by
  have B:=az6 (s:=s) (k:=k) (l:=l)
  have e:eqv s DEEP (.int (a:Int)) (.int (k:Int))=some ((a:Int)==(k:Int)):=rfl
  show(match eqv s DEEP (.int (a:Int)) (.int (k:Int)),inL s (.int k) (qV l)with|some a,some b=>some (a||b)|_,_=>none)=_
  rw[e,B]
  show some (((a:Int)==(k:Int))||decide (k∈l))=some _
  congr 1
  rw[eX]
  simp
  constructor
  ·rintro(h|h)
   ·exact .inl (by omega)
   ·exact .inr h
  ·rintro(h|h)
   ·exact .inl (by omega)
   ·exact .inr h
theorem as9 {s:Sto}{k:Nat}{l:List Nat}:inM (.int k) (.tup (qV l)) s=.ok (decide (k∈l)) s:=by unfold inM;simp only[az6]
theorem aW1 (b:Bool)(s:Sto):bi .int [.bl b] s=.ok (.int (if b then 1 else 0)) s:=by cases b<;>rfl
theorem ap9:∀ l:List Int,qk (l.map D.int)=some l
 | []=>rfl
 | a::l=>by rw[aN];unfold qk;rw[ap9 l];rfl
theorem ax7:∀(l:List Int) (a:Int),(l.foldl min a=a\/l.foldl min a∈l)/\l.foldl min a<=a/\∀ y∈l,l.foldl min a<=y
 | [],a=>⟨.inl rfl,fI _,λ y hy=>by cases hy⟩
 | b::l,a=>by
  obtain⟨B,F,h3⟩:=ax7 l (min a b)
  rw[cV]
  refine⟨?_,by omega,λ y hy=>?_⟩
  ·rcases B with h|h
   ·rw[h]
    rcases kG a b with z|z
    ·left;omega
    ·right;rw[show min a b=b by omega];exact ar ..
   ·exact .inr (ai _ h)
  ·rcases aC.mp hy with z|z
   ·rw[z];omega
   ·exact h3 y z
theorem ao2 (l:List Int):ad8 (λ c=>c∈l) (minI l):=by
 cases l with
 | nil=>exact λ c hc=>by cases hc
 | cons a l =>
  obtain⟨F,B,h3⟩:=ax7 l a
  refine⟨?_,λ y hy=>?_⟩
  ·rcases F with h|h
   ·rw[h];exact ar ..
   ·exact ai _ h
  ·rcases aC.mp hy with z|z
   ·rw[z];exact B
   ·exact h3 y z
theorem aW7 (l:List Int)(s:Sto):mkD .min (l.map D.int) .non s=.ok (qh (minI l)) s:=by
 unfold mkD
 simp only[ap9]
 cases minI l<;>rfl
def aB2 (S:Nat->Int->Prop)(x:Nat)(ds:List Dr)(k:Nat)(c:Int):Prop:=∃ d∈ds,d.l=x/\d.b=k/\∃ c':Int,S d.a c'/\c=c'+(d.t:Int)
theorem aw7 {S:Nat->Int->Prop}{x:Nat}{F:List Dr}{d:Dr}{th:List (Option Int)}(h:aC7 (aB2 S x F) th)(hn:∀ B,¬(d.l=x/\S d.a B)):aC7 (aB2 S x (F++[d])) th:=λ k o hk=>by
 refine(h k o hk).congr λ c=>?_
 constructor
 ·rintro⟨e,he,r⟩;exact⟨e,aZ.mpr (.inl he),r⟩
 ·rintro⟨e,he,hl,hb,B,hs,r⟩
  rcases aZ.mp he with z|z
  ·exact⟨e,z,hl,hb,B,hs,r⟩
  ·rw[az.mp z]at hl hs;exact absurd ⟨hl,hs⟩ (hn B)
theorem aQ4 {S:Nat->Int->Prop}{x:Nat}{B:List Dr}{d:Dr}{th:List (Option Int)}{i:Int}(h:aC7 (aB2 S x B) th)(hx:d.l=x)(G:ad8 (S d.a) (some i)){o:Option Int}(ho:th[d.b]?=some o) :
  aC7 (aB2 S x (B++[d])) (th.set d.b (minO o (some (i+d.t)))):=λ k F hk=>by
 have hlt:d.b<th.length:=(ag.mp ho).1
 by_cases e:d.b=k
 ·subst e
  rw[aV hlt]at hk
  cases hk
  refine((h _ o ho).or (G.add d.t)).congr λ c=>?_
  constructor
  ·rintro(⟨e,he,r⟩|r)
   ·exact⟨e,aZ.mpr (.inl he),r⟩
   ·exact⟨d,aZ.mpr (.inr (az.mpr rfl)),hx,rfl,r⟩
  ·rintro⟨e,he,hl,hb,r⟩
   rcases aZ.mp he with z|z
   ·exact .inl ⟨e,z,hl,hb,r⟩
   ·rw[az.mp z]at r;exact .inr r
 ·rw[a9 e]at hk
  refine(h k F hk).congr λ c=>?_
  constructor
  ·rintro⟨e,he,r⟩;exact⟨e,aZ.mpr (.inl he),r⟩
  ·rintro⟨e',he,hl,hb,r⟩
   rcases aZ.mp he with z|z
   ·exact⟨e',z,hl,hb,r⟩
   ·rw[az.mp z]at hb;exact absurd hb e
theorem qE {α β:Type}{f g:α->Option β}:∀ {l:List α},(∀ x∈l,f x=g x)->l.filterMap f=l.filterMap g
 | [],_=>rfl
 | a::l,h=>by rw[aR,aR,h a (ar ..),qE λ x hx=>h x (ai _ hx)]
end DV
end
local macro_rules | `(tactic| tbr_iter [$xs,*]) => `(tactic| simp -implicitDefEqProofs only [DV.exs_cons, DV.exs_nil, DV.ex_asg, DV.ex_ite, DV.ex_ret, DV.ex_ex, DV.ex_for, DV.ex_whl, DV.ex_setIx, DV.ex_cont, DV.ex_pass, DV.ex_und, DV.ev_var, DV.ev_cst, DV.ev_bin, DV.ev_not, DV.ev_cmp, DV.ev_and, DV.ev_or, DV.ev_ite, DV.ev_tup, DV.ev_lst, DV.ev_ix, DV.ev_call, DV.ev_bi, DV.ev_mk, DV.ev_mkD, DV.ev_mks, DV.ev_mkDs, DV.ev_meth, DV.ev_isN, DV.ev_notN, DV.evs_nil, DV.evs_cons, DV.evas_nil, DV.evas_ex, DV.evI_seq, DV.evI_rng1, DV.evL_seq, DV.Cn_bl, DV.Cn_int, DV.Cn_non, DV.Cn_str, DV.R.bind_ok, DV.bindT_one, DV.bindT_tup, DV.setVs_nil, DV.setVs_cons, DV.setV_s, DV.setV_0, DV.unsetV_s, DV.unsetV_0, DV.getV_0, DV.getV_s, Option.map_some, Option.bind_some, DV.setC_some, DV.nxt_next, DV.nxt_ret, DV.nxt_cont, DV.fin_ret, DV.fin_next, DV.add_int, DV.sub_int, DV.lt_int, DV.le_int, DV.gt_int, DV.ge_int, DV.eq_int, DV.ne_int, DV.alloc_eq, DV.tru_bl, if_true, if_false, Bool.false_eq_true, decide_true, decide_false, Bool.not_true, Bool.not_false, $[$xs:term],*])
noncomputable section
namespace DV
noncomputable def addO:Option Int->Option Int->Option Int
 | some a,some b=>some (a+b)
 | _,_=>none
theorem aj6:∀ l:List (Option Int),(za l).filterMap (λ d=>if d=D.non then none else some d)=(l.filterMap id).map D.int
 | []=>rfl
 | o::l=>by
  have h:=aj6 l
  unfold za at h ⊢
  cases o with
  | none=>rw[aN,aR,aR];simpa using h
  | some i=>rw[aN,aR,aR];simpa using h
theorem aH7 {P:Pr}[Has P ab8](n:Nat){s:Sto}{q:Nat}{l:List (Option Int)}(hq:s[q]?=some (.lst (za l)))(hl:l.length<=1000):(aa0 P (n+1)).call "least" [.ref q] s=.ok (qh (minI (l.filterMap id))) s:=by
 have F:(aa0 P (n+1)).call "least" [.ref q] s=_:=zd ab8 (n:=n) rfl
 rw[F,show(cj some [D.ref q]++aq ab8.vs none)=[some (D.ref q)]from rfl]
 have B:aX0 (.ref q) s=.ok ⟨za l,[q]⟩ s:=by simp only[aX0,hq]
 obtain⟨ρ1,s1,e1,rfl,_⟩:=qq (ok:=λ s1=>chk s s1 [q]) (g:=aq7 (aa0 P n) (.one 0) (.notN (.var 0)) (.var 0)) (λ ρ u=>u=s/\∃ x,ρ=[x]) (λ d=>if d=D.non then none else some d) (za l) [none] s ⟨rfl,none,rfl⟩ (λ _ u h=>by obtain⟨rfl,_⟩:=h;simp[chk]) (by
  rintro d hd ρ u ⟨rfl,x,rfl⟩
  refine⟨[some d],u,?_,rfl,_,rfl⟩
  unfold aq7
  by_cases hn:d=.non
  ·tbr_iter [hn]
  ·tbr_iter [hn])
 rw[aj6]at e1
 simp -implicitDefEqProofs only[ab8]
 tbr_iter [qN,B,if_pos (show(za l).length<=LIM by rw[ai6];unfold LIM;omega),show qj [some (D.ref q)] [none]=[none]from rfl,e1,aW7]
 exact ap7
theorem bi0 {P:Pr}[Has P ac5](n:Nat)(a b:Option Int)(s:Sto):(aa0 P (n+1)).call "added" [qh a,qh b] s=.ok (qh (addO a b)) s:=by
 have h:(aa0 P (n+1)).call "added" [qh a,qh b] s=_:=zd ac5 (n:=n) rfl
 rw[h,show(cj some [qh a,qh b]++aq ac5.vs none)=[some (qh a),some (qh b)]from rfl]
 simp -implicitDefEqProofs only[ac5]
 cases a with
 | none=>tbr_iter [qc,show(D.non=D.non)=True from eq_self _];exact au7
 | some a=>cases b with
  | none=>tbr_iter [qc,zE,show(D.non=D.non)=True from eq_self _,show(D.int a=D.non)=False from eq_false (by nofun)];exact au7
  | some b=>tbr_iter [zE,show(D.int a=D.non)=False from eq_false (by nofun),show(D.int b=D.non)=False from eq_false (by nofun)];exact aW8
section
variable {P:Pr} [Has P bm7]
end
noncomputable def zu (m:Mc):List (Option Int):=(aU m.R).map λ k=>if k∈m.bg then some 0 else none
noncomputable def bD0 (m:Mc)(row:List (Option Int))(x b:Nat):Option Int:=minI (((m.ds.filter λ d=>decide (d.l=x)&&decide (d.b=b)).map λ d=>addO (row.getD d.a none) (some (d.t:Int))).filterMap id)
noncomputable def bb6 (m:Mc)(row:List (Option Int))(x:Nat):List (Option Int):=(aU m.R).map (bD0 m row x)
noncomputable def bb7 (m:Mc)(row:List (Option Int)):Option Int:=minI (m.en.filterMap λ q=>row.getD q none)
theorem qM {row:List (Option Int)}:∀ d∈za row,∀ n,d.bnd n=true:=λ d hd n=>by
 obtain⟨o,_,rfl⟩:=aP.mp hd;exact aj1 _ n
theorem aY0 {row:List (Option Int)}{k:Nat}(h:k<row.length)(s:Sto):ixM (.tup (za row)) (.int (k:Int)) s=.ok (qh (row.getD k none)) s:=by
 refine ix_tup (as4 ?_)
 rw[aj h];simp[jE,h]
theorem aI9 (q:List D)(s:Sto):mk .tuple q s=.ok (.tup q) s:=rfl
theorem aY6 (q:List D)(s:Sto):mk .list q s=.ok (.ref s.length) (s++[.lst q]):=rfl
theorem az2 {P:Pr}[Has P ab2][Has P ab0][Has P ab3](n:Nat){m:Mc}(h:m.Ok)(s:Sto):(aa0 P (n+2)).call "first_row" [m.d] s=.ok (.tup (za (zu m))) s:=by
 have F:(aa0 P (n+2)).call "first_row" [m.d] s=_:=zd ab3 (n:=n+1) rfl
 have G:=h.R5
 rw[F,show(cj some [m.d]++aq ab3.vs none)=[some m.d,none]from rfl]
 obtain⟨ρ1,s1,e1,rfl,_⟩:=at1 (ok:=λ s1=>chk s s1 []) (g:=ai1 (aa0 P (n+1)) (.one 0) (.ite (.cmp .isin (.var 0) (.var 1)) (.cst (.int 0)) (.cst .non))) (λ ρ u=>u=s/\∃ x,ρ=[x,some (.tup (qV m.bg))]) (λ k=>qh (if k∈m.bg then some 0 else none)) m.R [none,some (.tup (qV m.bg))] s ⟨rfl,none,rfl⟩ (λ _ _ _=>rfl) (by
  rintro k hk ρ u ⟨rfl,x,rfl⟩
  refine⟨[some (.int k),some (.tup (qV m.bg))],u,?_,rfl,_,rfl⟩
  unfold ai1
  by_cases hb:k∈m.bg
  ·tbr_iter [qp,as9,hb,zE]
  ·tbr_iter [qp,as9,hb,qc])
 have B:((aU m.R).map λ k=>qh (if k∈m.bg then some 0 else none))=za (zu m):=by unfold za zu;rw[bL];rfl
 rw[B]at e1
 simp -implicitDefEqProofs only[ab3]
 tbr_iter [ay4 n,aj8 n,af3,qG (s:=s1) (i:=(m.R:Int)) (by unfold W62;omega) (by unfold W62;omega),if_pos (show(qe 0 (m.R:Int)).length<=LIM by rw[at7];unfold LIM;omega),show qj [some m.d,some (.tup (qV m.bg))] [none,some 1]=[none,some (.tup (qV m.bg))]from rfl,e1,aI9]
 exact qy qM
noncomputable def be9 (row:List (Option Int))(x b:Nat):D->Option D
 | .tup [.int a,.str [l],.int c,.int t]=>if l=x/\c=(b:Int)then some (qh (addO (row.getD a.toNat none) (some t)))else none
 | _=>none
theorem aY2 (row:List (Option Int))(x b:Nat):∀ B:List Dr,(B.map Dr.d).filterMap (be9 row x b)=za ((B.filter λ d=>decide (d.l=x)&&decide (d.b=b)).map λ d=>addO (row.getD d.a none) (some (d.t:Int)))
 | []=>rfl
 | d::B=>by
  have F:=aY2 row x b B
  rw[aN,aR]
  have e:be9 row x b d.d=if d.l=x/\(d.b:Int)=(b:Int)then some (qh (addO (row.getD (d.a:Int).toNat none) (some (d.t:Int))))else none:=rfl
  rw[e,bV]
  by_cases h:d.l=x/\d.b=b
  ·rw[if_pos ⟨h.1,by omega⟩,gh,if_pos (by simp[h]),aN]
   show _::_=za (_::_)
   rw[F];rfl
  ·rw[if_neg (λ z=>h ⟨z.1,by omega⟩),gh,if_neg (by simpa using h)]
   exact F
theorem aq2 {P:Pr}[Has P ab8][Has P ac5][Has P aa9][Has P aa2](n:Nat){m:Mc}(B:m.Ok){row:List (Option Int)}(hr:row.length=m.R)(x b:Nat)(s:Sto) :
  (aa0 P (n+2)).call "least_into" [m.d,.tup (za row),.str [x],.int (b:Int)] s=.ok (qh (bD0 m row x b)) s:=by
 have e0:(aa0 P (n+2)).call "least_into" [m.d,.tup (za row),.str [x],.int (b:Int)] s=_:=zd aa2 (n:=n+1) rfl
 have hd:=B.ds.2
 rw[e0,show(cj some [m.d,D.tup (za row),.str [x],.int (b:Int)]++aq aa2.vs none)=[some m.d,some (D.tup (za row)),some (.str [x]),some (.int (b:Int))]from rfl]
 obtain⟨ρ1,s1,e1,rfl,_⟩:=qq (ok:=λ s1=>chk s s1 []) (g:=aq7 (aa0 P (n+1)) (.tup [0,1,2,3]) (.and (.cmp .eq (.var 1) (.var 4)) (.cmp .eq (.var 2) (.var 5))) (.call "added" (.ex (.ix (.var 6) (.var 0)) (.ex (.var 3) .nil)))) (λ ρ u=>u=s/\∃ F Z Y J,ρ=[F,Z,Y,J,some (.str [x]),some (.int (b:Int)),some (D.tup (za row))]) (be9 row x b) (m.ds.map Dr.d) [none,none,none,none,some (.str [x]),some (.int (b:Int)),some (D.tup (za row))] s ⟨rfl,none,none,none,none,rfl⟩ (λ _ _ _=>rfl) (by
  rintro d hd ρ u ⟨rfl,F,Z,Y,J,rfl⟩
  obtain⟨z,hz,rfl⟩:=aP.mp hd
  have ok:=B.ds.1 z hz
  have ei:be9 row x b z.d=if z.l=x/\(z.b:Int)=(b:Int)then some (qh (addO (row.getD (z.a:Int).toNat none) (some (z.t:Int))))else none:=rfl
  have G:=bi0 (P:=P) n (row.getD z.a none) (some (z.t:Int)) u
  rw[zE]at G
  refine⟨[some (.int z.a),some (.str [z.l]),some (.int z.b),some (.int z.t),some (.str [x]),some (.int (b:Int)),some (D.tup (za row))],u,?_,rfl,_,_,_,_,rfl⟩
  rw[ei,bV]
  unfold aq7
  rw[show z.d=.tup [.int z.a,.str [z.l],.int z.b,.int z.t]from rfl]
  by_cases h1:z.l=x
  ·by_cases h2:(z.b:Int)=(b:Int)
   ·rw[if_pos ⟨h1,h2⟩]
    tbr_iter [qz,h1,h2,aY0 (row:=row) (k:=z.a) (by rw[hr];exact ok.a),G]
   ·rw[if_neg (λ q=>h2 q.2)]
    tbr_iter [qz,h1,h2]
  ·rw[if_neg (λ q=>h1 q.1)]
   tbr_iter [qz,h1])
 rw[aY2]at e1
 have h:((m.ds.filter λ d=>decide (d.l=x)&&decide (d.b=b)).map λ d=>addO (row.getD d.a none) (some (d.t:Int))).length<=1000:=by
  rw[aw]
  exact am (List.length_filter_le _ _) (by omega)
 have el:=aH7 (P:=P) n (s:=s1++[O.lst (za ((m.ds.filter λ d=>decide (d.l=x)&&decide (d.b=b)).map λ d=>addO (row.getD d.a none) (some (d.t:Int))))]) (q:=s1.length) (l:=(m.ds.filter λ d=>decide (d.l=x)&&decide (d.b=b)).map λ d=>addO (row.getD d.a none) (some (d.t:Int))) (by rw[aB (ak _)];simp) h
 simp -implicitDefEqProofs only[aa2]
 tbr_iter [aC0 n,qD,qN,if_pos (show(m.ds.map Dr.d).length<=LIM by rw[aw];unfold LIM;omega),show qj [some m.d,some (D.tup (za row)),some (.str [x]),some (.int (b:Int))] [none,none,none,none,some 2,some 3,some 1]=[none,none,none,none,some (.str [x]),some (.int (b:Int)),some (D.tup (za row))]from rfl,e1,aY6,el]
 exact zT (aj1 _) (as3 _)
theorem bT5 {P:Pr}[Has P ab8][Has P ac5][Has P aa9][Has P ab0][Has P ag9][Has P aa2][Has P ai0](n:Nat){m:Mc}(h:m.Ok){row:List (Option Int)}(hr:row.length=m.R)(k:Int)(x:Nat)(s:Sto) :
  (aa0 P (n+3)).call "led" [m.d,.int k,.tup (za row),.str [x]] s=.ok (.tup (za ((bb6 m row x).map (cutO k)))) s:=by
 have F:(aa0 P (n+3)).call "led" [m.d,.int k,.tup (za row),.str [x]] s=_:=zd ai0 (n:=n+2) rfl
 have G:=h.R5
 rw[F,show(cj some [m.d,.int k,D.tup (za row),.str [x]]++aq ai0.vs none)=[some m.d,some (.int k),some (D.tup (za row)),some (.str [x])]from rfl]
 obtain⟨ρ1,s1,e1,rfl,_⟩:=at1 (ok:=λ s1=>chk s s1 []) (g:=ai1 (aa0 P (n+2)) (.one 0) (.call "cut" (.ex (.call "least_into" (.ex (.var 1) (.ex (.var 2) (.ex (.var 3) (.ex (.var 0) .nil))))) (.ex (.var 4) .nil)))) (λ ρ u=>u=s/\∃ y,ρ=[y,some m.d,some (D.tup (za row)),some (.str [x]),some (.int k)]) (λ b=>qh (cutO k (bD0 m row x b))) m.R [none,some m.d,some (D.tup (za row)),some (.str [x]),some (.int k)] s ⟨rfl,none,rfl⟩ (λ _ _ _=>rfl) (by
  rintro b hb ρ u ⟨rfl,y,rfl⟩
  refine⟨[some (.int b),some m.d,some (D.tup (za row)),some (.str [x]),some (.int k)],u,?_,rfl,_,rfl⟩
  unfold ai1
  tbr_iter [aq2 (P:=P) n h hr x b u,bS6 (P:=P) (n+1) (bD0 m row x b) k u])
 have B:((aU m.R).map λ b=>qh (cutO k (bD0 m row x b)))=za ((bb6 m row x).map (cutO k)):=by unfold za bb6;rw[bL,bL];rfl
 rw[B]at e1
 simp -implicitDefEqProofs only[ai0]
 tbr_iter [aj8 (n+1),af3,qG (s:=s1) (i:=(m.R:Int)) (by unfold W62;omega) (by unfold W62;omega),if_pos (show(qe 0 (m.R:Int)).length<=LIM by rw[at7];unfold LIM;omega),show qj [some m.d,some (.int k),some (D.tup (za row)),some (.str [x])] [none,some 0,some 2,some 3,some 1]=[none,some m.d,some (D.tup (za row)),some (.str [x]),some (.int k)]from rfl,e1,aI9]
 exact qy qM
theorem bn3 {m:Mc}(B:m.Ok):m.en.length<=5:=by
 have F:=B.R5
 have nd:m.en.Nodup:=B.en.2.imp (λ h=>aD h)
 have:=List.Nodup.length_le_of_subset (l₂:=aU m.R) nd (λ x hx=>b7.mpr (B.en.1 x hx))
 simp at this;omega
theorem aX3 {P:Pr}[Has P ab8][Has P ab1][Has P ab5](n:Nat){m:Mc}(h:m.Ok){row:List (Option Int)}(hr:row.length=m.R)(s:Sto) :
  (aa0 P (n+2)).call "end_of" [m.d,.tup (za row)] s=.ok (qh (bb7 m row)) s:=by
 have G:(aa0 P (n+2)).call "end_of" [m.d,.tup (za row)] s=_:=zd ab5 (n:=n+1) rfl
 have J:=bn3 h
 rw[G,show(cj some [m.d,D.tup (za row)]++aq ab5.vs none)=[some m.d,some (D.tup (za row))]from rfl]
 obtain⟨ρ1,s1,e1,rfl,_⟩:=aK0 (ok:=λ s1=>chk s s1 []) (g:=ai1 (aa0 P (n+1)) (.one 0) (.ix (.var 1) (.var 0))) (λ ρ u=>u=s/\∃ y,ρ=[y,some (D.tup (za row))]) (λ d=>match d with|.int i=>qh (row.getD i.toNat none)|d=>d) (qV m.en) [none,some (D.tup (za row))] s ⟨rfl,none,rfl⟩ (λ _ _ _=>rfl) (by
  rintro d hd ρ u ⟨rfl,y,rfl⟩
  obtain⟨q,hq,rfl⟩:=aP.mp hd
  refine⟨[some (.int q),some (D.tup (za row))],u,?_,rfl,_,rfl⟩
  unfold ai1
  tbr_iter [aY0 (row:=row) (k:=q) (by rw[hr];exact h.en.1 q hq),bV])
 have F:(qV m.en).map (λ d=>match d with|.int i=>qh (row.getD i.toNat none)|d=>d)=za (m.en.map λ q=>row.getD q none):=by unfold qV za;rw[bL,bL];rfl
 rw[F]at e1
 have B:=aH7 (P:=P) n (s:=s1++[O.lst (za (m.en.map λ q=>row.getD q none))]) (q:=s1.length) (l:=m.en.map λ q=>row.getD q none) (by rw[aB (ak _)];simp) (by rw[aw];omega)
 have ef:minI ((m.en.map λ q=>row.getD q none).filterMap id)=bb7 m row:=by unfold bb7;rw[cP];rfl
 rw[ef]at B
 simp -implicitDefEqProofs only[ab5]
 tbr_iter [aP1 n,qD,af3,if_pos (show(qV m.en).length<=LIM by unfold qV;rw[aw];unfold LIM;omega),show qj [some m.d,some (D.tup (za row))] [none,some 1]=[none,some (D.tup (za row))]from rfl,e1,aY6,B]
 exact zT (aj1 _) (as3 _)
section
variable {ρ:Type}
variable (f:ρ->Nat->ρ) (ls:List Nat)
end
def Sr (row:List (Option Int))(k:Nat)(c:Int):Prop:=row.getD k none=some c
theorem bF1 (row:List (Option Int)):aC7 (Sr row) row:=λ k o hk=>by
 have e:row.getD k none=o:=by rw[jE,hk];rfl
 cases o with
 | none=>intro c hc;unfold Sr at hc;rw[e]at hc;cases hc
 | some i=>exact⟨e,λ c hc=>by unfold Sr at hc;rw[e]at hc;cases hc;exact fI _⟩
theorem aM7 (m:Mc)(row:List (Option Int))(x b:Nat):ad8 (aB2 (Sr row) x m.ds b) (bD0 m row x b):=by
 refine(ao2 _).congr λ c=>?_
 simp only[cz,id_eq,exists_eq_right,aP,eQ,ah,decide_eq_true_eq]
 constructor
 ·rintro⟨d,⟨hd,hl,hb⟩,e⟩
  cases hr:row.getD d.a none with
  | none=>rw[hr]at e;cases e
  | some i =>
   rw[hr]at e
   cases e
   exact⟨d,hd,hl,hb,i,hr,rfl⟩
 ·rintro⟨d,hd,hl,hb,i,hr,rfl⟩
  exact⟨d,⟨hd,hl,hb⟩,by rw[show row.getD d.a none=some i from hr];rfl⟩
theorem bE3 {m:Mc}{row th:List (Option Int)}{x:Nat}(hl:th.length=m.R)(h:aC7 (aB2 (Sr row) x m.ds) th):th=bb6 m row x:=by
 refine List.ext_getElem? λ k=>?_
 by_cases hk:k<m.R
 ·obtain⟨o,ho⟩:∃ o,th[k]?=some o:=⟨th[k]'(by rw[hl];exact hk),aj _⟩
  rw[ho]
  unfold bb6
  rw[aF,dv hk]
  exact congrArg some ((h k o ho).eq (aM7 m row x k) λ _=>Iff.rfl)
 ·rw[bG (by omega),bG (by unfold bb6;simp;omega)]
theorem bb4 {s:Sto}{o:O}:(s++[o])[s.length]?=some o:=by rw[aB (ak _)];simp
noncomputable def qv (L:Nat):List Nat:=(aU L).map (97+·)
theorem bI8:∀ {L:Nat},L<=3->aS7.take L=sg (qv L)
 | 0,_=>rfl
 | 1,_=>rfl
 | 2,_=>rfl
 | 3,_=>rfl
 | n+4,h=>by omega
theorem bc4:∀ {a b:Option Int},qh a=qh b->a=b
 | none,none,_=>rfl
 | none,some _,h=>by cases h
 | some _,none,h=>by cases h
 | some a,some b,h=>by cases h;rfl
theorem aG6:∀ {a b:List (Option Int)},za a=za b->a=b
 | [],[],_=>rfl
 | [],_::_,h=>by cases h
 | _::_,[],h=>by cases h
 | x::a,y::b,h=>by
  have h:qh x::za a=qh y::za b:=h
  injection h with h1 h2
  rw[bc4 h1,aG6 h2]
theorem bh1 {row:List (Option Int)}(h:1<=row.length)(B:row.length<=1000):(D.tup (za row)).keyS=true:=by
 show(D.hdI (za row)&&((za row).all D.keyF&&decide ((za row).length<=1000)))=true
 rw[ah,ah]
 refine⟨?_,?_,by rw[ai6];exact decide_eq_true B⟩
 ·cases row with
  | nil=>cases h
  | cons o r=>cases o<;>rfl
 ·rw[aK]
  intro d hd
  obtain⟨o,_,rfl⟩:=aP.mp hd
  cases o<;>rfl
theorem bf0 (m:Mc)(row:List (Option Int))(x:Nat):(bb6 m row x).length=m.R:=by unfold bb6;simp
class HasX (P:Pr)(f:String)(d:Xf):Prop where
 at_:P.xf f=some d
class HasT (P:Pr)(f:String)(d:Tf):Prop where
 no:P.df f=none
 at_:P.tf f=some d
class HasE (P:Pr)(c:String)(ts:List String):Prop where
 at_:P.xc c=true
 ts:∀ t∈ts,P.xt t=true
theorem am0 {P:Pr}{f:String}(d:Xf)[h:HasX P f d]{n:Nat}{l:List D}{s:Sto}(hl:l.length=d.ps):(aa0 P (n+1)).xcall f l s=xB (aa0 P n) d.body (l.map some++aq d.vs none) s:=by
 show(match P.xf f with|some d=>if l.length=d.ps then xB (aa0 P n) d.body (l.map some++aq d.vs none) s else none|none=>none)=_
 rw[h.at_]
 exact if_pos hl
theorem bw5 {P:Pr}{f:String}(d:Tf)[h:HasT P f d]{n:Nat}{l:List D}{s:Sto}(hl:l.length=d.ps):(aa0 P (n+1)).call f l s=bj4 (aa0 P n) d l s:=by
 have e:(aa0 P (n+1)).call f l s=match P.df f with
   | some d=>if l.length=d.ps then(exs (aa0 P n) d.body (l.map some++aq d.vs none) s).bind λ c s'=>match c with
     | .ret v=>zo s v s'
     | .next _=>zo s .non s'
     | _=>.bad else .bad
   | none=>match P.tf f with
    | some d=>if l.length=d.ps then bj4 (aa0 P n) d l s else .bad
    | none=>.bad:=rfl
 rw[e,h.no]
 show(match P.tf f with|some d=>if l.length=d.ps then bj4 (aa0 P n) d l s else .bad|none=>.bad)=_
 rw[h.at_]
 exact if_pos hl
theorem bJ3 {P:Pr}{n:Nat}:(aa0 P n).xc=P.xc/\(aa0 P n).xt=P.xt:=by cases n<;>exact⟨rfl,rfl⟩
noncomputable abbrev Rw:=List (Option Int)
inductive Bres where
 | more (M:List (List Nat×Rw))|stop (M:List (List Nat×Rw))|over
section
variable (f:Rw->Nat->Rw) (ab:Rw->Bool)
open Classical in
noncomputable def inn (e:List Nat×Rw):List Nat->List (List Nat×Rw)->Bres
 | [],M=>.more M
 | x::ls,M=>if f e.2 x∈M.map (·.2)then inn e ls M else if M.length=300 then .over else if ab (f e.2 x)=true then .stop (M++[(e.1++[x],f e.2 x)])else inn e ls (M++[(e.1++[x],f e.2 x)])
noncomputable def bfs (ls:List Nat):Nat->Nat->List (List Nat×Rw)->Bres
 | 0,_,M=>.more M
 | n+1,at_,M=>match M[at_]? with
  | none=>.more M
  | some e=>match inn f ab e ls M with
   | .more M'=>bfs ls n (at_+1) M'
   | .stop M'=>.stop M'
   | .over=>.over
end
structure MOk (f:Rw->Nat->Rw)(ab:Rw->Bool)(R:Nat)(r0:Rw)(at_:Nat)(M:List (List Nat×Rw)):Prop where
 len:M.length<=300
 pos:1<=M.length
 hat:at_<=M.length
 sh:∀ e∈M,e.2.length=R
 fold:∀ e∈M,e.2=e.1.foldl f r0
 wl:∀ e∈M,e.1.length<=at_
section
variable {f:Rw->Nat->Rw} {ab:Rw->Bool} {R:Nat} {r0:Rw}
theorem MOk.snoc {k:Nat}{M:List (List Nat×Rw)}{e:List Nat×Rw}{x:Nat}(hf:∀ r x,(f r x).length=R)(h:MOk f ab R r0 k M)(he:e∈M)(hk:e.1.length+1<=k)(hl:M.length≠300):MOk f ab R r0 k (M++[(e.1++[x],f e.2 x)]):=by
 refine⟨by rw[aG];have:=h.len;show M.length+1<=300;omega,by rw[aG];show 1<=M.length+1;omega,by rw[aG];have:=h.hat;omega,λ d hd=>?_,λ d hd=>?_,λ d hd=>?_⟩
 ·rcases aZ.mp hd with z|z
  ·exact h.sh d z
  ·rw[az.mp z];exact hf _ _
 ·rcases aZ.mp hd with z|z
  ·exact h.fold d z
  ·rw[az.mp z]
   show f e.2 x=(e.1++[x]).foldl f r0
   rw[jo,<-h.fold e he];rfl
 ·rcases aZ.mp hd with z|z
  ·exact h.wl d z
  ·rw[az.mp z]
   show(e.1++[x]).length<=k
   rw[aG];exact hk
end
theorem bt3 (k:Int)(o:Option Int):cutO k o=o.map (min · (k+1)):=by
 cases o with
 | none=>rfl
 | some c =>
  show(if c<=k then some c else some (k+1))=some (min c (k+1))
  split<;>congr 1<;>omega
noncomputable def zm (m:Mc)(k:Int)(r:Rw)(x:Nat):Rw:=(bb6 m r x).map (cutO k)
theorem zJ (m:Mc)(k:Int)(r:Rw)(x:Nat):(zm m k r x).length=m.R:=by unfold zm;rw[aw];exact bf0 ..
noncomputable def zc (m:Mc)(k:Int)(r:Rw):Bool:=decide (bb7 m r=some (k+1))
noncomputable def MtD (l:List (List Nat×Rw)):List D:=l.map λ e=>.tup [.str e.1,.tup (za e.2)]
noncomputable def Sn (K:List Rw):List (D×D):=K.map λ r=>(.tup (za r),.bl true)
theorem aK3 {r:Rw}{R:Nat}(F:1<=R)(B:R<=5)(h:r.length=R):(D.tup (za r)).keyT=true:=by
 have k1:=bh1 (row:=r) (by omega) (by omega)
 have:∀ l:List D,(D.tup l).keyS=true->(∀ d∈l,∀ m,d≠.tup m)->(D.tup l).keyT=true:=λ l h hn=>by
  have h:(D.hdI l&&(l.all D.keyF&&decide (l.length<=1000)))=true:=h
  show(D.hdI l&&(l.all D.keyS&&decide (l.length<=1000)))=true
  rw[ah,ah]at h ⊢
  refine⟨h.1,?_,h.2.2⟩
  rw[aK]at h ⊢
  intro d hd
  have:=h.2.1 d hd
  cases d with
  | tup m=>exact absurd rfl (hn _ hd m)
  | _=>exact this
 refine this _ k1 λ d hd m e=>?_
 obtain⟨o,_,rfl⟩:=aP.mp hd
 cases o<;>cases e
theorem bi7 {a b:Rw}(h:D.tup (za a)=D.tup (za b)):a=b:=by injection h with h;exact aG6 h
theorem aE0 (r:Rw):∀ K:List Rw,(look (.tup (za r)) (Sn K)).isSome=decide (r∈K)
 | []=>by simp[Sn,look]
 | a::K=>by
  have B:=aE0 r K
  show(if D.tup (za a)=.tup (za r)then some (D.bl true)else look (.tup (za r)) (Sn K)).isSome=_
  by_cases h:a=r
  ·subst h;rw[if_pos rfl];simp
  ·rw[if_neg (λ z=>h (bi7 z)),B]
   simp[cq h,h,eq_comm]
theorem bR4 {r:Rw}{K:List Rw}(h:r ∉ K):ar0 (.tup (za r)) (.bl true) (Sn K)=Sn (K++[r]):=by
 unfold ar0
 rw[aE0,decide_eq_false h,if_neg (by nofun)]
 unfold Sn
 rw[bD];rfl
theorem bT9 {r:Rw}{R:Nat}(F:1<=R)(B:R<=5)(h:r.length=R){s:Sto}{q:Nat}{K:List Rw}(g:s[q]?=some (.dit (Sn K))):inM (.tup (za r)) (.ref q) s=.ok (decide (r∈K)) s:=by
 unfold inM
 simp only[g,aK3 F B h,if_true,aE0]
theorem bl2 {r:Rw}{R:Nat}(F:1<=R)(B:R<=5)(h:r.length=R){s:Sto}{q:Nat}{K:List Rw}(g:s[q]?=some (.dit (Sn K)))(hn:r ∉ K)(hl:K.length<LIM):setIx (.ref q) (.tup (za r)) (.bl true) s=.ok () (s.set q (.dit (Sn (K++[r])))):=by
 unfold setIx
 simp only[g,aK3 F B h,show(Sn K).length<LIM by unfold Sn;rw[aw];exact hl,decide_true,Bool.and_self,if_true,bR4 hn]
theorem bJ6 {L:List (List Nat×Rw)}{j:Nat}{e:List Nat×Rw}(h:L[j]?=some e):(MtD L)[j]?=some (.tup [.str e.1,.tup (za e.2)]):=by unfold MtD;rw[aF,h];rfl
theorem bm0 {l:List (List Nat×Rw)}{n:Nat}:(O.lst (MtD l)).bnd n=true:=by
 unfold O.bnd
 refine zr (λ d hd n=>?_) n
 obtain⟨e,_,rfl⟩:=aP.mp hd
 unfold D.bnd
 refine zr (λ d hd n=>?_) n
 rcases aC.mp hd with rfl|hd
 ·rfl
 ·rcases aC.mp hd with rfl|hd
  ·unfold D.bnd;exact zr qM n
  ·cases hd
theorem bK8 {K:List Rw}{n:Nat}:(O.dit (Sn K)).bnd n=true:=by
 unfold O.bnd
 rw[ah]
 constructor
 ·refine zr (λ d hd n=>?_) n
  unfold Sn at hd
  rw[bL]at hd
  obtain⟨e,_,rfl⟩:=aP.mp hd
  show D.bnd n (.tup (za e))=true
  unfold D.bnd;exact zr qM n
 ·refine zr (λ d hd n=>?_) n
  unfold Sn at hd
  rw[bL]at hd
  obtain⟨e,_,rfl⟩:=aP.mp hd
  rfl
theorem aM1 (s:Sto){p q:Nat}{a b:O}(ha:a.bnd s.length=true)(hb:b.bnd s.length=true):aj9 s ((s.set p a).set q b)=true:=by
 unfold aj9
 rw[aK]
 intro i h
 have h:=b7.mp h
 rw[bJ]
 by_cases h1:q=i
 ·subst h1
  right
  rw[aV (by simpa using h)]
  exact hb
 ·rw[a9 h1]
  by_cases h2:p=i
  ·subst h2
   right
   rw[aV h]
   exact ha
  ·left
   rw[a9 h2]
   simp
theorem aQ0 {s:Sto}{p q:Nat}{a b:O}(ha:a.bnd s.length=true)(hb:b.bnd s.length=true):zo s .non ((s.set p a).set q b)=.ok .non ((s.set p a).set q b):=by
 unfold zo
 rw[aM1 s ha hb,if_pos rfl]
 have:((s.set p a).set q b).take s.length=(s.set p a).set q b:=d7 (by simp)
 simp only[this]
 rfl
theorem zw {ok:Sto->Bool}{g:D->Env->Sto->R Ct}{d:D}{l:List D}{ρ:Env}{s:Sto}(h:ok s=true):qw ok g (d::l) ρ s=(g d ρ s).bind λ c s=>match c with
  | .next ρ=>qw ok g l ρ s
  | .cont ρ=>qw ok g l ρ s
  | .brk ρ=>.ok (.next ρ) s
  | .ret d=>.ok (.ret d) s:=by
 show(if ok s then _ else _)=_
 rw[if_pos h]<;>rfl
theorem aB6 (o:Option Int)(i:Int)(s:Sto):ql .eq (qh o) (.int i) s=.ok (.bl (decide (o=some i))) s:=by
 cases o with
 | none=>rfl
 | some j =>
  rw[zE,eq_int]
  simp
theorem qt {P:Pr}[Has P ab8][Has P ab1][Has P ab5][Has P aa4](n:Nat){m:Mc}(h:m.Ok){r:Rw}(hr:r.length=m.R)(k:Int)(s:Sto) :
  (aa0 P (n+3)).call "ends_above" [m.d,.int k,.tup (za r)] s=.ok (.bl (zc m k r)) s:=by
 have B:(aa0 P (n+3)).call "ends_above" [m.d,.int k,.tup (za r)] s=_:=zd aa4 (n:=n+2) rfl
 rw[B,show(cj some [m.d,.int k,D.tup (za r)]++aq aa4.vs none)=[some m.d,some (.int k),some (D.tup (za r))]from rfl]
 simp -implicitDefEqProofs only[aa4]
 tbr_iter [aX3 (P:=P) n h hr s,aB6]
 exact bh3
theorem av7 {F:Fns}{st:S}{b:XB}{ρ ρ1:Env}{s s1:Sto}(h:ex F st ρ s=.ok (.next ρ1) s1):xB F (.seq st b) ρ s=xB F b ρ1 s1:=by
 show(match ex F st ρ s with|.ok (.next ρ1) s1=>xB F b ρ1 s1|_=>none)=_
 rw[h]
theorem bl7 {F:Fns}{c:E}{a r:XB}{ρ:Env}{s s1:Sto}{b:Bool}(h:ev F c ρ s=.ok (.bl b) s1):xB F (.iteT c a r) ρ s=if b=true then xB F a ρ s1 else xB F r ρ s1:=by
 show(match ev F c ρ s with|.ok (.bl b) s1=>if b then xB F a ρ s1 else xB F r ρ s1|_=>none)=_
 rw[h]
theorem bx8 {F:Fns}{c:String}{ρ:Env}{s:Sto}(h:F.xc c=true):xB F (.rais c) ρ s=some (c,s):=by
 show(if F.xc c=true then some (c,s)else none)=_
 rw[if_pos h]
theorem aB4 {F:Fns}{f:String}{B:As}{ρ:Env}{s s1:Sto}{l:List D}(h:ag2 F B ρ s=.ok l s1):xB F (.call f B) ρ s=F.xcall f l s1:=by
 show(match ag2 F B ρ s with|.ok l s1=>F.xcall f l s1|_=>none)=_
 rw[h]
noncomputable def enD (e:List Nat×Rw):D:=.tup [.str e.1,.tup (za e.2)]
theorem bV6 (e:List Nat×Rw)(s:Sto):ixM (enD e) (.int 0) s=.ok (.str e.1) s:=aE6 0 rfl
theorem bn9 (e:List Nat×Rw)(s:Sto):ixM (enD e) (.int 1) s=.ok (.tup (za e.2)) s:=aE6 1 rfl
noncomputable def StM (s:Sto)(p q:Nat)(M:List (List Nat×Rw)):Sto:=(s.set p (.lst (MtD M))).set q (.dit (Sn (M.map (·.2))))
theorem bp4 {s:Sto}{p q:Nat}{M:List (List Nat×Rw)}(B:p<s.length)(h:p≠q):(StM s p q M)[p]?=some (.lst (MtD M)):=by
 unfold StM;rw[a9 (cq h)];exact qg B
theorem cb7 {s:Sto}{p q:Nat}{M:List (List Nat×Rw)}(hq:q<s.length):(StM s p q M)[q]?=some (.dit (Sn (M.map (·.2)))):=by
 unfold StM;exact qg (by simpa using hq)
noncomputable def zC:Ss:=(.cons (.asg (.one 6) (.call "led" (.ex (.var 0) (.ex (.var 1) (.ex (.ix (.var 2) (.cst (.int 1))) (.ex (.var 5) .nil)))))) (.cons (.ite (.cmp .isin (.var 6) (.var 4)) (.cons .cont .nil) .nil) (.cons (.ite (.cmp .eq (.bi .len (.cons (.var 3) .nil)) (.glob "MOST_ROWS")) (.cons .raise .nil) .nil) (.cons (.setIx (.var 4) (.var 6) (.cst (.bl true))) (.cons (.ex (.meth .append (.var 3) (.cons (.tup (.cons (.bin .add (.ix (.var 2) (.cst (.int 0))) (.var 5)) (.cons (.var 6) .nil))) .nil))) (.cons (.ite (.call "ends_above" (.ex (.var 0) (.ex (.var 1) (.ex (.var 6) .nil)))) (.cons .retN .nil) .nil) .nil))))))
noncomputable def mbX:XB:=(.seq (.asg (.one 6) (.call "led" (.ex (.var 0) (.ex (.var 1) (.ex (.ix (.var 2) (.cst (.int 1))) (.ex (.var 5) .nil)))))) (.iteT (.cmp .isin (.var 6) (.var 4)) .no (.iteT (.cmp .eq (.bi .len (.cons (.var 3) .nil)) (.glob "MOST_ROWS")) (.rais "TooMuch") .no)))
noncomputable def aa5:Xf:=⟨5,2,.forX (.one 5) (.seq (.call "letters_of" (.ex (.var 0) .nil))) zC mbX⟩
section
variable {P:Pr} [Has P ab8] [Has P ac5] [Has P aa9] [Has P ab0] [Has P ab1] [Has P ag9] [Has P aa2] [Has P ai0] [Has P ab5] [Has P aa6] [HasC P "LETTERS" (.tup aS7)] [HasC P "MOST_ROWS" (.int 300)] [Has P aa4] [Has P aa3]
theorem bB1 [HasE P "TooMuch" []](n:Nat){m:Mc}(hm:m.Ok){k:Int}{e:List Nat×Rw}(he:e.2.length=m.R)(hw:e.1.length<=1000){s:Sto}{p q:Nat}(hp:p<s.length)(hq:q<s.length)(Z:p≠q):∀(F:List Nat) (M:List (List Nat×Rw)) (J B:Option D),M.length<=300->(∀ d∈M,d.2.length=m.R) ->
  (match inn (zm m k) (zc m k) e F M with
  | .more M'=>∃ z5 z6,qw (λ u=>chk s u []) (turn (aa0 P (n+3)) (.one 5) zC) (sg F) [some m.d,some (.int k),some (enD e),some (.ref p),some (.ref q),J,B] (StM s p q M)=.ok (.next [some m.d,some (.int k),some (enD e),some (.ref p),some (.ref q),z5,z6]) (StM s p q M')
  | .stop M'=>qw (λ u=>chk s u []) (turn (aa0 P (n+3)) (.one 5) zC) (sg F) [some m.d,some (.int k),some (enD e),some (.ref p),some (.ref q),J,B] (StM s p q M)=.ok (.ret .non) (StM s p q M')
  | .over=>qw (λ u=>chk s u []) (turn (aa0 P (n+3)) (.one 5) zC) (sg F) [some m.d,some (.int k),some (enD e),some (.ref p),some (.ref q),J,B] (StM s p q M)=.bad /\
   ∃ M',af6 (λ u=>chk s u []) (λ d ρ s=>match zV ρ (.one 5) d with
    | some ρ=>exs (aa0 P (n+3)) zC ρ s
    | none=>.bad) (λ d ρ s=>match zV ρ (.one 5) d with
    | some ρ=>xB (aa0 P (n+3)) mbX ρ s
    | none=>none) (sg F) [some m.d,some (.int k),some (enD e),some (.ref p),some (.ref q),J,B] (StM s p q M)=some ("TooMuch",StM s p q M'))
 | [],M,J,B,_,_=>by
  unfold inn
  exact⟨J,B,rfl⟩
 | x::F,M,J,B,hM,hs=>by
  unfold inn
  have a5:=hm.R1
  have a6:=hm.R5
  have gp:=bp4 (s:=s) (p:=p) (q:=q) (M:=M) hp Z
  have gq:=cb7 (s:=s) (p:=p) (q:=q) (M:=M) hq
  have hl:=bT5 (P:=P) n hm he k x (StM s p q M)
  rw[show(bb6 m e.2 x).map (cutO k)=zm m k e.2 x from rfl]at hl
  have G:=bT9 a5 a6 (zJ m k e.2 x) gq
  have h:bi .len [.ref p] (StM s p q M)=.ok (.int (M.length:Int)) (StM s p q M):=by rw[au0 gp,show(MtD M).length=M.length from aw ..]
  have a2:∀ ρ S,ev (aa0 P (n+3)) (.glob "MOST_ROWS") ρ S=.ok (.int 300) S:=λ ρ S=>aR8
  have a1:sg (x::F)=.str [x]::sg F:=rfl
  have ft:∀(ρ:Env) (S:Sto),turn (aa0 P (n+3)) (.one 5) zC (.str [x]) ρ S=match zV ρ (.one 5) (.str [x])with
    | some ρ=>exs (aa0 P (n+3)) zC ρ S
    | none=>.bad:=λ _ _=>rfl
  have fx:∀ {ρ:Env} {S:Sto},af6 (λ u=>chk s u []) (λ d ρ s=>match zV ρ (.one 5) d with
    | some ρ=>exs (aa0 P (n+3)) zC ρ s
    | none=>.bad) (λ d ρ s=>match zV ρ (.one 5) d with
    | some ρ=>xB (aa0 P (n+3)) mbX ρ s
    | none=>none) (.str [x]::sg F) ρ S=match turn (aa0 P (n+3)) (.one 5) zC (.str [x]) ρ S with
     | .ok (.next ρ1) s1=>af6 (λ u=>chk s u []) (λ d ρ s=>match zV ρ (.one 5) d with
      | some ρ=>exs (aa0 P (n+3)) zC ρ s
      | none=>.bad) (λ d ρ s=>match zV ρ (.one 5) d with
      | some ρ=>xB (aa0 P (n+3)) mbX ρ s
      | none=>none) (sg F) ρ1 s1
     | .ok (.cont ρ1) s1=>af6 (λ u=>chk s u []) (λ d ρ s=>match zV ρ (.one 5) d with
      | some ρ=>exs (aa0 P (n+3)) zC ρ s
      | none=>.bad) (λ d ρ s=>match zV ρ (.one 5) d with
      | some ρ=>xB (aa0 P (n+3)) mbX ρ s
      | none=>none) (sg F) ρ1 s1
     | .ok _ _=>none
     | _=>match zV ρ (.one 5) (.str [x])with
      | some ρ=>xB (aa0 P (n+3)) mbX ρ S
      | none=>none:=λ {ρ S}=>rfl
  by_cases hm1:zm m k e.2 x∈M.map (·.2)
  ·rw[if_pos hm1]
   have et:turn (aa0 P (n+3)) (.one 5) zC (.str [x]) [some m.d,some (.int k),some (enD e),some (.ref p),some (.ref q),J,B] (StM s p q M)=.ok (.cont [some m.d,some (.int k),some (enD e),some (.ref p),some (.ref q),some (.str [x]),some (.tup (za (zm m k e.2 x)))]) (StM s p q M):=by
    simp -implicitDefEqProofs only[zC]
    tbr_iter [turn,bn9,hl,qp,G,hm1]
   have ih:=bB1 n hm (k:=k) he hw hp hq Z F M (some (.str [x])) (some (.tup (za (zm m k e.2 x)))) hM hs
   rw[a1,zw (ok:=λ u=>chk s u []) rfl,fx,et]
   exact ih
  ·rw[if_neg hm1]
   by_cases h300:M.length=300
   ·rw[if_pos h300]
    have et:turn (aa0 P (n+3)) (.one 5) zC (.str [x]) [some m.d,some (.int k),some (enD e),some (.ref p),some (.ref q),J,B] (StM s p q M)=.bad:=by
     simp -implicitDefEqProofs only[zC]
     tbr_iter [turn,bn9,hl,qp,G,hm1,h,a2,show((M.length:Int)=300)=True from eq_true (by omega)]
     rfl
    rw[a1,zw (ok:=λ u=>chk s u []) rfl,fx,et]
    refine⟨rfl,M,?_⟩
    show xB (aa0 P (n+3)) mbX [some m.d,some (.int k),some (enD e),some (.ref p),some (.ref q),some (.str [x]),B] (StM s p q M)=_
    have xa:ex (aa0 P (n+3)) (.asg (.one 6) (.call "led" (.ex (.var 0) (.ex (.var 1) (.ex (.ix (.var 2) (.cst (.int 1))) (.ex (.var 5) .nil)))))) [some m.d,some (.int k),some (enD e),some (.ref p),some (.ref q),some (.str [x]),B] (StM s p q M)=.ok (.next [some m.d,some (.int k),some (enD e),some (.ref p),some (.ref q),some (.str [x]),some (.tup (za (zm m k e.2 x)))]) (StM s p q M):=by
     tbr_iter [bn9,hl]
    have xb:ev (aa0 P (n+3)) (.cmp .isin (.var 6) (.var 4)) [some m.d,some (.int k),some (enD e),some (.ref p),some (.ref q),some (.str [x]),some (.tup (za (zm m k e.2 x)))] (StM s p q M)=.ok (.bl false) (StM s p q M):=by
     tbr_iter [qp,G,hm1]
    have xc:ev (aa0 P (n+3)) (.cmp .eq (.bi .len (.cons (.var 3) .nil)) (.glob "MOST_ROWS")) [some m.d,some (.int k),some (enD e),some (.ref p),some (.ref q),some (.str [x]),some (.tup (za (zm m k e.2 x)))] (StM s p q M)=.ok (.bl true) (StM s p q M):=by
     tbr_iter [h,a2,show((M.length:Int)=300)=True from eq_true (by omega)]
    have xd:(aa0 P (n+3)).xc "TooMuch"=true:=by rw[(bJ3 (P:=P)).1];exact HasE.at_ (ts:=[])
    unfold mbX
    rw[av7 xa,bl7 xb,if_neg (by nofun)]
    rw[bl7 xc,if_pos rfl,bx8 xd]
   ·rw[if_neg h300]
    have Y:=bl2 a5 a6 (zJ m k e.2 x) gq hm1 (by rw[aw];unfold LIM;omega)
    generalize hU:(StM s p q M).set q (.dit (Sn (M.map (·.2)++[zm m k e.2 x])))=U at Y
    have gU:U[p]?=some (.lst (MtD M)):=by rw[<-hU,a9 (cq Z)];exact gp
    have a0:=qI (v:=.tup [.str (e.1++[x]),.tup (za (zm m k e.2 x))]) gU (by rw[show(MtD M).length=M.length from aw ..];unfold LIM;omega)
    have hV:U.set p (.lst (MtD M++[.tup [.str (e.1++[x]),.tup (za (zm m k e.2 x))]]))=StM s p q (M++[(e.1++[x],zm m k e.2 x)]):=by
     rw[<-hU]
     unfold StM
     rw[bW,kq _ _ (cq Z),bW,bD]
     unfold MtD
     rw[bD];rfl
    rw[hV]at a0
    have a3:=qt (P:=P) n hm (zJ m k e.2 x) k (StM s p q (M++[(e.1++[x],zm m k e.2 x)]))
    have a4:=aE4 (a:=e.1) (b:=[x]) (s:=U) (show e.1.length+[x].length<=LIM by unfold LIM;simp;omega)
    cases hab:zc m k (zm m k e.2 x)with
    | true =>
     rw[if_pos rfl]
     have et:turn (aa0 P (n+3)) (.one 5) zC (.str [x]) [some m.d,some (.int k),some (enD e),some (.ref p),some (.ref q),J,B] (StM s p q M)=.ok (.ret .non) (StM s p q (M++[(e.1++[x],zm m k e.2 x)])):=by
      rw[hab]at a3
      simp -implicitDefEqProofs only[zC]
      tbr_iter [turn,bV6,bn9,hl,qp,G,hm1,h,a2,show((M.length:Int)=300)=False from eq_false (by omega),Y,a4,a0,a3,bs9]
     rw[a1,zw (ok:=λ u=>chk s u []) rfl,et]
     rfl
    | false =>
     rw[if_neg (by nofun)]
     have et:turn (aa0 P (n+3)) (.one 5) zC (.str [x]) [some m.d,some (.int k),some (enD e),some (.ref p),some (.ref q),J,B] (StM s p q M)=.ok (.next [some m.d,some (.int k),some (enD e),some (.ref p),some (.ref q),some (.str [x]),some (.tup (za (zm m k e.2 x)))]) (StM s p q (M++[(e.1++[x],zm m k e.2 x)])):=by
      rw[hab]at a3
      simp -implicitDefEqProofs only[zC]
      tbr_iter [turn,bV6,bn9,hl,qp,G,hm1,h,a2,show((M.length:Int)=300)=False from eq_false (by omega),Y,a4,a0,a3]
     have ih:=bB1 n hm (k:=k) he hw hp hq Z F (M++[(e.1++[x],zm m k e.2 x)]) (some (.str [x])) (some (.tup (za (zm m k e.2 x)))) (by rw[aG];show M.length+1<=300;omega) (λ d hd=>by
      rcases aZ.mp hd with z|z
      ·exact hs d z
      ·rw[az.mp z];exact zJ ..)
     rw[a1,zw (ok:=λ u=>chk s u []) rfl,fx,et]
     exact ih
end
noncomputable def ca6 (f:Rw->Nat->Rw)(ab:Rw->Bool)(R:Nat)(r0:Rw)(k:Nat)(M:List (List Nat×Rw)):Bres->Prop
 | .more M'=>MOk f ab R r0 k M'/\(∀ e∈M',ab e.2=false)/\M.length<=M'.length
 | .stop M'=>MOk f ab R r0 k M'/\∃(A:List (List Nat×Rw)) (z:List Nat×Rw),M'=A++[z]/\ab z.2=true/\M.length<=A.length
 | .over=>True
theorem af8 {f:Rw->Nat->Rw}{ab:Rw->Bool}{R:Nat}{G:Rw}(hf:∀ r x,(f r x).length=R){k:Nat}{e:List Nat×Rw}(hk:e.1.length+1<=k):∀(F:List Nat) (M:List (List Nat×Rw)),MOk f ab R G k M->e∈M->(∀ d∈M,ab d.2=false)->ca6 f ab R G k M (inn f ab e F M)
 | [],M,h,he,hn=>by unfold inn;exact⟨h,hn,ak _⟩
 | x::F,M,h,he,hn=>by
  unfold inn
  by_cases h1:f e.2 x∈M.map (·.2)
  ·rw[if_pos h1];exact af8 hf hk F M h he hn
  ·rw[if_neg h1]
   by_cases h3:M.length=300
   ·rw[if_pos h3];trivial
   ·rw[if_neg h3]
    have h':=h.snoc (x:=x) hf he hk h3
    cases ha:ab (f e.2 x)with
    | true=>rw[if_pos rfl];exact⟨h',M,_,rfl,ha,ak _⟩
    | false =>
     rw[if_neg (by nofun)]
     have J:=af8 hf hk F (M++[(e.1++[x],f e.2 x)]) h' (b8 _ he) (λ d hd=>by
      rcases aZ.mp hd with z|z
      ·exact hn d z
      ·rw[az.mp z];exact ha)
     revert J
     generalize inn f ab e F (M++[(e.1++[x],f e.2 x)])=B
     have hl:(M++[(e.1++[x],f e.2 x)]).length=M.length+1:=by rw[aG];rfl
     cases B with
     | more M'=>rintro⟨a,b,c⟩;exact⟨a,b,by omega⟩
     | stop M'=>rintro⟨a,A,z,e1,e2,e3⟩;exact⟨a,A,z,e1,e2,by omega⟩
     | over=>exact id
theorem aD4 {s:Sto}{r:Nat}{l:List D}{d:D}(h:s[r]?=some (.lst (l++[d]))):ixM (.ref r) (.int (-1)) s=.ok d s:=by
 have e:ixn (l++[d]).length (-1)=some l.length:=by
  unfold ixn
  rw[if_neg (by omega),if_pos (by rw[aG];show -((l.length+1:Nat):Int)<=-1;omega)]
  congr 1
  rw[aG]
  show(-1+((l.length+1:Nat):Int)).toNat=l.length
  omega
 unfold ixM
 simp only[h,e,Option.bind_some,aB (ak _),cG]
 rfl
theorem aD7 (s:Sto)(M:List (List Nat×Rw)):StM (s++[.lst [],.dit []]) s.length (s.length+1) M=s++[.lst (MtD M),.dit (Sn (M.map (·.2)))]:=by
 unfold StM
 rw[bE,if_neg (by omega),cG,bE,if_neg (by omega),show s.length+1 - s.length=1 by omega]
 rfl
theorem bq9 {s:Sto}{p q:Nat}(B:p≠q)(M h:List (List Nat×Rw)):((StM s p q M).set p (.lst (MtD h))).set q (.dit (Sn (h.map (·.2))))=StM s p q h:=by
 unfold StM
 rw[kq _ _ (cq B),bW,bW]
section
variable {P:Pr} [Has P ab8] [Has P ac5] [Has P aa9] [Has P ab0] [Has P ab1] [Has P ag9] [Has P aa2] [Has P ai0] [Has P ab5] [Has P aa6] [HasC P "LETTERS" (.tup aS7)] [HasC P "MOST_ROWS" (.int 300)] [Has P aa4] [Has P aa3] [HasX P "meet_behind" aa5] [HasE P "TooMuch" []]
theorem bz2 (n:Nat){m:Mc}(Z:m.Ok){k:Int}{e:List Nat×Rw}(he:e.2.length=m.R)(hw:e.1.length<=1000){s:Sto}{p q:Nat}(hp:p<s.length)(hq:q<s.length)(Y:p≠q){M:List (List Nat×Rw)}(hM:M.length<=300)(hs:∀ d∈M,d.2.length=m.R) :
  match inn (zm m k) (zc m k) e (qv m.L) M with
  | .more h=>(aa0 P (n+4)).call "meet_behind" [m.d,.int k,enD e,.ref p,.ref q] (StM s p q M)=.ok .non (StM s p q h)
  | .stop h=>(aa0 P (n+4)).call "meet_behind" [m.d,.int k,enD e,.ref p,.ref q] (StM s p q M)=.ok .non (StM s p q h)
  | .over=>(aa0 P (n+4)).call "meet_behind" [m.d,.int k,enD e,.ref p,.ref q] (StM s p q M)=.bad/\∃ h,(aa0 P (n+4)).xcall "meet_behind" [m.d,.int k,enD e,.ref p,.ref q] (StM s p q M)=some ("TooMuch",StM s p q h):=by
 have G:=Z.L3
 have J:(aa0 P (n+4)).call "meet_behind" [m.d,.int k,enD e,.ref p,.ref q] (StM s p q M)=_:=zd aa3 (n:=n+3) rfl
 have x0:(aa0 P (n+4)).xcall "meet_behind" [m.d,.int k,enD e,.ref p,.ref q] (StM s p q M)=_:=am0 aa5 (n:=n+3) rfl
 have B:(aa0 P (n+3)).call "letters_of" [m.d] (StM s p q M)=.ok (.tup (sg (qv m.L))) (StM s p q M):=by
  have:=aM0 (P:=P) (n+2) (L:=m.L) G [.int m.R,.tup (qV m.bg),.tup (qV m.en),.tup (m.ds.map Dr.d)] (StM s p q M)
  rw[bI8 G]at this
  exact this
 have go:=bB1 (P:=P) n Z (k:=k) he hw hp hq Y (qv m.L) M none none hM hs
 have cn:∀ h,zo (StM s p q M) .non (StM s p q h)=.ok .non (StM s p q h):=λ h=>by
  have:=aQ0 (s:=StM s p q M) (p:=p) (q:=q) (a:=.lst (MtD h)) (b:=.dit (Sn (h.map (·.2)))) bm0 bK8
  rwa [bq9 Y]at this
 rw[show(cj some [m.d,.int k,enD e,.ref p,.ref q]++aq aa3.vs none)=[some m.d,some (.int k),some (enD e),some (.ref p),some (.ref q),none,none]from rfl]at J
 have hb:aa3.body=.cons (.for_ (.one 5) (.seq (.call "letters_of" (.ex (.var 0) .nil))) zC) .nil:=rfl
 rw[hb]at J
 cases hB:inn (zm m k) (zc m k) e (qv m.L) M with
 | more h =>
  rw[hB]at go
  obtain⟨z5,z6,go⟩:=go
  rw[J]
  tbr_iter [B,qD]
  rw[show qw (λ F=>chk (StM s p q M) F []) (turn (aa0 P (n+3)) (.one 5) zC) (sg (qv m.L)) [some m.d,some (.int k),some (enD e),some (.ref p),some (.ref q),none,none] (StM s p q M)=_ from go]
  tbr_iter []
  exact cn h
 | stop h =>
  rw[hB]at go
  rw[J]
  tbr_iter [B,qD]
  rw[show qw (λ F=>chk (StM s p q M) F []) (turn (aa0 P (n+3)) (.one 5) zC) (sg (qv m.L)) [some m.d,some (.int k),some (enD e),some (.ref p),some (.ref q),none,none] (StM s p q M)=_ from go]
  tbr_iter []
  exact cn h
 | over =>
  rw[hB]at go
  obtain⟨g1,h,g2⟩:=go
  refine⟨?_,h,?_⟩
  ·rw[J]
   tbr_iter [B,qD]
   rw[show qw (λ F=>chk (StM s p q M) F []) (turn (aa0 P (n+3)) (.one 5) zC) (sg (qv m.L)) [some m.d,some (.int k),some (enD e),some (.ref p),some (.ref q),none,none] (StM s p q M)=_ from g1]
   rfl
  ·rw[x0]
   have ei:evI (aa0 P (n+3)) (.seq (.call "letters_of" (.ex (.var 0) .nil))) [some m.d,some (.int k),some (enD e),some (.ref p),some (.ref q),none,none] (StM s p q M)=.ok ⟨sg (qv m.L),[]⟩ (StM s p q M):=by
    tbr_iter [B,qD]
   show(match evI (aa0 P (n+3)) (.seq (.call "letters_of" (.ex (.var 0) .nil))) [some m.d,some (.int k),some (enD e),some (.ref p),some (.ref q),none,none] (StM s p q M)with
    | .ok sq s0=>af6 (λ s=>chk s0 s sq.src) (λ d ρ s=>match zV ρ (.one 5) d with
     | some ρ=>exs (aa0 P (n+3)) zC ρ s
     | none=>.bad) (λ d ρ s=>match zV ρ (.one 5) d with
     | some ρ=>xB (aa0 P (n+3)) mbX ρ s
     | none=>none) sq.its [some m.d,some (.int k),some (enD e),some (.ref p),some (.ref q),none,none] s0
    | _=>none)=_
   rw[ei]
   exact g2
end
theorem bz0 {F:Fns}{ρ ρ':Env}{s:Sto}{i:Nat}{a b:Int}{e:E}(B:aC1 ρ i s=.ok (.int a) s)(h:ev F e ρ s=.ok (.int b) s)(h3:am8 ρ i (.int (a+b))=some ρ'):ex F (.aug i e) ρ s=.ok (.next ρ') s:=by
 show(aC1 ρ i s).bind (λ x s=>(ev F e ρ s).bind λ y s=>match x,y with
  | .int a,.int b=>match am8 ρ i (.int (a+b))with|some ρ=>R.ok (Ct.next ρ) s|none=>.bad
  | _,_=>.bad)=_
 rw[B]
 show(ev F e ρ s).bind _=_
 rw[h]
 show(match am8 ρ i (.int (a+b))with|some ρ=>R.ok (Ct.next ρ) s|none=>.bad)=_
 rw[h3]
@[simp] theorem ak5 {F:Fns} {ρ:Env} {s:Sto}:ev F (.neg (.cst (.int 1))) ρ s=.ok (.int (-1)) s:=rfl
noncomputable def rmC:E:=(.and (.cmp .lt (.var 5) (.bi .len (.cons (.var 3) .nil))) (.not (.call "ends_above" (.ex (.var 0) (.ex (.var 1) (.ex (.ix (.ix (.var 3) (.neg (.cst (.int 1)))) (.cst (.int 1))) .nil))))))
noncomputable def rmA:As:=(.ex (.var 0) (.ex (.var 1) (.ex (.ix (.var 3) (.var 5)) (.ex (.var 3) (.ex (.var 4) .nil)))))
noncomputable def rmB:Ss:=(.cons (.ex (.call "meet_behind" rmA)) (.cons (.aug 5 (.cst (.int 1))) .nil))
noncomputable def ac2:Xf:=⟨2,4,.seq (.asg (.one 2) (.call "first_row" (.ex (.var 0) .nil))) (.seq (.asg (.one 3) (.lst (.cons (.tup (.cons (.cst (.str [])) (.cons (.var 2) .nil))) .nil))) (.seq (.asg (.one 4) (.dicU (.var 2) (.cst (.bl true)))) (.seq (.asg (.one 5) (.cst (.int 0))) (.whlX rmC rmB (.call "meet_behind" rmA)))))⟩
theorem aG3 {f:Rw->Nat->Rw}{ab:Rw->Bool}{h:List Nat}{n k:Nat}{M:List (List Nat×Rw)}:bfs f ab h (n+1) k M=match M[k]? with
  | none=>.more M
  | some e=>match inn f ab e h M with
   | .more M'=>bfs f ab h n (k+1) M'
   | .stop M'=>.stop M'
   | .over=>.over:=rfl
section
variable {P:Pr} [Has P ab8] [Has P ac5] [Has P aa9] [Has P ab0] [Has P ab1] [Has P ag9] [Has P aa2] [Has P ai0] [Has P ab5] [Has P aa6] [HasC P "LETTERS" (.tup aS7)] [HasC P "MOST_ROWS" (.int 300)] [Has P aa4] [Has P aa3] [HasX P "meet_behind" aa5] [HasE P "TooMuch" []]
theorem cg5 (n:Nat){m:Mc}(J:m.Ok){k:Int}{s:Sto}{p q:Nat}(Y:p<s.length)(F:p≠q){A:List (List Nat×Rw)}{z:List Nat×Rw}(hz:z.2.length=m.R){d2:Option D}{j:Nat} :
  ev (aa0 P (n+4)) rmC [some m.d,some (.int k),d2,some (.ref p),some (.ref q),some (.int (j:Int))] (StM s p q (A++[z]))=.ok (.bl (decide (j<(A++[z]).length)&&!zc m k z.2)) (StM s p q (A++[z])):=by
 have gp:=bp4 (s:=s) (p:=p) (q:=q) (M:=A++[z]) Y F
 have h:bi .len [.ref p] (StM s p q (A++[z]))=.ok (.int ((A++[z]).length:Int)) (StM s p q (A++[z])):=by rw[au0 gp,show(MtD (A++[z])).length=(A++[z]).length from aw ..]
 have B:ixM (.ref p) (.int (-1)) (StM s p q (A++[z]))=.ok (enD z) (StM s p q (A++[z])):=by
  refine aD4 (l:=MtD A) ?_
  rw[gp]
  unfold MtD
  rw[bD];rfl
 have G:=qt (P:=P) (n+1) J hz k (StM s p q (A++[z]))
 unfold rmC
 by_cases hj:j<(A++[z]).length
 ·tbr_iter [h,show((j:Int)<((A++[z]).length:Int))=True from eq_true (by omega),B,ak5,bn9,G,show(j<(A++[z]).length)=True from eq_true hj,fX]
 ·tbr_iter [h,show((j:Int)<((A++[z]).length:Int))=False from eq_false (by omega),show(j<(A++[z]).length)=False from eq_false hj,jX]
noncomputable def RmR (n:Nat)(P:Pr)(m:Mc)(k:Int)(s:Sto)(p q:Nat)(d2:Option D)(j:Nat)(M:List (List Nat×Rw)):Bres->Prop
 | .more M'=>(∃ a,whl (ev (aa0 P (n+4)) rmC) (exs (aa0 P (n+4)) rmB) [some m.d,some (.int k),d2,some (.ref p),some (.ref q),some (.int (j:Int))] (StM s p q M)=.ok (.next [some m.d,some (.int k),d2,some (.ref p),some (.ref q),a]) (StM s p q M'))/\(∀ N,zL (ev (aa0 P (n+4)) rmC) (exs (aa0 P (n+4)) rmB) (xB (aa0 P (n+4)) (.call "meet_behind" rmA)) N [some m.d,some (.int k),d2,some (.ref p),some (.ref q),some (.int (j:Int))] (StM s p q M)=none)
 | .stop M'=>(∃ a,whl (ev (aa0 P (n+4)) rmC) (exs (aa0 P (n+4)) rmB) [some m.d,some (.int k),d2,some (.ref p),some (.ref q),some (.int (j:Int))] (StM s p q M)=.ok (.next [some m.d,some (.int k),d2,some (.ref p),some (.ref q),a]) (StM s p q M'))/\(∀ N,zL (ev (aa0 P (n+4)) rmC) (exs (aa0 P (n+4)) rmB) (xB (aa0 P (n+4)) (.call "meet_behind" rmA)) N [some m.d,some (.int k),d2,some (.ref p),some (.ref q),some (.int (j:Int))] (StM s p q M)=none)
 | .over=>∃ N M',zL (ev (aa0 P (n+4)) rmC) (exs (aa0 P (n+4)) rmB) (xB (aa0 P (n+4)) (.call "meet_behind" rmA)) N [some m.d,some (.int k),d2,some (.ref p),some (.ref q),some (.int (j:Int))] (StM s p q M)=some ("TooMuch",StM s p q M')
noncomputable def aN6 (f:Rw->Nat->Rw)(ab:Rw->Bool)(R:Nat)(r0:Rw):Bres->Prop
 | .more M=>(∃ k,MOk f ab R r0 k M)/\∀ e∈M,ab e.2=false
 | .stop M=>(∃ k,MOk f ab R r0 k M)/\∃ A z,M=A++[z]/\ab z.2=true
 | .over=>True
theorem ax1 {c:Env->Sto->R D}{g:Env->Sto->R Ct}{B:Env->Sto->Option (String×Sto)}{ρ:Env}{s s1:Sto}(h:c ρ s=.ok (.bl false) s1):∀ N,zL c g B N ρ s=none
 | 0=>rfl
 | N+1=>by unfold zL;rw[h]
theorem qH {c:Env->Sto->R D}{g:Env->Sto->R Ct}{B:Env->Sto->Option (String×Sto)}{ρ ρ1:Env}{s s1 s2:Sto}(h:c ρ s=.ok (.bl true) s1)(F:g ρ s1=.ok (.next ρ1) s2)(N:Nat):zL c g B (N+1) ρ s=zL c g B N ρ1 s2:=by
 show(match c ρ s with
  | .ok (.bl true) s1=>match g ρ s1 with
   | .ok (.next ρ1) s2=>zL c g B N ρ1 s2
   | .ok (.cont ρ1) s2=>zL c g B N ρ1 s2
   | .ok _ _=>none
   | _=>B ρ s1
  | _=>none)=_
 rw[h]
 show(match g ρ s1 with
   | .ok (.next ρ1) s2=>zL c g B N ρ1 s2
   | .ok (.cont ρ1) s2=>zL c g B N ρ1 s2
   | .ok _ _=>none
   | _=>B ρ s1)=_
 rw[F]
theorem bt9 {c:Env->Sto->R D}{g:Env->Sto->R Ct}{B:Env->Sto->Option (String×Sto)}{ρ:Env}{s s1:Sto}(h:c ρ s=.ok (.bl true) s1)(F:g ρ s1=.bad)(N:Nat):zL c g B (N+1) ρ s=B ρ s1:=by
 show(match c ρ s with
  | .ok (.bl true) s1=>match g ρ s1 with
   | .ok (.next ρ1) s2=>zL c g B N ρ1 s2
   | .ok (.cont ρ1) s2=>zL c g B N ρ1 s2
   | .ok _ _=>none
   | _=>B ρ s1
  | _=>none)=_
 rw[h]
 show(match g ρ s1 with
   | .ok (.next ρ1) s2=>zL c g B N ρ1 s2
   | .ok (.cont ρ1) s2=>zL c g B N ρ1 s2
   | .ok _ _=>none
   | _=>B ρ s1)=_
 rw[F]
theorem aE3 {α:Type}{l:List α}(h:1<=l.length):∃ A z,l=A++[z]:=⟨l.dropLast,l.getLast (by intro e;rw[e]at h;cases h),(List.dropLast_concat_getLast _).symm⟩
theorem bG1 (n:Nat){m:Mc}(hm:m.Ok){k:Int}{s:Sto}{p q:Nat}(hp:p<s.length)(hq:q<s.length)(J:p≠q){d2:Option D}:∀(F j:Nat) (M:List (List Nat×Rw)),301<=F+j->MOk (zm m k) (zc m k) m.R (zu m) j M->(∀ e∈M,zc m k e.2=false) ->
  RmR n P m k s p q d2 j M (bfs (zm m k) (zc m k) (qv m.L) F j M)/\aN6 (zm m k) (zc m k) m.R (zu m) (bfs (zm m k) (zc m k) (qv m.L) F j M)
 | 0,j,M,hf,h,_=>by
  have:=h.hat
  have:=h.len
  omega
 | F+1,j,M,hf,h,hn=>by
  rw[aG3]
  obtain⟨A,z,hz⟩:=aE3 h.pos
  have a4:z.2.length=m.R:=h.sh z (by rw[hz];exact aJ _ (az.mpr rfl))
  have a3:zc m k z.2=false:=hn z (by rw[hz];exact aJ _ (az.mpr rfl))
  have hc:=cg5 (P:=P) n hm (k:=k) (s:=s) (p:=p) (q:=q) hp J (A:=A) (z:=z) a4 (d2:=d2) (j:=j)
  rw[<-hz,a3,Bool.not_false,fW]at hc
  cases he:M[j]? with
  | none =>
   have hj:¬ j<M.length:=λ z=>by rw[aj z]at he;cases he
   rw[decide_eq_false hj]at hc
   exact⟨⟨⟨_,aE8 hc⟩,ax1 hc⟩,⟨j,h⟩,hn⟩
  | some e =>
   have hj:j<M.length:=(ag.mp he).1
   have Z:=a7 he
   rw[decide_eq_true hj]at hc
   have a6:=h.wl e Z
   have h':MOk (zm m k) (zc m k) m.R (zu m) (j+1) M:=⟨h.len,h.pos,hj,h.sh,h.fold,λ d hd=>dg (h.wl d hd)⟩
   have sp:=af8 (f:=zm m k) (ab:=zc m k) (zJ m k) (k:=j+1) (e:=e) (by omega) (qv m.L) M h' Z hn
   have mk:=bz2 (P:=P) n hm (k:=k) (e:=e) (h.sh e Z) (by have:=h.len;omega) hp hq J (M:=M) h.len h.sh
   have gp:=bp4 (s:=s) (p:=p) (q:=q) (M:=M) hp J
   have Y:ixM (.ref p) (.int (j:Int)) (StM s p q M)=.ok (enD e) (StM s p q M):=ah4 gp (bJ6 he)
   have body:∀ G,(aa0 P (n+4)).call "meet_behind" [m.d,.int k,enD e,.ref p,.ref q] (StM s p q M)=.ok .non (StM s p q G)->exs (aa0 P (n+4)) rmB [some m.d,some (.int k),d2,some (.ref p),some (.ref q),some (.int (j:Int))] (StM s p q M)=.ok (.next [some m.d,some (.int k),d2,some (.ref p),some (.ref q),some (.int ((j+1:Nat):Int))]) (StM s p q G):=λ G ec=>by
    have ea:ex (aa0 P (n+4)) (.aug 5 (.cst (.int 1))) [some m.d,some (.int k),d2,some (.ref p),some (.ref q),some (.int (j:Int))] (StM s p q G)=.ok (.next [some m.d,some (.int k),d2,some (.ref p),some (.ref q),some (.int ((j+1:Nat):Int))]) (StM s p q G):=bz0 (a:=(j:Int)) (b:=1) rfl rfl rfl
    unfold rmB rmA
    tbr_iter [Y,ec,ea]
   show RmR n P m k s p q d2 j M (match inn (zm m k) (zc m k) e (qv m.L) M with
     | .more G=>bfs (zm m k) (zc m k) (qv m.L) F (j+1) G
     | .stop G=>.stop G
     | .over=>.over)/\aN6 (zm m k) (zc m k) m.R (zu m) (match inn (zm m k) (zc m k) e (qv m.L) M with
     | .more G=>bfs (zm m k) (zc m k) (qv m.L) F (j+1) G
     | .stop G=>.stop G
     | .over=>.over)
   revert sp mk
   cases hB:inn (zm m k) (zc m k) e (qv m.L) M with
   | more G =>
    rintro⟨s1,s2,s3⟩ mk
    have ih:=bG1 n hm (k:=k) hp hq J (d2:=d2) F (j+1) G (by omega) s1 s2
    have hb:=body G mk
    show RmR n P m k s p q d2 j M (bfs (zm m k) (zc m k) (qv m.L) F (j+1) G)/\aN6 (zm m k) (zc m k) m.R (zu m) (bfs (zm m k) (zc m k) (qv m.L) F (j+1) G)
    revert ih
    generalize bfs (zm m k) (zc m k) (qv m.L) F (j+1) G=B
    cases B with
    | more M2 =>
     rintro⟨⟨⟨a,w⟩,x⟩,y⟩
     refine⟨⟨⟨a,(aj3 hc hb).trans w⟩,λ N=>?_⟩,y⟩
     cases N with
     | zero=>rfl
     | succ N=>rw[qH hc hb];exact x N
    | stop M2 =>
     rintro⟨⟨⟨a,w⟩,x⟩,y⟩
     refine⟨⟨⟨a,(aj3 hc hb).trans w⟩,λ N=>?_⟩,y⟩
     cases N with
     | zero=>rfl
     | succ N=>rw[qH hc hb];exact x N
    | over =>
     rintro⟨⟨N,M2,x⟩,y⟩
     exact⟨⟨N+1,M2,by rw[qH hc hb];exact x⟩,y⟩
   | stop G =>
    rintro⟨s1,A',z',e1,e2,e3⟩ mk
    have hb:=body G mk
    have a1:z'.2.length=m.R:=s1.sh z' (by rw[e1];exact aJ _ (az.mpr rfl))
    have a0:=cg5 (P:=P) n hm (k:=k) (s:=s) (p:=p) (q:=q) hp J (A:=A') (z:=z') a1 (d2:=d2) (j:=j+1)
    rw[<-e1,e2,dA,Bool.and_false]at a0
    refine⟨⟨⟨_,(aj3 hc hb).trans (aE8 a0)⟩,λ N=>?_⟩,⟨_,s1⟩,A',z',e1,e2⟩
    cases N with
    | zero=>rfl
    | succ N=>rw[qH hc hb];exact ax1 a0 N
   | over =>
    rintro _ ⟨a5,G,a2⟩
    have hbad:exs (aa0 P (n+4)) rmB [some m.d,some (.int k),d2,some (.ref p),some (.ref q),some (.int (j:Int))] (StM s p q M)=.bad:=by
     unfold rmB rmA
     tbr_iter [Y,a5]
     rfl
    refine⟨⟨1,G,?_⟩,trivial⟩
    rw[bt9 hc hbad]
    have ea:ag2 (aa0 P (n+4)) rmA [some m.d,some (.int k),d2,some (.ref p),some (.ref q),some (.int (j:Int))] (StM s p q M)=.ok [m.d,.int k,enD e,.ref p,.ref q] (StM s p q M):=by
     unfold rmA
     tbr_iter [Y]
    rw[aB4 ea]
    exact a2
end
section
variable {c:Env->Sto->R D} {g:Env->Sto->R Ct} {gx:Env->Sto->Option (String×Sto)}
theorem qJ:∀ {N:Nat} {ρ:Env} {s:Sto} {r:String×Sto},zL c g gx N ρ s=some r->∀ K,zL c g gx (N+K) ρ s=some r
 | 0,ρ,s,r,h,K=>by cases h
 | N+1,ρ,s,r,h,K=>by
  rw[show N+1+K=(N+K)+1 by omega]
  unfold zL at h ⊢
  split at h
  ·rename_i s1 e1
   split at h
   ·exact qJ h K
   ·exact qJ h K
   ·cases h
   ·exact h
  ·cases h
theorem aT6 {N:Nat}{ρ:Env}{s:Sto}{r:String×Sto}(h:zL c g gx N ρ s=some r):whlX c g gx ρ s=some r:=by
 unfold whlX
 have ex:∃ n,(zL c g gx n ρ s).isSome=true:=⟨N,by rw[h];rfl⟩
 rw[dif_pos ex]
 have hs:=ex.choose_spec
 generalize ex.choose=K at hs ⊢
 cases hK:zL c g gx K ρ s with
 | none=>rw[hK]at hs;cases hs
 | some r' =>
  have a:=qJ h K
  have b:=qJ hK N
  rw[e8]at b
  rw[a]at b
  exact b.symm
theorem au9 {ρ:Env}{s:Sto}(h:∀ N,zL c g gx N ρ s=none):whlX c g gx ρ s=none:=by
 unfold whlX
 rw[dif_neg]
 rintro⟨N,hN⟩
 rw[h N]at hN;cases hN
end
noncomputable def Bk (m:Mc)(k:Int):Bres:=bfs (zm m k) (zc m k) (qv m.L) 301 0 [([],zu m)]
theorem as6 {m:Mc}{k:Int}(hk:0<=k):zc m k (zu m)=false:=by
 unfold zc
 refine decide_eq_false λ h=>?_
 have hl:=ao2 (m.en.filterMap λ q=>(zu m).getD q none)
 rw[show minI (m.en.filterMap λ q=>(zu m).getD q none)=some (k+1)from h]at hl
 obtain⟨q,_,hq⟩:=cz.mp hl.1
 rw[jE]at hq
 unfold zu at hq
 rw[aF]at hq
 by_cases hR:q<m.R
 ·rw[dv hR]at hq
  simp only[dG,Option.getD_some]at hq
  split at hq
  ·injection hq with hq;omega
  ·cases hq
 ·rw[bG (by simp;omega)]at hq
  cases hq
theorem bX3 (m:Mc)(k:Int):MOk (zm m k) (zc m k) m.R (zu m) 0 [([],zu m)] :=
 ⟨(by show 1<=300;decide),ak 1,cc _,λ e he=>by rw[az.mp he];show(zu m).length=m.R;unfold zu;simp,λ e he=>by rw[az.mp he];rfl,λ e he=>by rw[az.mp he];exact ak _⟩
theorem bo2 {f:Rw->Nat->Rw}{ab:Rw->Bool}{R:Nat}{J:Rw}(hf:∀ r x,(f r x).length=R)(F:List Nat):∀(B j:Nat) (M:List (List Nat×Rw)),301<=B+j->MOk f ab R J j M->(∀ e∈M,ab e.2=false)->aN6 f ab R J (bfs f ab F B j M)
 | 0,j,M,hf',h,_=>by
  have:=h.hat
  have:=h.len
  omega
 | B+1,j,M,hf',h,hn=>by
  rw[aG3]
  cases he:M[j]? with
  | none=>exact⟨⟨j,h⟩,hn⟩
  | some e =>
   have hj:j<M.length:=(ag.mp he).1
   have G:=a7 he
   have Y:=h.wl e G
   have h':MOk f ab R J (j+1) M:=⟨h.len,h.pos,hj,h.sh,h.fold,λ d hd=>dg (h.wl d hd)⟩
   have sp:=af8 (f:=f) (ab:=ab) hf (k:=j+1) (e:=e) (by omega) F M h' G hn
   show aN6 f ab R J (match inn f ab e F M with
     | .more M'=>bfs f ab F B (j+1) M'
     | .stop M'=>.stop M'
     | .over=>.over)
   revert sp
   cases hB:inn f ab e F M with
   | more M'=>rintro⟨s1,s2,s3⟩;exact bo2 hf F B (j+1) M' (by omega) s1 s2
   | stop M'=>rintro⟨s1,A',z',e1,e2,e3⟩;exact⟨⟨_,s1⟩,A',z',e1,e2⟩
   | over=>exact λ _=>trivial
theorem bF9 (m:Mc){k:Int}(hk:0<=k):aN6 (zm m k) (zc m k) m.R (zu m) (Bk m k) :=
 bo2 (zJ m k) (qv m.L) 301 0 [([],zu m)] (by decide) (bX3 m k) (λ e he=>by rw[az.mp he];exact as6 hk)
theorem bp5 {F:Fns}{ρ:Env}{s:Sto}(k v:E):ev F (.dicU k v) ρ s=(ev F k ρ (s++[.dit []])).bind λ kd s1=>(ev F v ρ s1).bind λ h s2=>if kd.keyT=true/\s2[s.length]?=some (.dit [])then .ok (.ref s.length) (s2.set s.length (.dit [(kd,h)]))else .bad:=rfl
noncomputable def RmO (P:Pr)(n:Nat)(m:Mc)(k:Int)(s:Sto):Bres->Prop
 | .more M=>(aa0 P (n+5)).call "rows_met" [m.d,.int k] s=.ok (.ref s.length) (s++[.lst (MtD M)])/\(aa0 P (n+5)).xcall "rows_met" [m.d,.int k] s=none
 | .stop M=>(aa0 P (n+5)).call "rows_met" [m.d,.int k] s=.ok (.ref s.length) (s++[.lst (MtD M)])/\(aa0 P (n+5)).xcall "rows_met" [m.d,.int k] s=none
 | .over=>∃ T,(aa0 P (n+5)).xcall "rows_met" [m.d,.int k] s=some ("TooMuch",s++T)
noncomputable def ae0:Xf:=⟨2,1,.call "rows_met" (.ex (.var 0) (.ex (.var 1) .nil))⟩
section
variable {P:Pr} [Has P ab8] [Has P ac5] [Has P aa9] [Has P ab0] [Has P ab2] [Has P ab1] [Has P ag9] [Has P ab3] [Has P aa2] [Has P ai0] [Has P ab5] [Has P aa6] [HasC P "LETTERS" (.tup aS7)] [HasC P "MOST_ROWS" (.int 300)] [Has P aa4] [Has P aa3] [HasX P "meet_behind" aa5] [HasE P "TooMuch" []] [Has P ac1] [HasX P "rows_met" ac2]
theorem aD6 (n:Nat){m:Mc}(J:m.Ok){k:Int}(hk:0<=k)(s:Sto):RmO P n m k s (Bk m k):=by
 have e0:(aa0 P (n+5)).call "rows_met" [m.d,.int k] s=_:=zd ac1 (n:=n+4) rfl
 have x0:(aa0 P (n+5)).xcall "rows_met" [m.d,.int k] s=_:=am0 ac2 (n:=n+4) rfl
 have f1:=az2 (P:=P) (n+2) J
 have a0:=J.R1
 have a2:=J.R5
 have G:(D.tup (za (zu m))).keyT=true:=aK3 a0 a2 (by unfold zu;simp)
 have go:=(bG1 (P:=P) n J (k:=k) (s:=s++[.lst [],.dit []]) (p:=s.length) (q:=s.length+1) (by simp) (by simp) (by omega) (d2:=some (.tup (za (zu m)))) 301 0 [([],zu m)] (by decide) (bX3 m k) (λ e he=>by rw[az.mp he];exact as6 hk)).1
 have Y:=aD7 s [([],zu m)]
 have g1:(s++[O.lst [D.tup [.str [],.tup (za (zu m))]]]++[O.dit []])[s.length+1]?=some (.dit []):=by rw[aB (by simp),aG];simp
 have g2:(s++[O.lst [D.tup [.str [],.tup (za (zu m))]]]++[O.dit []]).set (s.length+1) (.dit [(.tup (za (zu m)),.bl true)])=StM (s++[.lst [],.dit []]) s.length (s.length+1) [([],zu m)]:=by
  rw[Y,cf,bE,if_neg (by omega),show s.length+1 - s.length=1 by omega];rfl
 have g3:(s++[O.lst [D.tup [.str [],.tup (za (zu m))]]]).length=s.length+1:=by simp
 have hb:ac1.body=.cons (.asg (.one 2) (.call "first_row" (.ex (.var 0) .nil))) (.cons (.asg (.one 3) (.lst (.cons (.tup (.cons (.cst (.str [])) (.cons (.var 2) .nil))) .nil))) (.cons (.asg (.one 4) (.dicU (.var 2) (.cst (.bl true)))) (.cons (.asg (.one 5) (.cst (.int 0))) (.cons (.whl rmC rmB) (.cons (.ret (.var 3)) .nil))))):=rfl
 rw[hb,show(cj some [m.d,.int k]++aq ac1.vs none)=[some m.d,some (.int k),none,none,none,none]from rfl]at e0
 have F:∀ h,(∃ a,whl (ev (aa0 P (n+4)) rmC) (exs (aa0 P (n+4)) rmB) [some m.d,some (.int k),some (.tup (za (zu m))),some (.ref s.length),some (.ref (s.length+1)),some (.int ((0:Nat):Int))] (StM (s++[.lst [],.dit []]) s.length (s.length+1) [([],zu m)])=.ok (.next [some m.d,some (.int k),some (.tup (za (zu m))),some (.ref s.length),some (.ref (s.length+1)),a]) (StM (s++[.lst [],.dit []]) s.length (s.length+1) h))->(aa0 P (n+5)).call "rows_met" [m.d,.int k] s=.ok (.ref s.length) (s++[.lst (MtD h)]):=λ h ⟨a,hw⟩=>by
  have hw:whl (ev (aa0 P (n+4)) rmC) (exs (aa0 P (n+4)) rmB) [some m.d,some (.int k),some (.tup (za (zu m))),some (.ref s.length),some (.ref (s.length+1)),some (.int 0)] (StM (s++[.lst [],.dit []]) s.length (s.length+1) [([],zu m)])=.ok (.next [some m.d,some (.int k),some (.tup (za (zu m))),some (.ref s.length),some (.ref (s.length+1)),a]) (StM (s++[.lst [],.dit []]) s.length (s.length+1) h):=hw
  rw[e0]
  tbr_iter [f1,bp5,G,g3,g1,true_and,g2,hw]
  rw[aD7]
  have:=qF (s:=s) (t:=[]) (u:=[.dit (Sn (h.map (·.2)))]) (o:=.lst (MtD h)) bm0
  exact this
 have Z:ex (aa0 P (n+4)) (.asg (.one 2) (.call "first_row" (.ex (.var 0) .nil))) [some m.d,some (.int k),none,none,none,none] s=.ok (.next [some m.d,some (.int k),some (.tup (za (zu m))),none,none,none]) s:=by tbr_iter [f1]
 have a3:ex (aa0 P (n+4)) (.asg (.one 3) (.lst (.cons (.tup (.cons (.cst (.str [])) (.cons (.var 2) .nil))) .nil))) [some m.d,some (.int k),some (.tup (za (zu m))),none,none,none] s=.ok (.next [some m.d,some (.int k),some (.tup (za (zu m))),some (.ref s.length),none,none]) (s++[O.lst [D.tup [.str [],.tup (za (zu m))]]]):=by tbr_iter []
 have a1:ex (aa0 P (n+4)) (.asg (.one 4) (.dicU (.var 2) (.cst (.bl true)))) [some m.d,some (.int k),some (.tup (za (zu m))),some (.ref s.length),none,none] (s++[O.lst [D.tup [.str [],.tup (za (zu m))]]])=.ok (.next [some m.d,some (.int k),some (.tup (za (zu m))),some (.ref s.length),some (.ref (s.length+1)),none]) (StM (s++[.lst [],.dit []]) s.length (s.length+1) [([],zu m)]):=by tbr_iter [bp5,G,g3,g1,true_and,g2]
 have a4:ex (aa0 P (n+4)) (.asg (.one 5) (.cst (.int 0))) [some m.d,some (.int k),some (.tup (za (zu m))),some (.ref s.length),some (.ref (s.length+1)),none] (StM (s++[.lst [],.dit []]) s.length (s.length+1) [([],zu m)])=.ok (.next [some m.d,some (.int k),some (.tup (za (zu m))),some (.ref s.length),some (.ref (s.length+1)),some (.int ((0:Nat):Int))]) (StM (s++[.lst [],.dit []]) s.length (s.length+1) [([],zu m)]):=by tbr_iter [];rfl
 have xr:(aa0 P (n+5)).xcall "rows_met" [m.d,.int k] s=whlX (ev (aa0 P (n+4)) rmC) (exs (aa0 P (n+4)) rmB) (xB (aa0 P (n+4)) (.call "meet_behind" rmA)) [some m.d,some (.int k),some (.tup (za (zu m))),some (.ref s.length),some (.ref (s.length+1)),some (.int ((0:Nat):Int))] (StM (s++[.lst [],.dit []]) s.length (s.length+1) [([],zu m)]):=by
  rw[x0]
  show xB (aa0 P (n+4)) (.seq _ _) [some m.d,some (.int k),none,none,none,none] s=_
  rw[av7 Z,av7 a3,av7 a1,av7 a4]
  rfl
 show RmO P n m k s (Bk m k)
 unfold Bk
 revert go
 generalize bfs (zm m k) (zc m k) (qv m.L) 301 0 [([],zu m)]=B
 cases B with
 | more M=>rintro⟨a,b⟩;exact⟨F M a,by rw[xr];exact au9 b⟩
 | stop M=>rintro⟨a,b⟩;exact⟨F M a,by rw[xr];exact au9 b⟩
 | over =>
  rintro⟨N,h,hN⟩
  refine⟨[.lst (MtD h),.dit (Sn (h.map (·.2)))],?_⟩
  rw[xr,aT6 hN,aD7]
noncomputable def AbO (P:Pr)(n:Nat)(m:Mc)(k:Int)(s:Sto):Bres->Prop
 | .more M=>(aa0 P (n+6)).call "above" [m.d,.int k] s=.ok .non s/\(aa0 P (n+6)).xcall "above" [m.d,.int k] s=none
 | .stop M=>(∃ A z,M=A++[z]/\(aa0 P (n+6)).call "above" [m.d,.int k] s=.ok (.str z.1) s)/\(aa0 P (n+6)).xcall "above" [m.d,.int k] s=none
 | .over=>∃ T,(aa0 P (n+6)).xcall "above" [m.d,.int k] s=some ("TooMuch",s++T)
theorem bf6 [Has P ad9][HasX P "above" ae0](n:Nat){m:Mc}(hm:m.Ok){k:Int}(hk:0<=k)(s:Sto):AbO P n m k s (Bk m k):=by
 have e0:(aa0 P (n+6)).call "above" [m.d,.int k] s=_:=zd ad9 (n:=n+5) rfl
 have x0:(aa0 P (n+6)).xcall "above" [m.d,.int k] s=_:=am0 ae0 (n:=n+5) rfl
 have xr:(aa0 P (n+6)).xcall "above" [m.d,.int k] s=(aa0 P (n+5)).xcall "rows_met" [m.d,.int k] s:=by
  rw[x0]
  have ea:ag2 (aa0 P (n+5)) (.ex (.var 0) (.ex (.var 1) .nil)) [some m.d,some (.int k),none] s=.ok [m.d,.int k] s:=by tbr_iter []
  show xB (aa0 P (n+5)) (.call "rows_met" _) [some m.d,some (.int k),none] s=_
  rw[aB4 ea]
 have rm:=aD6 (P:=P) n hm hk s
 have bo:=bF9 m hk
 rw[show(cj some [m.d,.int k]++aq ad9.vs none)=[some m.d,some (.int k),none]from rfl]at e0
 have J:∀ A z,z.2.length=m.R->(aa0 P (n+5)).call "rows_met" [m.d,.int k] s=.ok (.ref s.length) (s++[.lst (MtD (A++[z]))])->(aa0 P (n+6)).call "above" [m.d,.int k] s=.ok (if zc m k z.2=true then .str z.1 else .non) s:=λ A z hz hr=>by
  have Y:ixM (.ref s.length) (.int (-1)) (s++[.lst (MtD (A++[z]))])=.ok (enD z) (s++[.lst (MtD (A++[z]))]):=by
   refine aD4 (l:=MtD A) ?_
   rw[bb4]
   unfold MtD
   rw[bD];rfl
  have G:=qt (P:=P) (n+2) hm hz k (s++[.lst (MtD (A++[z]))])
  rw[e0]
  simp -implicitDefEqProofs only[ad9]
  cases hab:zc m k z.2 with
  | true =>
   rw[hab]at G
   tbr_iter [hr,ak5,Y,bV6,bn9,G]
   exact zT (λ _=>rfl) (by nofun)
  | false =>
   rw[hab]at G
   tbr_iter [hr,ak5,Y,bV6,bn9,G]
   exact zT (λ _=>rfl) (by nofun)
 revert rm bo
 generalize Bk m k=B
 cases B with
 | more M =>
  rintro⟨a,b⟩ ⟨⟨j,Z⟩,hn⟩
  obtain⟨A,z,rfl⟩:=aE3 Z.pos
  have F:z∈A++[z]:=aJ _ (az.mpr rfl)
  have:=J A z (Z.sh z F) a
  rw[hn z F]at this
  exact⟨this,by rw[xr];exact b⟩
 | stop M =>
  rintro⟨a,b⟩ ⟨⟨j,Z⟩,A,z,rfl,hab⟩
  have F:z∈A++[z]:=aJ _ (az.mpr rfl)
  have:=J A z (Z.sh z F) a
  rw[hab]at this
  exact⟨⟨A,z,rfl,this⟩,by rw[xr];exact b⟩
 | over =>
  rintro⟨T,h⟩ _
  exact⟨T,by rw[xr];exact h⟩
end
theorem ax4 {P:Pr}[Has P ad2](n:Nat){m:Mc}(F:m.Ok)(s:Sto):(aa0 P (n+1)).call "_law_first" [m.d] s=.ok (.tup (za (zu m))) s:=by
 have J:(aa0 P (n+1)).call "_law_first" [m.d] s=_:=zd ad2 (n:=n) rfl
 have Y:=F.R5
 rw[J,show(cj some [m.d]++aq ad2.vs none)=[some m.d]from rfl]
 obtain⟨ρ1,s1,e1,⟨Z,rfl⟩,_⟩:=at1 (ok:=λ s1=>chk s s1 []) (g:=ai1 (aa0 P n) (.one 0) (.ix (.lst (.cons (.cst .non) (.cons (.cst (.int 0)) .nil))) (.bi .int (.cons (.cmp .isin (.var 0) (.ix (.var 1) (.cst (.int 2)))) .nil)))) (λ ρ u=>(∃ T,u=s++T)/\∃ x,ρ=[x,some m.d])
  (λ k=>qh (if k∈m.bg then some 0 else none)) m.R [none,some m.d] s ⟨⟨[],by simp⟩,none,rfl⟩ (λ _ _ _=>rfl) (by
   rintro j hj ρ u ⟨⟨T,rfl⟩,x,rfl⟩
   have B:=as9 (s:=s++T++[.lst [.non,.int 0]]) (k:=j) (l:=m.bg)
   have hl:(s++T++[O.lst [.non,.int 0]])[(s++T).length]?=some (.lst [.non,.int 0]):=by simp
   by_cases hb:j∈m.bg
   ·have h:ixM (.ref (s++T).length) (.int 1) (s++T++[O.lst [.non,.int 0]])=.ok (.int 0) _:=ah4 (j:=1) hl rfl
    refine⟨[some (.int j),some m.d],s++T++[.lst [.non,.int 0]],?_,⟨T++[.lst [.non,.int 0]],by simp⟩,_,rfl⟩
    unfold ai1
    tbr_iter [ixB,qp,B,hb,aW1,h,zE]
   ·have h:ixM (.ref (s++T).length) (.int 0) (s++T++[O.lst [.non,.int 0]])=.ok .non _:=ah4 (j:=0) hl rfl
    refine⟨[some (.int j),some m.d],s++T++[.lst [.non,.int 0]],?_,⟨T++[.lst [.non,.int 0]],by simp⟩,_,rfl⟩
    unfold ai1
    tbr_iter [ixB,qp,B,hb,aW1,h,qc])
 have G:((aU m.R).map λ k=>qh (if k∈m.bg then some 0 else none))=za (zu m):=by unfold za zu;rw[bL];rfl
 rw[G]at e1
 simp -implicitDefEqProofs only[ad2]
 tbr_iter [ixR,af3,qG (s:=s) (i:=(m.R:Int)) (by unfold W62;omega) (by unfold W62;omega),if_pos (show(qe 0 (m.R:Int)).length<=LIM by rw[at7];unfold LIM;omega),show qj [some m.d] [none,some 0]=[none,some m.d]from rfl,e1,aI9]
 exact zT (λ n=>by unfold D.bnd;exact zr qM n) (by nofun)
noncomputable def mnO (K:Int)(row:Rw):Rw:=row.map (Option.map (min · K))
theorem aT7 {K:Int}{row:Rw}{j:Nat}{o:Option Int}(h:row[j]?=some o):(mnO K row)[j]?=some (o.map (min · K)):=by unfold mnO;rw[aF,h];rfl
theorem bp9 {K:Int}{row:Rw}{j:Nat}{o:Option Int}:mnO K (row.set j o)=(mnO K row).set j (o.map (min · K)):=by unfold mnO;exact kI
theorem aY5 {P:Pr}[Has P ad6](n:Nat){m:Mc}(hm:m.Ok){row:List (Option Int)}(a2:row.length=m.R)(k:Int)(c:Nat)(s:Sto) :
  (aa0 P (n+1)).call "_law_led" [m.d,.int k,.tup (za row),.str [c]] s=.ok (.tup (za (zm m k row c))) s:=by
 have e0:(aa0 P (n+1)).call "_law_led" [m.d,.int k,.tup (za row),.str [c]] s=_:=zd ad6 (n:=n) rfl
 have h5:=hm.R5
 rw[e0,show(cj some [m.d,.int k,D.tup (za row),.str [c]]++aq ad6.vs none)=[some m.d,some (.int k),some (D.tup (za row)),some (.str [c]),none,none,none,none,none,none]from rfl]
 obtain⟨ρ2,s2,e2,b0,_⟩:=qq (ok:=λ a6=>chk s a6 []) (g:=ai1 (aa0 P n) (.one 0) (.cst .non)) (λ ρ u=>u=s/\∃ x,ρ=[x]) (λ _=>some .non) (za row) [none] s ⟨rfl,none,rfl⟩ (λ _ _ _=>rfl) (by
  rintro d _ ρ u ⟨rfl,x,rfl⟩
  exact⟨[some d],u,by unfold ai1;tbr_iter [],rfl,_,rfl⟩)
 subst b0
 have a5:(za row).filterMap (λ _=>some D.non)=za (mnO (k+1) (row.map λ _=>none)):=by
  unfold za mnO
  rw[bL,bL,cP,<-List.filterMap_eq_map]
  exact qE λ _ _=>rfl
 rw[a5]at e2
 have a4:(za row).length<=LIM:=by rw[ai6,a2];unfold LIM;omega
 have a3:∃ bd,ad6.body=.cons (.asg (.one 4) (.mk .list (.comp (.one 0) (.seq (.var 2)) (.cst .non) [none]))) (.cons (.for_ (.tup [5,6,7,8]) (.seq (.ix (.var 0) (.cst (.int 4)))) bd) (.cons (.ret (.mk .tuple (.seq (.var 4)))) .nil))/\bd=(.cons (.ite (.and (.cmp .eq (.var 6) (.var 3)) (.notN (.ix (.var 2) (.var 5)))) (.cons (.asg (.one 9) (.bi .min2 (.cons (.bin .add (.ix (.var 2) (.var 5)) (.var 8)) (.cons (.bin .add (.var 1) (.cst (.int 1))) .nil)))) (.cons (.ite (.or (.isN (.ix (.var 4) (.var 7))) (.cmp .lt (.var 9) (.ix (.var 4) (.var 7)))) (.cons (.setIx (.var 4) (.var 7) (.var 9)) .nil) .nil) .nil)) .nil) .nil):=⟨_,rfl,rfl⟩
 obtain⟨bd,b1,Z⟩:=a3
 rw[b1]
 tbr_iter [qD,af3,if_pos a4,show qj [some m.d,some (.int k),some (D.tup (za row)),some (.str [c]),none,none,none,none,none,none] [none]=[none]from rfl,e2,aY6,ixD]
 refine aj4 (W:=λ r=>r.bind (fin s2)=.ok (.tup (za (zm m k row c))) s2) (λ i ρ v=>∃(th:List (Option Int)) (y5 y6 y7 y8 y9:Option D),v=s2++[.lst (za (mnO (k+1) th))]/\th.length=m.R/\aC7 (aB2 (Sr row) c (m.ds.take i)) th/\ρ=[some m.d,some (.int k),some (D.tup (za row)),some (.str [c]),some (.ref s2.length),y5,y6,y7,y8,y9])
  ⟨row.map λ _=>none,_,_,_,_,_,rfl,by simp[a2],?_,rfl⟩ (λ _ _ _ _ _=>rfl) ?_ ?_
 ·intro j o hk
  rw[aF]at hk
  cases e:row[j]? with
  | none=>rw[e]at hk;cases hk
  | some _ =>
   rw[e]at hk;cases hk
   rintro c' ⟨d,hd,_⟩
   rw[List.take_zero]at hd;cases hd
 ·rintro i d ρ v hi ⟨th,y5,y6,y7,y8,y9,rfl,h,B,rfl⟩
  obtain⟨x,hx,rfl⟩:∃ x,m.ds[i]?=some x/\d=x.d:=by
   rw[aF]at hi
   cases e:m.ds[i]? with
   | none=>rw[e]at hi;cases hi
   | some x=>rw[e]at hi;cases hi;exact⟨x,rfl,rfl⟩
  have hok:=hm.ds.1 x (a7 hx)
  have Y:m.ds.take (i+1)=m.ds.take i++[x]:=by
   have hlt:i<m.ds.length:=(ag.mp hx).1
   have e:m.ds[i]=x:=(ag.mp hx).2
   rw[<-e,fY]
  obtain⟨oa,ha⟩:∃ o,row[x.a]?=some o:=⟨row[x.a]'(by rw[a2];exact hok.a),aj _⟩
  obtain⟨ob,hb⟩:∃ o,th[x.b]?=some o:=⟨th[x.b]'(by rw[h];exact hok.b),aj _⟩
  have g4:(s2++[O.lst (za (mnO (k+1) th))])[s2.length]?=some (.lst (za (mnO (k+1) th))):=by simp
  have ia:ixM (.tup (za row)) (.int x.a) (s2++[O.lst (za (mnO (k+1) th))])=.ok (qh oa) (s2++[O.lst (za (mnO (k+1) th))]):=ix_tup (as4 ha)
  have ib:ixM (.ref s2.length) (.int x.b) (s2++[O.lst (za (mnO (k+1) th))])=.ok (qh (ob.map (min · (k+1)))) (s2++[O.lst (za (mnO (k+1) th))]):=ah4 g4 (as4 (aT7 hb))
  have G:x.d=.tup [.int x.a,.str [x.l],.int x.b,.int x.t]:=rfl
  by_cases hl:x.l=c
  ·cases oa with
   | none =>
    refine at4 (ρ:=[some m.d,some (.int k),some (D.tup (za row)),some (.str [c]),some (.ref s2.length),some (.int x.a),some (.str [x.l]),some (.int x.b),some (.int x.t),y9]) (s:=s2++[.lst (za (mnO (k+1) th))]) ?_ ⟨th,_,_,_,_,_,rfl,h,?_,rfl⟩
    ·rw[Z]
     tbr_iter [turn,G,qz,hl,ia,qc]
    ·rw[Y]
     refine aw7 B λ c' a0=>?_
     exact bF1 row x.a none ha c' a0.2
   | some y =>
    have a1:=aQ4 B hl (bF1 row x.a (some y) ha) hb
    have F:(if k+1<y+(x.t:Int)then k+1 else y+(x.t:Int))=min (y+(x.t:Int)) (k+1):=by split<;>omega
    have J:∀ v:Int,setIx (.ref s2.length) (.int x.b) (.int v) (s2++[O.lst (za (mnO (k+1) th))])=.ok () (s2++[.lst (za ((mnO (k+1) th).set x.b (some v)))]):=λ v=>by
     rw[bz4 g4 (by rw[ai6];unfold mnO;rw[aw,h];exact hok.b),bE,if_neg (by omega),cG]
     unfold za
     rw[kI];rfl
    refine at4 (ρ:=[some m.d,some (.int k),some (D.tup (za row)),some (.str [c]),some (.ref s2.length),some (.int x.a),some (.str [x.l]),some (.int x.b),some (.int x.t),some (.int (min (y+(x.t:Int)) (k+1)))]) (s:=s2++[.lst (za (mnO (k+1) (th.set x.b (minO ob (some (y+x.t))))))]) ?_ ⟨th.set x.b (minO ob (some (y+x.t))),_,_,_,_,_,rfl,by rw[bj];exact h,by rw[Y];exact a1,rfl⟩
    rw[bp9,Z]
    cases ob with
    | none =>
     rw[jQ,qc]at ib
     show turn _ _ _ _ _ _=R.ok _ (s2++[O.lst (za ((mnO (k+1) th).set x.b (some (min (y+(x.t:Int)) (k+1)))))])
     tbr_iter [turn,G,qz,hl,ia,ib,zE,show(D.int y=D.non)=False from eq_false (by nofun),at5,F,J]
    | some z =>
     rw[dG,zE]at ib
     by_cases hlt:min (y+(x.t:Int)) (k+1)<min z (k+1)
     ·have em:minO (some z) (some (y+(x.t:Int)))=some (y+x.t):=by show(if y+(x.t:Int)<z then _ else _)=_;rw[if_pos (by omega)]
      rw[em]
      show turn _ _ _ _ _ _=R.ok _ (s2++[O.lst (za ((mnO (k+1) th).set x.b (some (min (y+(x.t:Int)) (k+1)))))])
      tbr_iter [turn,G,qz,hl,ia,ib,zE,show(D.int y=D.non)=False from eq_false (by nofun),show(D.int (min z (k+1))=D.non)=False from eq_false (by nofun),at5,F,hlt,J]
     ·have em:(minO (some z) (some (y+(x.t:Int)))).map (min · (k+1))=some (min z (k+1)):=by
       show((if y+(x.t:Int)<z then some (y+(x.t:Int))else some z):Option Int).map _=_
       split
       ·show some (min (y+(x.t:Int)) (k+1))=_;congr 1;omega
       ·rfl
      have b2:(mnO (k+1) th).set x.b (some (min z (k+1)))=mnO (k+1) th:=by
       have hg:=aT7 (K:=k+1) hb
       have b4:x.b<(mnO (k+1) th).length:=(ag.mp hg).1
       have e3:(mnO (k+1) th)[x.b]=some (min z (k+1)):=(ag.mp hg).2
       rw[<-e3,gY]
      rw[em,b2]
      tbr_iter [turn,G,qz,hl,ia,ib,zE,show(D.int y=D.non)=False from eq_false (by nofun),show(D.int (min z (k+1))=D.non)=False from eq_false (by nofun),at5,F,hlt]
  ·refine at4 (ρ:=[some m.d,some (.int k),some (D.tup (za row)),some (.str [c]),some (.ref s2.length),some (.int x.a),some (.str [x.l]),some (.int x.b),some (.int x.t),y9]) (s:=s2++[.lst (za (mnO (k+1) th))]) ?_ ⟨th,_,_,_,_,_,rfl,h,?_,rfl⟩
   ·rw[Z]
    tbr_iter [turn,G,qz,hl]
   ·rw[Y]
    exact aw7 B λ c' a0=>hl a0.1
 ·rintro ρ v ⟨th,y5,y6,y7,y8,y9,rfl,h,B,rfl⟩
  rw[aw,jF]at B
  have b3:mnO (k+1) th=zm m k row c:=by
   rw[bE3 h B]
   unfold mnO zm
   exact dw λ o _=>(bt3 k o).symm
  have a1:bm1 (.ref s2.length) (s2++[O.lst (za (mnO (k+1) th))])=.ok (za (mnO (k+1) th)) (s2++[O.lst (za (mnO (k+1) th))]):=by
   unfold bm1
   simp only[show(s2++[O.lst (za (mnO (k+1) th))])[s2.length]?=some (.lst (za (mnO (k+1) th)))by simp]
  tbr_iter [a1,aI9]
  rw[b3]
  exact zT (λ n=>by unfold D.bnd;exact zr qM n) (by nofun)
theorem aY8 {P:Pr}[Has P as2](n:Nat){m:Mc}(Z:m.Ok){row:List (Option Int)}(G:row.length=m.R)(s:Sto) :
  (aa0 P (n+1)).call "_law_end" [m.d,.tup (za row)] s=.ok (qh (bb7 m row)) s:=by
 have e0:(aa0 P (n+1)).call "_law_end" [m.d,.tup (za row)] s=_:=zd as2 (n:=n) rfl
 have h5:=bn3 Z
 rw[e0,show(cj some [m.d,D.tup (za row)]++aq as2.vs none)=[some m.d,some (D.tup (za row))]from rfl]
 obtain⟨ρ3,s3,e3,B,_⟩:=qq (ok:=λ J=>chk s J []) (g:=aq7 (aa0 P n) (.one 0) (.notN (.ix (.var 1) (.var 0))) (.ix (.var 1) (.var 0))) (λ ρ u=>u=s/\∃ x,ρ=[x,some (D.tup (za row))]) (λ d=>match d with|.int i=>(row.getD i.toNat none).map D.int|_=>none) (qV m.en) [none,some (D.tup (za row))] s ⟨rfl,none,rfl⟩ (λ _ _ h=>rfl) (by
  rintro d hd ρ u ⟨rfl,x,rfl⟩
  obtain⟨q,hq,rfl⟩:=aP.mp hd
  have hlt:q<row.length:=by rw[G];exact Z.en.1 q hq
  have ix:=ix_tup (s:=u) (as4 (aj hlt))
  refine⟨[some (.int q),some (D.tup (za row))],u,?_,rfl,_,rfl⟩
  have hg:row.getD ((q:Int).toNat) none=row[q]:=by simp[jE,hlt]
  unfold aq7
  simp only[hg]
  cases e:row[q]with
  | none=>rw[e]at ix;tbr_iter [ix,qc,jQ]
  | some y=>rw[e]at ix;tbr_iter [ix,zE,show(D.int y=D.non)=False from eq_false (by nofun)])
 subst B
 have Y:(qV m.en).filterMap (λ d=>match d with|.int i=>(row.getD i.toNat none).map D.int|_=>none)=(m.en.filterMap λ q=>row.getD q none).map D.int:=by
  unfold qV
  rw[cP,List.map_filterMap]
  exact qE λ q _=>rfl
 rw[Y]at e3
 have F:(qV m.en).length<=LIM:=by unfold qV;rw[aw];unfold LIM;omega
 simp -implicitDefEqProofs only[as2]
 tbr_iter [ixE,qD,qN,if_pos F,show qj [some m.d,some (D.tup (za row))] [none,some 1]=[none,some (D.tup (za row))]from rfl,e3,aW7]
 exact ap7
theorem aR0 {L:Nat}(h3:L<=3)(s:Sto):slM (.str [97,98,99]) none (some (L:Int)) s=.ok (.str ([97,98,99].take L)) s:=by
 show R.ok (D.str (aA4 [97,98,99] none (some (L:Int)))) s=_
 unfold aA4
 simp only[loB,hiB,sbd,d6,Nat.sub_zero]
 rw[if_pos (by omega),bV]
 show R.ok (D.str (List.take (min L 3) [97,98,99])) s=_
 rw[Nat.min_eq_left h3]
noncomputable def RsD (M:List (List Nat×Rw)):List D:=M.map λ e=>.tup (za e.2)
noncomputable def WsD (M:List (List Nat×Rw)):List D:=M.map λ e=>.str e.1
noncomputable def StF (s:Sto)(M:List (List Nat×Rw)):Sto:=s++[.lst (RsD M),.lst (WsD M),.dit (Sn (M.map (·.2)))]
theorem bD5 (s:Sto)(M:List (List Nat×Rw)):(StF s M)[s.length]?=some (.lst (RsD M)):=by unfold StF;rw[aB (ak _),cG];rfl
theorem bY5 (s:Sto)(M:List (List Nat×Rw)):(StF s M)[s.length+1]?=some (.lst (WsD M)):=by unfold StF;rw[aB (by omega),show s.length+1 - s.length=1 by omega];rfl
theorem bY7 (s:Sto)(M:List (List Nat×Rw)):(StF s M)[s.length+2]?=some (.dit (Sn (M.map (·.2)))):=by unfold StF;rw[aB (by omega),show s.length+2 - s.length=2 by omega];rfl
noncomputable def fiB:Ss:=(.cons (.asg (.one 7) (.call "_law_led" (.ex (.var 0) (.ex (.var 1) (.ex (.ix (.var 2) (.var 5)) (.ex (.var 6) .nil)))))) (.cons (.ite (.cmp .notin (.var 7) (.var 4)) (.cons (.ite (.cmp .eq (.bi .len (.cons (.var 2) .nil)) (.cst (.int 300))) (.cons (.ret (.cst .non)) .nil) .nil) (.cons (.setIx (.var 4) (.var 7) (.cst (.bl true))) (.cons (.ex (.meth .append (.var 2) (.cons (.var 7) .nil))) (.cons (.ex (.meth .append (.var 3) (.cons (.bin .add (.ix (.var 3) (.var 5)) (.var 6)) .nil))) (.cons (.ite (.cmp .eq (.call "_law_end" (.ex (.var 0) (.ex (.var 7) .nil))) (.bin .add (.var 1) (.cst (.int 1)))) (.cons (.ret (.var 3)) .nil) .nil) .nil))))) .nil) .nil))
noncomputable def foB:Ss:=(.cons (.ite (.cmp .eq (.var 5) (.bi .len (.cons (.var 2) .nil))) (.cons (.ret (.var 3)) .nil) .nil) (.cons (.for_ (.one 6) (.seq (.slU (.cst (.str [97,98,99])) (.ix (.var 0) (.cst (.int 0))))) fiB) .nil))
theorem al2:∀ {L:Nat},L<=3->([97,98,99]:List Nat).take L=qv L
 | 0,_=>rfl
 | 1,_=>rfl
 | 2,_=>rfl
 | 3,_=>rfl
 | n+4,h=>by omega
section
variable {P:Pr} [Has P ad2] [Has P ad6] [Has P as2] [Has P ae2]
noncomputable def FiR (n:Nat)(P:Pr)(m:Mc)(k:Int)(s:Sto)(j:Nat)(ls:List Nat)(M:List (List Nat×Rw))(y6 y7:Option D):Bres->Prop
 | .more M'=>∃ z6 z7,qw (λ u=>chk s u []) (turn (aa0 P (n+1)) (.one 6) fiB) (sg ls) [some m.d,some (.int k),some (.ref s.length),some (.ref (s.length+1)),some (.ref (s.length+2)),some (.int (j:Int)),y6,y7] (StF s M)=.ok (.next [some m.d,some (.int k),some (.ref s.length),some (.ref (s.length+1)),some (.ref (s.length+2)),some (.int (j:Int)),z6,z7]) (StF s M')
 | .stop M'=>qw (λ u=>chk s u []) (turn (aa0 P (n+1)) (.one 6) fiB) (sg ls) [some m.d,some (.int k),some (.ref s.length),some (.ref (s.length+1)),some (.ref (s.length+2)),some (.int (j:Int)),y6,y7] (StF s M)=.ok (.ret (.ref (s.length+1))) (StF s M')
 | .over=>∃ M',qw (λ u=>chk s u []) (turn (aa0 P (n+1)) (.one 6) fiB) (sg ls) [some m.d,some (.int k),some (.ref s.length),some (.ref (s.length+1)),some (.ref (s.length+2)),some (.int (j:Int)),y6,y7] (StF s M)=.ok (.ret .non) (StF s M')
theorem bs1 (n:Nat){m:Mc}(hm:m.Ok){k:Int}{s:Sto}{j:Nat}{e:List Nat×Rw}(he:e.2.length=m.R)(hw:e.1.length<=1000):∀(F:List Nat) (M:List (List Nat×Rw)) (Y Z:Option D),M[j]?=some e->M.length<=300 ->
  FiR n P m k s j F M Y Z (inn (zm m k) (zc m k) e F M)
 | [],M,Y,Z,_,_=>by
  unfold inn
  exact⟨Y,Z,rfl⟩
 | x::F,M,Y,Z,hj,hM=>by
  unfold inn
  have a6:=hm.R1
  have b0:=hm.R5
  have g0:=bD5 s M
  have g1:=bY5 s M
  have g2:=bY7 s M
  have ir:ixM (.ref s.length) (.int (j:Int)) (StF s M)=.ok (.tup (za e.2)) (StF s M):=ah4 g0 (by unfold RsD;rw[aF,hj];rfl)
  have hl:=aY5 (P:=P) n hm he k x (StF s M)
  have a1:=bT9 a6 b0 (zJ m k e.2 x) g2
  have G:bi .len [.ref s.length] (StF s M)=.ok (.int (M.length:Int)) (StF s M):=by rw[au0 g0,show(RsD M).length=M.length from aw ..]
  have a2:sg (x::F)=.str [x]::sg F:=rfl
  by_cases hm1:zm m k e.2 x∈M.map (·.2)
  ·rw[if_pos hm1]
   have et:turn (aa0 P (n+1)) (.one 6) fiB (.str [x]) [some m.d,some (.int k),some (.ref s.length),some (.ref (s.length+1)),some (.ref (s.length+2)),some (.int (j:Int)),Y,Z] (StF s M)=.ok (.next [some m.d,some (.int k),some (.ref s.length),some (.ref (s.length+1)),some (.ref (s.length+2)),some (.int (j:Int)),some (.str [x]),some (.tup (za (zm m k e.2 x)))]) (StF s M):=by
    simp -implicitDefEqProofs only[fiB]
    tbr_iter [turn,ir,hl,aj0,a1,hm1]
   have ih:=bs1 n hm (k:=k) (s:=s) he hw F M (some (.str [x])) (some (.tup (za (zm m k e.2 x)))) hj hM
   have fc:∀ r,qw (λ u=>chk s u []) (turn (aa0 P (n+1)) (.one 6) fiB) (sg F) [some m.d,some (.int k),some (.ref s.length),some (.ref (s.length+1)),some (.ref (s.length+2)),some (.int (j:Int)),some (.str [x]),some (.tup (za (zm m k e.2 x)))] (StF s M)=r->qw (λ u=>chk s u []) (turn (aa0 P (n+1)) (.one 6) fiB) (sg (x::F)) [some m.d,some (.int k),some (.ref s.length),some (.ref (s.length+1)),some (.ref (s.length+2)),some (.int (j:Int)),Y,Z] (StF s M)=r:=λ r h=>by
    rw[a2,zw (ok:=λ u=>chk s u []) rfl,et];exact h
   revert ih
   generalize inn (zm m k) (zc m k) e F M=B
   cases B with
   | more M'=>rintro⟨z6,z7,h⟩;exact⟨z6,z7,fc _ h⟩
   | stop M'=>intro h;exact fc _ h
   | over=>rintro⟨M',h⟩;exact⟨M',fc _ h⟩
  ·rw[if_neg hm1]
   by_cases h300:M.length=300
   ·rw[if_pos h300]
    have et:turn (aa0 P (n+1)) (.one 6) fiB (.str [x]) [some m.d,some (.int k),some (.ref s.length),some (.ref (s.length+1)),some (.ref (s.length+2)),some (.int (j:Int)),Y,Z] (StF s M)=.ok (.ret .non) (StF s M):=by
     simp -implicitDefEqProofs only[fiB]
     tbr_iter [turn,ir,hl,aj0,a1,hm1,G,show((M.length:Int)=300)=True from eq_true (by omega)]
    refine⟨M,?_⟩
    rw[a2,zw (ok:=λ u=>chk s u []) rfl,et]
    rfl
   ·rw[if_neg h300]
    have J:=bl2 a6 b0 (zJ m k e.2 x) g2 hm1 (by rw[aw];unfold LIM;omega)
    have b3:(StF s M).set (s.length+2) (.dit (Sn (M.map (·.2)++[zm m k e.2 x])))=s++[.lst (RsD M),.lst (WsD M),.dit (Sn (M.map (·.2)++[zm m k e.2 x]))]:=by
     unfold StF;rw[bE,if_neg (by omega),show s.length+2 - s.length=2 by omega];rfl
    rw[b3]at J
    have gA:(s++[O.lst (RsD M),.lst (WsD M),.dit (Sn (M.map (·.2)++[zm m k e.2 x]))])[s.length]?=some (.lst (RsD M)):=by rw[aB (ak _),cG];rfl
    have a5:=qI (v:=.tup (za (zm m k e.2 x))) gA (by rw[show(RsD M).length=M.length from aw ..];unfold LIM;omega)
    have b4:(s++[O.lst (RsD M),.lst (WsD M),.dit (Sn (M.map (·.2)++[zm m k e.2 x]))]).set s.length (.lst (RsD M++[.tup (za (zm m k e.2 x))]))=s++[O.lst (RsD M++[.tup (za (zm m k e.2 x))]),.lst (WsD M),.dit (Sn (M.map (·.2)++[zm m k e.2 x]))]:=by
     rw[bE,if_neg (by omega),cG];rfl
    rw[b4]at a5
    have gB:(s++[O.lst (RsD M++[.tup (za (zm m k e.2 x))]),.lst (WsD M),.dit (Sn (M.map (·.2)++[zm m k e.2 x]))])[s.length+1]?=some (.lst (WsD M)):=by rw[aB (by omega),show s.length+1 - s.length=1 by omega];rfl
    have iw:ixM (.ref (s.length+1)) (.int (j:Int)) (s++[O.lst (RsD M++[.tup (za (zm m k e.2 x))]),.lst (WsD M),.dit (Sn (M.map (·.2)++[zm m k e.2 x]))])=.ok (.str e.1) (s++[O.lst (RsD M++[.tup (za (zm m k e.2 x))]),.lst (WsD M),.dit (Sn (M.map (·.2)++[zm m k e.2 x]))]):=ah4 gB (by unfold WsD;rw[aF,hj];rfl)
    have a4:=qI (v:=.str (e.1++[x])) gB (by rw[show(WsD M).length=M.length from aw ..];unfold LIM;omega)
    have b5:(s++[O.lst (RsD M++[.tup (za (zm m k e.2 x))]),.lst (WsD M),.dit (Sn (M.map (·.2)++[zm m k e.2 x]))]).set (s.length+1) (.lst (WsD M++[.str (e.1++[x])]))=StF s (M++[(e.1++[x],zm m k e.2 x)]):=by
     rw[bE,if_neg (by omega),show s.length+1 - s.length=1 by omega]
     unfold StF RsD WsD
     rw[bD,bD,bD];rfl
    rw[b5]at a4
    have a3:=aE4 (a:=e.1) (b:=[x]) (s:=s++[O.lst (RsD M++[.tup (za (zm m k e.2 x))]),.lst (WsD M),.dit (Sn (M.map (·.2)++[zm m k e.2 x]))]) (show e.1.length+[x].length<=LIM by unfold LIM;simp;omega)
    have b2:=aY8 (P:=P) n hm (zJ m k e.2 x) (StF s (M++[(e.1++[x],zm m k e.2 x)]))
    have a0:=aB6 (bb7 m (zm m k e.2 x)) (k+1) (StF s (M++[(e.1++[x],zm m k e.2 x)]))
    cases hab:zc m k (zm m k e.2 x)with
    | true =>
     rw[if_pos rfl]
     rw[show decide (bb7 m (zm m k e.2 x)=some (k+1))=true from hab]at a0
     have et:turn (aa0 P (n+1)) (.one 6) fiB (.str [x]) [some m.d,some (.int k),some (.ref s.length),some (.ref (s.length+1)),some (.ref (s.length+2)),some (.int (j:Int)),Y,Z] (StF s M)=.ok (.ret (.ref (s.length+1))) (StF s (M++[(e.1++[x],zm m k e.2 x)])):=by
      simp -implicitDefEqProofs only[fiB]
      tbr_iter [turn,ir,hl,aj0,a1,hm1,G,show((M.length:Int)=300)=False from eq_false (by omega),J,a5,iw,a3,a4,b2,a0]
     show qw _ _ _ _ _=_
     rw[a2,zw (ok:=λ u=>chk s u []) rfl,et]
     rfl
    | false =>
     rw[if_neg (by nofun)]
     rw[show decide (bb7 m (zm m k e.2 x)=some (k+1))=false from hab]at a0
     have et:turn (aa0 P (n+1)) (.one 6) fiB (.str [x]) [some m.d,some (.int k),some (.ref s.length),some (.ref (s.length+1)),some (.ref (s.length+2)),some (.int (j:Int)),Y,Z] (StF s M)=.ok (.next [some m.d,some (.int k),some (.ref s.length),some (.ref (s.length+1)),some (.ref (s.length+2)),some (.int (j:Int)),some (.str [x]),some (.tup (za (zm m k e.2 x)))]) (StF s (M++[(e.1++[x],zm m k e.2 x)])):=by
      simp -implicitDefEqProofs only[fiB]
      tbr_iter [turn,ir,hl,aj0,a1,hm1,G,show((M.length:Int)=300)=False from eq_false (by omega),J,a5,iw,a3,a4,b2,a0]
     have b1:j<M.length:=(ag.mp hj).1
     have ih:=bs1 n hm (k:=k) (s:=s) he hw F (M++[(e.1++[x],zm m k e.2 x)]) (some (.str [x])) (some (.tup (za (zm m k e.2 x)))) (by rw[aM b1];exact hj) (by rw[aG];show M.length+1<=300;omega)
     have fc:∀ r,qw (λ u=>chk s u []) (turn (aa0 P (n+1)) (.one 6) fiB) (sg F) [some m.d,some (.int k),some (.ref s.length),some (.ref (s.length+1)),some (.ref (s.length+2)),some (.int (j:Int)),some (.str [x]),some (.tup (za (zm m k e.2 x)))] (StF s (M++[(e.1++[x],zm m k e.2 x)]))=r->qw (λ u=>chk s u []) (turn (aa0 P (n+1)) (.one 6) fiB) (sg (x::F)) [some m.d,some (.int k),some (.ref s.length),some (.ref (s.length+1)),some (.ref (s.length+2)),some (.int (j:Int)),Y,Z] (StF s M)=r:=λ r h=>by
      rw[a2,zw (ok:=λ u=>chk s u []) rfl,et];exact h
     revert ih
     generalize inn (zm m k) (zc m k) e F (M++[(e.1++[x],zm m k e.2 x)])=B
     cases B with
     | more M'=>rintro⟨z6,z7,h⟩;exact⟨z6,z7,fc _ h⟩
     | stop M'=>intro h;exact fc _ h
     | over=>rintro⟨M',h⟩;exact⟨M',fc _ h⟩
noncomputable def FoR (n:Nat)(P:Pr)(m:Mc)(k:Int)(s:Sto)(j:Nat)(M:List (List Nat×Rw))(y5 y6 y7:Option D):Bres->Prop
 | .more M'=>(∃ z5 z6 z7,qw (λ u=>chk s u []) (turn (aa0 P (n+1)) (.one 5) foB) (qe (j:Int) 300) [some m.d,some (.int k),some (.ref s.length),some (.ref (s.length+1)),some (.ref (s.length+2)),y5,y6,y7] (StF s M)=.ok (.next [some m.d,some (.int k),some (.ref s.length),some (.ref (s.length+1)),some (.ref (s.length+2)),z5,z6,z7]) (StF s M'))\/qw (λ u=>chk s u []) (turn (aa0 P (n+1)) (.one 5) foB) (qe (j:Int) 300) [some m.d,some (.int k),some (.ref s.length),some (.ref (s.length+1)),some (.ref (s.length+2)),y5,y6,y7] (StF s M)=.ok (.ret (.ref (s.length+1))) (StF s M')
 | .stop M'=>qw (λ u=>chk s u []) (turn (aa0 P (n+1)) (.one 5) foB) (qe (j:Int) 300) [some m.d,some (.int k),some (.ref s.length),some (.ref (s.length+1)),some (.ref (s.length+2)),y5,y6,y7] (StF s M)=.ok (.ret (.ref (s.length+1))) (StF s M')
 | .over=>∃ M',qw (λ u=>chk s u []) (turn (aa0 P (n+1)) (.one 5) foB) (qe (j:Int) 300) [some m.d,some (.int k),some (.ref s.length),some (.ref (s.length+1)),some (.ref (s.length+2)),y5,y6,y7] (StF s M)=.ok (.ret .non) (StF s M')
theorem bL4 (n:Nat){m:Mc}(hm:m.Ok){k:Int}{s:Sto}:∀(r j:Nat) (M:List (List Nat×Rw)) (y5 F G:Option D),r+j=300->MOk (zm m k) (zc m k) m.R (zu m) j M->(∀ e∈M,zc m k e.2=false) ->
  FoR n P m k s j M y5 F G (bfs (zm m k) (zc m k) (qv m.L) (r+1) j M)
 | 0,j,M,y5,F,G,hr,h,hn=>by
  rw[aG3]
  have:M[j]?=none:=bG (by have:=h.len;omega)
  rw[this]
  refine .inl ⟨y5,F,G,?_⟩
  rw[bi9 (by omega)];rfl
 | r+1,j,M,y5,F,G,hr,h,hn=>by
  rw[aG3]
  have a0:=hm.L3
  have a1:qe (j:Int) 300=.int (j:Int)::qe ((j+1:Nat):Int) 300:=by rw[aT8 (by omega)];rfl
  have g0:=bD5 s M
  have J:bi .len [.ref s.length] (StF s M)=.ok (.int (M.length:Int)) (StF s M):=by rw[au0 g0,show(RsD M).length=M.length from aw ..]
  cases he:M[j]? with
  | none =>
   have hj:j=M.length:=by
    have:=h.hat
    rcases gH j M.length with z|z
    ·rw[aj z]at he;cases he
    ·omega
   refine .inr ?_
   have et:turn (aa0 P (n+1)) (.one 5) foB (.int (j:Int)) [some m.d,some (.int k),some (.ref s.length),some (.ref (s.length+1)),some (.ref (s.length+2)),y5,F,G] (StF s M)=.ok (.ret (.ref (s.length+1))) (StF s M):=by
    simp -implicitDefEqProofs only[foB]
    tbr_iter [turn,J,show((j:Int)=(M.length:Int))=True from eq_true (by omega)]
   rw[a1,zw (ok:=λ u=>chk s u []) rfl,et]
   rfl
  | some e =>
   have hj:j<M.length:=(ag.mp he).1
   have a2:=a7 he
   have a3:=h.wl e a2
   have h':MOk (zm m k) (zc m k) m.R (zu m) (j+1) M:=⟨h.len,h.pos,hj,h.sh,h.fold,λ d hd=>dg (h.wl d hd)⟩
   have sp:=af8 (f:=zm m k) (ab:=zc m k) (zJ m k) (k:=j+1) (e:=e) (by omega) (qv m.L) M h' a2 hn
   have Z:=bs1 (P:=P) n hm (k:=k) (s:=s) (j:=j) (e:=e) (h.sh e a2) (by omega) (qv m.L) M F G he h.len
   have sq:aX0 (.str (qv m.L)) (StF s M)=.ok ⟨sg (qv m.L),[]⟩ (StF s M):=rfl
   show FoR n P m k s j M y5 F G (match inn (zm m k) (zc m k) e (qv m.L) M with
     | .more Y=>bfs (zm m k) (zc m k) (qv m.L) (r+1) (j+1) Y
     | .stop Y=>.stop Y
     | .over=>.over)
   revert sp Z
   cases hB:inn (zm m k) (zc m k) e (qv m.L) M with
   | more Y =>
    rintro⟨s1,s2,s3⟩ ⟨z6,z7,Z⟩
    have Z:qw (λ u=>chk (StF s M) u []) (turn (aa0 P (n+1)) (.one 6) fiB) (sg (qv m.L)) [some m.d,some (.int k),some (.ref s.length),some (.ref (s.length+1)),some (.ref (s.length+2)),some (.int (j:Int)),F,G] (StF s M)=_:=Z
    have et:turn (aa0 P (n+1)) (.one 5) foB (.int (j:Int)) [some m.d,some (.int k),some (.ref s.length),some (.ref (s.length+1)),some (.ref (s.length+2)),y5,F,G] (StF s M)=.ok (.next [some m.d,some (.int k),some (.ref s.length),some (.ref (s.length+1)),some (.ref (s.length+2)),some (.int (j:Int)),z6,z7]) (StF s Y):=by
     simp -implicitDefEqProofs only[foB]
     tbr_iter [turn,J,show((j:Int)=(M.length:Int))=False from eq_false (by omega),aU7,ixL,aR0 a0,al2 a0,sq,Z]
    have ih:=bL4 n hm (k:=k) (s:=s) r (j+1) Y (some (.int (j:Int))) z6 z7 (by omega) s1 s2
    have fc:∀ x,qw (λ u=>chk s u []) (turn (aa0 P (n+1)) (.one 5) foB) (qe ((j+1:Nat):Int) 300) [some m.d,some (.int k),some (.ref s.length),some (.ref (s.length+1)),some (.ref (s.length+2)),some (.int (j:Int)),z6,z7] (StF s Y)=x->qw (λ u=>chk s u []) (turn (aa0 P (n+1)) (.one 5) foB) (qe (j:Int) 300) [some m.d,some (.int k),some (.ref s.length),some (.ref (s.length+1)),some (.ref (s.length+2)),y5,F,G] (StF s M)=x:=λ x hx=>by
     rw[a1,zw (ok:=λ u=>chk s u []) rfl,et];exact hx
    show FoR n P m k s j M y5 F G (bfs (zm m k) (zc m k) (qv m.L) (r+1) (j+1) Y)
    revert ih
    generalize bfs (zm m k) (zc m k) (qv m.L) (r+1) (j+1) Y=B
    cases B with
    | more M2 =>
     rintro(⟨a,b,c,hh⟩|hh)
     ·exact .inl ⟨a,b,c,fc _ hh⟩
     ·exact .inr (fc _ hh)
    | stop M2=>intro hh;exact fc _ hh
    | over=>rintro⟨M2,hh⟩;exact⟨M2,fc _ hh⟩
   | stop Y =>
    rintro _ Z
    have Z:qw (λ u=>chk (StF s M) u []) (turn (aa0 P (n+1)) (.one 6) fiB) (sg (qv m.L)) [some m.d,some (.int k),some (.ref s.length),some (.ref (s.length+1)),some (.ref (s.length+2)),some (.int (j:Int)),F,G] (StF s M)=_:=Z
    have et:turn (aa0 P (n+1)) (.one 5) foB (.int (j:Int)) [some m.d,some (.int k),some (.ref s.length),some (.ref (s.length+1)),some (.ref (s.length+2)),y5,F,G] (StF s M)=.ok (.ret (.ref (s.length+1))) (StF s Y):=by
     simp -implicitDefEqProofs only[foB]
     tbr_iter [turn,J,show((j:Int)=(M.length:Int))=False from eq_false (by omega),aU7,ixL,aR0 a0,al2 a0,sq,Z]
    show qw _ _ _ _ _=_
    rw[a1,zw (ok:=λ u=>chk s u []) rfl,et]
    rfl
   | over =>
    rintro _ ⟨Y,Z⟩
    have Z:qw (λ u=>chk (StF s M) u []) (turn (aa0 P (n+1)) (.one 6) fiB) (sg (qv m.L)) [some m.d,some (.int k),some (.ref s.length),some (.ref (s.length+1)),some (.ref (s.length+2)),some (.int (j:Int)),F,G] (StF s M)=_:=Z
    have et:turn (aa0 P (n+1)) (.one 5) foB (.int (j:Int)) [some m.d,some (.int k),some (.ref s.length),some (.ref (s.length+1)),some (.ref (s.length+2)),y5,F,G] (StF s M)=.ok (.ret .non) (StF s Y):=by
     simp -implicitDefEqProofs only[foB]
     tbr_iter [turn,J,show((j:Int)=(M.length:Int))=False from eq_false (by omega),aU7,ixL,aR0 a0,al2 a0,sq,Z]
    refine⟨Y,?_⟩
    rw[a1,zw (ok:=λ u=>chk s u []) rfl,et]
    rfl
noncomputable def FdO (P:Pr)(n:Nat)(m:Mc)(k:Int)(s:Sto):Bres->Prop
 | .more M=>(aa0 P (n+2)).call "_law_found" [m.d,.int k] s=.ok (.ref s.length) (s++[.lst (WsD M)])
 | .stop M=>(aa0 P (n+2)).call "_law_found" [m.d,.int k] s=.ok (.ref s.length) (s++[.lst (WsD M)])
 | .over=>(aa0 P (n+2)).call "_law_found" [m.d,.int k] s=.ok .non s
theorem bh8 (n:Nat){m:Mc}(F:m.Ok){k:Int}(hk:0<=k)(s:Sto):FdO P n m k s (Bk m k):=by
 have Z:(aa0 P (n+2)).call "_law_found" [m.d,.int k] s=_:=zd ae2 (n:=n+1) rfl
 have G:=F.R1
 have Y:=F.R5
 have J:(D.tup (za (zu m))).keyT=true:=aK3 G Y (by unfold zu;simp)
 have f1:=ax4 (P:=P) n F s
 have go:=bL4 (P:=P) n F (k:=k) (s:=s) 300 0 [([],zu m)] none none none (by decide) (bX3 m k) (λ e he=>by rw[az.mp he];exact as6 hk)
 have hb:ae2.body=.cons (.asg (.one 2) (.lst (.cons (.call "_law_first" (.ex (.var 0) .nil)) .nil))) (.cons (.asg (.one 3) (.lst (.cons (.cst (.str [])) .nil))) (.cons (.asg (.one 4) (.dicU (.ix (.var 2) (.cst (.int 0))) (.cst (.bl true)))) (.cons (.for_ (.one 5) (.rng1 (.cst (.int 300))) foB) (.cons (.ret (.var 3)) .nil)))):=rfl
 rw[hb,show(cj some [m.d,.int k]++aq ae2.vs none)=[some m.d,some (.int k),none,none,none,none,none,none]from rfl]at Z
 have l1:(s++[O.lst [D.tup (za (zu m))]]).length=s.length+1:=by simp
 have l2:(s++[O.lst [D.tup (za (zu m))]]++[O.lst [D.str []]]).length=s.length+2:=by simp
 have i0:ixM (.ref s.length) (.int 0) (s++[O.lst [D.tup (za (zu m))]]++[O.lst [D.str []]]++[O.dit []])=.ok (.tup (za (zu m))) (s++[O.lst [D.tup (za (zu m))]]++[O.lst [D.str []]]++[O.dit []]):=ah4 (j:=0) (zq (zq bb4)) rfl
 have g1:(s++[O.lst [D.tup (za (zu m))]]++[O.lst [D.str []]]++[O.dit []])[s.length+2]?=some (.dit []):=by rw[<-l2];exact bb4
 have g2:(s++[O.lst [D.tup (za (zu m))]]++[O.lst [D.str []]]++[O.dit []]).set (s.length+2) (.dit [(.tup (za (zu m)),.bl true)])=StF s [([],zu m)]:=by
  rw[cf,cf,bE,if_neg (by omega),show s.length+2 - s.length=2 by omega];rfl
 have hr:∀ S,bb9 (.int 300) S=.ok ⟨qe 0 300,[]⟩ S:=λ S=>qG (by unfold W62;omega) (by unfold W62;omega)
 have main:∀ X,qw (λ u=>chk s u []) (turn (aa0 P (n+1)) (.one 5) foB) (qe ((0:Nat):Int) 300) [some m.d,some (.int k),some (.ref s.length),some (.ref (s.length+1)),some (.ref (s.length+2)),none,none,none] (StF s [([],zu m)])=X->(aa0 P (n+2)).call "_law_found" [m.d,.int k] s=(X.bind (nxt (aa0 P (n+1)) (.cons (.ret (.var 3)) .nil))).bind (fin s):=λ X hX=>by
  have hX:qw (λ u=>chk (StF s [([],zu m)]) u []) (turn (aa0 P (n+1)) (.one 5) foB) (qe 0 300) [some m.d,some (.int k),some (.ref s.length),some (.ref (s.length+1)),some (.ref (s.length+2)),none,none,none] (StF s [([],zu m)])=X:=hX
  rw[Z]
  tbr_iter [f1,l1,bp5,l2,i0,J,g1,true_and,g2,hr,hX]
 have ret:∀ M,zo s (.ref (s.length+1)) (StF s M)=.ok (.ref s.length) (s++[.lst (WsD M)]):=λ M=>by
  have:=qF (s:=s) (t:=[.lst (RsD M)]) (u:=[.dit (Sn (M.map (·.2)))]) (o:=.lst (WsD M)) (by
   unfold O.bnd
   refine zr (λ d hd n=>?_) _
   obtain⟨e,_,rfl⟩:=aP.mp hd
   rfl)
  exact this
 have nn:∀ M,zo s .non (StF s M)=.ok .non s:=λ M=>zT (λ _=>rfl) (by nofun)
 show FdO P n m k s (Bk m k)
 unfold Bk
 revert go
 generalize bfs (zm m k) (zc m k) (qv m.L) (300+1) 0 [([],zu m)]=B
 cases B with
 | more M =>
  rintro(⟨a,b,c,h⟩|h)
  ·show _=_
   rw[main _ h]
   tbr_iter []
   exact ret M
  ·show _=_
   rw[main _ h]
   tbr_iter []
   exact ret M
 | stop M =>
  intro h
  show _=_
  rw[main _ h]
  tbr_iter []
  exact ret M
 | over =>
  rintro⟨M,h⟩
  show _=_
  rw[main _ h]
  tbr_iter []
  exact nn M
end
theorem aC5 {P : Pr} [Has P ac8] [Has P ad4] [Has P ac0] (n : Nat) {s : Sto} {r : Nat} (hs : ∃ b, s[r]? = some (zX b)) : McR s r ((aa0 P (n + 3)).call "_law_machine" [.ref r] s) := by
  have e0 : (aa0 P (n + 3)).call "_law_machine" [.ref r] s = _ := zd ac0 (n := n + 2) rfl
  have hr := bl3 hs
  obtain⟨a, b1, ha, e1⟩ := qT (P := P) (n + 1) hs 3 (by decide) (by decide)
  obtain⟨c, b2, hc, e2⟩ := qT (P := P) (n + 1) (at6 (b := b1) hr) 5 (by decide) (by decide)
  rw[bW]at e2
  obtain⟨m1, b3, hm1, e3⟩ := qT (P := P) (n + 1) (at6 (b := b2) hr) 13 (by decide) (by decide)
  rw[bW]at e3
  obtain⟨m2, b4, hm2, e4⟩ := qT (P := P) (n + 1) (at6 (b := b3) hr) 8 (by decide) (by decide)
  rw[bW]at e4
  obtain⟨m3, b5, hm3, e5⟩ := qT (P := P) (n + 1) (at6 (b := b4) hr) 31 (by decide) (by decide)
  rw[bW]at e5
  rw[e0]
  simp -implicitDefEqProofs [ac0, e1, e2, e3, e4]
  obtain ⟨many, bb, hmany, hif⟩ : ∃ (many : Nat) (bb : Nat × Nat), many <= 75 /\ (if (m2 : Int) = 7 then
                      ((aa0 P (n + 2)).call "_law_take" [D.ref r, D.int 31] (List.set s r (zX b4))).bind λ d s =>
                        R.ok
                          (Ct.next [some (D.ref r), some (D.int (1 + ↑a)), some (D.int (1 + ↑c)), some d, none, none]) s
                    else
                      R.ok
                        (Ct.next
                          [some (D.ref r), some (D.int (1 + ↑a)), some (D.int (1 + ↑c)), some (D.int ↑m1), none, none])
                        (List.set s r (zX b4))) = .ok (.next [some (.ref r), some (.int (1 + a)), some (.int (1 + c)), some (.int many), none, none]) (s.set r (zX bb)) := by
    by_cases h7 : (m2 : Int) = 7
    · exact⟨m3, b5, by omega, by rw[if_pos h7, e5]; rfl⟩
    · exact⟨m1, b4, by omega, by rw[if_neg h7]⟩
  rw[hif]
  simp -implicitDefEqProofs
  rw[qG (by unfold W62; omega) (by unfold W62; omega)]
  simp only[R.bind_ok]
  refine aj4 (W := McR s r) (λ j ρ u => ∃(b : Nat × Nat) (l : List Dr) (x : Option D), (∀ d ∈ l, d.Ok ⟨a + 1, c + 1, [], [], []⟩) /\ l.length = j /\ ρ = [some (.ref r), some (.int (1 + a)), some (.int (1 + c)), some (.int many), some (.ref s.length), x] /\ u = s.set r (zX b) ++ [.lst (l.map Dr.d)]) ⟨bb, [], none, by simp, rfl, rfl, rfl⟩ (λ _ _ _ _ _ => rfl) ?_ ?_
  · rintro j d ρ u hj ⟨b, l, x, hl, hlen, rfl, rfl⟩
    obtain⟨hj2, rfl⟩ := ai5 hj
    obtain⟨k1, c1, hk1, f1⟩ := ar5 (P := P) (n + 1) (t := [.lst (l.map Dr.d)]) hr b (1 + c) (by omega) (aq1 (by omega))
    obtain⟨k2, c2, hk2, f2⟩ := ar5 (P := P) (n + 1) (t := [.lst (l.map Dr.d)]) hr c1 (1 + a) (by omega) (aq1 (by omega))
    obtain⟨k3, c3, hk3, f3⟩ := ar5 (P := P) (n + 1) (t := [.lst (l.map Dr.d)]) hr c2 (1 + c) (by omega) (aq1 (by omega))
    obtain⟨k4, c4, hk4, f4⟩ := ar5 (P := P) (n + 1) (t := [.lst (l.map Dr.d)]) hr c3 4 (by decide) (by decide)
    refine at4 (ρ := [some (.ref r), some (.int (1 + a)), some (.int (1 + c)), some (.int many), some (.ref s.length), some (.int j)]) (s := s.set r (zX c4) ++ [.lst ((l ++ [(⟨k1, 97 + k2, k3, k4⟩ : Dr)]).map Dr.d)]) ?_ ⟨c4, l ++ [(⟨k1, 97 + k2, k3, k4⟩ : Dr)], _, ?_, ?_, rfl, rfl⟩
    · simp -implicitDefEqProofs [turn, f1, f2, f3, f4, bR6 (show k2 < 3 by omega)]
      rw[bO3 (by unfold LIM; simp; omega)]
      rfl
    · intro d hd
      rcases aZ.mp hd with h|h
      · exact hl d h
      · rw[az.mp h]; constructor <;> simp only <;> omega
    · simp[hlen]
  · rintro ρ u ⟨b, l, x, hl, hlen, rfl, rfl⟩
    obtain⟨l1, c1, g1, f1⟩ := aJ0 (P := P) n (s := s.set r (zX b) ++ [.lst (l.map Dr.d)]) (r := r) ⟨b, zq (qg hr)⟩ (c + 1) (by omega)
    rw[ar4 (by rw[bj]; exact hr), bW]at f1
    obtain⟨l2, c2, g2, f2⟩ := aJ0 (P := P) n (s := s.set r (zX c1) ++ [.lst (l.map Dr.d)]) (r := r) ⟨c1, zq (qg hr)⟩ (c + 1) (by omega)
    rw[ar4 (by rw[bj]; exact hr), bW]at f2
    rw[show((c + 1 : Nat) : Int) = 1 + (c : Int)by omega]at f1 f2
    have hl3 : (s.set r (zX c2) ++ [O.lst (l.map Dr.d)])[s.length]? = some (.lst (l.map Dr.d)) := by rw[aB (by simp)]; simp
    have hll : l.length <= 75 := by
      rw[hlen]; simp[qe]; omega
    simp -implicitDefEqProofs [f1, f2, bm1, hl3, mk]
    refine⟨⟨a + 1, c + 1, l1, l2, l⟩, c2, ⟨by simp, by simp; omega, by simp, by simp; omega, g1, g2, λ x hx => ?_, hll⟩, ?_⟩
    · have := hl x hx
      exact⟨this.a, this.l, this.b, this.t⟩
    · rw[show((1 : Int) + (a : Int)) = ((a + 1 : Nat) : Int)by omega, show((1 : Int) + (c : Int)) = ((c + 1 : Nat) : Int)by omega]
      exact ak6 (bE2 ⟨a + 1, c + 1, l1, l2, l⟩) (by nofun) rfl
noncomputable def ab4:Tf:=⟨2,0,(.cons (.ret (.lst (.cons (.call "above" (.ex (.var 0) (.ex (.var 1) .nil))) .nil))) .nil),.call "above" (.ex (.var 0) (.ex (.var 1) .nil)), "TooMuch",0,.noe,.nil⟩
theorem aH1 {m:Mc}{k:Int}:∀(w:List Nat) (r:Rw),r.length=m.R->(w.foldl (zm m k) r).length=m.R
 | [],r,h=>h
 | x::w,r,_=>aH1 w (zm m k r x) (zJ ..)
theorem br8 (s:Sto):∀ n,eqv s n .non .non=some true
 | 0=>rfl
 | n+1=>rfl
theorem bA4 (s:Sto)(w:List Nat):∀ n,eqv s n (.str w) (.str w)=some true
 | 0=>by show some (w==w)=_;simp
 | n+1=>by show some (w==w)=_;simp
theorem bp0 {s:Sto}{a b:Nat}{l:List D}(ha:s[a]?=some (.lst l))(hb:s[b]?=some (.lst l))(h:eqL (eqv s 29) l l=some true):ql .ne (.ref a) (.ref b) s=.ok (.bl false) s:=by
 have e:eqv s DEEP (.ref a) (.ref b)=some true:=by
  show(match s[a]?,s[b]? with
   | some (.lst l),some (.lst m)=>if l.length=m.length then eqL (eqv s 29) l m else some false
   | _,_=>none)=_
  rw[ha,hb]
  show(if l.length=l.length then eqL (eqv s 29) l l else some false)=_
  rw[if_pos rfl,h]
 show(match eqv s DEEP (.ref a) (.ref b)with|some r=>R.ok (D.bl (!r)) s|none=>.bad)=_
 rw[e];rfl
section
variable {P:Pr} [Has P ab8] [Has P ac5] [Has P aa9] [Has P ab0] [Has P ab2] [Has P ab1] [Has P ag9] [Has P ab3] [Has P aa2] [Has P ai0] [Has P ab5] [Has P aa6] [HasC P "LETTERS" (.tup aS7)] [HasC P "MOST_ROWS" (.int 300)] [Has P aa4] [Has P aa3] [HasX P "meet_behind" aa5] [HasE P "TooMuch" []] [Has P ac1] [HasX P "rows_met" ac2] [Has P ad9] [HasX P "above" ae0] [HasT P "_law_above" ab4]
noncomputable def LaO (P:Pr)(n:Nat)(m:Mc)(k:Int)(s:Sto):Bres->Prop
 | .more M=>(aa0 P (n+7)).call "_law_above" [m.d,.int k] s=.ok (.ref s.length) (s++[.lst [.non]])
 | .stop M=>∃ A z,M=A++[z]/\(aa0 P (n+7)).call "_law_above" [m.d,.int k] s=.ok (.ref s.length) (s++[.lst [.str z.1]])
 | .over=>(aa0 P (n+7)).call "_law_above" [m.d,.int k] s=.ok (.ref s.length) (s++[.lst []])
theorem av0 (n:Nat){m:Mc}(hm:m.Ok){k:Int}(hk:0<=k)(s:Sto):LaO P n m k s (Bk m k):=by
 have Y:(aa0 P (n+7)).call "_law_above" [m.d,.int k] s=_:=bw5 ab4 (n:=n+6) rfl
 have ab:=bf6 (P:=P) n hm hk s
 have Z:ag2 (aa0 P (n+6)) (.ex (.var 0) (.ex (.var 1) .nil)) [some m.d,some (.int k)] s=.ok [m.d,.int k] s:=by tbr_iter []
 have xe:xB (aa0 P (n+6)) ab4.xb ([m.d,.int k].map some++aq ab4.vs none) s=(aa0 P (n+6)).xcall "above" [m.d,.int k] s:=by
  show xB (aa0 P (n+6)) (.call "above" _) [some m.d,some (.int k)] s=_
  exact aB4 Z
 have F:∀ d,(∀ n,d.bnd n=true)->(aa0 P (n+6)).call "above" [m.d,.int k] s=.ok d s->(aa0 P (n+6)).xcall "above" [m.d,.int k] s=none->(aa0 P (n+7)).call "_law_above" [m.d,.int k] s=.ok (.ref s.length) (s++[.lst [d]]):=λ d hd J G=>by
  rw[Y]
  unfold bj4
  rw[xe,G]
  show((exs (aa0 P (n+6)) (.cons (.ret (.lst (.cons (.call "above" (.ex (.var 0) (.ex (.var 1) .nil))) .nil))) .nil) [some m.d,some (.int k)] s).bind _)=_
  have eb:exs (aa0 P (n+6)) (.cons (.ret (.lst (.cons (.call "above" (.ex (.var 0) (.ex (.var 1) .nil))) .nil))) .nil) [some m.d,some (.int k)] s=.ok (.ret (.ref s.length)) (s++[.lst [d]]):=by
   tbr_iter [J]
  rw[eb]
  show zo s (.ref s.length) (s++[.lst [d]])=_
  have:=qF (s:=s) (t:=[]) (u:=[]) (o:=.lst [d]) (by show(D.bnd s.length d&&true)=true;rw[hd];rfl)
  exact this
 revert ab
 generalize Bk m k=B
 cases B with
 | more M=>rintro⟨J,G⟩;exact F .non (λ _=>rfl) J G
 | stop M=>rintro⟨⟨A,z,e,J⟩,G⟩;exact⟨A,z,e,F (.str z.1) (λ _=>rfl) J G⟩
 | over =>
  rintro⟨T,h⟩
  show _=_
  rw[Y]
  unfold bj4
  rw[xe,h]
  have hc:(aa0 P (n+6)).xc "TooMuch"=true:=by rw[(bJ3 (P:=P)).1];exact HasE.at_ (ts:=[])
  show(if "TooMuch"=ab4.c/\(aa0 P (n+6)).xc "TooMuch"=true/\ab4.h.ok (aa0 P (n+6)).xt=true then _ else _)=_
  rw[if_pos ⟨rfl,hc,rfl⟩]
  show zo s (.ref (s++T).length) ((s++T)++[.lst []])=_
  rw[aG,cf]
  exact qF (s:=s) (t:=T) (u:=[]) (o:=.lst []) rfl
theorem ca3 [Has P ab9][Has P av4][Has P ac8][Has P ad4][Has P ac0][Has P ae8][Has P ad2][Has P ad6][Has P as2][Has P ae2](n:Nat):ca4 P (n+8):=by
 intro ns hl
 have e0:(aa0 P (n+8)).call "law" [.ref 0] [.ro (ns.map D.int)]=_:=zd ab9 (n:=n+7) rfl
 rw[e0,show(cj some [D.ref 0]++aq ab9.vs none)=[some (D.ref 0),none,none,none,none,none,none,none,none]from rfl]
 simp -implicitDefEqProofs only[ab9]
 tbr_iter [qG (i:=2) (s:=[O.ro (ns.map D.int)]) (by decide) (by decide)]
 refine aj4 (W:=λ r=>Yes (r.bind (fin [O.ro (ns.map D.int)]))) (λ j ρ u=>u[0]?=some (.ro (ns.map D.int))/\∃ y1 y2 y3 y4 y5 y6 y7 y8,ρ=[some (D.ref 0),y1,y2,y3,y4,y5,y6,y7,y8]) ⟨rfl,_,_,_,_,_,_,_,_,rfl⟩ (λ _ _ _ _ _=>rfl) ?_ ?_
 ·rintro j d ρ u hj ⟨hu,y1,y2,y3,y4,y5,y6,y7,y8,rfl⟩
  obtain⟨_,rfl⟩:=ai5 hj
  rw[jn]
  have hb:=bG0 (P:=P) (n+6) ns j u 0 hu hl
  generalize bD2 ns j=b0 at hb
  obtain⟨m,b1,hm,em⟩:=aC5 (P:=P) (n+4) (s:=u++[zX b0]) (r:=u.length) ⟨b0,bb4⟩
  rw[bE,if_neg (by omega),cG]at em
  have em:(aa0 P (n+7)).call "_law_machine" [.ref u.length] (u++[zX b0])=.ok m.d (u++[zX b1]):=em
  have ek:=bf8 (P:=P) (n+5) b1 (u++[zX b1]) u.length bb4
  have b4:=bV8 b1
  rw[bE,if_neg (by omega),cG]at ek
  generalize b6:bd b1=kb at ek b4
  obtain⟨k,b2⟩:=kb
  have ek:(aa0 P (n+7)).call "_law_bound" [.ref u.length] (u++[zX b1])=.ok (.int (k:Int)) (u++[zX b2]):=ek
  generalize hS:u++[zX b2]=S at ek
  have a3:S[0]?=some (.ro (ns.map D.int)):=by rw[<-hS];exact zq hu
  have Y:=bh8 (P:=P) (n+5) hm (k:=(k:Int)) (by omega) S
  have F:=av0 (P:=P) n hm (k:=(k:Int)) (by omega)
  have bo:=bF9 m (k:=(k:Int)) (by omega)
  have f1:=ax4 (P:=P) (n+6) hm
  have a6:∀(M:List (List Nat×Rw)) (X:D),(∃ q,MOk (zm m k) (zc m k) m.R (zu m) q M)->(∀ A z,M=A++[z]->X=if zc m k z.2=true then .str z.1 else .non)->(aa0 P (n+7)).call "_law_found" [m.d,.int (k:Int)] S=.ok (.ref S.length) (S++[.lst (WsD M)])->(∀ s,(aa0 P (n+7)).call "_law_above" [m.d,.int (k:Int)] s=.ok (.ref s.length) (s++[.lst [X]])) ->
    Nx (λ ρ u=>u[0]?=some (.ro (ns.map D.int))/\∃ y1 y2 y3 y4 y5 y6 y7 y8,ρ=[some (D.ref 0),y1,y2,y3,y4,y5,y6,y7,y8]) (turn (aa0 P (n+7)) (.one 1) (.cons (.asg (.one 2) (.call "_law_bag" (.ex (.var 0) (.ex (.var 1) .nil)))) (.cons (.asg (.one 3) (.call "_law_machine" (.ex (.var 2) .nil))) (.cons (.asg (.one 4) (.call "_law_bound" (.ex (.var 2) .nil))) (.cons (.asg (.one 5) (.call "_law_found" (.ex (.var 3) (.ex (.var 4) .nil)))) (.cons (.asg (.one 6) (.lst .nil)) (.cons (.ite (.notN (.var 5)) (.cons (.asg (.one 7) (.call "_law_first" (.ex (.var 3) .nil))) (.cons (.for_ (.one 8) (.seq (.ix (.var 5) (.neg (.cst (.int 1))))) (.cons (.asg (.one 7) (.call "_law_led" (.ex (.var 3) (.ex (.var 4) (.ex (.var 7) (.ex (.var 8) .nil)))))) .nil)) (.cons (.asg (.one 6) (.lst (.cons (.cst .non) .nil))) (.cons (.ite (.cmp .eq (.call "_law_end" (.ex (.var 3) (.ex (.var 7) .nil))) (.bin .add (.var 4) (.cst (.int 1)))) (.cons (.asg (.one 6) (.lst (.cons (.ix (.var 5) (.neg (.cst (.int 1)))) .nil))) .nil) .nil) .nil)))) .nil) (.cons (.ite (.cmp .ne (.call "_law_above" (.ex (.var 3) (.ex (.var 4) .nil))) (.var 6)) (.cons (.ret (.cst (.bl false))) .nil) .nil) .nil))))))) (.int (j:Int)) [some (D.ref 0),y1,y2,y3,y4,y5,y6,y7,y8] u):=λ M X ⟨q,hM⟩ hX ef ela=>by
   obtain⟨A,z,a2⟩:=aE3 hM.pos
   have a5:z∈M:=by rw[a2];exact aJ _ (az.mpr rfl)
   have G:=hX A z a2
   generalize Z:S++[.lst (WsD M)]++[O.lst []]=S2
   have l1:(S++[O.lst (WsD M)]).length=S.length+1:=by simp
   have gw:S2[S.length]?=some (.lst (WsD M)):=by rw[<-Z];exact zq bb4
   have iw:∀ T,ixM (.ref S.length) (.int (-1)) (S2++T)=.ok (.str z.1) (S2++T):=λ T=>by
    refine aD4 (l:=WsD A) ?_
    rw[zq gw,a2]
    unfold WsD
    rw[bD];rfl
   have a0:=iw []
   rw[bq]at a0
   have sq:aX0 (.str z.1) S2=.ok ⟨sg z.1,[]⟩ S2:=rfl
   have key:=aB1 (ok:=λ v=>chk S2 v []) (g:=turn (aa0 P (n+7)) (.one 8) (.cons (.asg (.one 7) (.call "_law_led" (.ex (.var 3) (.ex (.var 4) (.ex (.var 7) (.ex (.var 8) .nil)))))) .nil))
    (λ i ρ v=>v=S2/\∃ z8,ρ=[some (D.ref 0),some (.int (j:Int)),some (.ref u.length),some m.d,some (.int (k:Int)),some (.ref S.length),some (.ref (S.length+1)),some (.tup (za ((z.1.take i).foldl (zm m k) (zu m)))),z8]) (sg z.1) 0
    [some (D.ref 0),some (.int (j:Int)),some (.ref u.length),some m.d,some (.int (k:Int)),some (.ref S.length),some (.ref (S.length+1)),some (.tup (za (zu m))),y8] S2 ⟨rfl,_,rfl⟩ (λ _ _ _ _ _=>rfl) (λ i d ρ v hi h=>by
     rw[d4]at h
     obtain⟨rfl,z8,rfl⟩:=h
     obtain⟨x,hx,rfl⟩:∃ x,z.1[i]?=some x/\d=.str [x]:=by
      unfold sg at hi
      rw[aF]at hi
      cases ee:z.1[i]? with
      | none=>rw[ee]at hi;cases hi
      | some x=>rw[ee]at hi;cases hi;exact⟨x,rfl,rfl⟩
     have a4:((z.1.take i).foldl (zm m k) (zu m)).length=m.R:=aH1 _ _ (by unfold zu;simp)
     have eL:=aY5 (P:=P) (n+6) hm a4 (k:Int) x v
     refine⟨_,_,.inl (?_:_=R.ok (Ct.next [some (D.ref 0),some (.int (j:Int)),some (.ref u.length),some m.d,some (.int (k:Int)),some (.ref S.length),some (.ref (S.length+1)),some (.tup (za (zm m k ((z.1.take i).foldl (zm m k) (zu m)) x))),some (.str [x])]) v),rfl,some (.str [x]),?_⟩
     ·tbr_iter [turn,eL]
     ·rw[show 0+i+1=i+1 by omega]
      have hlt:i<z.1.length:=(ag.mp hx).1
      have ee:z.1[i]=x:=(ag.mp hx).2
      rw[<-fY hlt,jo,ee];rfl)
   obtain⟨ρ',v',ei,rfl,z8,rfl⟩:=key
   have a1:(z.1.take (0+(sg z.1).length)).foldl (zm m k) (zu m)=z.2:=by
    rw[d4,show(sg z.1).length=z.1.length from aw ..,jF]
    exact(hM.fold z a5).symm
   rw[a1]at ei
   have eE:=aY8 (P:=P) (n+6) hm (hM.sh z a5) (v'++[.lst [.non]])
   have J:=aB6 (bb7 m z.2) ((k:Int)+1) (v'++[.lst [.non]])
   rw[show decide (bb7 m z.2=some ((k:Int)+1))=zc m k z.2 from rfl]at J
   have nl:∀(s:Sto),ql .ne (.ref (s++[O.lst [X]]).length) (.ref s.length) (s++[O.lst [X]]++[O.lst [X]])=.ok (.bl false) (s++[O.lst [X]]++[O.lst [X]]):=λ s=>by
    refine bp0 bb4 (zq bb4) ?_
    have:eqv (s++[O.lst [X]]++[O.lst [X]]) 29 X X=some true:=by
     rw[G]
     split
     ·exact bA4 _ _ _
     ·exact br8 _ _
    show(match eqv (s++[O.lst [X]]++[O.lst [X]]) 29 X X,eqL (eqv (s++[O.lst [X]]++[O.lst [X]]) 29) [] []with
     | some x,some y=>some (x&&y)
     | _,_=>none)=_
    rw[this];rfl
   have b3:v'[0]?=some (.ro (ns.map D.int)):=by rw[<-Z];exact zq (zq a3)
   cases hab:zc m k z.2 with
   | true =>
    rw[hab]at J
    rw[hab,if_pos rfl]at G
    subst G
    have nn:=nl (v'++[.lst [.non]])
    refine at4 (ρ:=[some (D.ref 0),some (.int (j:Int)),some (.ref u.length),some m.d,some (.int (k:Int)),some (.ref S.length),some (.ref (v'++[O.lst [D.non]]).length),some (.tup (za z.2)),z8]) (s:=v'++[.lst [.non]]++[.lst [.str z.1]]++[.lst [.str z.1]]) ?_ ⟨zq (zq (zq b3)),_,_,_,_,_,_,_,_,rfl⟩
    tbr_iter [turn,hb,em,ek,hS,ef,Z,l1,f1,ak5,a0,sq,ei,eE,J,iw,ela,nn,show(D.ref S.length=D.non)=False from eq_false (by nofun)]
   | false =>
    rw[hab]at J
    rw[hab,if_neg (by nofun)]at G
    subst G
    have nn:=nl v'
    refine at4 (ρ:=[some (D.ref 0),some (.int (j:Int)),some (.ref u.length),some m.d,some (.int (k:Int)),some (.ref S.length),some (.ref v'.length),some (.tup (za z.2)),z8]) (s:=v'++[.lst [.non]]++[.lst [.non]]) ?_ ⟨zq (zq b3),_,_,_,_,_,_,_,_,rfl⟩
    tbr_iter [turn,hb,em,ek,hS,ef,Z,l1,f1,ak5,a0,sq,ei,eE,J,ela,nn,show(D.ref S.length=D.non)=False from eq_false (by nofun)]
  have b5:∀ s,LaO P n m k s (Bk m k):=F
  revert Y b5 bo
  clear F
  generalize Bk m k=B
  cases B with
  | more M =>
   intro Y bo F
   exact a6 M .non bo.1 (λ A z e=>by rw[bo.2 z (by rw[e];exact aJ _ (az.mpr rfl)),if_neg (by nofun)]) Y F
  | stop M =>
   intro Y bo F
   obtain⟨hM,A,z,e,hab⟩:=bo
   refine a6 M (.str z.1) hM (λ A' z' e'=>?_) Y λ s=>?_
   ·rw[e]at e'
    have:=gI e' rfl
    injection this with this
    rw[<-this,hab,if_pos rfl]
   ·obtain⟨A',z',e',h⟩:=F s
    rw[e]at e'
    have:=gI e' rfl
    injection this with this
    rw[this];exact h
  | over =>
   intro Y bo F
   have Y:(aa0 P (n+7)).call "_law_found" [m.d,.int (k:Int)] S=.ok .non S:=Y
   have F:=F (S++[.lst []])
   have F:(aa0 P (n+7)).call "_law_above" [m.d,.int (k:Int)] (S++[.lst []])=.ok (.ref (S++[O.lst []]).length) (S++[.lst []]++[.lst []]):=F
   have nn:=bp0 (s:=S++[O.lst []]++[O.lst []]) (a:=(S++[O.lst []]).length) (b:=S.length) (l:=[]) bb4 (zq bb4) rfl
   refine at4 (ρ:=[some (D.ref 0),some (.int (j:Int)),some (.ref u.length),some m.d,some (.int (k:Int)),some .non,some (.ref S.length),y7,y8]) (s:=S++[.lst []]++[.lst []]) ?_ ⟨zq (zq a3),_,_,_,_,_,_,_,_,rfl⟩
   tbr_iter [turn,hb,em,ek,hS,Y,F,nn]
 ·rintro ρ u ⟨hu,y1,y2,y3,y4,y5,y6,y7,y8,rfl⟩
  tbr_iter []
  exact aT4 _ _
end
end DV
end
local macro_rules | `(tactic| walk_at "sc") => `(tactic| exact ⟨rfl, rfl, rfl, by decide +kernel, rfl, by decide +kernel, by decide +kernel⟩)
local macro_rules | `(tactic| walk_at "df") => `(tactic| (dsimp only; exact ⟨_, _, _, _, _, _, _, _, _, _, by k_is, by k_is, by k_is, by k_is⟩))
noncomputable section
namespace My
open PySem L2
noncomputable def top (i:Nat):Stmt:=PySem.Challenge.pw_leasttolls_k17_first_word_above.main.body.getD i (.Pass ⟨0,0,0,0⟩)
noncomputable def ad3:List Str:=[]
noncomputable abbrev s_letters_of:Stmt:=top 2
noncomputable abbrev an7:Stmt:=top 3
noncomputable abbrev al8:Stmt:=top 4
noncomputable abbrev ax9:Stmt:=top 5
noncomputable abbrev ap0:Stmt:=top 6
noncomputable abbrev aU0:Stmt:=top 8
noncomputable abbrev aS3:Stmt:=top 9
noncomputable abbrev bL3:Stmt:=top 11
noncomputable abbrev ak0:Stmt:=top 12
noncomputable abbrev ah7:Stmt:=top 13
noncomputable abbrev bT6:Stmt:=top 14
noncomputable abbrev aJ3:Stmt:=top 15
noncomputable abbrev ad1:Stmt:=top 21
noncomputable abbrev ah3:Stmt:=top 22
noncomputable abbrev ac4:Stmt:=top 23
noncomputable abbrev al9:Stmt:=top 24
noncomputable abbrev an2:Stmt:=top 26
noncomputable abbrev al7:Stmt:=top 27
noncomputable abbrev ah2:Stmt:=top 28
noncomputable abbrev ae7:Stmt:=top 29
noncomputable abbrev ah9:Stmt:=top 30
noncomputable abbrev ah5:Stmt:=top 31
noncomputable abbrev an4:Stmt:=top 32
noncomputable abbrev ao7:Stmt:=top 33
noncomputable abbrev ah8:Stmt:=top 34
noncomputable abbrev ae1:Stmt:=top 35
noncomputable abbrev aw8:Stmt:=top 36
noncomputable def tb:List (String×mq×Stmt):=[("letters_of",DV.aa6,s_letters_of),("rooms_of",DV.ab0,an7),("begins_of",DV.ab2,al8),("ends_of",DV.ab1,ax9),("doors_of",DV.aa9,ap0),("least",DV.ab8,aU0),("added",DV.ac5,aS3),("cut",DV.ag9,bL3),("first_row",DV.ab3,ak0),("least_into",DV.aa2,ah7),("led",DV.ai0,bT6),("end_of",DV.ab5,aJ3),("rows_met",DV.ac1,ad1),("ends_above",DV.aa4,ah3),("meet_behind",DV.aa3,ac4),("above",DV.ad9,al9),("_law_bag",DV.av4,an2),("_law_take",DV.ac8,al7),("_law_rooms",DV.ad4,ah2),("_law_machine",DV.ac0,ae7),("_law_bound",DV.ae8,ah9),("_law_first",DV.ad2,ah5),("_law_led",DV.ad6,an4),("_law_end",DV.as2,ao7),("_law_found",DV.ae2,ah8),("law",DV.ab9,aw8)]
noncomputable def ca7:List (String×kX):=[("LETTERS",.tup [.str [97],.str [98],.str [99]]),("MOST_ROWS",.int (300))]
noncomputable def ch2:List (String×mn):=[]
noncomputable def tbl:List (String×mq):=tb.map λ p=>(p.1,p.2.1)
noncomputable def xtb:List (String×DV.Xf):=[("meet_behind",DV.aa5),("rows_met",DV.ac2),("above",DV.ae0)]
noncomputable def ttb:List (String×DV.Tf):=[("_law_above",DV.ab4)]
noncomputable def dl:List (String×Stmt):=[("meet_behind",ac4),("rows_met",ad1),("above",al9),("_law_above",ae1)]
noncomputable def xcs:List String:=["TooMuch"]
noncomputable def xts:List String:=[]
noncomputable def P:lp:=⟨λ f=>tbl.lookup f,λ f=>ch2.lookup f,λ x=>ca7.lookup x,λ f=>xtb.lookup f,λ f=>ttb.lookup f,λ c=>xcs.contains c,λ c=>xts.contains c,λ _=>none⟩
instance:DV.HasX P "meet_behind" DV.aa5:=⟨rfl⟩
instance:DV.HasX P "rows_met" DV.ac2:=⟨rfl⟩
instance:DV.HasX P "above" DV.ae0:=⟨rfl⟩
instance:DV.HasT P "_law_above" DV.ab4:=⟨rfl,rfl⟩
instance:DV.HasE P "TooMuch" []:=⟨rfl,by decide⟩
instance:DV.HasC P "LETTERS" (.tup [.str [97],.str [98],.str [99]]):=⟨rfl⟩
instance:DV.HasC P "MOST_ROWS" (.int (300)):=⟨rfl⟩
instance:DV.Has P DV.aa6:=⟨rfl⟩
instance:DV.Has P DV.ab0:=⟨rfl⟩
instance:DV.Has P DV.ab2:=⟨rfl⟩
instance:DV.Has P DV.ab1:=⟨rfl⟩
instance:DV.Has P DV.aa9:=⟨rfl⟩
instance:DV.Has P DV.ab8:=⟨rfl⟩
instance:DV.Has P DV.ac5:=⟨rfl⟩
instance:DV.Has P DV.ag9:=⟨rfl⟩
instance:DV.Has P DV.ab3:=⟨rfl⟩
instance:DV.Has P DV.aa2:=⟨rfl⟩
instance:DV.Has P DV.ai0:=⟨rfl⟩
instance:DV.Has P DV.ab5:=⟨rfl⟩
instance:DV.Has P DV.ac1:=⟨rfl⟩
instance:DV.Has P DV.aa4:=⟨rfl⟩
instance:DV.Has P DV.aa3:=⟨rfl⟩
instance:DV.Has P DV.ad9:=⟨rfl⟩
instance:DV.Has P DV.av4:=⟨rfl⟩
instance:DV.Has P DV.ac8:=⟨rfl⟩
instance:DV.Has P DV.ad4:=⟨rfl⟩
instance:DV.Has P DV.ac0:=⟨rfl⟩
instance:DV.Has P DV.ae8:=⟨rfl⟩
instance:DV.Has P DV.ad2:=⟨rfl⟩
instance:DV.Has P DV.ad6:=⟨rfl⟩
instance:DV.Has P DV.as2:=⟨rfl⟩
instance:DV.Has P DV.ae2:=⟨rfl⟩
instance:DV.Has P DV.ab9:=⟨rfl⟩
theorem av6:DT ad3 P "letters_of" DV.aa6 s_letters_of:=⟨["machine"],["machine"],by walk_at "sc",rfl,rfl,λ _ _ _ _ _ _=>bd1 (λ _=>rfl),.inl (by decide +kernel)⟩
theorem aP7:DT ad3 P "rooms_of" DV.ab0 an7:=⟨["machine"],["machine"],by walk_at "sc",rfl,rfl,λ _ _ _ _ _ _=>bd1 (λ _=>rfl),.inl (by decide +kernel)⟩
theorem aD8:DT ad3 P "begins_of" DV.ab2 al8:=⟨["machine"],["machine"],by walk_at "sc",rfl,rfl,λ _ _ _ _ _ _=>bd1 (λ _=>rfl),.inl (by decide +kernel)⟩
theorem aX4:DT ad3 P "ends_of" DV.ab1 ax9:=⟨["machine"],["machine"],by walk_at "sc",rfl,rfl,λ _ _ _ _ _ _=>bd1 (λ _=>rfl),.inl (by decide +kernel)⟩
theorem aP6:DT ad3 P "doors_of" DV.aa9 ap0:=⟨["machine"],["machine"],by walk_at "sc",rfl,rfl,λ _ _ _ _ _ _=>bd1 (λ _=>rfl),.inl (by decide +kernel)⟩
theorem bA1:DT ad3 P "least" DV.ab8 aU0:=⟨["prices"],["prices"],by walk_at "sc",rfl,rfl,λ _ _ _ _ _ _=>bd1 (λ _=>rfl),.inl (by decide +kernel)⟩
theorem bx0:DT ad3 P "added" DV.ac5 aS3:=⟨["one", "other"],["one", "other"],by walk_at "sc",rfl,rfl,λ _ _ _ _ _ _=>bd2 (λ _ _=>rfl),.inl (by decide +kernel)⟩
theorem bZ7:DT ad3 P "cut" DV.ag9 bL3:=⟨["price", "k"],["price", "k"],by walk_at "sc",rfl,rfl,λ _ _ _ _ _ _=>bd2 (λ _ _=>rfl),.inl (by decide +kernel)⟩
theorem aB0:DT ad3 P "first_row" DV.ab3 ak0:=⟨["machine", "begins"],["machine"],by walk_at "sc",rfl,rfl,λ _ _ _ _ _ _=>bd1 (λ _=>rfl),.inl (by decide +kernel)⟩
theorem aw5:DT ad3 P "least_into" DV.aa2 ah7:=⟨["machine", "row", "letter", "room"],["machine", "row", "letter", "room"],by walk_at "sc",rfl,rfl,λ _ _ _ _ _ _=>bd4 (λ _ _ _ _=>rfl),.inl (by decide +kernel)⟩
theorem bW7:DT ad3 P "led" DV.ai0 bT6:=⟨["machine", "k", "row", "letter"],["machine", "k", "row", "letter"],by walk_at "sc",rfl,rfl,λ _ _ _ _ _ _=>bd4 (λ _ _ _ _=>rfl),.inl (by decide +kernel)⟩
theorem bg1:DT ad3 P "end_of" DV.ab5 aJ3:=⟨["machine", "row"],["machine", "row"],by walk_at "sc",rfl,rfl,λ _ _ _ _ _ _=>bd2 (λ _ _=>rfl),.inl (by decide +kernel)⟩
theorem aO1:DT ad3 P "rows_met" DV.ac1 ad1:=⟨["machine", "k", "first", "met", "seen", "at"],["machine", "k"],by walk_at "sc",rfl,rfl,λ _ _ _ _ _ _=>bd2 (λ _ _=>rfl),.inl (by decide +kernel)⟩
theorem ay9:DT ad3 P "ends_above" DV.aa4 ah3:=⟨["machine", "k", "row"],["machine", "k", "row"],by walk_at "sc",rfl,rfl,λ _ _ _ _ _ _=>bd3 (λ _ _ _=>rfl),.inl (by decide +kernel)⟩
theorem at0:DT ad3 P "meet_behind" DV.aa3 ac4:=⟨["machine", "k", "entry", "met", "seen", "letter", "row"],["machine", "k", "entry", "met", "seen"],by walk_at "sc",rfl,rfl,λ _ _ _ _ _ _=>bd5 (λ _ _ _ _ _=>rfl),.inl (by decide +kernel)⟩
theorem br1:DT ad3 P "above" DV.ad9 al9:=⟨["machine", "k", "last"],["machine", "k"],by walk_at "sc",rfl,rfl,λ _ _ _ _ _ _=>bd2 (λ _ _=>rfl),.inl (by decide +kernel)⟩
theorem aP0:DT ad3 P "_law_bag" DV.av4 an2:=⟨["_law_script", "_law_at", "_law_cell", "_law_mix", "_law_k"],["_law_script", "_law_at"],by walk_at "sc",rfl,rfl,λ _ _ _ _ _ _=>bd2 (λ _ _=>rfl),.inl (by decide +kernel)⟩
theorem aD3:DT ad3 P "_law_take" DV.ac8 al7:=⟨["_law_bag_here", "_law_many", "_law_digit", "_law_number", "_law_room"],["_law_bag_here", "_law_many"],by walk_at "sc",rfl,rfl,λ _ _ _ _ _ _=>bd2 (λ _ _=>rfl),.inl (by decide +kernel)⟩
theorem ay7:DT ad3 P "_law_rooms" DV.ad4 ah2:=⟨["_law_bag_here", "_law_many", "_law_bits"],["_law_bag_here", "_law_many"],by walk_at "sc",rfl,rfl,λ _ _ _ _ _ _=>bd2 (λ _ _=>rfl),.inl (by decide +kernel)⟩
theorem am7:DT ad3 P "_law_machine" DV.ac0 ae7:=⟨["_law_bag_here", "_law_letters", "_law_rooms_here", "_law_many", "_law_doors", "_law_k"],["_law_bag_here"],by walk_at "sc",rfl,rfl,λ _ _ _ _ _ _=>bd1 (λ _=>rfl),.inl (by decide +kernel)⟩
theorem au6:DT ad3 P "_law_bound" DV.ae8 ah9:=⟨["_law_bag_here"],["_law_bag_here"],by walk_at "sc",rfl,rfl,λ _ _ _ _ _ _=>bd1 (λ _=>rfl),.inl (by decide +kernel)⟩
theorem ay0:DT ad3 P "_law_first" DV.ad2 ah5:=⟨["_law_machine_here"],["_law_machine_here"],by walk_at "sc",rfl,rfl,λ _ _ _ _ _ _=>bd1 (λ _=>rfl),.inl (by decide +kernel)⟩
theorem aO0:DT ad3 P "_law_led" DV.ad6 an4:=⟨["_law_machine_here", "_law_k", "_law_row", "_law_letter", "_law_found_here", "_law_start", "_law_sign", "_law_goal", "_law_cost", "_law_come"],["_law_machine_here", "_law_k", "_law_row", "_law_letter"],by walk_at "sc",rfl,rfl,λ _ _ _ _ _ _=>bd4 (λ _ _ _ _=>rfl),.inl (by decide +kernel)⟩
theorem aN2:DT ad3 P "_law_end" DV.as2 ao7:=⟨["_law_machine_here", "_law_row"],["_law_machine_here", "_law_row"],by walk_at "sc",rfl,rfl,λ _ _ _ _ _ _=>bd2 (λ _ _=>rfl),.inl (by decide +kernel)⟩
theorem ax5:DT ad3 P "_law_found" DV.ae2 ah8:=⟨["_law_machine_here", "_law_k", "_law_rows", "_law_words", "_law_seen", "_law_at", "_law_letter", "_law_row"],["_law_machine_here", "_law_k"],by walk_at "sc",rfl,rfl,λ _ _ _ _ _ _=>bd2 (λ _ _=>rfl),.inl (by decide +kernel)⟩
theorem bn5:FnScope ["_law_script", "_law_at", "_law_bag_here", "_law_machine_here", "_law_k", "_law_words", "_law_due", "_law_row", "_law_sign"] ["_law_script"] (defScope aw8):=by walk_at "sc"
theorem bS3:mSs ⟨["_law_script", "_law_at", "_law_bag_here", "_law_machine_here", "_law_k", "_law_words", "_law_due", "_law_row", "_law_sign"],defScope aw8,λ _ _ _=>false⟩ DV.ab9.body (zt aw8)=true:=by decide +kernel
theorem bT8:cd6 "law" aw8 ["_law_script"]:=λ _ _ _ _ _ _=>bd1 λ _=>rfl
theorem bY6:DT ad3 P "law" DV.ab9 aw8:=⟨_,_,bn5,rfl,rfl,bT8,.inl bS3⟩
theorem ar3:DTB ad3 P "meet_behind" DV.aa5.ps DV.aa5.vs (λ h S=>mX h DV.aa5.body S) ac4:=⟨["machine", "k", "entry", "met", "seen", "letter", "row"],["machine", "k", "entry", "met", "seen"],by walk_at "sc",rfl,rfl,λ _ _ _ _ _ _=>bd5 (λ _ _ _ _ _=>rfl),.inl (by decide +kernel)⟩
theorem aN9:DTB ad3 P "rows_met" DV.ac2.ps DV.ac2.vs (λ h S=>mX h DV.ac2.body S) ad1:=⟨["machine", "k", "first", "met", "seen", "at"],["machine", "k"],by walk_at "sc",rfl,rfl,λ _ _ _ _ _ _=>bd2 (λ _ _=>rfl),.inl (by decide +kernel)⟩
theorem bA6:DTB ad3 P "above" DV.ae0.ps DV.ae0.vs (λ h S=>mX h DV.ae0.body S) al9:=⟨["machine", "k", "last"],["machine", "k"],by walk_at "sc",rfl,rfl,λ _ _ _ _ _ _=>bd2 (λ _ _=>rfl),.inl (by decide +kernel)⟩
theorem av2:DTB ad3 P "_law_above" DV.ab4.ps DV.ab4.vs (λ h S=>mT h DV.ab4 S) ae1:=⟨["_law_machine_here", "_law_k"],["_law_machine_here", "_law_k"],by walk_at "sc",rfl,rfl,λ _ _ _ _ _ _=>bd2 (λ _ _=>rfl),.inl (by decide +kernel)⟩
theorem bZ8:∀ p∈tb,DT ad3 P p.1 p.2.1 p.2.2:=by
 intro p h
 unfold tb at h
 simp only[aC,bP,or_false]at h
 rcases h with rfl|rfl|rfl|rfl|rfl|rfl|rfl|rfl|rfl|rfl|rfl|rfl|rfl|rfl|rfl|rfl|rfl|rfl|rfl|rfl|rfl|rfl|rfl|rfl|rfl|rfl
 ·exact av6
 ·exact aP7
 ·exact aD8
 ·exact aX4
 ·exact aP6
 ·exact bA1
 ·exact bx0
 ·exact bZ7
 ·exact aB0
 ·exact aw5
 ·exact bW7
 ·exact bg1
 ·exact aO1
 ·exact ay9
 ·exact at0
 ·exact br1
 ·exact aP0
 ·exact aD3
 ·exact ay7
 ·exact am7
 ·exact au6
 ·exact ay0
 ·exact aO0
 ·exact aN2
 ·exact ax5
 ·exact bY6
theorem bH7 {l:cS}{w:World}{K:ac}{h:Heap}{mg:Str->Option Value}{fa:Addr}(X:K.In h)(G:h.Ns bh mg)(a4:mg "law"=some (.ref fa))(hD:∀ p∈tb,bV4 K p.1 p.2.2)(hz:∀ x∈bNames,cr K bh x=some none)
  {B:Addr} {a1:Option Addr} {a3:Nat} {a2:Array (Option Value)} {Z a0 Y:Tok} (gc_LETTERS:cr K bh "LETTERS"=some (some (.ref B))) (gl_LETTERS:K.lookup B=some ⟨.type "tuple",a1,.seq #[.str ⟨#[97]⟩ Z,.str ⟨#[98]⟩ a0,.str ⟨#[99]⟩ Y] a3,a2⟩)
  {J:Tok} (gc_MOST_ROWS:cr K bh "MOST_ROWS"=some (some (.int (300) J)))
  (hT:∀ x∈ad3,(a8 K x).isSome=true) (tnd:decide (((bt1 ad3 K).map (·.1)).Nodup)=true) (hDx:∀ p∈dl,bV4 K p.1 p.2) (hcl:bz5 K xcs xts=true)
  : ∃ fd:bH,(∀(s:ae) (v:Value),jR s fd ⟨[v],[]⟩ [("_law_script",v)])/\∀ base:Heap,K.In base->base.Ns bh mg->BM mg base->bB8 K ad3 base->FnOk l.prog w K mg base CX0 40 fa fd ["_law_script"] (spB ad3 K):=by
 have hP:PrOk (bb5 ad3 P K) (bp7 ad3 K) P mg w:=by
  refine⟨λ f d h=>aI7 (tbl:=tbl) (λ p hp=>?_) f d h,λ x d h=>aV0 (tbl:=ca7) ?_ x d h,λ x hx=>PySem.W.mg_none_of X G (hz x hx),ca2 X G,cc8,of_decide_eq_true tnd,aB8 (tbl:=xtb) (λ p hp=>?_),aB8 (tbl:=ttb) (λ p hp=>?_),(aU2 X G hcl).1,(aU2 X G hcl).2.1,(aU2 X G hcl).2.2,λ _ _ h=>(by cases h)⟩
  ·obtain⟨r,hr,rfl⟩:=aP.mp hp
   exact good_of X G hT (hD r hr) (bZ8 r hr)
  ·intro p hp
   unfold ca7 at hp
   simp only[aC,bP,or_false]at hp
   rcases hp with rfl|rfl
   ·exact br4 (bQ X G gc_LETTERS) gl_LETTERS rfl rfl (show 3<=1000 by decide) (.cons (.str _ _ (by decide)) (.cons (.str _ _ (by decide)) (.cons (.str _ _ (by decide)) (.nil))))
   ·exact bt0 (bQ X G gc_MOST_ROWS)
  ·unfold xtb at hp
   simp only[aC,bP,or_false]at hp
   rcases hp with rfl|rfl|rfl
   ·exact af1 X G hT (hDx ("meet_behind",ac4) (by unfold dl;simp)) ar3
   ·exact af1 X G hT (hDx ("rows_met",ad1) (by unfold dl;simp)) aN9
   ·exact af1 X G hT (hDx ("above",al9) (by unfold dl;simp)) bA6
  ·unfold ttb at hp
   simp only[aC,bP,or_false]at hp
   subst hp
   ·exact af1 X G hT (hDx ("_law_above",ae1) (by unfold dl;simp)) av2
 obtain⟨f,od,an,sl,oc,kV,dc,pm,cd,ct,a,l0,c,k⟩:=hD ("law",DV.ab9,aw8) (by unfold tb;simp)
 have e:=a4.symm.trans (bQ X G a)
 cases e
 have F:=bn0 (st:=aw8) l0 c k
 refine⟨_,λ s v=>.of_eq rfl,λ base _ _ bm hk=>(bP6 hP (bn4 hT bm hk) 8 (bB6 hP (bn4 hT bm hk) 8) (d:=DV.ab9) (f := "law") rfl ⟨F,bQ X G a,F.binds bT8⟩ bn5 rfl rfl bS3 aR1).imp (λ vs H Q E q=>bO9 (λ ns h=>DV.ca3 (P:=P) 1 ns h) vs H Q E (be2 hT q))⟩
end My
end
open PySem PySem.W PyProof.Rows
set_option maxRecDepth 100000 in
set_option maxHeartbeats 0 in
theorem PySem.Challenge.cw_leasttolls_k17_first_word_above_holds : PySem.Challenge.rw_leasttolls_k17_first_word_above.Holds := by
 refine My.GT.2 ?_
 delta My.GT
 dsimp only
 k_fill
 refine L2.ba5 (l:=PySem.Challenge.rw_leasttolls_k17_first_word_above) (n:=63) (k:=40) (x := "_law_script") (sp:=L2.spB My.ad3) My.ad3 rfl (by decide) rfl ⟨rfl,by decide,by decide⟩ (ts:=[]) (λ w h Y=>⟨PySem.W.kIn_of Y,λ _ hP=>absurd hP (bP)⟩) (λ w=>?R) (λ w=>?NT) ?F (λ K H a ns hl hB hS hF=>L2.bJ5 hl hB hS hF)
 case R=>kernel_rfl
 case NT=>kernel_rfl
 case F =>
  intro w mg fa h KX G hmg
  refine' My.bH7 KX G hmg ?hD ?hz ?gc_LETTERS ?gl_LETTERS ?gc_MOST_ROWS ?hT ?tnd ?hDx ?hcl
  case hD =>
   intro p hp
   unfold My.tb at hp
   simp only[aC,bP,or_false]at hp
   rcases hp with rfl|rfl|rfl|rfl|rfl|rfl|rfl|rfl|rfl|rfl|rfl|rfl|rfl|rfl|rfl|rfl|rfl|rfl|rfl|rfl|rfl|rfl|rfl|rfl|rfl|rfl
   all_goals walk_at "df"
  case hz =>
   intro x hx
   unfold L2.bNames at hx
   simp only[aC,bP,or_false]at hx
   rcases hx with rfl|rfl|rfl|rfl|rfl|rfl|rfl|rfl|rfl|rfl|rfl|rfl|rfl|rfl|rfl|rfl|rfl|rfl<;>k_is
  (case gc_LETTERS=>k_is)
  (case gl_LETTERS=>k_is)
  (case gc_MOST_ROWS=>k_is)
  case hT =>
   intro x hx;cases hx
  (case tnd=>kernel_rfl)
  case hDx =>
   intro p hp
   unfold My.dl at hp
   simp only[aC,bP,or_false]at hp
   rcases hp with rfl|rfl|rfl|rfl
   all_goals walk_at "df"
  (case hcl=>kernel_rfl)
