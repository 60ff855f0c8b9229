import PyProof.Rows.All
import Wide.All
import OpenK.AllK
import Wide.FinOn
import PyProof.EqAt
import PyProof.EqKinds
import PyProof.TupleCall
import PyProof.MinMaxWalk
import PyProof.WalkInts
import PyProof.NeKinds
import PyProof.SliceStr2
import PyProof.StrBlockI
import PyProof.MaxThree
import PyProof.ZipIter
import PyProof.Draws
import PyProof.EnumMake
import PyProof.ListMulRoad
import PyProof.Rows.StrRev
import PyProof.DictItems
import PyProof.ListRange
import PyProof.AutoIntG2
import PyProof.FactsAll.int_6
import KE.KMinKey
import PyProof.Rows.TupDisplay
import KE.IntBitsLaws
import KE.KIntText
import PyProof.CallStr
import PyProof.StrBlockL
import PyProof.StrLawsChain
import PyProof.StrLawsTight
import PyProof.Rows.StrItems
import PySem.Challenge.RW_leasttolls_k58_dearer
set_option Elab.async false
set_option linter.all false
set_option maxRecDepth 100000
set_option maxHeartbeats 4000000
open List renaming getElem?_eq_some_iff->ac,getElem?_eq_getElem->ai,mem_cons_of_mem->ao,size_toArray->aq,replicate->au,mem_cons_self->aw,length_map->ay,getElem?_map->aA,getElem?_append_right->aF,length_append->aG,mem_cons->aH,length_cons->aI,getElem?_append_left->aJ,map_cons->aL,mem_map->aM,length_set->aP,range->aR,mem_of_getElem?->aS,all_eq_true->aU,getD_eq_getElem?_getD->aV,getElem?_set_ne->aW,lookup_cons->aX,mem_singleton->aY,append_nil->aZ,mem_append->a9,filterMap_cons->bh,getElem?_set_self->bj,mem_append_right->bn,append_assoc->br,length_take->bE,replicate_succ->bF,getElem?_eq_none->bG,mem_map_of_mem->bK,find?_cons->bM,map_map->bT,cons_append->bV,all_cons->bW,map_nil->bX,mem_iff_getElem->cf,length_eq_zero_iff->ci,flatMap_cons->cj,getElem?_range->cq,map->cr,mem_range->cz,mem_filterMap->cD,getElem?_toArray->cH,nil_append->cK,set_append->cL,flatten_cons->cN,not_mem_nil->cV,take_length->cW,filterMap_map->c0,foldl_cons->da,map_append->dg,length_singleton->dt,take_zero->dD,of_mem_zip->dL,reverse_cons->d4,take_of_length_le->d7,set_set->ed,set_getElem_self->eg,length_drop->eC,take_append_of_le_length->eU,mem_filter->eV,nodup_cons->eY,length_nil->fe,map_congr_left->fh,flatMap_append->fi,forIn_nil->fB,drop_zero->fF,drop_eq_getElem_cons->fJ,any_cons->f8,take_append_getElem->f9,getElem?_replicate->gf,filter_cons->gr,flatMap_nil->gu,range_succ_eq_map->gx,drop_eq_nil_of_le->gQ,getElem_cons_drop->gR,forIn_cons->gX,take_append_drop->hZ,mem_append_left->ik,filterMap->iw,getElem?_of_mem->iA,getD->iG,length_pos_iff->iP,getElem?_take->jc,find?_eq_none->jd,all_nil->ju,any_eq_true->jG,getElem_mem->jJ,foldl->j4,all_map->kt,length->kJ,lookup->kK,map_id->kN
open PySem.W renaming Frag->ae,tabIn->be,kia_one->bD,kitOne->bZ,keepIn->cE,CodeHd->cF,fnOf->cZ,envX->c5,OpenLaw->c8,mg_of->dm,findIn->dA,kla_fn->dC,nsIn->d9,codeIn->fy,methodObj->fK,fnX->fR,cellsFrom_some->gC,instObj->gT,lookIn->ip,tabObj->iz,kitx_tuple->i7,specialIn->jk,kitx_list->jl,kitx_dict->jm,plainGet->jC,codeHdIn->jH,takesIn->jO,TabsAt->j8,noTabs->j9,WalkO->kg,mroIn->km
open PySem renaming Shared->af,wpAny_bind->ag,wpAny_pure->ar,Program->aB,mem_of_lookup->aC,sizeLine->aE,cellsFrom->aK,Around->aN,bootBuiltins->bf,starEach->bq,wpAny_newObj_type->bw,mainGlobals->bz,FuncData->bL,wpAny_mono->bN,wpAny_truthy_bool->bO,binaryOp->bP,Arguments->bU,NameKind->cb,wpAny_call_entry->cw,assignEach->cC,wpAny_passesOwn->cJ,Paired->cR,wpAny_seqItems->cS,wpAny_callSpecial?_slot->cU,sysModules->cX,wpAny_Call_Name_kw->cY,wpAny_specialOf->c9,pushCells_keeps->db,compareOp->di,behindInMarks->dj,wpAny_holding->dk,wpAny_callSpecialIfBoundUnlessNone?_slot->dq,wpAny_pyIter_list->du,foldedSetIterable->dw,argBest->dE,IsTupleKey->dN,isTrue->dP,wpAny_field->dS,sliceBounds->dU,bindArgs->dZ,wpAny_tryCatch->d5,call_meets->eF,pushCells->eG,relabel->eN,callSpecialIfBoundUnlessNone?->eP,sizeLine_eq->eQ,backTo->eW,letOwnedTupleGo->eX,swapsWith->fq,typeIs_str->fA,newFunctionEnv->fC,wpAny_binaryOp_repeat_ref->fG,codeAny->fM,InCallC->fN,IsPart->fY,attributeBase->fZ,wpAny_comprehension_free->f6,plainId_quiet->f7,wpAny_forIn_list->gd,noFill_tuple_add->gg,wpAny_rule->gv,builtinsNs->gy,assign->gz,wpAny_pyNext_range_end->gA,wpAny_pyIter_rangeiter->gB,name_of_addr->gD,getItem->gE,wpAny_typeOf->gG,typeIs_int->gJ,codeAny_compStart_list->gM,wpAny_execs_nil->gW,codeAny_builtin->gY,wpAny_updateSeq->gZ,isSubtype_tuple_tuple->g9,wpAny_storeName_local->hC,wpAny_isTrue_Compare1->hE,codeAny_call_function->hG,wpAny_storeName_cell->il,IsRangeIter->io,wpAny_letGo->iu,strIterType->iy,storeName->iB,callerA->iC,seqItems?->iD,valueAt->iE,wpAny_standAt->iV,swappedStores->iW,seq_tuple_add->iX,wpAny_pyIter_tuple->i5,wpAny_pyIter_range->i6,eqIsQuiet_byValue->jf,holding->jg,wpAny_assign_Name->ji,codeAny_mono->jn,concat_meets->jo,wpAny_sequenceKey->jp,seqIndex_neg->jq,slot_list_getitem->jr,notedBy->js,beq_builtin_none->jy,eqIsQuiet->jz,wpAny_isInstance->jA,pyNext->jB,seqSlot_of->jI,seqIndex_of->jK,BindsTo->jT,Keyword->jU,call->jX,reduceHash->jY,wpAny_Name->jZ,Result->j0,PlainAttrs->j3,KeyKind->kj,Within->ku,pyIter->kx
open Bool renaming and_eq_true->ah,false_ne_true->aO,false_eq_true->bC,or_eq_true->bH,eq_iff_iff->dM,not_true->eM,and_true->eO,or_eq_false_iff->eS,not_eq_true'->fT,and_eq_true_iff->h9,true_and->iZ,false_or->kn
open Nat renaming le_refl->aj,le_trans->ak,lt_of_lt_of_le->ax,ne_of_lt->az,lt_irrefl->bp,zero_add->bv,zero_le->cu,pow_le_pow_right->cO,sub_self->c7,add_assoc->dh,le_succ->dB,lt_trichotomy->d8,lt_succ_self->eI,le_of_lt->fj,le_of_succ_le->fO,lt_succ_of_lt->fP,add_comm->gL,lt_trans->gN,lt_or_ge->gP,not_lt_zero->gS,ne_of_gt->jj,le_succ_of_le->jv,pow_succ->jw,le_of_not_lt->jF,mul_add->jM,mul_comm->kA,add_zero->kE
open PySem.Heap renaming get?_push_of_some->am,lt_size->aD,get?_push_size->aQ,get?_update_other->bI,size_push->bQ,get?_update_self->dr,SameBut->dY,ExtBut->jL
open Option.some renaming inj->av
open PyProof.Rows renaming slot_tuple_getitem->bo,callWith_type1->dv,kindOf->em,envOfC->fx,AllBare->fL,subscriptTail_builtinR->gH,entry_tuple_getitem->iL,Constant_none->iU,tupleItemsOf_->iY,args_tuple_getitem->i8,IntsAre->jV,tail_any->j1
open PySem.Builtin.Str renaming strSliceIndices->bu,occurrences->gm,strKind->iT,tooLong->ke
open PySem.Str renaming ofString->bA,length->j2
open PySem.Builtin.Tuple renaming tupleHashOf->bB,tupleItemsOf->cy,tupleExact->cP,tupleTooMany->fD,tupleIsExact->j6
open PySem.Builtin.SmallTypes renaming nextOf->bJ
open Option renaming map_eq_some_iff->bR,isSome_map->fS,isSome_iff_exists->fX,isSome_some->ja,getD_none->jE
open Int renaming toNat_natCast->bS,mul_le_mul_of_nonneg_left->eT,toNat_of_nonneg->fg,fdiv_eq_ediv_of_nonneg->fw,le_refl->fQ,one_mul->fU,ofNat_lt->jt,zero_add->jx,natCast_mul->jQ,le_antisymm->jR,ediv_one->kz,sub_zero->kC,le_total->kD
open False renaming elim->cn
open PySem.F renaming plain_min_loop->cx,slot_tuple_iterator_next->cG,slot_str_split->c6,slot_NoneType_hash->dz,args_tuple_add_2->dG,args_str_split_2->dI,slot_int_rmul->dQ,entry_tuple_add->dR,entry_str_split->dW,slot_tuple_hash->dX,slot_tuple_add->d3,slot_tuple_mul->d6,args_tuple_iterator_next_1->fc,entry_tuple_iterator_next->fo,slot_dict_getitem->fI,entry_min_loop->gh,slot_tuple_rmul->gi,plainAttrs_list->gk,slot_list_append->hJ,args_int_rmul_2->ir,slot_int_index->iM,entry_int_rmul->iO,fills_int_mul->i9,slot_tuple_eq->jN
open PySem.Builtin.Slice renaming slicePlaces->cI,sliceAdjust->dF,sliceApplied->fz,slicePartIndex->jP,sliceFields->ka
open Ne renaming symm->cM
open Array renaming length_toList->cQ,forIn_toList->ft,append_assoc->i4,toList->jh
open PySem.Builtin.Range renaming rangeSize->cT,small->iR,rangeFitsLong->jW
open PySem.Builtin.List renaming listTooLong->dH
open PySem.SeqAt.EqAt renaming same->dJ,of_refs->fu,none_tuple->g7,tuple_none->g8,int_tuple->ic,str_tuple->ie,tuple_int->ig,tuple_str->ii,none_int->iH,none_str->iI,int_none->iJ,str_none->iK,int_str->i0,str_int->i3
open PySem.Txt renaming split->eJ,slice->eZ
open PySem.Paired renaming length->eK,mono->kG,snoc->kM
open PySem.Around renaming under_plainId->eR,frames_deeper->iq
open PySem.Builtin.Builtins renaming bindParams->fm
open PySem.Calls renaming Name_function_global->fv,callWith_builtin->gK
open PySem.W.OpenLaw renaming wellSaid->fW
open Classical renaming propDecidable->gj
open PySem.Obj renaming mapSeq->gI,data_mapFields->jb
open PySem.SeqAt renaming EqAt->gO,RcNeAt->kB,RcAt->kQ
open PySem.Heap.SameBut renaming update->iQ
open PySem.SeqAt.RcAt renaming tuples->je
open PyProof.Rows.IsTup renaming new->jD
open PySem.PassesOwn renaming never->jS
open PySem.Walks renaming list->j5,range->kH
open PySem.Builtin renaming bitAnd->j7
open PySem.Value renaming isStrOf->kh,isInt->kF
open PySem.CmpOf renaming ints_lt->ko
open PySem.StrLaws renaming found_one->kq
open PySem.W.OpenRow renaming toRowW->kr
open PySem.IsRange renaming new->kI
open PySem.Heap.Ns renaming new->kL
open List.Pairwise renaming filter->kO
open PySem.Heap.IsSliceOf renaming new->kP
noncomputable section
namespace L2
open PySem PySem.Spec PyProof.Rows
theorem head_of {l:c8}{q:aB}{loose:List Str}{H:PySem.W.Hook}{N:Nat}{d:DefRec}{h:List (Str×Expr)}
  (left:PySem.W.LeftO l.row.prog q loose (fun s=>PySem.W.xlAt q [] s&&PySem.W.recOk (PySem.W.RowW.records (kr l.row)) s) H.obs H.val N)
  (z:PySem.W.defOf q l.row.name=some (d,h)) (hp:l.row.prog.theDef l.row.name=some (d.params,d.body,d.scope)) (hk:PySem.W.kwWritten? d.params.kwonlyargs d.params.kw_defaults=some h) (C:(!l.row.writes||l.row.records.isEmpty)=true)
  (k1:l.row.wellSaid=true) (ok:(PySem.W.chainsOk q&&PySem.W.opensWell l.row.prog&&(PySem.W.frees l.row.toRowW&&l.row.within.isEmpty))=true) (hb:l.row.prog.bare) (hw:l.row.toRowW.promised)
  (call:kg q loose (PySem.W.XL q []) H.says l.row.toRowW d h fun f vs=>jX f vs):l.row.Holds :=
 PySem.W.holds_open left H.of H.keeps (fun s e=>PySem.W.xl_of s (h9.mp e).1) PySem.W.XL.keeps z hp hk (fun s e=>PySem.W.recFacts_of (h9.mp e).2) C k1 ok hb hw call
end L2
end
noncomputable section
namespace My
open PySem L2
noncomputable def nmS:Stmt->Bool
 | .Assign [.Name x _] _ _=>decide (x=("__name__":Str))
 | _=>false
noncomputable def vq:aB:={ PySem.Challenge.pw_leasttolls_k58_dearer with main:={ (PySem.Challenge.pw_leasttolls_k58_dearer).main with body:=(PySem.Challenge.pw_leasttolls_k58_dearer).main.body.filter fun s=>!nmS s } }
inductive IsL:c8->Prop|mk:IsL PySem.Challenge.rw_leasttolls_k58_dearer
theorem bK9 {l:c8}(h:IsL l):PySem.Challenge.rw_leasttolls_k58_dearer=l:=by cases h;rfl
noncomputable def lwp:{ l:c8 // IsL l }:=by
 refine⟨?p,?h⟩
 case h =>
  have e:PySem.Challenge.rw_leasttolls_k58_dearer=?p:=by
   conv=>lhs;reduce
  exact e▸IsL.mk
theorem ws1:fW lwp.1=true:=by k_qdec
theorem ws:fW PySem.Challenge.rw_leasttolls_k58_dearer=true:=by
 rw[bK9 lwp.2];exact ws1
end My
end
section
open PySem PySem.W PyProof.Rows
local macro_rules | `(tactic| o_head $H) => `(tactic| refine L2.head_of (q := My.vq) (loose := []) (H := $H) (N := 4000) (fun w => by kernel_rfl) (by rfl) (by rfl) (by rfl) rfl (by assumption) (by decide +kernel) ⟨rfl, rfl, rfl, rfl, rfl, by decide +kernel⟩ ?_ ?_)
set_option maxRecDepth 100000 in
set_option maxHeartbeats 0 in
noncomputable def My.GT:{ G:Prop // G->PySem.Challenge.rw_leasttolls_k58_dearer.Holds }:=by
 refine⟨?G,?h⟩
 case h =>
  intro g
  w_on;refine holds_law My.ws fun said=>?_;k_head;(focus w_witness2)
  exact g
end
noncomputable section
namespace L2
open PySem PySem.Spec PyProof.Rows
noncomputable abbrev Key:=Sum Int Str
noncomputable def aC2:Key->Value->Bool
 | .inl k,v=>kF k v
 | .inr x,v=>kh x v
noncomputable def ca9 (w:World):Key->Int
 | .inl k=>hashInt k
 | .inr x=>hashStr w x
theorem zf:∀ {k:Key} {v:Value},aC2 k v=true->(∃ i t,k=Sum.inl i/\v=Value.int i t)\/(∃ x t,k=Sum.inr x/\v=Value.str x t)
 | .inl i,v,h=>by
  obtain⟨t,e⟩:=Value.isInt_shape (k:=i) (v:=v) h
  exact .inl ⟨i,t,rfl,e⟩
 | .inr x,v,h=>by
  obtain⟨t,e⟩:=Value.isStrOf_shape (x:=x) (v:=v) h
  exact .inr ⟨x,t,rfl,e⟩
theorem aV4 (i:Int)(t:Tok):aC2 (.inl i) (.int i t)=true:=by simp[aC2,kF]
theorem aU3 (x:Str)(t:Tok):aC2 (.inr x) (.str x t)=true:=by simp[aC2,kh]
theorem bH9 (a b:Int):decide ((Sum.inl a:Key)=Sum.inl b)=(a==b):=by
 by_cases e:a=b
 ·subst e;simp
 ·have h:¬(Sum.inl a:Key)=Sum.inl b:=fun q=>e (Sum.inl.inj q)
  rw[decide_eq_false h]
  exact(beq_eq_false_iff_ne.mpr e).symm
theorem bD2 (a b:Str):decide ((Sum.inr a:Key)=Sum.inr b)=decide (a=b):=by
 by_cases e:a=b
 ·subst e;simp
 ·have h:¬(Sum.inr a:Key)=Sum.inr b:=fun q=>e (Sum.inr.inj q)
  rw[decide_eq_false h,decide_eq_false e]
theorem bM8 (a:Int)(b:Str):decide ((Sum.inl a:Key)=Sum.inr b)=false:=decide_eq_false (fun q=>nomatch q)
theorem bL6 (a:Str)(b:Int):decide ((Sum.inr a:Key)=Sum.inl b)=false:=decide_eq_false (fun q=>nomatch q)
noncomputable def zF (prog:aB)(w:World):kj prog w Key where
 is:=aC2
 hash:=ca9 w
 inj:=fun v a b ha hb=>by
  rcases zf ha with⟨i,t,rfl,rfl⟩|⟨x,t,rfl,rfl⟩
  ·rcases zf hb with⟨j,u,rfl,e⟩|⟨y,u,rfl,e⟩
   ·injection e with e1 _;rw[e1]
   ·exact nomatch e
  ·rcases zf hb with⟨j,u,rfl,e⟩|⟨y,u,rfl,e⟩
   ·exact nomatch e
   ·injection e with e1 _;rw[e1]
 byValue:=fun k v h=>by
  rcases zf h with⟨i,t,rfl,rfl⟩|⟨x,t,rfl,rfl⟩<;>rfl
 pyHash:=fun hv h=>by
  rcases zf hv with⟨i,t,rfl,rfl⟩|⟨x,t,rfl,rfl⟩
  ·exact wpAny_pyHash_int h
  ·exact wpAny_pyHash_str h
 eqBool:=fun hu hv h=>by
  rcases zf hu with⟨i,t,rfl,rfl⟩|⟨x,t,rfl,rfl⟩
  ·rcases zf hv with⟨j,u,rfl,rfl⟩|⟨y,u,rfl,rfl⟩
   ·rw[bH9]at h;exact wpAny_eqBool_int h
   ·rw[bM8]at h;exact i0 i t y u _ _ _ _ h
  ·rcases zf hv with⟨j,u,rfl,rfl⟩|⟨y,u,rfl,rfl⟩
   ·rw[bL6]at h;exact i3 x t j u _ _ _ _ h
   ·rw[bD2]at h;exact wpAny_eqBool_str h
 «strs»:=fun k x t v h=>by
  rcases zf h with⟨i,u,rfl,e⟩|⟨y,u,rfl,e⟩
  ·exact nomatch e
  ·injection e with e1 _
   subst e1
   cases v<;>rfl
theorem aB1 (prog:aB)(w:World)(i:Int)(t:Tok):(zF prog w).is (.inl i) (.int i t)=true:=aV4 i t
theorem aE0 (prog:aB)(w:World)(x:Str)(t:Tok):(zF prog w).is (.inr x) (.str x t)=true:=aU3 x t
noncomputable abbrev FK:=Option Key
noncomputable def fIs:FK->Value->Bool
 | none,v=>match v with|.none=>true|_=>false
 | some k,v=>aC2 k v
noncomputable def fH (w:World):FK->Int
 | none=>0xFCA86420
 | some k=>ca9 w k
theorem zL {v:Value}(h:fIs none v=true):v=.none:=by
 cases v with
 | none=>rfl
 | _=>exact nomatch h
theorem aY8 {P:aB}{w:World}{A:aN}{E:Value->af->Prop}{s:af}{Q:Int->af->Prop}(h:Q 0xFCA86420 { s with toks:=s.toks+1 }):wpAny (model P w) A (PySem.pyHash .none) Q E s:=by
 have hT:s.TypeIs .none "NoneType":=rfl
 unfold PySem.pyHash pyHashByItsType
 refine ag (wpAny_cRoomFor_byValue rfl ?_)
 refine ag (c9 hT dz.lookup ?_)
 show wpAny _ _ (if(some (Value.builtin "NoneType.__hash__")==some Value.none)=true then _ else _) Q E s
 rw[if_neg (by rw[jy];exact aO)]
 refine ag (c9 hT dz.lookup ?_)
 show wpAny _ _ (eP .none "__hash__" _ >>= _) Q E s
 refine ag (dq hT dz (cw dz hT F.entry_NoneType_hash
   (show wpAny _ _ (retInt 0xFCA86420) _ _ s from wpAny_ret_mkInt ?_) (F.args_NoneType_hash_1 _)))
 show wpAny _ _ (if _ then _ else _) Q E _
 rw[if_pos (by decide)]
 exact ar h
noncomputable def qh (prog:aB)(w:World):kj prog w FK where
 is:=fIs
 hash:=fH w
 inj:=fun v a b ha hb=>by
  cases a with
  | none =>
   cases zL ha
   cases b with
   | none=>rfl
   | some k=>rcases zf hb with⟨_,_,_,e⟩|⟨_,_,_,e⟩<;>exact nomatch e
  | some k =>
   cases b with
   | none=>cases zL hb;rcases zf ha with⟨_,_,_,e⟩|⟨_,_,_,e⟩<;>exact nomatch e
   | some j=>exact congrArg some ((zF prog w).inj v k j ha hb)
 byValue:=fun k v h=>by
  cases k with
  | none=>cases zL h;rfl
  | some k=>exact(zF prog w).byValue k v h
 pyHash:=fun {A E s k v Q} hv h=>by
  cases k with
  | none=>cases zL hv;exact aY8 h
  | some k=>exact(zF prog w).pyHash (k:=k) hv h
 eqBool:=fun {A E s a b u v Q} hu hv h=>by
  cases a with
  | none =>
   cases zL hu
   cases b with
   | none=>cases zL hv;exact dJ _ prog w E Q h
   | some k =>
    rcases zf hv with⟨i,t,rfl,rfl⟩|⟨x,t,rfl,rfl⟩
    ·exact iH i t _ _ _ _ h
    ·exact iI x t _ _ _ _ h
  | some k =>
   cases b with
   | none =>
    cases zL hv
    rcases zf hu with⟨i,t,rfl,rfl⟩|⟨x,t,rfl,rfl⟩
    ·exact iJ i t _ _ _ _ h
    ·exact iK x t _ _ _ _ h
   | some j =>
    refine(zF prog w).eqBool (a:=k) (b:=j) hu hv ?_
    have e:decide (k=j)=decide (some k=some j):=by simp
    rw[e];exact h
 «strs»:=fun k x t v h=>by
  cases k with
  | none=>exact nomatch zL h
  | some k=>exact(zF prog w).strs k x t v h
noncomputable abbrev NI:=Sum FK (List FK)
section
variable (P:aB) (w:World)
noncomputable def NIs (h:Heap):NI->Value->Prop
 | .inl f,v=>fIs f v=true
 | .inr l,v=>∃ b,v=.ref b/\dN (qh P w) h l b
def bi8 (h:Heap)(ks:List NI)(a:Addr):Prop:=∃ o its n,h.get? a=some o/\o.cls=.type "tuple"/\o.data=.seq its n/\cR (NIs P w h) ks its.toList
noncomputable def aB5:NI->Int
 | .inl f=>fH w f
 | .inr l=>tupleKeyHash (qh P w) l
noncomputable def aM7:NI->Nat
 | .inl f=>1
 | .inr l=>l.length+1
noncomputable def qv:List NI->Nat
 | []=>0
 | k::ks=>aM7 k+qv ks
end
section
variable {P:aB} {w:World} {h h':Heap}
theorem NIs.inj {x y:NI}{v:Value}(hx:NIs P w h x v)(hy:NIs P w h y v):x=y:=by
 cases x with
 | inl f =>
  cases y with
  | inl g=>exact congrArg Sum.inl ((qh P w).inj v f g hx hy)
  | inr l =>
   obtain⟨b,rfl,_⟩:=hy
   exact absurd ((qh P w).byValue f _ hx) (by nofun)
 | inr l =>
  obtain⟨b,rfl,hb⟩:=hx
  cases y with
  | inl g=>exact absurd ((qh P w).byValue g _ hy) (by nofun)
  | inr m =>
   obtain⟨c,e,hc⟩:=hy
   cases e
   exact congrArg Sum.inr (hb.inj hc)
theorem NIs.all_inj:∀ {x y:List NI} {vs:List Value},cR (NIs P w h) x vs->cR (NIs P w h) y vs->x=y
 | _,_,_,.nil,.nil=>rfl
 | _,_,_,.cons a p,.cons b q=>by rw[a.inj b,NIs.all_inj p q]
theorem bi8.inj {a:Addr}{x y:List NI}(hx:bi8 P w h x a)(hy:bi8 P w h y a):x=y:=by
 obtain⟨o,i,n,e,_,d,p⟩:=hx
 obtain⟨C,F,G,e',_,d',z⟩:=hy
 rw[e]at e';cases e'
 rw[d]at d';cases d'
 exact NIs.all_inj p z
theorem NIs.keep {x:NI}{v:Value}(k:∀ b l,dN (qh P w) h l b->dN (qh P w) h' l b)(hx:NIs P w h x v):NIs P w h' x v:=by
 cases x with
 | inl f=>exact hx
 | inr l=>obtain⟨b,e,p⟩:=hx;exact⟨b,e,k _ _ p⟩
theorem bu0 {A:aN}{E:Value->af->Prop}{s:af}{k:List NI}{a:Addr}{Q:Int->af->Prop}(hu:A.units+1<cLine)(hk:bi8 P w s.heap k a)
  (h:Q (jY (bB (k.map (aB5 P w)))) { s with toks:=s.toks+(qv k+1) }):wpAny (model P w) A (PySem.pyHash (.ref a)) Q E s:=by
 obtain⟨o,its,n,e,c,d,p⟩:=hk
 have hT:s.TypeIs (.ref a) "tuple":=⟨o,e,c⟩
 unfold PySem.pyHash pyHashByItsType
 refine ag (wpAny_cRoomFor (by omega) ?_)
 refine ag (c9 hT dX.lookup ?_)
 show wpAny _ _ (if(some (Value.builtin "tuple.__hash__")==some Value.none)=true then _ else _) Q E s
 rw[if_neg (by rw[jy];nofun)]
 refine ag (c9 hT dX.lookup ?_)
 show wpAny _ _ (eP (.ref a) "__hash__" _ >>= _) Q E s
 refine ag (dq hT dX (cw dX hT F.entry_tuple_hash ?_ (F.args_tuple_hash_1 _)))
 show wpAny _ _ (cy (.ref a) >>= _) _ _ s
 refine ag (wpAny_tupleItemsOf e d (ag ?_))
 rw[<-ft]
 refine gd _
  (fun rest (b:Array Int) s'=>∃ q r,k=q++r/\cR (NIs P w s.heap) r rest/\b.toList=q.map (aB5 P w)/\s'={ s with toks:=s.toks+qv q }) _ ?_ ?_ _ _ ⟨[],k,rfl,p,rfl,rfl⟩
 ·rintro x rest b s' ⟨q,r,rfl,pr,hb,rfl⟩
  cases pr with
  | @cons u _ r' _ h1 t =>
   have z:∀ q:List NI,qv (q++[u])=qv q+aM7 u:=fun q=>by
    induction q with
    | nil=>simp[qv]
    | cons c q ih=>rw[bV,qv,qv,ih];omega
   refine ag ?_
   cases u with
   | inl f =>
    refine(qh P w).pyHash (k:=f) h1 ?_
    first
     | exact ar ⟨q++[.inl f],r',by simp,t,by simp[hb];rfl,by rw[z];simp[aM7,dh]⟩
     | exact ag (ar (ar ⟨q++[.inl f],r',by simp,t,by simp[hb];rfl,by rw[z];simp[aM7,dh]⟩))
   | inr l =>
    obtain⟨G,rfl,C⟩:=h1
    refine wpAny_pyHash_tuple (knd:=qh P w) (ks:=l) (s:={ s with toks:=s.toks+qv q }) (show A.units+1<cLine from hu) C ?_
    first
     | exact ar ⟨q++[.inr l],r',by simp,t,by simp[hb];rfl,by rw[z];simp[aM7,dh]⟩
     | exact ag (ar (ar ⟨q++[.inr l],r',by simp,t,by simp[hb];rfl,by rw[z];simp[aM7,dh]⟩))
 ·rintro b s' ⟨q,r,rfl,pr,hb,rfl⟩
  cases pr
  rw[aZ]at h
  show wpAny _ _ (retInt (bB b.toList)) _ _ _
  rw[hb]
  refine wpAny_ret_mkInt ?_
  show wpAny _ _ (if(decide (-(2:Int)^63<=bB (q.map (aB5 P w)))&&decide (bB (q.map (aB5 P w))<2^63))=true then _ else _) Q E _
  unfold jY at h
  by_cases hr:(decide (-(2:Int)^63<=bB (q.map (aB5 P w)))&&decide (bB (q.map (aB5 P w))<2^63))=true
  ·rw[if_pos hr]at h ⊢
   exact ar (by simpa [dh]using h)
  ·rw[if_neg hr]at h ⊢
   exact ag (gv (ar (by simpa [dh]using h)))
theorem aH1 {l:List FK}{b:Addr}(x:dN (qh P w) h l b):∃ its,h.IsTuple b its:=let⟨o,its,n,e,c,d,_⟩:=x;⟨its,o,e,c,n,d⟩
theorem ItemsAre.cg {C:aB}{z:World}:∀ {l:List FK} {vs:List Value},ItemsAre (qh P w) l vs->ItemsAre (qh C z) l vs
 | _,_,.nil=>.nil
 | _,_,.cons h t=>.cons (show fIs _ _=true from h) (ItemsAre.cg t)
theorem dN.cg {z:aB}{C:World}{l:List FK}{b:Addr}:dN (qh P w) h l b->dN (qh z C) h l b:=fun⟨o,i,n,e,c,d,p⟩=>⟨o,i,n,e,c,d,ItemsAre.cg p⟩
theorem NIs.cg {z:aB}{C:World}{x:NI}{v:Value}(hx:NIs P w h x v):NIs z C h x v:=by
 cases x with
 | inl f=>exact hx
 | inr l=>obtain⟨b,e,p⟩:=hx;exact⟨b,e,dN.cg p⟩
theorem bX0 {A:aN}{s:af}{x y:NI}{u v:Value}(hu:A.units<cLine)(hx:NIs P w s.heap x u)(hy:NIs P w s.heap y v){E:Value->af->Prop}{Q:Bool->af->Prop}(h:Q (decide (x=y)) s):wpAny (model P w) A (PySem.eqBool u v) Q E s:=by
 cases x with
 | inl f =>
  cases y with
  | inl g =>
   refine(qh P w).eqBool (a:=f) (b:=g) hx hy ?_
   have e:decide (f=g)=decide ((Sum.inl f:NI)=Sum.inl g):=by simp
   rw[e];exact h
  | inr l =>
   obtain⟨b,rfl,hb⟩:=hy
   obtain⟨its,C⟩:=aH1 hb
   cases f with
   | none=>cases zL hx;exact g7 C hu _ _ _ _ h
   | some k =>
    rcases zf hx with⟨i,t,rfl,rfl⟩|⟨z,t,rfl,rfl⟩
    ·exact ic i t C hu _ _ _ _ h
    ·exact ie z t C hu _ _ _ _ h
 | inr l =>
  obtain⟨b,rfl,hb⟩:=hx
  cases y with
  | inl f =>
   obtain⟨its,C⟩:=aH1 hb
   cases f with
   | none=>cases zL hy;exact g8 C hu _ _ _ _ h
   | some k =>
    rcases zf hy with⟨i,t,rfl,rfl⟩|⟨z,t,rfl,rfl⟩
    ·exact ig i t C hu _ _ _ _ h
    ·exact ii z t C hu _ _ _ _ h
  | inr m =>
   obtain⟨c,rfl,hc⟩:=hy
   refine wpAny_eqBool_tuple hu hb hc ?_
   have e:decide (l=m)=decide ((Sum.inr l:NI)=Sum.inr m):=by simp
   rw[e];exact h
theorem aV7:∀(x y:List NI),((aR (min x.length y.length)).all (fun j=>decide (x[j]?=y[j]?))&&x.length==y.length)=decide (x=y)
 | [],[]=>rfl
 | [],_::_=>by simp
 | _::_,[]=>by simp
 | a::x,b::y=>by
  have h:=aV7 x y
  have hm:min (a::x).length (b::y).length=min x.length y.length+1:=by simp only[aI];omega
  rw[hm,gx,bW,kt]
  by_cases e:a=b
  ·subst e
   have:decide (a::x=a::y)=decide (x=y):=by simp
   rw[this,<-h]
   simp[Function.comp_def]
  ·have:decide ((a::x)[0]?=(b::y)[0]?)=false:=by simp[e]
   rw[this];simp[e]
theorem br5 {α β:Type}{F:α->β->Prop}:∀ {z:List α} {l₂:List β},cR F z l₂->∀(j:Nat) (h:j<l₂.length),∃ a,z[j]?=some a/\F a l₂[j]
 | _,_,.nil,j,h=>absurd h (gS _)
 | _,_,.cons r t,0,h=>⟨_,rfl,r⟩
 | _,_,.cons r t,j+1,h=>br5 t j (Nat.lt_of_succ_lt_succ h)
theorem bX3 {A:aN}{E:Value->af->Prop}{s:af}{x y:List NI}{a b:Addr}{Q:Bool->af->Prop}(hu:A.units+1<cLine)(hx:bi8 P w s.heap x a)(hy:bi8 P w s.heap y b)(h:Q (decide (x=y)) s) :
  wpAny (model P w) A (PySem.eqBool (.ref a) (.ref b)) Q E s:=by
 by_cases hab:a=b
 ·subst hab
  cases hx.inj hy
  rw[decide_eq_true rfl]at h
  exact dJ _ _ _ _ _ h
 ·obtain⟨o,i,n,e,c,d,p⟩:=hx
  obtain⟨o',Y,n',e',F,d',z⟩:=hy
  have l1:x.length=i.size:=eK p
  have C:y.length=Y.size:=eK z
  have key:=je (A:=A) (s:=s) (e:=fun j=>decide (x[j]?=y[j]?)) ⟨o,e,c,n,d⟩ ⟨o',e',F,n',d'⟩ (by omega) fun j h1 G prog Z E' Q' hq=>by
   obtain⟨u,J,q2⟩:=br5 p j (by rw[cQ];exact h1)
   obtain⟨v,r1,r2⟩:=br5 z j (by rw[cQ];exact G)
   refine bX0 (P:=prog) (w:=Z) (x:=u) (y:=v) (show A.units+1<cLine from hu) (NIs.cg (by simpa using q2)) (NIs.cg (by simpa using r2)) ?_
   rw[J,r1]at hq
   have e:decide (u=v)=decide (some u=some v):=by simp
   rw[e];exact hq
  rw[<-l1,<-C,aV7]at key
  exact fu hab key P w E Q h
theorem aN5 {A:aN}{E:Value->af->Prop}{s:af}{x:NI}{v:Value}{Q:Bool->af->Prop}(hx:NIs P w s.heap x v)(h:Q true s):wpAny (model P w) A (jz 7 v) Q E s:=by
 cases x with
 | inl f=>rw[jf _ ((qh P w).byValue f _ hx)];exact ar h
 | inr l =>
  obtain⟨b,rfl,o,its,n,e,c,d,p⟩:=hx
  have hT:s.TypeIs (.ref b) "tuple":=⟨o,e,c⟩
  unfold jz
  refine ag (c9 hT jN.lookup ?_)
  show wpAny _ _ (isInstance (.ref b) (.type "tuple") >>= _) _ _ s
  refine ag (jA hT g9 ?_)
  simp only[eM,bC,if_false]
  refine ag (cS e d (ag ?_))
  show wpAny _ _ (forIn its _ _) _ _ s
  rw[<-ft]
  refine gd _ (fun rest r s'=>r.1=none/\s'=s/\∀ v∈rest,carriedByValue v=true) _ ?_ ?_ _ _ ⟨rfl,rfl,p.byValue⟩
  ·rintro v rest r s' ⟨hr,rfl,al⟩
   rw[jf _ (al v aw)]
   refine ag (ar ?_)
   simp only[eM,bC,if_false]
   exact ar ⟨rfl,rfl,fun u q=>al u (ao _ q)⟩
  ·rintro⟨r1,r2⟩ s' ⟨hr,rfl,_⟩
   simp only at hr
   subst hr
   exact ar h
theorem bg7 {A:aN}{E:Value->af->Prop}{s:af}{k:List NI}{a:Addr}{Q:Bool->af->Prop}(hk:bi8 P w s.heap k a)(h:Q true s):wpAny (model P w) A (jz 8 (.ref a)) Q E s:=by
 obtain⟨o,its,n,e,c,d,p⟩:=hk
 have hT:s.TypeIs (.ref a) "tuple":=⟨o,e,c⟩
 unfold jz
 refine ag (c9 hT jN.lookup ?_)
 show wpAny _ _ (isInstance (.ref a) (.type "tuple") >>= _) _ _ s
 refine ag (jA hT g9 ?_)
 simp only[eM,bC,if_false]
 refine ag (cS e d (ag ?_))
 show wpAny _ _ (forIn its _ _) _ _ s
 rw[<-ft]
 refine gd _ (fun rest r s'=>r.1=none/\s'=s/\∃ ks,cR (NIs P w s.heap) ks rest) _ ?_ ?_ _ _ ⟨rfl,rfl,k,p⟩
 ·rintro v rest r s' ⟨hr,rfl,ks,al⟩
  cases al with
  | cons h1 t =>
   refine ag (aN5 h1 ?_)
   simp only[eM,bC,if_false]
   exact ar ⟨rfl,rfl,_,t⟩
 ·rintro⟨r1,r2⟩ s' ⟨hr,rfl,_⟩
  simp only at hr
  subst hr
  exact ar h
end
noncomputable def ao5 (P:aB)(w:World):HeapKind P w (List NI) where
 is:=bi8 P w
 hash:=fun k=>jY (bB (k.map (aB5 P w)))
 draws:=fun k=>qv k+1
 room:=fun A=>A.units+1<cLine
 inj:=fun hx hy=>hx.inj hy
 keeps:=fun {h h' k a d o es ep} x ho hd hs=>by
  obtain⟨o',i,n,e,c,q,p⟩:=x
  have ne:a≠d:=by
   rintro rfl
   rw[e]at ho;cases ho
   rw[hd]at q;cases q
  exact⟨o',i,n,(hs.2 a ne).trans e,c,q,kG (fun x v z=>NIs.keep (fun b l t=>t.keeps ho hd hs) z) p⟩
 pyHash:=fun hu hk h=>bu0 hu hk h
 eqBool:=fun hu hx hy h=>bX3 hu hx hy h
 quiet:=fun hk h=>bg7 hk h
inductive V where
 | non|bl (b:Bool)|int (i:Int)|str (x:Str)|byt (b:Array UInt8)|flt (b:UInt64)|ref (a:Addr)|ty (n:String)
 deriving DecidableEq
noncomputable def RelV:V->Value->Prop
 | .non,u=>u=Value.none
 | .bl b,u=>u=Value.bool b
 | .int i,u=>∃ t,u=Value.int i t
 | .str x,u=>∃ t,u=Value.str x t
 | .byt b,u=>∃ t,u=Value.bytes b t
 | .flt b,u=>∃ t,u=Value.float b t
 | .ref a,u=>u=Value.ref a
 | .ty n,u=>u=Value.type n
abbrev Vals:List V->List Value->Prop:=cR RelV
theorem Vals.length {h:List V}{us:List Value}(r:Vals h us):h.length=us.length:=eK r
theorem Vals.get:∀ {h:List V} {us:List Value} {i:Nat} {x:V},Vals h us->h[i]?=some x->∃ u,us[i]?=some u/\RelV x u
 | _,_,_,_,.nil,e=>by simp at e
 | _,_,0,_,.cons r _,e=>by simp at e;subst e;exact⟨_,rfl,r⟩
 | _,_,i+1,x,.cons _ t,e=>by
  obtain⟨u,C,z⟩:=Vals.get (i:=i) (x:=x) t (by simpa using e)
  exact⟨u,by simpa using C,z⟩
theorem Vals.set {x:V}{u:Value}(r:RelV x u):∀ {h:List V} {us:List Value} (i:Nat),Vals h us->Vals (h.set i x) (us.set i u)
 | _,_,_,.nil=>.nil
 | _,_,0,.cons _ t=>.cons r t
 | _,_,i+1,.cons q t=>.cons q (Vals.set r i t)
theorem Vals.append:∀ {h ys:List V} {us ws:List Value},Vals h us->Vals ys ws->Vals (h++ys) (us++ws)
 | _,_,_,_,.nil,s=>s
 | _,_,_,_,.cons r t,s=>.cons r (Vals.append t s)
theorem Vals.take:∀ {h:List V} {us:List Value} (n:Nat),Vals h us->Vals (h.take n) (us.take n)
 | _,_,0,_=>.nil
 | _,_,_+1,.nil=>.nil
 | _,_,n+1,.cons r t=>.cons r (Vals.take n t)
theorem Vals.drop:∀ {h:List V} {us:List Value} (n:Nat),Vals h us->Vals (h.drop n) (us.drop n)
 | _,_,0,r=>r
 | _,_,_+1,.nil=>.nil
 | _,_,n+1,.cons _ t=>Vals.drop n t
noncomputable def aL7:Option V->Option Value->Prop
 | some v,some u=>RelV v u
 | none,none=>True
 | _,_=>False
def KV {κ:Type}:List (κ×V)->List (κ×Value)->Prop:=cR fun(p:κ×V) (q:κ×Value)=>p.1=q.1/\RelV p.2 q.2
noncomputable def kV:Key->V
 | .inl i=>.int i
 | .inr x=>.str x
inductive HO where
 | lst (xs:List V)
 | tup (xs:List V)
 | dK (kvs:List (Key×V))|dT (kvs:List (List NI×V))
 | set (S:Int->Bool) (n:Nat)
 | ins (C dx:Addr) (fs:List (Str×V))
 | own (x:Addr)
 | xd (fs:List (Str×V))
 | met (f x:Addr)
 | rng (lo hi:Int)
 | frz (o:Obj) (u:HO)
 | tbl (ps:Array Value)
 | ext (φ:Heap->Prop)
noncomputable abbrev Hp:=Addr->Option HO
noncomputable def fV:FK->V
 | none=>.non
 | some k=>kV k
noncomputable def NAt (H:Hp):NI->V->Prop
 | .inl f,v=>v=fV f
 | .inr l,v=>∃ c,v=.ref c/\H c=some (.tup (l.map fV))
def NK (H:Hp)(k:List NI)(b:Addr):Prop:=∃ xs,H b=some (.tup xs)/\cR (NAt H) k xs
theorem NAt.mono {H H':Hp}{k:NI}{v:V}(C:∀ b z,H b=some (.tup z)->H' b=some (.tup z))(h:NAt H k v):NAt H' k v:=by
 cases k with
 | inl f=>exact h
 | inr l=>obtain⟨c,e,q⟩:=h;exact⟨c,e,C _ _ q⟩
theorem NK.mono {H H':Hp}{k:List NI}{b:Addr}(F:∀ b C,H b=some (.tup C)->H' b=some (.tup C))(h:NK H k b):NK H' k b:=let⟨C,e,p⟩:=h;⟨C,F _ _ e,kG (fun _ _ z=>z.mono F) p⟩
noncomputable def upd (H:Hp)(a:Addr)(o:HO):Hp:=fun b=>if b=a then some o else H b
theorem zv {H:Hp}{a:Addr}{o:HO}:upd H a o a=some o:=by unfold upd;rw[if_pos rfl]
theorem zm {H:Hp}{a b:Addr}{o:HO}(h:b≠a):upd H a o b=H b:=by unfold upd;rw[if_neg h]
theorem bI3 {H:Hp}{a b:Addr}{o u:HO}(h:H a=some o)(h':H b=some u)(d:o≠u):a≠b:=by
 intro e;subst e;rw[h]at h';exact d (av h')
theorem zr {H:Hp}{a b:Addr}{o:HO}(h:H a=some o)(h':H b=none):a≠b:=by
 intro e;subst e;rw[h]at h';cases h'
section
variable (P:aB) (w:World)
noncomputable def ab5 (H:Hp)(h:Heap)(a:Addr):HO->Prop
 | .lst xs=>xs.length<=aE/\∃(its:List Value) (n:Nat),Vals xs its/\h.get? a=some { cls:=.type "list",data:=.seq its.toArray n }
 | .tup xs=>xs.length<=aE/\∃ its:List Value,Vals xs its/\IsTup h a its.toArray
 | .dK kvs=>kvs.length<=aE/\(a==cX)=false/\∃ vs,KV kvs vs/\h.DictOf (zF P w) a vs
 | .dT kvs=>kvs.length<=aE/\(a==cX)=false/\∃ xs:List (List NI×Addr×Value),
   cR (fun(p:List NI×V) (q:List NI×Addr×Value)=>p.1=q.1/\NK H p.1 q.2.1/\RelV p.2 q.2.2) kvs xs /\
   ∃ o es ep,h.get? a=some o/\o.ExactDict/\o.data=.dict es ep/\es.toList=xs.map (entryOfKey (ao5 P w))/\(xs.map (·.1)).Nodup
 | .set S n=>h.SetOf (intKind P w) a S n
 | .ins C dx fs=>H dx=some (.own a)/\fs.length<=1000/\dx≠a/\h.get? a=some (gT C dx) /\
   ∃ mA,h.Ns1 dx mA/\(∀ f,aL7 (fs.lookup f) (mA f))/\ku mA (fs.map (·.1))
 | .own _=>∃ o,h.get? a=some o
 | .xd fs=>∃ mA,h.Ns1 a mA/\∀ f,aL7 (fs.lookup f) (mA f)
 | .rng lo hi=>∃ t u v,h.get? a=some { cls:=.type "range",data:=.fields #[.int lo t,.int hi u,.int 1 v] }
 | .frz o u=>h.get? a=some o/\ab5 H h a u
 | .tbl ps=>h.get? a=some { cls:=.none,data:=.fields ps }
 | .met f x=>h.get? a=some (fK (.ref f) (.ref x))
 | .ext φ=>φ h/\(∃ o,h.get? a=some o)/\∀ h1 h2:Heap,φ h1->(∀ o,h1.get? a=some o->h2.get? a=some o)->φ h2
def HOk (H:Hp)(h:Heap):Prop:=∀ a o,H a=some o->ab5 P w H h a o
end
section
variable {P:aB} {w:World} {H H':Hp} {h h':Heap} {a:Addr} {o:HO}
theorem ab5.lt (x:ab5 P w H h a o):a<h.objs.size:=by
 cases o with
 | lst xs=>obtain⟨_,_,_,_,e⟩:=x;exact aD e
 | tup xs=>obtain⟨_,_,_,p⟩:=x;exact p.lt
 | dK kvs=>obtain⟨_,_,_,_,o,_,_,e,_⟩:=x;exact aD e
 | dT kvs=>obtain⟨_,_,_,_,o,_,_,e,_⟩:=x;exact aD e
 | set S n=>obtain⟨o,_,_,_,e,_⟩:=x;exact aD e
 | ins C dx fs=>obtain⟨_,_,_,e,_⟩:=x;exact aD e
 | own y=>obtain⟨_,e⟩:=x;exact aD e
 | xd fs=>obtain⟨_,⟨_,_,_,e,_⟩,_⟩:=x;exact aD e
 | rng lo hi=>obtain⟨_,_,_,e⟩:=x;exact aD e
 | frz ob u=>obtain⟨e,_⟩:=x;exact aD e
 | tbl ps=>exact aD (show h.get? a=some _ from x)
 | met f y=>exact aD (show h.get? a=some _ from x)
 | ext φ=>obtain⟨_,⟨_,e⟩,_⟩:=x;exact aD e
theorem cR.mapP {α β:Type}{F G:α->β->Prop}:∀ {h:List α} {l₂:List β},cR F h l₂->(∀ a b,F a b->G a b)->cR G h l₂
 | _,_,.nil,_=>.nil
 | _,_,.cons r t,f=>.cons (f _ _ r) (cR.mapP t f)
theorem ab5.stay (x:ab5 P w H h a o)(k:∀ b u,(b=a\/H b=some (.own a))->h.get? b=some u->h'.get? b=some u)
  (ho:∀ b,H b=some (.own a)->H' b=some (.own a)) (J:∀ b F,H b=some (.tup F)->H' b=some (.tup F)):ab5 P w H' h' a o:=by
 induction o with
 | lst F=>obtain⟨z,its,n,r,e⟩:=x;exact⟨z,its,n,r,k _ _ (.inl rfl) e⟩
 | tup F=>obtain⟨z,its,r,ob,e,c⟩:=x;exact⟨z,its,r,ob,k _ _ (.inl rfl) e,c⟩
 | dK kvs=>obtain⟨z,y,vs,r,ob,es,ep,e,c⟩:=x;exact⟨z,y,vs,r,ob,es,ep,k _ _ (.inl rfl) e,c⟩
 | dT kvs =>
  obtain⟨z,y,F,r,ob,es,ep,e,c⟩:=x
  exact⟨z,y,F,cR.mapP r fun p q z=>⟨z.1,z.2.1.mono J,z.2.2⟩,ob,es,ep,k _ _ (.inl rfl) e,c⟩
 | set S n=>obtain⟨ob,es,ep,t,e,c⟩:=x;exact⟨ob,es,ep,t,k _ _ (.inl rfl) e,c⟩
 | ins C dx fs =>
  obtain⟨d,z,ne,e,G,⟨od,es,ep,e2,c⟩,r⟩:=x
  exact⟨ho _ d,z,ne,k _ _ (.inl rfl) e,G,⟨od,es,ep,k _ _ (.inr d) e2,c⟩,r⟩
 | own y=>obtain⟨ob,e⟩:=x;exact⟨ob,k _ _ (.inl rfl) e⟩
 | xd fs=>obtain⟨G,⟨od,es,ep,e,c⟩,r⟩:=x;exact⟨G,⟨od,es,ep,k _ _ (.inl rfl) e,c⟩,r⟩
 | rng lo hi=>obtain⟨t,u,v,e⟩:=x;exact⟨t,u,v,k _ _ (.inl rfl) e⟩
 | frz ob u ih=>obtain⟨e,q⟩:=x;exact⟨k _ _ (.inl rfl) e,ih q⟩
 | tbl ps =>
  have e:h.get? a=some { cls:=.none,data:=.fields ps }:=x
  show h'.get? a=some { cls:=.none,data:=.fields ps }
  exact k a _ (.inl rfl) e
 | met f y =>
  have e:h.get? a=some (fK (.ref f) (.ref y)):=x
  show h'.get? a=some (fK (.ref f) (.ref y))
  exact k a _ (.inl rfl) e
 | ext φ=>obtain⟨p,⟨o,e⟩,st⟩:=x;exact⟨st _ _ p fun o q=>k _ _ (.inl rfl) q,⟨o,k _ _ (.inl rfl) e⟩,st⟩
theorem HOk.lt (x:HOk P w H h)(e:H a=some o):a<h.objs.size:=(x a o e).lt
theorem HOk.fresh (x:HOk P w H h)(e:h.objs.size<=a):H a=none:=by
 cases q:H a with
 | none=>rfl
 | some u=>exact absurd (ax (x.lt q) e) (bp _)
theorem HOk.kept (x:HOk P w H h)(k:∀ b u,h.get? b=some u->h'.get? b=some u):HOk P w H h':=fun a o e =>
 (x a o e).stay (fun b u _ q=>k b u q) (fun _ q=>q) fun _ _ q=>q
theorem HOk.laid (x:HOk P w H h)(k:∀ b u,h.get? b=some u->h'.get? b=some u)(hp:h.objs.size<=a)(new:ab5 P w (upd H a o) h' a o):HOk P w (upd H a o) h':=fun b u e=>by
 have hn:=x.fresh hp
 by_cases hb:b=a
 ·subst hb;rw[zv]at e;cases e;exact new
 ·rw[zm hb]at e
  exact(x b u e).stay (fun c v _ q=>k c v q) (fun c q=>by rw[zm (zr q hn)];exact q) fun c z q=>by rw[zm (zr q hn)];exact q
end
def Rd (H:Hp)(a:Addr)(u:HO):Prop:=H a=some u\/∃ o,H a=some (.frz o u)
theorem Rd.ok {P:aB}{w:World}{H:Hp}{h:Heap}{a:Addr}{u:HO}(r:Rd H a u)(x:HOk P w H h):ab5 P w H h a u:=by
 rcases r with r|⟨o,r⟩
 ·exact x a u r
 ·obtain⟨_,q⟩:=x a _ r
  exact q
noncomputable def Mut:Option HO->Prop
 | some (.lst _)=>True
 | some (.dK _)=>True
 | some (.dT _)=>True
 | some (.set _ _)=>True
 | some (.ins _ _ _)=>True
 | some (.ext _)=>True
 | _=>False
section
variable {P:aB} {w:World} {H:Hp} {h h':Heap} {x e:Addr} {o':HO}
theorem HOk.write (ok:HOk P w H h)(mu:Mut (H x))(Z:e=x\/H e=some (.own x))(k:∀ b u,b≠e->h.get? b=some u->h'.get? b=some u)(J:∃ u,h'.get? e=some u)
  (new:ab5 P w (upd H x o') h' x o'):HOk P w (upd H x o') h':=fun b u q=>by
 have C:∀ c y,H c=some (.own y)->c≠x:=fun c y r z=>by subst z;rw[r]at mu;exact mu
 have F:∀ c G,H c=some (.tup G)->c≠x:=fun c G r z=>by subst z;rw[r]at mu;exact mu
 by_cases hb:b=x
 ·subst hb;rw[zv]at q;cases q;exact new
 ·rw[zm hb]at q
  by_cases hbe:b=e
  ·have Y:H b=some (.own x):=by
    rcases Z with z|z
    ·exact absurd (hbe.trans z) hb
    ·rw[hbe];exact z
   rw[q]at Y;cases Y
   obtain⟨v,hv⟩:=J
   exact⟨v,by rw[hbe];exact hv⟩
  ·refine(ok b u q).stay (fun c v hc r=>k c v ?_ r) (fun c r=>by rw[zm (C c b r)];exact r) fun c G r=>by rw[zm (F c G r)];exact r
   rcases hc with rfl|hc
   ·exact hbe
   ·rintro rfl
    rcases Z with z|z
    ·exact C c b hc z
    ·rw[hc]at z;cases z;exact hb rfl
end
structure Un (fs ex:List Addr)(H H':Hp)(h h':Heap):Prop where
 keep:∀ b o,h.get? b=some o->H b=none->b ∉ fs->b ∉ ex->h'.get? b=some o
 slot:∀ b o,h.get? b=some o->H b=none->b∈fs->b ∉ ex->∃ sl,h'.get? b=some { o with slots:=sl }
 free:∀ b o,h.get? b=some o->H b=none->b ∉ ex->H' b=none
 there:∀ b o,h.get? b=some o->b ∉ ex->∃ o',h'.get? b=some o'
 tups:∀ b xs,H b=some (.tup xs)->H' b=some (.tup xs)
 frzs:∀ b o u,H b=some (.frz o u)->H' b=some (.frz o u)
 tbls:∀ b ps,H b=some (.tbl ps)->∃ more,H' b=some (.tbl (ps++more))
section
variable {fs fs' ex ex':List Addr} {H H1 H2:Hp} {h h1 h2 h':Heap} {a x e:Addr} {o:HO}
theorem Un.any (u:Un fs ex H H1 h h1){b:Addr}{ob:Obj}(q:h.get? b=some ob)(n:H b=none)(hx:b ∉ ex):∃ sl,h1.get? b=some { ob with slots:=sl }:=by
 by_cases hb:b∈fs
 ·exact u.slot b ob q n hb hx
 ·exact⟨ob.slots,u.keep b ob q n hb hx⟩
theorem Un.kept (k:∀ b u,h.get? b=some u->h'.get? b=some u):Un fs ex H H h h' :=
 ⟨fun b ob q _ _ _=>k b ob q,fun b ob q _ _ _=>⟨ob.slots,k b ob q⟩,fun _ _ _ n _=>n,fun b ob q _=>⟨ob,k b ob q⟩,fun _ _ q=>q,fun _ _ _ q=>q,fun _ ps q=>⟨#[],by rw[q];simp⟩⟩
theorem Un.refl:Un fs ex H H h h:=Un.kept fun _ _ q=>q
theorem Un.laid (k:∀ b u,h.get? b=some u->h'.get? b=some u)(hp:h.objs.size<=a)(hn:H a=none):Un fs ex H (upd H a o) h h' where
 keep:=fun b u q _ _ _=>k b u q
 slot:=fun b u q _ _ _=>⟨u.slots,k b u q⟩
 free:=fun b u q n _=>by rw[zm (az (ax (aD q) hp))];exact n
 there:=fun b u q _=>⟨u,k b u q⟩
 tups:=fun b z q=>by rw[zm (zr q hn)];exact q
 frzs:=fun b u z q=>by rw[zm (zr q hn)];exact q
 tbls:=fun b ps q=>⟨#[],by rw[zm (zr q hn),q];simp⟩
theorem Un.write (mu:Mut (H x))(J:e=x\/H e=some (.own x))(k:∀ b u,b≠e->h.get? b=some u->h'.get? b=some u)(C:∃ u,h'.get? e=some u):Un fs ex H (upd H x o) h h':=by
 have hx:∀ b,H b=none->b≠x:=fun b n z=>by subst z;rw[n]at mu;exact mu
 have hb:∀ b,H b=none->b≠e:=fun b n z=>by
  subst z
  rcases J with r|r
  ·exact hx b n r
  ·rw[n]at r;cases r
 have hm:∀ b u,H b=some u->¬ Mut (some u)->b≠x:=fun b u q F z=>by subst z;rw[q]at mu;exact F mu
 refine⟨fun b u q n _ _=>k b u (hb b n) q,fun b u q n _ _=>⟨u.slots,k b u (hb b n) q⟩,fun b u q n _=>by rw[zm (hx b n)];exact n,fun b u q _=>?_,
  fun b G q=>by rw[zm (hm b _ q fun z=>z)];exact q,fun b u G q=>by rw[zm (hm b _ q fun z=>z)];exact q,fun b ps q=>⟨#[],by rw[zm (hm b _ q fun z=>z),q];simp⟩⟩
 by_cases hbe:b=e
 ·subst hbe;exact C
 ·exact⟨u,k b u hbe q⟩
end
noncomputable def trk (h:Heap)(H:Hp):List Addr:=(aR h.objs.size).filter fun a=>(H a).isSome
noncomputable def aZ3 (h:Heap)(H:Hp):Heap:=PySem.W.hideAll h (trk h H)
theorem aW2 (h:Heap)(H:Hp):(aZ3 h H).objs.size=h.objs.size:=PySem.W.hideAll_size _ _
theorem ai3 {h:Heap}{H:Hp}{b:Addr}{o:Obj}(e:h.get? b=some o)(n:H b=none):(aZ3 h H).get? b=some o :=
 PySem.W.hideAll_get _ e fun hm=>by
  have q:(H b).isSome=true:=(eV.mp hm).2
  rw[n]at q;simp at q
theorem bw0 {h:Heap}{H:Hp}{b:Addr}{o:Obj}(e:(aZ3 h H).get? b=some o):h.get? b=some o/\H b=none:=by
 have e':h.get? b=some o:=PySem.W.of_hideAll (trk h H) e
 refine⟨e',?_⟩
 cases q:H b with
 | none=>rfl
 | some x =>
  have hm:b∈trk h H:=eV.mpr ⟨cz.mpr (aD e'),by simp[q]⟩
  have z:(aZ3 h H).get? b=none:=PySem.W.hideAll_none (trk h H) hm
  rw[z]at e;cases e
noncomputable def bv2 (g h:Heap)(L:Addr):List (Addr×Obj):=(aR h.objs.size).filterMap fun a=>if a=L\/(g.get? a).isSome=true then none else(h.get? a).map fun o=>(a,o)
noncomputable def rest (g h:Heap)(L d:Addr):List (Addr×Obj):=(bv2 g h L).filter fun p=>decide (p.1≠d)
structure Mod (K:ae)(mg:Str->Option Value)(base:Heap):Prop where
 kin:K.In base
 glob:base.Ns bz mg
 blt:∃ mb,base.Ns gy mb/\∀ x:Str,x ≠ "__name__"->mb x=bf x
 nolimit:base.NoLimit
structure Cx where
 prog:aB
 w:World
 K:ae
 mg:Str->Option Value
 base:Heap
 A:aN
 N:List Str
 s₀:af
 H₀:Hp
 env:Env
 outer:List Env
 stack:List Env
 ex:List Addr
 fn:Str->Bool
 calm:Bool
 pn:List (Addr×Obj)
 xe:Value->af->Prop
noncomputable def frs (l:List Env):List Addr:=l.filterMap (·.frame)
noncomputable abbrev Cx.fs (X:Cx):List Addr:=frs X.outer
def Vis (sc:Scope)(x:Str):Prop:=sc.names.lookup x=some .local\/sc.names.lookup x=some .cell\/sc.names.lookup x=some .free
def Loc (sc:Scope)(x:Str):Prop:=sc.names.lookup x=some .local\/sc.names.lookup x=some .cell
def Look (env:Env)(h:Heap)(m:Str->Option Value)(x:Str)(u:Value):Prop :=
 (env.kindOf x=some .local/\m x=some u)\/((env.kindOf x=some .cell\/env.kindOf x=some .free)/\∃ c,env.cells.lookup x=some c/\h.IsCell c (some u))
structure Cx.Ok (X:Cx):Prop where
 mod:Mod X.K X.mg X.base
 kind:X.env.scope.kind=.function
 glob:X.env.globals=bz
 blt:X.env.builtins=gy
 above:X.s₀.heap.objs.size<=X.env.locals
 inj:∀ x y c,X.env.cells.lookup x=some c->X.env.cells.lookup y=some c->x=y
 has:∀ x,(X.env.kindOf x=some .cell\/X.env.kindOf x=some .free)->∃ c,X.env.cells.lookup x=some c
 cab:∀ x c,X.fn x=true->X.env.cells.lookup x=some c->X.s₀.heap.objs.size<=c
 hd:X.calm=true->X.A.handled=none
 frames:X.A.frames=some X.stack
 stk:X.stack=X.outer\/(X.stack=X.env::X.outer/\X.env.frame=some X.env.locals)
 exf:∀ b∈X.ex,b≠X.env.locals/\∀ x c,X.env.cells.lookup x=some c->c≠b
 bs:∀ b o,X.base.get? b=some o->X.s₀.heap.get? b=some o/\X.H₀ b=none
 bsz:X.base.objs.size<=X.s₀.heap.objs.size
 noex:∀ b o,X.base.get? b=some o->b ∉ X.ex
 exfs:∀ b∈X.ex,b ∉ X.fs
 funs:X.s₀.heap.FunFrames X.base X.outer
 frf:∀ b∈X.fs,X.H₀ b=none
structure Inv (X:Cx)(pins:List (Addr×Obj))(σ:List (Option V))(H:Hp)(s:af):Prop where
 ok:X.Ok
 os:s.os=X.s₀.os
 bare:fL s.gens
 base:Un X.fs X.ex X.H₀ H X.s₀.heap s.heap
 loc:∃ m,s.heap.Ns X.env.locals m/\∀(i:Nat) (x:Str) (v:V),X.N[i]?=some x->σ[i]?=some (some v)->Vis X.env.scope x->∃ u,RelV v u/\Look X.env s.heap m x u
 cell:∀ x c,X.env.cells.lookup x=some c->∃ v,s.heap.IsCell c v
 free:H X.env.locals=none
 freeC:∀ x c,X.env.cells.lookup x=some c->H c=none
 pin:∀ p∈X.pn++pins,s.heap.get? p.1=some p.2/\H p.1=none/\p.1≠X.env.locals/\p.1 ∉ X.fs/\∀ v,p.2.data≠.cell v
 hok:HOk X.prog X.w H s.heap
 len:σ.length=X.N.length
section
variable {X:Cx} {pins:List (Addr×Obj)} {σ:List (Option V)} {H H':Hp} {s:af} {h':Heap}
theorem Cx.Ok.nofr (ok:X.Ok){b:Addr}{o:Obj}(e:X.base.get? b=some o):b ∉ X.fs:=fun hb=>by
 have:=(ok.funs.mem hb).1
 rw[e]at this;cases this
theorem Inv.bs (I:Inv X pins σ H s):∀ b o,X.base.get? b=some o->s.heap.get? b=some o/\H b=none:=fun b o e =>
 ⟨I.base.keep b o (I.ok.bs b o e).1 (I.ok.bs b o e).2 (I.ok.nofr e) (I.ok.noex b o e),I.base.free b o (I.ok.bs b o e).1 (I.ok.bs b o e).2 (I.ok.noex b o e)⟩
theorem Inv.bk (I:Inv X pins σ H s):∀ b o,X.base.get? b=some o->s.heap.get? b=some o:=fun b o e=>(I.bs b o e).1
theorem Inv.mod (I:Inv X pins σ H s):Mod X.K X.mg X.base:=I.ok.mod
theorem Inv.kIn (I:Inv X pins σ H s):X.K.In s.heap:=I.ok.mod.kin.keeps I.bk
theorem Inv.nolimit (I:Inv X pins σ H s):s.heap.NoLimit:=I.ok.mod.nolimit.keeps I.bk
theorem Inv.lt (I:Inv X pins σ H s):X.env.locals<s.heap.objs.size:=let⟨_,hn,_⟩:=I.loc;hn.lt
theorem Inv.sz (I:Inv X pins σ H s):X.s₀.heap.objs.size<=s.heap.objs.size:=ak I.ok.above (fj I.lt)
theorem Inv.nofs (I:Inv X pins σ H s){a:Addr}(h:s.heap.objs.size<=a):a ∉ X.fs:=fun hb=>by
 obtain⟨_,o,ho,_⟩:=I.ok.funs.mem hb
 exact absurd (ax (aD ho) (ak I.sz h)) (bp _)
theorem Inv.cne (I:Inv X pins σ H s):∀ x c,X.env.cells.lookup x=some c->c≠X.env.locals:=fun x c e z=>by
 obtain⟨v,o,ho,hd⟩:=I.cell x c e
 obtain⟨m,⟨F,es,ep,h,C,_⟩,_⟩:=I.loc
 rw[z,h]at ho;cases ho;rw[C]at hd;cases hd
theorem Inv.funs (I:Inv X pins σ H s):s.heap.FunFrames X.base X.outer:=by
 have all:∀(l:List Env),(∀ b∈frs l,b∈X.fs)->X.s₀.heap.FunFrames X.base l->s.heap.FunFrames X.base l:=by
  intro l
  induction l with
  | nil=>intro _ _;trivial
  | cons env r ih =>
   intro hs hl
   obtain⟨hk,⟨L,o,hf,hn,ho,hd⟩,hr⟩:=hl
   have h:L∈X.fs:=hs L (by unfold frs;rw[bh,hf];exact aw)
   obtain⟨sl,e⟩:=I.base.slot L o ho (I.ok.frf L h) h fun z=>I.ok.exfs L z h
   exact⟨hk,⟨L,_,hf,hn,e,hd⟩,ih (fun b hb=>hs b (by unfold frs;rw[bh,hf];exact ao _ hb)) hr⟩
 exact all X.outer (fun _ hb=>hb) I.ok.funs
theorem Inv.stack (I:Inv X pins σ H s):s.heap.FunFrames X.base X.stack:=by
 rcases I.ok.stk with e|⟨e,hf⟩
 ·rw[e];exact I.funs
 ·rw[e]
  obtain⟨m,hn,_⟩:=I.loc
  refine .cons (by rw[I.ok.kind];decide) hf hn ?_ I.funs
  exact Heap.get?_none_of_le (ak I.ok.bsz I.ok.above)
theorem Inv.stkSub (I:Inv X pins σ H s):∀ b∈frs X.stack,b∈X.env.locals::X.fs:=fun b hb=>by
 rcases I.ok.stk with e|⟨e,hf⟩
 ·rw[e]at hb;exact ao _ hb
 ·rw[e]at hb
  unfold frs at hb
  rw[bh,hf]at hb
  exact hb
theorem Inv.stkFree (I:Inv X pins σ H s):∀ b∈frs X.stack,H b=none:=fun b hb=>by
 rcases aH.mp (I.stkSub b hb)with e|hb
 ·rw[e];exact I.free
 ·obtain⟨_,o,ho,_⟩:=I.ok.funs.mem hb
  exact I.base.free b o ho (I.ok.frf b hb) fun z=>I.ok.exfs b z hb
theorem Inv.step {g':Array GenState}{t':Nat}{d':Drawn}{ch:List Addr}(I:Inv X pins σ H s)
  (h:∀ b∈ch,(b∈X.ex\/X.s₀.heap.objs.size<=b)/\b≠X.env.locals/\(∀ x c,X.env.cells.lookup x=some c->c≠b)/\∀ p∈X.pn++pins,p.1≠b)
  (keep:∀ b o,b≠X.env.locals->b ∉ X.fs->b ∉ ch->s.heap.get? b=some o->H b=none->h'.get? b=some o)
  (slot:∀ b o,b≠X.env.locals->b∈X.fs->b ∉ ch->s.heap.get? b=some o->H b=none->∃ sl,h'.get? b=some { o with slots:=sl }) (free:∀ b o,b ∉ ch->s.heap.get? b=some o->H b=none->H' b=none)
  (there:∀ b o,b ∉ ch->s.heap.get? b=some o->∃ Z,h'.get? b=some Z)
  (tups:∀ b J,H b=some (.tup J)->H' b=some (.tup J)) (frzs:∀ b o u,H b=some (.frz o u)->H' b=some (.frz o u)) (tbls:∀ b ps,H b=some (.tbl ps)->∃ Y,H' b=some (.tbl (ps++Y)))
  (ns:∀ m,s.heap.Ns X.env.locals m->h'.Ns X.env.locals m) (hok:HOk X.prog X.w H' h') (hg:fL g') :
  Inv X pins σ H' { s with heap:=h',gens:=g',drawn:=d',toks:=t' }:=by
 have a0:∀ b o,X.s₀.heap.get? b=some o->b≠X.env.locals:=fun b o e=>az (ax (aD e) I.ok.above)
 have G:∀ b o,X.s₀.heap.get? b=some o->b ∉ X.ex->b ∉ ch:=fun b o e hx hb=>by
  rcases(h b hb).1 with z|z
  ·exact hx z
  ·exact absurd (ax (aD e) z) (bp _)
 have F:∀ x c,X.env.cells.lookup x=some c->∀ v,s.heap.IsCell c v->h'.IsCell c v:=fun x c e v ⟨o,ho,hd⟩=>by
  have C:c ∉ ch:=fun z=>(h c z).2.2.1 x c e rfl
  by_cases hc:c∈X.fs
  ·obtain⟨sl,q⟩:=slot c o (I.cne x c e) hc C ho (I.freeC x c e)
   exact⟨_,q,hd⟩
  ·exact⟨o,keep c o (I.cne x c e) hc C ho (I.freeC x c e),hd⟩
 refine⟨I.ok,I.os,hg,⟨fun b o e n hb hx=>?_,fun b o e n hb hx=>?_,fun b o e n hx=>?_,fun b o e hx=>?_,fun b J e=>tups b J (I.base.tups b J e),fun b o J e=>frzs b o J (I.base.frzs b o J e),fun b ps e=>?_⟩,?_,fun x c e=>?_,?_,fun x c e=>?_,fun p hp=>?_,hok,I.len⟩
 ·exact keep b o (a0 b o e) hb (G b o e hx) (I.base.keep b o e n hb hx) (I.base.free b o e n hx)
 ·obtain⟨sl,e1⟩:=I.base.slot b o e n hb hx
  obtain⟨a1,e2⟩:=slot b _ (a0 b o e) hb (G b o e hx) e1 (I.base.free b o e n hx)
  exact⟨a1,e2⟩
 ·obtain⟨Z,e1⟩:=I.base.there b o e hx
  exact free b Z (G b o e hx) e1 (I.base.free b o e n hx)
 ·obtain⟨Z,e1⟩:=I.base.there b o e hx
  exact there b Z (G b o e hx) e1
 ·obtain⟨m1,e1⟩:=I.base.tbls b ps e
  obtain⟨m2,e2⟩:=tbls b _ e1
  exact⟨m1++m2,by rw[e2,i4]⟩
 ·obtain⟨m,hn,hl⟩:=I.loc
  refine⟨m,ns m hn,fun i x v e1 e2 e3=>?_⟩
  obtain⟨u,r,l⟩:=hl i x v e1 e2 e3
  refine⟨u,r,?_⟩
  rcases l with l|⟨k,c,e,z⟩
  ·exact .inl l
  ·exact .inr ⟨k,c,e,F x c e _ z⟩
 ·obtain⟨v,z⟩:=I.cell x c e
  exact⟨v,F x c e v z⟩
 ·obtain⟨m,⟨o,_,_,ho,_⟩,_⟩:=I.loc
  exact free _ o (fun z=>(h _ z).2.1 rfl) ho I.free
 ·obtain⟨v,o,ho,hd⟩:=I.cell x c e
  exact free c o (fun z=>(h c z).2.2.1 x c e rfl) ho (I.freeC x c e)
 ·obtain⟨e,n,ne,nf,d⟩:=I.pin p hp
  have C:p.1 ∉ ch:=fun z=>(h p.1 z).2.2.2 p hp rfl
  exact⟨keep p.1 p.2 ne nf C e n,free p.1 p.2 C e n,ne,nf,d⟩
theorem Inv.un {t':Nat}(I:Inv X pins σ H s)(u:Un X.fs [] H H' s.heap h')(hok:HOk X.prog X.w H' h'):Inv X pins σ H' { s with heap:=h',toks:=t' }:=by
 obtain⟨m,⟨o,es,ep,ho,r⟩,_⟩:=id I.loc
 obtain⟨sl,G⟩:=u.any ho I.free (by simp)
 exact I.step (g':=s.gens) (d':=s.drawn) (ch:=[]) (fun _ z=>nomatch z) (fun b o _ hb _ e n=>u.keep b o e n hb (by simp)) (fun b o _ hb _ e n=>u.slot b o e n hb (by simp)) (fun b o _ e n=>u.free b o e n (by simp)) (fun b o _ e=>u.there b o e (by simp)) u.tups u.frzs u.tbls (fun m' hm=>by
  obtain⟨Y,F,C,h,J⟩:=hm
  rw[ho]at h;cases h
  exact⟨_,F,C,G,J⟩) hok I.bare
theorem Inv.call {g':Array GenState}{t':Nat}{d':Drawn}{ch:List Addr}(I:Inv X pins σ H s)(u:Un (frs X.stack) ch H H' s.heap h')(hok:HOk X.prog X.w H' h')(hg:fL g')
  (h:∀ b∈ch,(b∈X.ex\/X.s₀.heap.objs.size<=b)/\b≠X.env.locals/\(∀ x c,X.env.cells.lookup x=some c->c≠b)/\∀ p∈X.pn++pins,p.1≠b) :
  Inv X pins σ H' { s with heap:=h',gens:=g',drawn:=d',toks:=t' }:=by
 obtain⟨m,⟨o,es,ep,ho,r⟩,_⟩:=id I.loc
 obtain⟨sl,G⟩:=u.any ho I.free fun z=>(h _ z).2.1 rfl
 exact I.step (ch:=ch) h (fun b o G hb hc e n=>u.keep b o e n (fun z=>(aH.mp (I.stkSub b z)).elim G hb) hc) (fun b o _ _ hc e n=>u.any e n hc) (fun b o hc e n=>u.free b o e n hc) (fun b o hc e=>u.there b o e hc) u.tups u.frzs u.tbls (fun m' hm=>by
  obtain⟨Z,F,J,C,Y⟩:=hm
  rw[ho]at C;cases C
  exact⟨_,F,J,G,Y⟩) hok hg
theorem Inv.turned {t':Nat}{it:Addr}(I:Inv X pins σ H s)(k:∀ b o,b≠it->s.heap.get? b=some o->h'.get? b=some o)(hn:H it=none)(C:it≠X.env.locals)
  (G:it∈X.ex\/X.s₀.heap.objs.size<=it) (F:∀ x c,X.env.cells.lookup x=some c->c≠it) (h3:∀ p∈X.pn++pins,p.1≠it):Inv X pins σ H { s with heap:=h',toks:=t' }:=by
 have h:∀ b u,H b=some u->b≠it:=fun b u e z=>by rw[z,hn]at e;cases e
 refine I.step (g':=s.gens) (d':=s.drawn) (ch:=[it]) (fun b hb=>?_) (fun b o _ _ hc e _=>k b o (fun z=>hc (by simp[z])) e) (fun b o _ _ hc e _=>⟨o.slots,k b o (fun z=>hc (by simp[z])) e⟩) (fun _ _ _ _ n=>n)
  (fun b o hc e=>⟨o,k b o (fun z=>hc (by simp[z])) e⟩) (fun _ _ e=>e) (fun _ _ _ e=>e) (fun b ps e=>⟨#[],by rw[e];simp⟩) (fun m hm=>?_) (fun b u e=>?_) I.bare
 ·have e:b=it:=by simpa using hb
  subst e
  exact⟨G,C,F,h3⟩
 ·obtain⟨o,es,ep,ho,r⟩:=hm
  exact⟨o,es,ep,k _ o (cM C) ho,r⟩
 ·refine(I.hok b u e).stay (fun c v hc q=>k c v ?_ q) (fun _ q=>q) fun _ _ q=>q
  rcases hc with z|z
  ·rw[z];exact h b u e
  ·exact h c _ z
theorem Inv.tok (I:Inv X pins σ H s)(t:Nat):Inv X pins σ H { s with toks:=t }:=I.un (h':=s.heap) (t':=t) Un.refl I.hok
theorem Inv.kept {t':Nat}(I:Inv X pins σ H s)(k:∀ b u,s.heap.get? b=some u->h'.get? b=some u):Inv X pins σ H { s with heap:=h',toks:=t' }:=I.un (Un.kept k) (I.hok.kept k)
theorem Inv.laid {a:Addr}{o:HO}{t':Nat}(I:Inv X pins σ H s)(k:∀ b u,s.heap.get? b=some u->h'.get? b=some u)(hp:s.heap.objs.size<=a)(new:ab5 X.prog X.w (upd H a o) h' a o) :
  Inv X pins σ (upd H a o) { s with heap:=h',toks:=t' }:=I.un (Un.laid k hp (I.hok.fresh hp)) (I.hok.laid k hp new)
theorem Inv.write {x e:Addr}{o:HO}{t':Nat}(I:Inv X pins σ H s)(mu:Mut (H x))(z:e=x\/H e=some (.own x))(k:∀ b u,b≠e->s.heap.get? b=some u->h'.get? b=some u)(h:∃ u,h'.get? e=some u)
  (new:ab5 X.prog X.w (upd H x o) h' x o):Inv X pins σ (upd H x o) { s with heap:=h',toks:=t' }:=I.un (Un.write mu z k h) (I.hok.write mu z k h new)
theorem Inv.pins_of {C:List (Addr×Obj)}(I:Inv X pins σ H s)(h:∀ p∈C,s.heap.get? p.1=some p.2/\H p.1=none/\p.1≠X.env.locals/\p.1 ∉ X.fs/\∀ v,p.2.data≠.cell v):Inv X C σ H s :=
 ⟨I.ok,I.os,I.bare,I.base,I.loc,I.cell,I.free,I.freeC,fun p hp=>(a9.mp hp).elim (fun z=>I.pin p (ik _ z)) (h p),I.hok,I.len⟩
theorem aI0 {N:List Str}(hN:N.Nodup){i j:Nat}{x:Str}(a:N[i]?=some x)(b:N[j]?=some x):i=j:=by
 obtain⟨z,e1⟩:=ac.mp a
 obtain⟨h,e2⟩:=ac.mp b
 exact(List.getElem_inj hN).mp (e1.trans e2.symm)
theorem az4 {M:Model}{A:aN}{E:Value->af->Prop}{i:Nat}{x:Str}{v:V}{u:Value}{Q:Unit->af->Prop}(I:Inv X pins σ H s)(hN:X.N.Nodup)(Z:X.N[i]?=some x)(hx:Loc X.env.scope x)(r:RelV v u)
  (h:∀ s',Inv X pins (σ.set i (some v)) H s'->(∃ a,dY a s.heap s'.heap/\(a=X.env.locals\/X.env.cells.lookup x=some a))->Q () s') (hf:X.fn x=true\/X.env.scope.names.lookup x=some .local:=by first|exact .inl rfl|exact .inr rfl|assumption):wpAny M A (iB X.env x u) Q E s:=by
 obtain⟨m,hn,hl⟩:=id I.loc
 have J:(X.env.scope.kind==.class||(X.env.scope.kind==.module&&X.env.locals != X.env.globals))=false:=by rw[I.ok.kind];rfl
 have a1:i < σ.length:=by rw[I.len];exact(ac.mp Z).1
 have cne:=I.cne
 have C:∀ {a:Addr} {h':Heap},(∃ o,s.heap.get? a=some o/\H a=none)->dY a s.heap h'->HOk X.prog X.w H h':=fun {a h'} ha hs b ob e=>by
  obtain⟨_,_,F⟩:=ha
  refine(I.hok b ob e).stay (fun c w' hc q=>(hs.2 c ?_).trans q) (fun _ q=>q) fun _ _ q=>q
  rintro rfl
  rcases hc with rfl|hc
  ·rw[F]at e;cases e
  ·rw[F]at hc;cases hc
 rcases hx with hk|hk
 ·refine hC hk hn (fun h' a4 hs=>?_) J
  obtain⟨oL,_,_,a3,_⟩:=id hn
  refine h _ ⟨I.ok,I.os,I.bare,⟨fun b o e n hb hx=>?_,fun b o e n hb hx=>?_,I.base.free,fun b o e hx=>?_,I.base.tups,I.base.frzs,I.base.tbls⟩,⟨_,a4,fun j y v' e1 e2 e3=>?_⟩,fun y c e=>?_,I.free,I.freeC,fun p hp=>?_,C ⟨oL,a3,I.free⟩ hs,by simpa using I.len⟩ ⟨_,hs,.inl rfl⟩
  ·exact(hs.2 b (az (ax (aD e) I.ok.above))).trans (I.base.keep b o e n hb hx)
  ·obtain⟨sl,e1⟩:=I.base.slot b o e n hb hx
   exact⟨sl,(hs.2 b (az (ax (aD e) I.ok.above))).trans e1⟩
  ·obtain⟨o',e1⟩:=I.base.there b o e hx
   exact⟨o',(hs.2 b (az (ax (aD e) I.ok.above))).trans e1⟩
  ·by_cases hj:j=i
   ·subst hj
    rw[Z]at e1;cases e1
    rw[bj a1]at e2
    cases e2
    exact⟨u,r,.inl ⟨hk,by simp⟩⟩
   ·rw[aW (cM hj)]at e2
    obtain⟨u',r',q⟩:=hl j y v' e1 e2 e3
    refine⟨u',r',?_⟩
    rcases q with⟨k,e⟩|⟨k,c,e,z⟩
    ·refine .inl ⟨k,?_⟩
     have:y≠x:=fun e=>hj (aI0 hN e1 (e▸Z))
     simp[this,e]
    ·exact .inr ⟨k,c,e,z.sameBut hs (cne y c e)⟩
  ·obtain⟨w',z⟩:=I.cell y c e
   exact⟨w',z.sameBut hs (cne y c e)⟩
  ·obtain⟨e,n,ne,nf,d⟩:=I.pin p hp
   exact⟨(hs.2 p.1 ne).trans e,n,ne,nf,d⟩
 ·have G:X.fn x=true:=by
   rcases hf with z|z
   ·exact z
   ·rw[z]at hk;cases hk
  obtain⟨c,hc⟩:=I.ok.has x (.inl hk)
  obtain⟨w',z⟩:=I.cell x c hc
  refine il I.ok.kind hk hc z (fun h' Y hs=>?_)
  obtain⟨oc,a2,a0⟩:=id z
  refine h { s with heap:=h' } ⟨I.ok,I.os,I.bare,⟨fun b o e n hb hx=>?_,fun b o e n hb hx=>?_,I.base.free,fun b o e hx=>?_,I.base.tups,I.base.frzs,I.base.tbls⟩,⟨m,hn.sameBut hs (cM (cne x c hc)),fun j y v' e1 e2 e3=>?_⟩,fun y c' e=>?_,I.free,I.freeC,fun p hp=>?_,C ⟨oc,a2,I.freeC x c hc⟩ hs,by simpa using I.len⟩ ⟨c,hs,.inr hc⟩
  ·exact(hs.2 b (az (ax (aD e) (I.ok.cab x c G hc)))).trans (I.base.keep b o e n hb hx)
  ·obtain⟨sl,e1⟩:=I.base.slot b o e n hb hx
   exact⟨sl,(hs.2 b (az (ax (aD e) (I.ok.cab x c G hc)))).trans e1⟩
  ·obtain⟨o',e1⟩:=I.base.there b o e hx
   exact⟨o',(hs.2 b (az (ax (aD e) (I.ok.cab x c G hc)))).trans e1⟩
  ·by_cases hj:j=i
   ·subst hj
    rw[Z]at e1;cases e1
    rw[bj a1]at e2
    cases e2
    exact⟨u,r,.inr ⟨.inl hk,c,hc,Y⟩⟩
   ·rw[aW (cM hj)]at e2
    obtain⟨u',r',q⟩:=hl j y v' e1 e2 e3
    refine⟨u',r',?_⟩
    rcases q with q|⟨k,c',e,z'⟩
    ·exact .inl q
    ·refine .inr ⟨k,c',e,z'.sameBut hs ?_⟩
     rintro rfl
     exact hj (aI0 hN e1 (I.ok.inj _ _ _ e hc▸Z))
  ·by_cases hcc:c'=c
   ·subst hcc;exact⟨_,Y⟩
   ·obtain⟨w2,z2⟩:=I.cell y c' e
    exact⟨w2,z2.sameBut hs hcc⟩
  ·obtain⟨e,n,ne,nf,d⟩:=I.pin p hp
   refine⟨(hs.2 p.1 ?_).trans e,n,ne,nf,d⟩
   intro q
   rw[q,a2]at e
   have q':oc=p.2:=av e
   exact d w' (by rw[<-q'];exact a0)
theorem aF1 {M:Model}{A:aN}{E:Value->af->Prop}{i:Nat}{x:Str}{v:V}{u:Value}{Q:Unit->af->Prop}(I:Inv X pins σ H s)(hN:X.N.Nodup)(z:X.N[i]?=some x)(hx:Loc X.env.scope x)(r:RelV v u)
  (h:∀ s',Inv X pins (σ.set i (some v)) H s'->Q () s') (hf:X.fn x=true\/X.env.scope.names.lookup x=some .local:=by first|exact .inl rfl|exact .inr rfl|assumption):wpAny M A (iB X.env x u) Q E s :=
 az4 I hN z hx r (fun s' C _=>h s' C) hf
theorem Inv.call' {s':af}{ch:List Addr}(I:Inv X pins σ H s)(ho:s'.os=s.os)(u:Un (frs X.stack) ch H H' s.heap s'.heap)(hok:HOk X.prog X.w H' s'.heap)(hg:fL s'.gens)
  (h:∀ b∈ch,(b∈X.ex\/X.s₀.heap.objs.size<=b)/\b≠X.env.locals/\(∀ x c,X.env.cells.lookup x=some c->c≠b)/\∀ p∈X.pn++pins,p.1≠b):Inv X pins σ H' s':=by
 obtain⟨h',g',d',t',z⟩:=s'
 have e:z=s.os:=ho
 subst e
 exact I.call (g':=g') (t':=t') (d':=d') u hok hg h
end
abbrev XK:=Value->Option Addr->Hp->Prop
noncomputable abbrev St:=List (Option V)
abbrev VK:=V->Hp->Prop
abbrev TE:=St->Hp->VK->Prop
abbrev TT:=St->Hp->(Bool->Hp->Prop)->Prop
abbrev TA:=St->Hp->(List V->Hp->Prop)->Prop
structure Ends where
 nx:St->Hp->Prop
 rt:VK
 bk:St->Hp->Prop:=fun _ _=>False
 ct:St->Hp->Prop:=fun _ _=>False
abbrev TS:=Ends->St->Hp->Prop
def EP (X:Cx)(pins:List (Addr×Obj))(σ:St)(Q:VK)(u:Value)(s':af):Prop:=∃ v H',Inv X pins σ H' s'/\RelV v u/\Q v H'
def TP (X:Cx)(pins:List (Addr×Obj))(σ:St)(Q:Bool->Hp->Prop)(b:Bool)(s':af):Prop:=∃ H',Inv X pins σ H' s'/\Q b H'
def AP (X:Cx)(pins:List (Addr×Obj))(σ:St)(Q:List V->Hp->Prop)(us:List Value)(s':af):Prop:=∃ vs H',Inv X pins σ H' s'/\Vals vs us/\Q vs H'
def SP (X:Cx)(pins:List (Addr×Obj))(D:Ends)(f:Flow)(s':af):Prop :=
 match f with
 | .next=>∃ σ' H',Inv X pins σ' H' s'/\D.nx σ' H'
 | .brk=>∃ σ' H',Inv X pins σ' H' s'/\D.bk σ' H'
 | .cont=>∃ σ' H',Inv X pins σ' H' s'/\D.ct σ' H'
 | .ret u=>∃ v σ' H',Inv X pins σ' H' s'/\RelV v u/\D.rt v H'
def PE (X:Cx)(e:Expr)(t:TE):Prop :=
 ∀(pins:List (Addr×Obj)) (s:af) (σ:St) (H:Hp) (Q:VK),Inv X pins σ H s->t σ H Q->wpAny (model X.prog X.w) X.A (eval e X.env) (EP X pins σ Q) X.xe s
def PT (X:Cx)(e:Expr)(t:TT):Prop :=
 ∀(pins:List (Addr×Obj)) (s:af) (σ:St) (H:Hp) (Q:Bool->Hp->Prop),Inv X pins σ H s->t σ H Q->wpAny (model X.prog X.w) X.A (dP e X.env (eval e X.env)) (TP X pins σ Q) X.xe s
def PW (X:Cx)(e:Expr)(t:TT):Prop :=
 ∀(whole:Sem Value) (pins:List (Addr×Obj)) (s:af) (σ:St) (H:Hp) (Q:Bool->Hp->Prop),Inv X pins σ H s->t σ H Q->wpAny (model X.prog X.w) X.A (dP e X.env whole) (TP X pins σ Q) X.xe s
theorem PW.pt {X:Cx}{e:Expr}{t:TT}(h:PW X e t):PT X e t:=h _
def PA (X:Cx)(es:List Expr)(t:TA):Prop :=
 ∀(pos:Pos) (pins:List (Addr×Obj)) (s:af) (σ:St) (H:Hp) (Q:List V->Hp->Prop),Inv X pins σ H s->t σ H Q->wpAny (model X.prog X.w) X.A (spliced (eW pos (bq es X.env))) (AP X pins σ Q) X.xe s
def PS (X:Cx)(st:Stmt)(t:TS):Prop :=
 ∀(pins:List (Addr×Obj)) (s:af) (σ:St) (H:Hp) (D:Ends),Inv X pins σ H s->t D σ H->wpAny (model X.prog X.w) X.A (exec st X.env) (SP X pins D) X.xe s
def PSs (X:Cx)(st:List Stmt)(t:TS):Prop :=
 ∀(pins:List (Addr×Obj)) (s:af) (σ:St) (H:Hp) (D:Ends),Inv X pins σ H s->t D σ H->wpAny (model X.prog X.w) X.A (execs st X.env) (SP X pins D) X.xe s
theorem thn {α:Type}{t:Sem α}{Q z:α->af->Prop}{M:Model}{A:aN}{E:Value->af->Prop}{s:af}(h:wpAny M A t Q E s)(C:∀ a s,Q a s->z a s):wpAny M A t z E s:=bN h C fun _ _ x=>x
section
variable {X:Cx}
theorem bin {a b:Expr}{G tb:TE}(ha:PE X a G)(hb:PE X b tb){z:List (Addr×Obj)}{s:af}{σ:St}{H:Hp}{R:V->V->Hp->Prop}(I:Inv X z σ H s)(h:G σ H fun x F=>tb σ F fun y C=>R x y C)
  {α:Type} {Q:α->af->Prop} {f:Value->Value->Sem α}
  (hf:∀ v u s2 x y C,Inv X z σ C s2->RelV x v->RelV y u->R x y C->wpAny (model X.prog X.w) X.A (f v u) Q X.xe s2) :
  wpAny (model X.prog X.w) X.A (eval a X.env) (fun v Z=>wpAny (model X.prog X.w) X.A (eval b X.env) (fun u s₂=>wpAny (model X.prog X.w) X.A (f v u) Q X.xe s₂) X.xe Z) X.xe s:=by
 refine thn (ha z s σ H _ I h) fun v s1 ⟨x,F,Y,r1,J⟩=>?_
 refine thn (hb z s1 σ F _ Y J) fun u s2 ⟨y,C,I2,r2,q2⟩=>?_
 exact hf v u s2 x y C I2 r1 r2 q2
def cb1 (i:Nat):TE:=fun σ H Q=>∃ v,σ[i]?=some (some v)/\Q v H
def tC (v:V):TE:=fun _ H Q=>Q v H
theorem bI0 {i:Nat}{x:Str}{pos:Pos}(hN:X.N[i]?=some x)(hv:Vis X.env.scope x)(hd:(x==("__debug__":Str))=false:=by decide)(C:(x==("__classdict__":Str))=false:=by decide):PE X (.Name x pos) (cb1 i):=by
 intro z s σ H Q I h
 obtain⟨v,e,h⟩:=h
 obtain⟨m,hn,hl⟩:=I.loc
 obtain⟨u,r,l⟩:=hl i x v hN e hv
 have fin:EP X z σ Q u s:=⟨v,H,I,r,h⟩
 rcases l with⟨hk,hm⟩|⟨hk,c,hc,hcell⟩
 ·exact jZ (wpAny_loadName_local I.ok.kind hk hn hm fin) hd
 ·rcases hk with hk|hk
  ·exact jZ (wpAny_loadName_cell I.ok.kind hk hc hcell fin) hd
  ·exact jZ (wpAny_loadName_free I.ok.kind hk hc hcell fin C) hd
theorem bi2 {i j pos}:PE X (.Constant (.int i) j pos) (tC (.int i)):=fun _ _ _ H _ I h=>wpAny_Constant_int ⟨.int i,H,I.tok _,⟨_,rfl⟩,h⟩
theorem bU8 {b j pos}:PE X (.Constant (.bool b) j pos) (tC (.bl b)):=fun _ _ _ H _ I h=>Constant_bool ⟨.bl b,H,I,rfl,h⟩
theorem bD9 {j pos}:PE X (.Constant .none j pos) (tC .non):=fun _ _ _ H _ I h=>iU ⟨.non,H,I,rfl,h⟩
theorem bl2 {x j pos}:PE X (.Constant (.str x) j pos) (tC (.str x)):=fun _ _ _ H _ I h=>Calls.Constant_str ⟨.str x,H,I.tok _,⟨_,rfl⟩,h⟩
def Gl (X:Cx)(x:Str):Prop:=X.env.kindOf x=some .globalImplicit
theorem aC5 {E:Value->af->Prop}{z:List (Addr×Obj)}{s:af}{σ:St}{H:Hp}{x:Str}{u:Value}{pos:Pos}{Q:Value->af->Prop}(I:Inv X z σ H s)(hg:Gl X x)(hm:X.mg x=some u)(h:Q u s)
  (hd:(x==("__debug__":Str))=false:=by decide):wpAny (model X.prog X.w) X.A (eval (.Name x pos) X.env) Q E s :=
 fv I.ok.kind hg (Calls.loadGlobal_global (by rw[I.ok.glob];exact I.mod.glob.keeps I.bk) hm h) hd
theorem ap0 {E:Value->af->Prop}{z:List (Addr×Obj)}{s:af}{σ:St}{H:Hp}{x:Str}{u:Value}{pos:Pos}{Q:Value->af->Prop}(I:Inv X z σ H s)(hg:Gl X x)(hm:X.mg x=none)(hv:bf x=some u)(h:Q u s)
  (hn:x ≠ "__name__":=by decide) (hd:(x==("__debug__":Str))=false:=by decide):wpAny (model X.prog X.w) X.A (eval (.Name x pos) X.env) Q E s:=by
 obtain⟨G,F,C⟩:=I.mod.blt
 exact fv I.ok.kind hg (Calls.loadGlobal_builtin (by rw[I.ok.glob];exact I.mod.glob.keeps I.bk) hm (by rw[I.ok.blt];exact F.keeps I.bk) ((C x hn).trans hv) h) hd
theorem bu6 {x:Str}{v:V}{u:Value}{pos:Pos}(hg:Gl X x)(hm:X.mg x=some u)(r:RelV v u)(hd:(x==("__debug__":Str))=false:=by decide):PE X (.Name x pos) (tC v) :=
 fun _ _ _ H _ I h=>aC5 I hg hm ⟨v,H,I,r,h⟩ hd
theorem bv4 {x:Str}{v:V}{u:Value}{pos:Pos}(hg:Gl X x)(hm:X.mg x=none)(hv:bf x=some u)(r:RelV v u)(hn:x ≠ "__name__":=by decide)(hd:(x==("__debug__":Str))=false:=by decide):PE X (.Name x pos) (tC v) :=
 fun _ _ _ H _ I h=>ap0 I hg hm hv ⟨v,H,I,r,h⟩ hn hd
variable {a b:Expr} {ta tb:TE} {pos:Pos}
def PC (X:Cx)(op:CmpOp)(a b:Expr)(t:TE):Prop :=
 ∀(pins:List (Addr×Obj)) (s:af) (σ:St) (H:Hp) (Q:VK),Inv X pins σ H s->t σ H Q ->
  wpAny (model X.prog X.w) X.A (eval a X.env) (fun v s₁=>wpAny (model X.prog X.w) X.A (eval b X.env) (fun u s₂=>wpAny (model X.prog X.w) X.A (di op v u) (EP X pins σ Q) X.xe s₂) X.xe s₁) X.xe s
theorem aK2 (b:Expr){op:CmpOp}(h:op≠.In)(z:op≠.NotIn):dj op b=false:=by
 have e1:(op==CmpOp.In)=false:=by cases op<;>first|rfl|exact absurd rfl h
 have e2:(op==CmpOp.NotIn)=false:=by cases op<;>first|rfl|exact absurd rfl z
 cases b<;>simp[dj,e1,e2]
def cb2 (ta:TE):TE:=fun σ H Q=>ta σ H fun x H1=>Q (.bl (decide (x=.non))) H1
def bP0 (ta:TE):TE:=fun σ H Q=>ta σ H fun x H1=>Q (.bl (!decide (x=.non))) H1
theorem RelV.none_iff {x:V}{v:Value}(r:RelV x v):(v==Value.none)=decide (x=.non):=by
 cases x with
 | non=>cases r;rfl
 | bl _=>cases r;rfl
 | int _=>obtain⟨t,rfl⟩:=r;rfl
 | str _=>obtain⟨t,rfl⟩:=r;rfl
 | byt _=>obtain⟨t,rfl⟩:=r;rfl
 | flt _=>obtain⟨t,rfl⟩:=r;rfl
 | ref _=>cases r;rfl
 | ty _=>cases r;rfl
theorem bj9 {j pos'}(ha:PE X a ta):PC X .Is a (.Constant .none j pos') (cb2 ta):=by
 intro z s σ H Q I h
 refine thn (ha z s σ H _ I h) fun v s1 ⟨x,C,F,r1,G⟩=>?_
 exact iU (is_none_gen ⟨.bl _,C,F,by rw[r1.none_iff];rfl,G⟩)
theorem aP6 {j pos'}(ha:PE X a ta):PC X .IsNot a (.Constant .none j pos') (bP0 ta):=by
 intro z s σ H Q I h
 refine thn (ha z s σ H _ I h) fun v s1 ⟨x,C,F,r1,G⟩=>?_
 exact iU (isnot_none_gen ⟨.bl _,C,F,by rw[r1.none_iff];rfl,G⟩)
def tB (t:TE):TT:=fun σ H Q=>t σ H fun x H1=>∃ c,x=.bl c/\Q c H1
theorem bh9 {op:CmpOp}{t:TE}(h:PC X op a b t)(C:dj op b=false:=by first|exact aK2 _ (by decide) (by decide)|rfl):PE X (.Compare a [op] [b] pos) t:=fun z s σ H Q I hw=>wpAny_Compare1 (h z s σ H Q I hw) C
theorem bl0 {op:CmpOp}{t:TE}(h:PC X op a b t)(C:dj op b=false:=by first|exact aK2 _ (by decide) (by decide)|rfl):PT X (.Compare a [op] [b] pos) (tB t):=by
 intro z s σ H Q I hw
 refine hE (thn (h z s σ H _ I hw) fun v s1 C=>thn C fun u s2 F=>thn F fun c s3 ⟨x,G,J,r1,Y⟩=>?_) C
 obtain⟨d,rfl,q⟩:=Y
 cases r1
 exact bO ⟨G,J,q⟩
theorem bG6 {e:Expr}{t:TE}(h:PE X e t)(J:∀ z,dP e X.env z=(do let v <- z;standAt e.pos;jg [v] (truthy v)):=by intro _;rfl):PT X e (tB t):=by
 intro C s σ H Q I hw
 refine isTrue_plain (thn (h C s σ H _ I hw) fun v s1 ⟨x,F,G,r1,Y⟩=>?_) (J _)
 obtain⟨d,rfl,q⟩:=Y
 cases r1
 exact bO ⟨F,G,q⟩
variable {tA tB':TT} {rest:List Expr}
def cb4 (t u:TT):TT:=fun σ H Q=>t σ H fun c H1=>if c=true then u σ H1 Q else Q false H1
def tOr (t u:TT):TT:=fun σ H Q=>t σ H fun c H1=>if c=true then Q true H1 else u σ H1 Q
def bZ7 (t:TT):TT:=fun σ H Q=>t σ H fun c H1=>Q (!c) H1
theorem bn4 (ha:PT X a tA):PW X (.BoolOp .And [a] pos) tA:=by
 intro C z s σ H Q I h
 refine isTrue_and (thn (ha z s σ H Q I h) fun c s1 e=>?_)
 cases c with
 | true=>exact isTrue_and_nil e
 | false=>exact e
theorem bO0 (ha:PT X a tA):PW X (.BoolOp .Or [a] pos) tA:=by
 intro C z s σ H Q I h
 refine isTrue_or (thn (ha z s σ H Q I h) fun c s1 e=>?_)
 cases c with
 | false=>exact isTrue_or_nil e
 | true=>exact e
theorem bl4 (ha:PT X a tA)(hb:PW X (.BoolOp .And (b::rest) pos) tB'):PW X (.BoolOp .And (a::b::rest) pos) (cb4 tA tB'):=by
 intro J z s σ H Q I h
 refine isTrue_and (thn (ha z s σ H _ I h) fun c s1 ⟨C,F,G⟩=>?_)
 cases c with
 | true=>exact hb J z s1 σ C Q F G
 | false=>exact⟨C,F,G⟩
theorem bG1 (ha:PT X a tA)(hb:PW X (.BoolOp .Or (b::rest) pos) tB'):PW X (.BoolOp .Or (a::b::rest) pos) (tOr tA tB'):=by
 intro J z s σ H Q I h
 refine isTrue_or (thn (ha z s σ H _ I h) fun c s1 ⟨C,F,G⟩=>?_)
 cases c with
 | true=>exact⟨C,F,G⟩
 | false=>exact hb J z s1 σ C Q F G
theorem bJ4 (ha:PT X a tA):PT X (.UnaryOp .Not a pos) (bZ7 tA):=by
 intro z s σ H Q I h
 exact isTrue_not (ha z s σ H (fun c C=>Q (!c) C) I h)
def bK6 (ta tb:TE):TE:=fun σ H Q=>ta σ H fun x H1=>∃ c,x=.bl c/\if c=true then tb σ H1 Q else Q (.bl false) H1
def ca1 (ta tb:TE):TE:=fun σ H Q=>ta σ H fun x H1=>∃ c,x=.bl c/\if c=true then Q (.bl true) H1 else tb σ H1 Q
def bB2 (ta:TE):TE:=fun σ H Q=>ta σ H fun x H1=>∃ c,x=.bl c/\Q (.bl (!c)) H1
theorem bi7 {op}{t:TE}(h:PE X a t):PE X (.BoolOp op [a] pos) t:=fun z s σ H Q I hw=>BoolOp_one (h z s σ H Q I hw)
theorem bk3 (ha:PE X a ta)(hb:PE X (.BoolOp .And (b::rest) pos) tb):PE X (.BoolOp .And (a::b::rest) pos) (bK6 ta tb):=by
 intro z s σ H Q I h
 refine BoolOp_and (thn (ha z s σ H _ I h) fun v s1 ⟨x,F,G,r1,C⟩=>?_)
 obtain⟨c,rfl,C⟩:=C
 cases r1
 refine bO ?_
 cases c with
 | true=>exact hb z s1 σ F Q G C
 | false=>exact⟨.bl false,F,G,rfl,C⟩
theorem bL8 (ha:PE X a ta)(hb:PE X (.BoolOp .Or (b::rest) pos) tb):PE X (.BoolOp .Or (a::b::rest) pos) (ca1 ta tb):=by
 intro z s σ H Q I h
 refine BoolOp_or (thn (ha z s σ H _ I h) fun v s1 ⟨x,F,G,r1,C⟩=>?_)
 obtain⟨c,rfl,C⟩:=C
 cases r1
 refine bO ?_
 cases c with
 | false=>exact hb z s1 σ F Q G C
 | true=>exact⟨.bl true,F,G,rfl,C⟩
theorem bA4 (ha:PE X a ta):PE X (.UnaryOp .Not a pos) (bB2 ta):=by
 intro z s σ H Q I h
 refine UnaryOp_ (thn (ha z s σ H _ I h) fun v s1 ⟨x,F,G,r1,C⟩=>?_)
 obtain⟨c,rfl,C⟩:=C
 cases r1
 exact not_of (bO ⟨.bl (!c),F,G,rfl,C⟩)
def tIf (t:TT)(ta tb:TE):TE:=fun σ H Q=>t σ H fun c H1=>if c=true then ta σ H1 Q else tb σ H1 Q
theorem bh0 {c:Expr}(hc:PT X c tA)(ha:PE X a ta)(hb:PE X b tb):PE X (.IfExp c a b pos) (tIf tA ta tb):=by
 intro z s σ H Q I h
 refine wpAny_IfExp (thn (hc z s σ H _ I h) fun d s1 ⟨C,F,G⟩=>?_)
 cases d with
 | true=>exact ha z s1 σ C Q F G
 | false=>exact hb z s1 σ C Q F G
end
def SqL (K:ae)(H:Hp)(a:Addr)(xs:List V):Prop :=
 Rd H a (.lst xs) \/
  ∃(o:Obj) (its:Array Value) (n:Nat),K.lookup a=some o/\o.cls=.type "list"/\o.dict=none/\o.data=.seq its n/\its.size<=aE/\Vals xs its.toList
def SqT (K:ae)(H:Hp)(a:Addr)(xs:List V):Prop :=
 Rd H a (.tup xs) \/
  ∃(o:Obj) (its:Array Value) (n:Nat),K.lookup a=some o/\o.cls=.type "tuple"/\o.data=.seq its n/\its.size<=aE/\Vals xs its.toList
noncomputable def cc4:Value->Option V
 | .none=>some .non
 | .bool b=>some (.bl b)
 | .int i _=>some (.int i)
 | .str x _=>some (.str x)
 | .bytes b _=>some (.byt b)
 | .float b _=>some (.flt b)
 | .ref a=>some (.ref a)
 | .type n=>some (.ty n)
 | _=>none
theorem RelV.abs {x:V}{u:Value}(r:RelV x u):cc4 u=some x:=by
 cases x with
 | non=>cases r;rfl
 | bl _=>cases r;rfl
 | int _=>obtain⟨t,rfl⟩:=r;rfl
 | str _=>obtain⟨t,rfl⟩:=r;rfl
 | byt _=>obtain⟨t,rfl⟩:=r;rfl
 | flt _=>obtain⟨t,rfl⟩:=r;rfl
 | ref _=>cases r;rfl
 | ty _=>cases r;rfl
theorem RelV.inj {x y:V}{u:Value}(r:RelV x u)(q:RelV y u):x=y:=av (r.abs.symm.trans q.abs)
theorem Vals.inj:∀ {h ys:List V} {us:List Value},Vals h us->Vals ys us->h=ys
 | _,_,_,.nil,.nil=>rfl
 | _,_,_,.cons r t,.cons r' t'=>by rw[r.inj r',Vals.inj t t']
section
variable {X:Cx} {pins:List (Addr×Obj)} {σ:St} {H:Hp} {s:af} {a:Addr} {xs ys:List V}
theorem SqL.of {K:ae}(h:H a=some (.lst xs)):SqL K H a xs:=.inl (.inl h)
theorem SqT.of {K:ae}(h:H a=some (.tup xs)):SqT K H a xs:=.inl (.inl h)
theorem Inv.list (I:Inv X pins σ H s)(h:SqL X.K H a xs):∃ its:List Value,Vals xs its/\PlainL s.heap a its.toArray/\xs.length<=aE:=by
 rcases h with h|⟨o,its,n,hk,hc,hd,hs,hz,r⟩
 ·obtain⟨z,its,n,r,e⟩:=h.ok I.hok
  exact⟨its,r,⟨_,n,e,rfl,rfl,rfl⟩,z⟩
 ·refine⟨its.toList,r,⟨o,n,I.kIn a o hk,hc,hd,by simpa using hs⟩,?_⟩
  have e:=r.length
  simp only[cQ]at e
  omega
theorem Inv.tuple (I:Inv X pins σ H s)(h:SqT X.K H a xs):∃ its:List Value,Vals xs its/\IsTup s.heap a its.toArray/\xs.length<=aE:=by
 rcases h with h|⟨o,its,n,hk,hc,hs,hz,r⟩
 ·obtain⟨z,its,r,p⟩:=h.ok I.hok
  exact⟨its,r,p,z⟩
 ·refine⟨its.toList,r,⟨o,I.kIn a o hk,hc,n,by simpa using hs⟩,?_⟩
  have e:=r.length
  simp only[cQ]at e
  omega
theorem Inv.list_inj (I:Inv X pins σ H s)(h:SqL X.K H a xs)(h':SqL X.K H a ys):xs=ys:=by
 obtain⟨its,r,⟨o,n,e,_,_,d⟩,_⟩:=I.list h
 obtain⟨its',z,⟨C,F,e',_,_,d'⟩,_⟩:=I.list h'
 rw[e]at e';cases e'
 rw[d]at d'
 injection d' with d1 _
 have:its=its':=by simpa using congrArg jh d1
 subst this
 exact r.inj z
theorem Inv.tuple_inj (I:Inv X pins σ H s)(h:SqT X.K H a xs)(h':SqT X.K H a ys):xs=ys:=by
 obtain⟨its,r,⟨o,e,_,n,d⟩,_⟩:=I.tuple h
 obtain⟨its',z,⟨C,e',_,F,d'⟩,_⟩:=I.tuple h'
 rw[e]at e';cases e'
 rw[d]at d'
 injection d' with d1 _
 have:its=its':=by simpa using congrArg jh d1
 subst this
 exact r.inj z
end
noncomputable abbrev Cx.wish (X:Cx)(E:Value->af->Prop):Cx:={ X with xe:=E }
noncomputable abbrev Cx.nox (X:Cx):Cx:=X.wish fun _ _=>False
theorem Cx.Ok.wish {X:Cx}(ok:X.Ok)(E:Value->af->Prop):(X.wish E).Ok :=
 ⟨ok.mod,ok.kind,ok.glob,ok.blt,ok.above,ok.inj,ok.has,ok.cab,ok.hd,ok.frames,ok.stk,ok.exf,ok.bs,ok.bsz,ok.noex,ok.exfs,ok.funs,ok.frf⟩
theorem Cx.Ok.unwish {X:Cx}{E:Value->af->Prop}(ok:(X.wish E).Ok):X.Ok :=
 ⟨ok.mod,ok.kind,ok.glob,ok.blt,ok.above,ok.inj,ok.has,ok.cab,ok.hd,ok.frames,ok.stk,ok.exf,ok.bs,ok.bsz,ok.noex,ok.exfs,ok.funs,ok.frf⟩
section
variable {X:Cx} {pins:List (Addr×Obj)} {σ:St} {H:Hp} {s:af} {E:Value->af->Prop}
theorem Inv.wish (I:Inv X pins σ H s)(E:Value->af->Prop):Inv (X.wish E) pins σ H s:=⟨I.ok.wish E,I.os,I.bare,I.base,I.loc,I.cell,I.free,I.freeC,I.pin,I.hok,I.len⟩
theorem Inv.unwish (I:Inv (X.wish E) pins σ H s):Inv X pins σ H s:=⟨I.ok.unwish,I.os,I.bare,I.base,I.loc,I.cell,I.free,I.freeC,I.pin,I.hok,I.len⟩
theorem SP.unwish {D:Ends}{f:Flow}{s':af}(h:SP (X.wish E) pins D f s'):SP X pins D f s':=by
 cases f with
 | next=>obtain⟨σ',H',I,q⟩:=h;exact⟨σ',H',I.unwish,q⟩
 | brk=>obtain⟨σ',H',I,q⟩:=h;exact⟨σ',H',I.unwish,q⟩
 | cont=>obtain⟨σ',H',I,q⟩:=h;exact⟨σ',H',I.unwish,q⟩
 | ret u=>obtain⟨v,σ',H',I,r,q⟩:=h;exact⟨v,σ',H',I.unwish,r,q⟩
theorem PSs.nox {st:List Stmt}{t:TS}(h:PSs X.nox st t):PSs X st t:=fun C s σ H D I hw =>
 bN (h C s σ H D (I.wish _) hw) (fun _ _ q=>q.unwish) fun _ _ z=>cn z
end
section
variable {X:Cx} {st:Stmt} {rest:List Stmt} {t u:TS} {e:Expr} {te:TE} {pos:Pos}
def bA2:TS:=fun D σ H=>D.nx σ H
noncomputable def bY7 (t u:TS):TS:=fun D σ H=>t { D with nx:=u D } σ H
theorem aQ3:PSs X [] bA2:=fun _ _ σ H _ I h=>gW ⟨σ,H,I,h⟩
theorem aI4 (G:PS X st t)(C:PSs X rest u):PSs X (st::rest) (bY7 t u):=by
 intro z s σ H D I h
 refine wpAny_execs_cons (thn (G z s σ H { D with nx:=u D } I h) fun f s1 q=>?_)
 cases f with
 | next =>
  obtain⟨σ',H',F,q⟩:=q
  exact C z s1 σ' H' D F q
 | ret v=>exact q
 | brk=>exact q
 | cont=>exact q
theorem Inv.quiet {h:List (Addr×Obj)}{σ:St}{H:Hp}{s:af}(I:Inv X h σ H s):interactive X.env=false:=by simp[interactive,I.ok.kind]
def bO5 (te:TE):TS:=fun D σ H=>te σ H fun _ H1=>D.nx σ H1
theorem by8 (J:PE X e te)(hs:fq e none pos.line X.env=pure false:=by rfl):PS X (.Expr e pos) (bO5 te):=by
 intro z s σ H D I h
 exact wpAny_Expr_any (thn (J z s σ H _ I h) fun v s1 ⟨x,C,F,r1,G⟩=>⟨σ,C,F,G⟩) I.quiet hs
def bZ5 (te:TE):TS:=fun D σ H=>te σ H D.rt
theorem bj3 (J:PE X e te):PS X (.Return (some e) pos) (bZ5 te):=by
 intro z s σ H D I h
 exact wpAny_Return_some (thn (J z s σ H _ I h) fun v s1 ⟨x,C,F,r1,G⟩=>⟨x,σ,C,F,r1,G⟩)
def ca3 (c:TT)(t u:TS):TS:=fun D σ H=>c σ H fun b H1=>if b=true then t D σ H1 else u D σ H1
theorem bX9 {c:Expr}{a b:List Stmt}{F:TT}(hc:PT X c F)(ha:PSs X a t)(hb:PSs X b u):PS X (.If c a b pos) (ca3 F t u):=by
 intro z s σ H D I h
 refine wpAny_If (thn (hc z s σ H _ I h) fun d s1 ⟨C,G,J⟩=>?_)
 cases d with
 | true=>exact ha z s1 σ C D G J
 | false=>exact hb z s1 σ C D G J
def bH7:TS:=fun _ _ _=>False
theorem be8:PS X st bH7:=fun _ _ _ _ _ _ h=>h.elim
end
abbrev TG:=V->St->Hp->(St->Hp->Prop)->Prop
abbrev TGs:=List V->St->Hp->(St->Hp->Prop)->Prop
def PG (X:Cx)(target:Expr)(t:TG):Prop :=
 ∀(pins:List (Addr×Obj)) (s:af) (σ:St) (H:Hp) (v:V) (u:Value) (Q:St->Hp->Prop),Inv X pins σ H s->RelV v u->t v σ H Q ->
  wpAny (model X.prog X.w) X.A (gz target X.env u) (fun _ s'=>∃ σ' H',Inv X pins σ' H' s'/\Q σ' H') X.xe s
def PGs (X:Cx)(ts:List Expr)(t:TGs):Prop :=
 ∀(pins:List (Addr×Obj)) (s:af) (σ:St) (H:Hp) (vs:List V) (us:List Value) (Q:St->Hp->Prop),Inv X pins σ H s->Vals vs us->t vs σ H Q ->
  wpAny (model X.prog X.w) X.A (assignInOrder ((cC ts X.env).map (·.2)) us) (fun _ s'=>∃ σ' H',Inv X pins σ' H' s'/\Q σ' H') X.xe s
abbrev bP9:=V->V->V->Hp->(Hp->Prop)->Prop
def bT1 (X:Cx)(t:bP9):Prop :=
 ∀(pins:List (Addr×Obj)) (s:af) (σ:St) (H:Hp) (o i v:V) (ov iv u:Value) (Q:Hp->Prop),Inv X pins σ H s->RelV o ov->RelV i iv->RelV v u->t o i v H Q ->
  wpAny (model X.prog X.w) X.A (setItem ov iv u) (fun _ s'=>∃ H',Inv X pins σ H' s'/\Q H') X.xe s
section
variable {X:Cx} {pos:Pos}
def au8 (i:Nat):TG:=fun v σ H Q=>Q (σ.set i (some v)) H
theorem aU1 {i:Nat}{x:Str}(hN:X.N.Nodup)(C:X.N[i]?=some x)(hx:Loc X.env.scope x)(hf:X.fn x=true\/X.env.scope.names.lookup x=some .local:=by first|exact .inl rfl|exact .inr rfl|assumption):PG X (.Name x pos) (au8 i):=by
 intro z s σ H v u Q I r h
 exact ji (aF1 I hN C hx r (fun s' F=>⟨_,H,F,h⟩) hf)
def ca6:TGs:=fun vs σ H Q=>vs=[]/\Q σ H
def bB6 (t:TG)(u:TGs):TGs:=fun vs σ H Q=>∃ v r,vs=v::r/\t v σ H fun σ' H'=>u r σ' H' Q
theorem bu7:PGs X [] ca6:=by
 intro z s σ H vs us Q I r h
 obtain⟨e,h⟩:=h
 subst e
 cases r
 exact assignInOrder_nil ⟨σ,H,I,h⟩
theorem bf8 {e:Expr}{es:List Expr}{t:TG}{u:TGs}(Y:PG X e t)(C:PGs X es u)
  (hs:(cC (e::es) X.env).map (·.2)=gz e X.env::(cC es X.env).map (·.2):=by rfl):PGs X (e::es) (bB6 t u):=by
 intro z s σ H vs us Q I r h
 obtain⟨v,Z,e1,h⟩:=h
 subst e1
 cases r with
 | cons r rr =>
  rw[hs]
  refine assignInOrder_cons (thn (Y z s σ H _ _ _ I r h) fun _ s1 ⟨σ1,J,G,F⟩=>?_)
  exact C z s1 σ1 J _ _ Q G rr F
def bU1 (K:ae)(n:Nat)(t:TGs):TG:=fun v σ H Q=>∃ a xs,v=.ref a/\SqT K H a xs/\xs.length=n/\t xs σ H Q
theorem bE5 {es:List Expr}{k:Nat}{t:TGs}{n:Nat}(hc:X.calm=true)(h:PGs X es t)
  (hn:(cC es X.env).length=n:=by rfl) (C:(cC es X.env).findIdx? (·.1)=none:=by rfl):PG X (.Tuple es k pos) (bU1 X.K n t):=by
 intro z s σ H v u Q I r hw
 obtain⟨a,G,e1,hq,hl,hw⟩:=hw
 subst e1
 cases r
 obtain⟨its,F,Y,hz⟩:=I.tuple hq
 refine assign_Tuple_tuple (I.ok.hd hc) Y (by simp[hn,<-hl,F.length]) C fun h' hx=>?_
 have J:Inv X z σ H { s with heap:=h' }:=I.kept (t':=s.toks) fun b o e=>hx b o (az (aD e)) e
 exact h z _ σ H G _ Q J (by simpa using F) hw
def bZ4 (to ti:TE)(t:bP9):TG:=fun v σ H Q=>to σ H fun o H1=>ti σ H1 fun i H2=>t o i v H2 fun H3=>Q σ H3
theorem bH8 {o i:Expr}{G J:TE}{t:bP9}(ho:PE X o G)(hi:PE X i J)(hs:bT1 X t)
  (ha:∀ v,gz (.Subscript o i pos) X.env v=(do
   let C <- jg [v] (eval o X.env)
   let F <- jg [v,C] (eval i X.env)
   standAt pos
   jg [v,C,F] (setItem C F v)
   release [v,C,F] []):=by intro _;rfl):PG X (.Subscript o i pos) (bZ4 G J t):=by
 intro z s σ H v u Q I r h
 rw[ha]
 refine ag (dk (thn (ho z s σ H _ I h) fun C s1 ⟨x,H1,I1,r1,q1⟩=>?_))
 refine ag (dk (thn (hi z s1 σ H1 _ I1 q1) fun F s2 ⟨y,Y,I2,r2,q2⟩=>?_))
 refine ag (iV (ag (dk (thn (hs z s2 σ Y x y v C F u _ I2 r1 r2 r q2) fun _ s3 ⟨Z,I3,q3⟩=>?_))))
 exact wpAny_release ⟨σ,Z,I3,q3⟩
def bf1 (te:TE)(g:TG):TS:=fun D σ H=>te σ H fun x H1=>g x σ H1 D.nx
theorem bk8 {tg e:Expr}{C:TE}{g:TG}(J:PE X e C)(hg:PG X tg g)(hs:swapsWithSole [tg] e pos.line X.env=pure false:=by rfl)(hw:iW [tg] e X.env=pure none:=by rfl)
  (Z:(cC [tg] X.env).map (·.2)=[gz tg X.env]:=by rfl):PS X (.Assign [tg] e pos) (bf1 C g):=by
 intro z s σ H D I h
 refine wpAny_Assign_stores (thn (J z s σ H _ I h) fun v s1 ⟨x,F,G,r1,Y⟩=>?_) hs hw
 rw[Z]
 exact thn (hg z s1 σ F x v _ G r1 Y) fun _ s2 q=>q
theorem bj6 {i:Nat}{x:Str}{e:Expr}{F:TE}{z:Pos}(hN:X.N.Nodup)(Z:X.N[i]?=some x)(hx:Loc X.env.scope x)(he:PE X e F)(hs:fq e (some (.Name x z)) pos.line X.env=pure false:=by rfl)(hf:X.fn x=true\/X.env.scope.names.lookup x=some .local:=by first|exact .inl rfl|exact .inr rfl|assumption) :
  PS X (.Assign [.Name x z] e pos) (bf1 F (au8 i)):=by
 intro C s σ H D I h
 refine wpAny_Assign_Name (thn (he C s σ H _ I h) fun v s1 ⟨y,Y,J,r1,G⟩=>?_) hs
 exact aF1 J hN Z hx r1 (fun s2 I2=>⟨_,Y,I2,G⟩) hf
end
section
variable {X:Cx} {pos:Pos}
def bj7 (c:TT)(tb:TS):TS:=fun D σ H=>∃ W:Nat->St->Hp->Prop,(∃ m,W m σ H)/\∀ m σ H,W m σ H ->
 c σ H fun b H1=>if b=true then ∃ N:St->Hp->Prop,(∀ σ' H',N σ' H'->∃ m',m'<m/\W m' σ' H')/\tb { D with nx:=N,ct:=N,bk:=D.nx } σ H1 else D.nx σ H1
theorem ba3 {c:Expr}{body:List Stmt}{Z:TT}{tb:TS}(hp:PassesOwn (model X.prog X.w) X.A X.env X.xe)(hc:PT X c Z)(hb:PSs X body tb):PS X (.While c body [] pos) (bj7 Z tb):=by
 intro z s σ H D I h
 obtain⟨W,⟨m0,w0⟩,turn⟩:=h
 refine wpAny_While (codeAny_whileLoop (fun n s'=>∃ σ' H',Inv X z σ' H' s'/\W n σ' H') ?_ m0 ⟨σ,H,I,w0⟩)
 rintro n s1 ⟨σ1,H1,I1,w1⟩
 refine cJ hp (thn (hc z s1 σ1 H1 _ I1 (turn n σ1 H1 w1)) fun b s2 ⟨Y,I2,q2⟩=>?_)
 cases b with
 | true =>
  obtain⟨N,hN,q2⟩:=q2
  rw[if_pos rfl]
  refine cJ hp (thn (hb z s2 σ1 Y _ I2 q2) fun f s3 q3=>?_)
  cases f with
  | next =>
   obtain⟨σ3,C,G,F⟩:=q3
   obtain⟨m',hm,J⟩:=hN σ3 C F
   exact⟨m',hm,σ3,C,G,J⟩
  | cont =>
   obtain⟨σ3,C,G,F⟩:=q3
   obtain⟨m',hm,J⟩:=hN σ3 C F
   exact⟨m',hm,σ3,C,G,J⟩
  | brk=>exact q3
  | ret v=>exact q3
 | false =>
  rw[if_neg aO]
  exact gW ⟨σ1,Y,I2,q2⟩
end
structure It where
 go:Nat->Hp->Prop
 yld:Nat->Hp->V->Hp->Prop
 stop:Nat->Hp->Prop
def FpOk (X:Cx)(pins:List (Addr×Obj))(H:Hp)(b:Addr):Prop :=
 H b=none/\b≠X.env.locals/\b ∉ X.fs/\(b∈X.ex\/X.s₀.heap.objs.size<=b)/\(∀ x c,X.env.cells.lookup x=some c->c≠b)/\∀ p∈X.pn++pins,p.1≠b
theorem Inv.fpOk {X:Cx}{h:List (Addr×Obj)}{σ:St}{H H':Hp}{s:af}{b:Addr}(I:Inv X h σ H s)(hb:s.heap.objs.size<=b)(hn:H' b=none):FpOk X h H' b:=by
 refine⟨hn,jj (ax I.lt hb),I.nofs hb,.inr (ak I.sz hb),fun x c e z=>?_,fun p hp z=>?_⟩
 ·obtain⟨v,q⟩:=I.cell x c e
  exact absurd (ax q.lt (by rw[z];exact hb)) (bp _)
 ·exact absurd (ax (aD (I.pin p hp).1) (by rw[z];exact hb)) (bp _)
structure Turn (P:aB)(w:World)(K:ae)(tg:Expr)(J:It)(fp:List Addr)(it:Addr)(tn:Nat->Heap->Prop):Prop where
 mem:it∈fp
 obj:∀ i h,tn i h->∀ b∈fp,∃ o,h.get? b=some o/\∀ v,o.data≠.cell v
 keep:∀ i h h',tn i h->(∀ b∈fp,∀ o,h.get? b=some o->h'.get? b=some o)->tn i h'
 item:∀(X:Cx),X.prog=P->X.w=w->X.K=K->X.calm=true->∀(i:Nat) (pins:List (Addr×Obj)) (s:af) (σ:St) (H:Hp) (E:Value->af->Prop),Inv X pins σ H s->(∀ b∈fp,FpOk X pins H b)->tn i s.heap->J.go i H ->
  wpAny (model P w) X.A (jB (.ref it)) (fun r s1=>∃ u,r=some u /\
   wpAny (model P w) X.A (eX tg (.ref it) u) (fun _ s2=>∃ x H',Inv X pins σ H' s2/\RelV x u/\J.yld i H x H'/\tn (i+1) s2.heap/\∀ b∈fp,H' b=none) E s1) E s
 done:∀(X:Cx),X.prog=P->X.w=w->X.K=K->X.calm=true->∀(i:Nat) (pins:List (Addr×Obj)) (s:af) (σ:St) (H:Hp) (E:Value->af->Prop),Inv X pins σ H s->(∀ b∈fp,FpOk X pins H b)->tn i s.heap->J.stop i H ->
  wpAny (model P w) X.A (jB (.ref it)) (fun r s1=>r=none/\Inv X pins σ H s1) E s
 self:∀(A:aN) (i:Nat) (s:af) (Q:Value->af->Prop) (E:Value->af->Prop),tn i s.heap->Q (.ref it) s->wpAny (model P w) A (kx (.ref it)) Q E s
abbrev TI:=St->Hp->(It->Hp->Prop)->Prop
def PIE (X:Cx)(pins:List (Addr×Obj))(σ:St)(tg:Expr)(R:It->Hp->Prop)(itv:Value)(s2:af):Prop :=
 ∃(it:Addr) (fp:List Addr) (tn:Nat->Heap->Prop) (J:It) (H':Hp),itv=.ref it/\Inv X pins σ H' s2/\Turn X.prog X.w X.K tg J fp it tn/\tn 0 s2.heap/\(∀ b∈fp,FpOk X pins H' b)/\R J H'
def PI (X:Cx)(tg iter:Expr)(wi:TI):Prop :=
 ∀(pins:List (Addr×Obj)) (s:af) (σ:St) (H:Hp) (R:It->Hp->Prop),Inv X pins σ H s->wi σ H R ->
  wpAny (model X.prog X.w) X.A (eval iter X.env) (fun v s1=>wpAny (model X.prog X.w) X.A (kx v) (PIE X pins σ tg R) X.xe s1) X.xe s
theorem aP1 {M : Model} {A : Around} {E : Value -> Shared -> Prop} {s : Shared} {tg : Expr} {it : Addr} {u : Value} {o : Obj} {n : String} {vs : Array Value} {Q : Unit -> Shared -> Prop} (ho : s.heap.get? it = some o) (hc : o.cls = .type n) (hd : o.data = .fields vs)
    (hn : ["enumerate", "zip", "dict_itemiterator", "dict_reverseitemiterator", "odict_iterator", "itertools.zip_longest", "itertools.pairwise"].contains n = false) (hQ : Q () s) : wpAny M A (eX tg (.ref it) u) Q E s := by
  unfold eX
  cases tg <;> first
    | exact ar hQ
    | (cases u <;> first
        | exact ar hQ
        | (refine ag (wpAny_load ho ?_)
           rw[hc, hd]
           show wpAny M A (if(["enumerate", "zip", "dict_itemiterator", "dict_reverseitemiterator", "odict_iterator", "itertools.zip_longest", "itertools.pairwise"].contains n && vs[0]? == some (rawInt _)) = true then _ else _) Q E s
           rw[if_neg (by intro h; rw[hn, Bool.false_and]at h; cases h)]
           exact ar hQ))
noncomputable def Itl (K:ae)(a:Addr):It :=
 ⟨fun i H=>∃ xs x,SqL K H a xs/\xs[i]?=some x,fun i H x H'=>H'=H/\∀ xs,SqL K H a xs->xs[i]?=some x,fun i H=>∃ xs,SqL K H a xs/\xs.length<=i⟩
noncomputable def Itt (K:ae)(a:Addr):It :=
 ⟨fun i H=>∃ xs x,SqT K H a xs/\xs[i]?=some x,fun i H x H'=>H'=H/\∀ xs,SqT K H a xs->xs[i]?=some x,fun i H=>∃ xs,SqT K H a xs/\xs.length<=i⟩
noncomputable def Itr (lo:Int)(n:Nat):It:=⟨fun i _=>i<n,fun i H x H'=>H'=H/\x=.int (lo+i),fun i _=>n<=i⟩
theorem aS1 {P:aB}{w:World}{K:ae}{tg:Expr}(a it:Addr):Turn P w K tg (Itl K a) [it] it (fun i h=>h.IsListIter it a i) where
 mem:=by simp
 obj:=fun i h st b hb=>by
  have e:b=it:=by simpa using hb
  subst e
  obtain⟨o,e,c,d⟩:=st
  exact⟨o,e,fun v z=>by rw[d]at z;cases z⟩
 keep:=fun i h h' st k=>st.at fun o e=>k it (by simp) o e
 item:=by
  intro X Z hw hK hc i C s σ H E I hf st hg
  subst Z hw hK
  obtain⟨xs,x,hq,hx⟩:=hg
  obtain⟨its,J,p,hz⟩:=I.list hq
  obtain⟨u,hu,ru⟩:=J.get hx
  obtain⟨f0,G,f2,f3,f4,Y⟩:=hf it (by simp)
  refine wpAny_pyNext_list_item st p.isList (x:=u) (by simpa using hu) fun h' F sb=>?_
  have I1:Inv X C σ H { s with heap:=h' }:=I.turned (t':=s.toks) (fun b o hb e=>(sb.2 b hb).trans e) f0 G f3 f4 Y
  obtain⟨o,e,c,d⟩:=id F
  exact⟨u,rfl,aP1 (s:={ s with heap:=h' }) e c d (by decide) ⟨x,H,I1,ru,⟨rfl,fun ys hy=>by rw[I.list_inj hy hq];exact hx⟩,F,fun b hb=>(hf b hb).1⟩⟩
 done:=by
  intro X Z hw hK hc i C s σ H E I hf st hg
  subst Z hw hK
  obtain⟨xs,hq,hx⟩:=hg
  obtain⟨its,J,p,hz⟩:=I.list hq
  obtain⟨f0,G,f2,f3,f4,Y⟩:=hf it (by simp)
  have hl:=J.length
  exact wpAny_pyNext_list_end (I.ok.hd hc) st p.isList (by simp;omega) fun h' eb=>⟨rfl,I.turned (t':=s.toks) (fun b o hb e=>eb b o hb e) f0 G f3 f4 Y⟩
 self:=fun _ _ _ _ _ st h=>wpAny_pyIter_listiter st h
theorem aO6 {P:aB}{w:World}{K:ae}{tg:Expr}(a it:Addr):Turn P w K tg (Itt K a) [it] it (fun i h=>h.IsTupleIter it a i) where
 mem:=by simp
 obj:=fun i h st b hb=>by
  have e:b=it:=by simpa using hb
  subst e
  obtain⟨o,e,c,d⟩:=st
  exact⟨o,e,fun v z=>by rw[d]at z;cases z⟩
 keep:=fun i h h' st k=>st.at fun o e=>k it (by simp) o e
 item:=by
  intro X Z hw hK hc i C s σ H E I hf st hg
  subst Z hw hK
  obtain⟨xs,x,hq,hx⟩:=hg
  obtain⟨its,J,p,hz⟩:=I.tuple hq
  obtain⟨u,hu,ru⟩:=J.get hx
  obtain⟨f0,G,f2,f3,f4,Y⟩:=hf it (by simp)
  refine wpAny_pyNext_tuple_item st (show s.heap.IsTuple a its.toArray from p) (x:=u) (by simpa using hu) fun h' F sb=>?_
  have I1:Inv X C σ H { s with heap:=h' }:=I.turned (t':=s.toks) (fun b o hb e=>(sb.2 b hb).trans e) f0 G f3 f4 Y
  obtain⟨o,e,c,d⟩:=id F
  exact⟨u,rfl,aP1 (s:={ s with heap:=h' }) e c d (by decide) ⟨x,H,I1,ru,⟨rfl,fun ys hy=>by rw[I.tuple_inj hy hq];exact hx⟩,F,fun b hb=>(hf b hb).1⟩⟩
 done:=by
  intro X Z hw hK hc i C s σ H E I hf st hg
  subst Z hw hK
  obtain⟨xs,hq,hx⟩:=hg
  obtain⟨its,J,p,hz⟩:=I.tuple hq
  obtain⟨f0,G,f2,f3,f4,Y⟩:=hf it (by simp)
  have hl:=J.length
  exact wpAny_pyNext_tuple_end (I.ok.hd hc) st (show s.heap.IsTuple a its.toArray from p) (by simp;omega) fun h' eb=>⟨rfl,I.turned (t':=s.toks) (fun b o hb e=>eb b o hb e) f0 G f3 f4 Y⟩
 self:=fun _ _ _ _ _ st h=>wpAny_pyIter_tupleiter st h
theorem aM0 {P:aB}{w:World}{K:ae}{tg:Expr}(it:Addr)(G:Int)(n:Nat):Turn P w K tg (Itr G n) [it] it (fun i h=>io h it (G+(i:Nat)*1) ((n:Int) - (i:Nat)) 1) where
 mem:=by simp
 obj:=fun i h st b hb=>by
  have e:b=it:=by simpa using hb
  subst e
  exact⟨_,st,fun v z=>by
   have z':Data.fields _=Data.cell v:=z
   cases z'⟩
 keep:=fun i h h' st k=>k it (by simp) _ st
 item:=by
  intro X Z hw hK hc i C s σ H E I hf st hg
  subst Z hw hK
  obtain⟨f0,J,f2,f3,f4,Y⟩:=hf it (by simp)
  have W:=kH (prog:=X.prog) (w:=X.w) (I.ok.hd hc) it G 1 n
  refine W.item i s _ _ hg st fun v h' tk hv F kk=>?_
  obtain⟨t,rfl⟩:=hv
  have I1:Inv X C σ H { s with heap:=h',toks:=tk }:=I.turned (fun b o hb e=>kk b o (by simpa using hb) e) f0 J f3 f4 Y
  refine⟨_,rfl,aP1 (s:={ s with heap:=h',toks:=tk }) (n := "range_iterator") F rfl rfl (by decide) ⟨.int (G+i),H,I1,⟨t,?_⟩,⟨rfl,rfl⟩,F,fun b hb=>(hf b hb).1⟩⟩
  rw[Int.mul_one]
 done:=by
  intro X Z hw hK hc i C s σ H E I hf st hg
  subst Z hw hK
  obtain⟨f0,J,f2,f3,f4,Y⟩:=hf it (by simp)
  exact gA (I.ok.hd hc) st (by have:n<=i:=hg;omega) fun h' eb=>⟨rfl,I.turned (t':=s.toks) (fun b o hb e=>eb b o hb e) f0 J f3 f4 Y⟩
 self:=fun _ _ _ _ _ st h=>gB st h
section
variable {X:Cx} {tg:Expr}
def bn6 (K:ae)(tl:TE):TI:=fun σ H R=>tl σ H fun x H1=>∃ a,x=.ref a/\(∃ xs,SqL K H1 a xs)/\R (Itl K a) H1
def bS7 (K:ae)(tl:TE):TI:=fun σ H R=>tl σ H fun x H1=>∃ a,x=.ref a/\(∃ xs,SqT K H1 a xs)/\R (Itt K a) H1
theorem bv6 {l:Expr}{F:TE}(hl:PE X l F):PI X tg l (bn6 X.K F):=by
 intro z s σ H R I h
 refine thn (hl z s σ H _ I h) fun v s1 ⟨x,J,C,r1,G⟩=>?_
 obtain⟨a,e,⟨Y,hq⟩,q⟩:=G
 subst e
 cases r1
 obtain⟨its,Z,p,hz⟩:=C.list hq
 refine du p.isList ?_
 refine⟨s1.heap.objs.size,[s1.heap.objs.size],_,_,J,rfl,C.kept (t':=s1.toks) fun b o e=>am _ e,aS1 a _,⟨_,aQ _ rfl,rfl,rfl⟩,fun b hb=>?_,q⟩
 have e:b=s1.heap.objs.size:=by simpa using hb
 subst e
 exact C.fpOk (aj _) (C.hok.fresh (aj _))
theorem bM1 {l:Expr}{F:TE}(hl:PE X l F):PI X tg l (bS7 X.K F):=by
 intro z s σ H R I h
 refine thn (hl z s σ H _ I h) fun v s1 ⟨x,J,C,r1,G⟩=>?_
 obtain⟨a,e,⟨Y,hq⟩,q⟩:=G
 subst e
 cases r1
 obtain⟨its,Z,p,hz⟩:=C.tuple hq
 refine i5 (show s1.heap.IsTuple a its.toArray from p) ?_
 refine⟨s1.heap.objs.size,[s1.heap.objs.size],_,_,J,rfl,C.kept (t':=s1.toks) fun b o e=>am _ e,aO6 a _,⟨_,aQ _ rfl,rfl,rfl⟩,fun b hb=>?_,q⟩
 have e:b=s1.heap.objs.size:=by simpa using hb
 subst e
 exact C.fpOk (aj _) (C.hok.fresh (aj _))
theorem bg4 {C:List (Addr×Obj)}{σ:St}{H:Hp}{s:af}{R:It->Hp->Prop}{E:Value->af->Prop}{h z:Int}{t u v:Tok}{tk:Nat}(I:Inv X C σ H s)(Y:-(2^62)<=h)(G:h<2^62)(h3:-(2^62)<=z)(J:z<2^62)
  (q:R (Itr h (z - h).toNat) H):wpAny (model X.prog X.w) X.A (kx (.ref s.heap.objs.size)) (PIE X C σ tg R) E { s with heap:=s.heap.push { cls:=.type "range",data:=.fields #[.int h t,.int z u,.int 1 v] },toks:=tk }:=by
 refine i6 (kI ..) (small_one Y G h3 J) ?_
 have F:Inv X C σ H { s with heap:=s.heap.push { cls:=.type "range",data:=.fields #[.int h t,.int z u,.int 1 v] },toks:=tk }:=I.kept fun b o e=>am _ e
 refine⟨(s.heap.push { cls:=.type "range",data:=.fields #[.int h t,.int z u,.int 1 v] }).objs.size,[(s.heap.push { cls:=.type "range",data:=.fields #[.int h t,.int z u,.int 1 v] }).objs.size],_,_,H,rfl,
  F.kept (t':=tk) fun b o e=>am _ e,aM0 _ h (z - h).toNat,?_,fun b hb=>?_,q⟩
 ·have e1:h+((0:Nat):Int)*1=h:=by simp
  have e2:(((z - h).toNat:Nat):Int) - ((0:Nat):Int)=cT h z 1:=by rw[rangeSize_one];split<;>omega
  show io _ _ (h+((0:Nat):Int)*1) ((((z - h).toNat:Nat):Int) - ((0:Nat):Int)) 1
  rw[e1,e2]
  exact aQ _ rfl
 ·have e:b=(s.heap.push { cls:=.type "range",data:=.fields #[.int h t,.int z u,.int 1 v] }).objs.size:=by simpa using hb
  subst e
  exact F.fpOk (aj _) (F.hok.fresh (aj _))
def bI1 (ta:TA):TI:=fun σ H R=>ta σ H fun vs H1=>∃ j:Int,vs=[.int j]/\-(2^62)<=j/\j<2^62/\R (Itr 0 j.toNat) H1
theorem aX1 {a:Expr}{F:TA}{p pos:Pos}(hg:Gl X "range")(hm:X.mg "range"=none)(ha:PA X [a] F)(hs:bq [a] X.env=[(false,eval a X.env)]:=by rfl):PI X tg (.Call (.Name "range" p) [a] [] pos) (bI1 F):=by
 intro z s σ H R I h
 refine Call_ (ap0 I hg hm boot_range (dv (thn (ha pos z s σ H _ I h) fun us s1 ⟨vs,J,G,r1,C⟩=>?_) hs rfl))
 obtain⟨j,e,C,q2,q⟩:=C
 subst e
 cases r1 with
 | cons r rr =>
  cases rr
  obtain⟨t,rfl⟩:=r
  exact call_range_1 (bg4 G (by omega) (by omega) C q2 (by simpa using q))
def cb7 (wi:TI)(g:TG)(tb:TS):TS:=fun D σ H=>wi σ H fun J H1=>∃ W:Nat->Nat->St->Hp->Prop,(∃ m,W 0 m σ H1)/\∀ i m σ H,W i m σ H ->
 (J.stop i H/\D.nx σ H)\/(J.go i H/\∃ N:St->Hp->Prop,(∀ σ' H',N σ' H'->∃ m',m'<m/\W (i+1) m' σ' H')/\∀ x H',J.yld i H x H'->g x σ H' fun σ2 H2=>tb { D with nx:=N,ct:=N,bk:=D.nx } σ2 H2)
noncomputable def au9 (fp:List Addr)(h:Heap):List (Addr×Obj):=fp.filterMap fun b=>(h.get? b).map fun o=>(b,o)
theorem qp {z:List Addr}{h:Heap}{b:Addr}{o:Obj}(hb:b∈z)(e:h.get? b=some o):(b,o)∈au9 z h:=cD.mpr ⟨b,hb,by rw[e];rfl⟩
theorem aU6 {z:List Addr}{h:Heap}{p:Addr×Obj}(hp:p∈au9 z h):p.1∈z/\h.get? p.1=some p.2:=by
 obtain⟨b,hb,e⟩:=cD.mp hp
 cases q:h.get? b with
 | none=>rw[q]at e;cases e
 | some o =>
  rw[q]at e
  have e':(b,o)=p:=av e
  subst e'
  exact⟨hb,q⟩
theorem Inv.pinned {h:List (Addr×Obj)}{σ:St}{H:Hp}{s:af}{C:List Addr}(I:Inv X h σ H s)(hf:∀ b∈C,FpOk X h H b)(ho:∀ b∈C,∃ o,s.heap.get? b=some o/\∀ v,o.data≠.cell v):Inv X (h++au9 C s.heap) σ H s :=
 I.pins_of fun p hp=>(a9.mp hp).elim (fun z=>I.pin p (bn _ z)) fun z=>by
  obtain⟨hb,e⟩:=aU6 z
  obtain⟨G,J,F,_⟩:=hf p.1 hb
  obtain⟨o,e',d⟩:=ho p.1 hb
  rw[e]at e';cases e'
  exact⟨e,G,J,F,d⟩
theorem Inv.unpinned {h z:List (Addr×Obj)}{σ:St}{H:Hp}{s:af}(I:Inv X (h++z) σ H s):Inv X h σ H s:=I.pins_of fun p hp=>I.pin p (bn _ (ik _ hp))
theorem bF6 {iter:Expr}{body:List Stmt}{wi:TI}{g:TG}{tb:TS}{pos:Pos}(hp:PassesOwn (model X.prog X.w) X.A X.env X.xe)(hc:X.calm=true)(hi:PI X tg iter wi)(hg:PG X tg g)(hb:PSs X body tb)
  (hs:∀ x,dw iter X.env x=pure x:=by intro _;rfl):PS X (.For tg iter body [] pos) (cb7 wi g tb):=by
 intro z s σ H D I h
 refine wpAny_For (thn (hi z s σ H _ I h) fun v s1 h1=>thn h1 fun a6 s2 h2=>?_) hs
 obtain⟨it,fp,tn,J,H2,e,I2,T,a3,f2,W,⟨m0,w0⟩,turn⟩:=h2
 subst e
 have G:∀ {H':Hp},(∀ b∈fp,H' b=none)->∀ b∈fp,FpOk X z H' b:=fun hn b hb=>⟨hn b hb,(f2 b hb).2⟩
 refine codeAny_forLoop_any (fun n s'=>∃ i σ' H',Inv X z σ' H' s'/\tn i s'.heap/\(∀ b∈fp,H' b=none)/\W i n σ' H') ?_ m0 ⟨0,σ,H2,I2,a3,fun b hb=>(f2 b hb).1,w0⟩
 rintro n s3 ⟨i,σ3,H3,I3,a2,a1,w3⟩
 rcases turn i n σ3 H3 w3 with⟨stop,qn⟩|⟨go,N,hN,step⟩
 ·refine cJ hp (thn (T.done X rfl rfl rfl hc i z s3 σ3 H3 X.xe I3 (G a1) a2 stop) fun r s4 ⟨hr,I4⟩=>?_)
  subst hr
  exact gW ⟨σ3,H3,I4,qn⟩
 ·refine cJ hp (thn (T.item X rfl rfl rfl hc i z s3 σ3 H3 X.xe I3 (G a1) a2 go) fun r s4 ⟨u,hr,h4⟩=>?_)
  subst hr
  refine cJ hp (thn h4 fun _ s5 ⟨x,H5,I5,r5,y5,a0,a4⟩=>?_)
  have a5:=I5.pinned (G a4) (T.obj _ _ a0)
  refine cJ hp (thn (hg _ s5 σ3 H5 x u _ a5 r5 (step x H5 y5)) fun _ s6 ⟨σ6,H6,I6,q6⟩=>?_)
  refine cJ hp (thn (hb _ s6 σ6 H6 _ I6 q6) fun f s7 Z=>?_)
  have F:∀ {σ7:St} {C:Hp},Inv X (z++au9 fp s5.heap) σ7 C s7->N σ7 C->∃ m,m<n/\∃ i σ' H',Inv X z σ' H' s7/\tn i s7.heap/\(∀ b∈fp,H' b=none)/\W i m σ' H':=fun {σ7 C} Y n7=>by
   obtain⟨m',hm,w7⟩:=hN σ7 C n7
   refine⟨m',hm,i+1,σ7,C,Y.unpinned,T.keep _ _ _ a0 fun b hb o e=>(Y.pin (b,o) (bn _ (bn _ (qp hb e)))).1,fun b hb=>?_,w7⟩
   obtain⟨o,e,d⟩:=T.obj _ _ a0 b hb
   exact(Y.pin (b,o) (bn _ (bn _ (qp hb e)))).2.1
  cases f with
  | next=>obtain⟨σ7,C,Y,n7⟩:=Z;exact F Y n7
  | cont=>obtain⟨σ7,C,Y,n7⟩:=Z;exact F Y n7
  | brk=>obtain⟨σ7,C,Y,Z⟩:=Z;exact⟨σ7,C,Y.unpinned,Z⟩
  | ret v=>obtain⟨x7,σ7,C,Y,r7,Z⟩:=Z;exact⟨x7,σ7,C,Y.unpinned,r7,Z⟩
end
abbrev R2:=V->V->Hp->VK->Prop
def OpR (X:Cx)(f:Value->Value->Sem Value)(r:R2):Prop :=
 ∀(pins:List (Addr×Obj)) (s:af) (σ:St) (H:Hp) (x y:V) (v u:Value) (Q:VK),Inv X pins σ H s->RelV x v->RelV y u->r x y H Q ->
  wpAny (model X.prog X.w) X.A (f v u) (EP X pins σ Q) X.xe s
def UnR (X:Cx)(f:Value->Sem Value)(r:V->Hp->VK->Prop):Prop :=
 ∀(pins:List (Addr×Obj)) (s:af) (σ:St) (H:Hp) (x:V) (v:Value) (Q:VK),Inv X pins σ H s->RelV x v->r x H Q ->
  wpAny (model X.prog X.w) X.A (f v) (EP X pins σ Q) X.xe s
def ab8 (X:Cx)(f:Value)(r:List V->Hp->VK->Prop):Prop :=
 ∀(pins:List (Addr×Obj)) (s:af) (σ:St) (H:Hp) (xs:List V) (us:List Value) (Q:VK),Inv X pins σ H s->Vals xs us->r xs H Q ->
  wpAny (model X.prog X.w) X.A (call f us) (EP X pins σ Q) X.xe s
def tOp (r:R2)(ta tb:TE):TE:=fun σ H Q=>ta σ H fun x H1=>tb σ H1 fun y H2=>r x y H2 Q
def tUn (r:V->Hp->VK->Prop)(ta:TE):TE:=fun σ H Q=>ta σ H fun x H1=>r x H1 Q
def rI (C:Int->Int->Prop)(g:Int->Int->V):R2:=fun x y H Q=>∃ i j,x=.int i/\y=.int j/\C i j/\Q (g i j) H
def rI0 (g:Int->Int->V):R2:=fun x y H Q=>∃ i j,x=.int i/\y=.int j/\Q (g i j) H
def rU (g:Int->V):V->Hp->VK->Prop:=fun x H Q=>∃ i,x=.int i/\Q (g i) H
section
variable {X:Cx} {a b c:Expr} {ta tb tc:TE} {pos:Pos}
theorem bX7 (ha:PE X a ta)(hb:PE X b tb){z:List (Addr×Obj)}{s:af}{σ:St}{H:Hp}{R:V->V->Hp->Prop}(I:Inv X z σ H s)
  (h:ta σ H fun x F=>tb σ F fun y C=>R x y C) {Q:Value->af->Prop} {f:Value->Value->Sem Value}
  (hf:∀ v u s2 x y C,Inv X z σ C s2->RelV x v->RelV y u->R x y C->wpAny (model X.prog X.w) X.A (f v u) Q X.xe s2) :
  wpAny (model X.prog X.w) X.A (eval a X.env) (fun v Y=>wpAny (model X.prog X.w) X.A (eval b X.env) (fun u s₂=>wpAny (model X.prog X.w) X.A (f v u) Q X.xe s₂) X.xe Y) X.xe s:=by
 refine thn (ha z s σ H _ I h) fun v s1 ⟨x,F,J,r1,G⟩=>?_
 refine thn (hb z s1 σ F _ J G) fun u s2 ⟨y,C,Z,r2,q2⟩=>?_
 exact hf v u s2 x y C Z r1 r2 q2
theorem bV6 {op:Operator}{r:R2}(ho:OpR X (bP op) r)(ha:PE X a ta)(hb:PE X b tb):PE X (.BinOp a op b pos) (tOp r ta tb):=by
 intro z s σ H Q I h
 exact wpAny_BinOp (bX7 ha hb I h fun v u s2 x y C J G F q=>ho z s2 σ C x y v u Q J G F q)
theorem bT3 {op:UnaryOp}{r:V->Hp->VK->Prop}(ho:UnR X (unaryOp op) r)(ha:PE X a ta):PE X (.UnaryOp op a pos) (tUn r ta):=by
 intro z s σ H Q I h
 exact UnaryOp_ (thn (ha z s σ H _ I h) fun v s1 ⟨x,C,F,r1,G⟩=>ho z s1 σ C x v Q F r1 G)
theorem opI {f:Value->Value->Sem Value}{C:Int->Int->Prop}{g:Int->Int->Int}
  (rule:∀(i j:Int) (t u:Tok) (s:af) (Q:Value->af->Prop) (E:Value->af->Prop),C i j->Q (.int (g i j) s.toks) { s with toks:=s.toks+1 }->wpAny (model X.prog X.w) X.A (f (.int i t) (.int j u)) Q E s) :
  OpR X f (rI C fun i j=>.int (g i j)):=by
 intro z s σ H x y v u Q I G F h
 obtain⟨i,j,rfl,rfl,hc,q⟩:=h
 obtain⟨t,rfl⟩:=G
 obtain⟨t',rfl⟩:=F
 exact rule i j t t' s _ _ hc ⟨.int (g i j),H,I.tok _,⟨_,rfl⟩,q⟩
theorem cb0 {f:Value->Value->Sem Value}{g:Int->Int->Int}
  (rule:∀(i j:Int) (t u:Tok) (s:af) (Q:Value->af->Prop) (E:Value->af->Prop),Q (.int (g i j) s.toks) { s with toks:=s.toks+1 }->wpAny (model X.prog X.w) X.A (f (.int i t) (.int j u)) Q E s) :
  OpR X f (rI0 fun i j=>.int (g i j)):=by
 intro z s σ H x y v u Q I F C h
 obtain⟨i,j,rfl,rfl,q⟩:=h
 obtain⟨t,rfl⟩:=F
 obtain⟨t',rfl⟩:=C
 exact rule i j t t' s _ _ ⟨.int (g i j),H,I.tok _,⟨_,rfl⟩,q⟩
theorem bQ0 {f:Value->Value->Sem Value}{g:Int->Int->Bool}
  (rule:∀(i j:Int) (t u:Tok) (s:af) (Q:Value->af->Prop) (E:Value->af->Prop),Q (.bool (g i j)) s->wpAny (model X.prog X.w) X.A (f (.int i t) (.int j u)) Q E s) :
  OpR X f (rI0 fun i j=>.bl (g i j)):=by
 intro z s σ H x y v u Q I F C h
 obtain⟨i,j,rfl,rfl,q⟩:=h
 obtain⟨t,rfl⟩:=F
 obtain⟨t',rfl⟩:=C
 exact rule i j t t' s _ _ ⟨.bl (g i j),H,I,rfl,q⟩
def bZ2 (i j:Int):Prop:=0<=j/\j<=1000000/\i.natAbs<2^64
def bP8 (i j:Int):Prop:=(-(2^64)<i/\i<2^64)\/(-(2^64)<j/\j<2^64)
theorem bP8.ok {i j:Int}(h:bP8 i j):IntMulOk i j:=by
 rcases h with⟨C,z⟩|⟨C,z⟩
 ·exact .of_left (intBits_le_64 C z)
 ·exact .of_right (intBits_le_64 C z)
theorem aN3 (k:Nat):(0:Int)<=2^k:=by
 rw[two_pow_cast]
 exact Int.natCast_nonneg _
theorem bF0:OpR X (bP .Add) (rI0 fun i j=>.int (i+j)):=cb0 fun _ _ _ _ _ _ _ q=>add_int q
theorem bF2:OpR X (bP .Sub) (rI0 fun i j=>.int (i - j)):=cb0 fun _ _ _ _ _ _ _ q=>sub_int q
theorem bA5:OpR X (bP .Mod) (rI (fun _ j=>0<j) fun i j=>.int (i % j)):=opI fun i j _ _ _ _ _ hc q=>by
 have h:(0:Int)<j:=hc
 exact mod_int' (by omega) (by rw[Int.fmod_eq_emod_of_nonneg i (by omega)];exact q)
theorem bC2:OpR X (bP .Pow) (rI bZ2 fun i j=>.int (i^j.toNat)):=opI fun _ _ _ _ _ _ _ hc q=>pow_int_small hc.1 hc.2.1 hc.2.2 q
theorem bN5:OpR X (bP .LShift) (rI bZ2 fun i j=>.int (i*2^j.toNat)):=opI fun _ _ _ _ _ _ _ hc q=>lshift_int_small hc.1 hc.2.1 hc.2.2 q
theorem bL7:OpR X (bP .RShift) (rI (fun _ j=>0<=j) fun i j=>.int (i / 2^j.toNat)):=opI fun i j _ _ _ _ _ hc q =>
 rshift_int hc (by rw[fw i (aN3 _)];exact q)
theorem unI {f:Value->Sem Value}{g:Int->Int}
  (rule:∀(i:Int) (t:Tok) (s:af) (Q:Value->af->Prop) (E:Value->af->Prop),Q (.int (g i) s.toks) { s with toks:=s.toks+1 }->wpAny (model X.prog X.w) X.A (f (.int i t)) Q E s) :
  UnR X f (rU fun i=>.int (g i)):=by
 intro z s σ H x v Q I C h
 obtain⟨i,rfl,q⟩:=h
 obtain⟨t,rfl⟩:=C
 exact rule i t s _ _ ⟨.int (g i),H,I.tok _,⟨_,rfl⟩,q⟩
theorem bK5:UnR X (unaryOp .USub) (rU fun i=>.int (-i)):=unI fun _ _ _ _ _ q=>neg_int q
end
section
variable {X:Cx} {a b c:Expr} {ta tb tc:TE} {pos:Pos}
theorem bR6:OpR X (di .Lt) (rI0 fun i j=>.bl (decide (i<j))):=bQ0 fun _ _ _ _ _ _ _ q=>lt_int q
theorem bR7:OpR X (di .LtE) (rI0 fun i j=>.bl (decide (i<=j))):=bQ0 fun _ _ _ _ _ _ _ q=>le_int q
theorem bR9:OpR X (di .Gt) (rI0 fun i j=>.bl (decide (j<i))):=bQ0 fun _ _ _ _ _ _ _ q=>gt_int q
theorem bS8:OpR X (di .GtE) (rI0 fun i j=>.bl (decide (j<=i))):=bQ0 fun _ _ _ _ _ _ _ q=>ge_int q
theorem bw9 {op:CmpOp}{r:R2}(ho:OpR X (di op) r)(ha:PE X a ta)(hb:PE X b tb)(hm:dj op b=false):PE X (.Compare a [op] [b] pos) (tOp r ta tb):=by
 intro z s σ H Q I h
 exact wpAny_Compare1 (bX7 ha hb I h fun v u s2 x y C J G F q=>ho z s2 σ C x y v u Q J G F q) hm
def bB5 (t:TE):TT:=fun σ H Q=>t σ H fun x H'=>∃ k,x=.bl k/\Q k H'
theorem bs8 {op:CmpOp}{r:R2}(ho:OpR X (di op) r)(ha:PE X a ta)(hb:PE X b tb)(hm:dj op b=false):PT X (.Compare a [op] [b] pos) (bB5 (tOp r ta tb)):=by
 intro C s σ H Q I h
 refine hE (thn (ha C s σ H _ I h) fun v s1 ⟨x,H1,I1,r1,Y⟩=>thn (hb C s1 σ H1 _ I1 Y) fun u s2 ⟨y,F,I2,r2,q2⟩ =>
  thn (ho C s2 σ F x y v u _ I2 r1 r2 q2) fun c s3 ⟨z,G,J,Z,k,e,q3⟩=>?_) hm
 subst e
 cases Z
 exact bO ⟨G,J,q3⟩
theorem al8:(aE:Nat)<2^63:=by rw[eQ];decide
theorem aM3:OpR X (bP .Add) (fun x y H Q=>∃ i j,x=.str i/\y=.str j/\i.length+j.length<=aE/\Q (.str (i++j)) H):=by
 intro z s σ H x y v u Q I F C h
 obtain⟨i,j,rfl,rfl,hz,q⟩:=h
 obtain⟨t,rfl⟩:=F
 obtain⟨t',rfl⟩:=C
 exact add_str (fun t' tk=>⟨.str (i++j),H,I.tok _,⟨_,rfl⟩,q⟩) hz
theorem qz {x:V}{us:List Value}(r:Vals [x] us):∃ u,us=[u]/\RelV x u:=by
 cases r with
 | cons r1 r2=>cases r2;exact⟨_,rfl,r1⟩
theorem bm9 {x y:V}{us:List Value}(r:Vals [x,y] us):∃ u h,us=[u,h]/\RelV x u/\RelV y h:=by
 cases r with
 | cons r1 r2 =>
  cases r2 with
  | cons r3 r4=>cases r4;exact⟨_,_,rfl,r1,r3⟩
theorem ba6:ab8 X (.builtin "abs") (fun C H Q=>∃ i,C=[.int i]/\Q (.int (if i<0 then -i else i)) H):=by
 intro z s σ H C us Q I r h
 obtain⟨i,rfl,q⟩:=h
 obtain⟨u,rfl,t,rfl⟩:=qz r
 exact call_abs_int fun u tk=>⟨.int (if i<0 then -i else i),H,I.tok _,⟨_,rfl⟩,q⟩
theorem aW8 (hc:X.calm=true):ab8 X (.builtin "max") (fun C H Q=>∃ i j,C=[.int i,.int j]/\Q (.int (if j > i then j else i)) H):=by
 intro z s σ H C us Q I r h
 obtain⟨i,j,rfl,q⟩:=h
 obtain⟨u,F,rfl,⟨t,rfl⟩,⟨t',rfl⟩⟩:=bm9 r
 refine max_two_ints (I.ok.hd hc) fun h' tk k=>⟨_,H,I.kept k,?_,q⟩
 by_cases hj:j > i
 ·rw[if_pos hj,if_pos hj];exact⟨_,rfl⟩
 ·rw[if_neg hj,if_neg hj];exact⟨_,rfl⟩
theorem aX4 (hc:X.calm=true):ab8 X (.builtin "min") (fun C H Q=>∃ i j,C=[.int i,.int j]/\Q (.int (if j<i then j else i)) H):=by
 intro z s σ H C us Q I r h
 obtain⟨i,j,rfl,q⟩:=h
 obtain⟨u,F,rfl,⟨t,rfl⟩,⟨t',rfl⟩⟩:=bm9 r
 refine min_two_ints (I.ok.hd hc) fun h' tk k=>⟨_,H,I.kept k,?_,q⟩
 by_cases hj:j<i
 ·rw[if_pos hj,if_pos hj];exact⟨_,rfl⟩
 ·rw[if_neg hj,if_neg hj];exact⟨_,rfl⟩
theorem aS2:ab8 X (.type "int") (fun z H Q=>(∃ i,z=[.int i]/\Q (.int i) H)\/∃ k,z=[.bl k]/\Q (.int (if k then 1 else 0)) H):=by
 intro C s σ H z us Q I r h
 rcases h with⟨i,rfl,q⟩|⟨k,rfl,q⟩
 ·obtain⟨u,rfl,t,rfl⟩:=qz r
  exact call_int_int ⟨.int i,H,I,⟨_,rfl⟩,q⟩
 ·obtain⟨u,rfl,r1⟩:=qz r
  cases r1
  exact call_int_bool ⟨.int (if k then 1 else 0),H,I.tok _,⟨_,rfl⟩,q⟩
end
structure ObjM (h:Heap)(x dx C:Addr)(mA:Str->Option Value):Prop where
 obj:h.get? x=some (gT C dx)
 ns:h.Ns1 dx mA
 ne:dx≠x
theorem aU7 {h:Heap}{F:Addr}{G:Str->Option Value}(n:h.Ns1 F G):∃ od,h.get? F=some od/\∀ name,ip name od=some (G name):=by
 obtain⟨o,es,ep,ho,hd,hk,_,hm⟩:=n
 refine⟨o,ho,fun name=>?_⟩
 have e:=hm name
 unfold nsFind findBy at e
 rw[<-Array.find?_toList]at e
 unfold ip
 rw[hd]
 dsimp only
 split
 ·rename_i y q
  rw[q]at e
  exact congrArg some e
 ·rename_i q
  rw[q]at e
  have a:es.toList.any (·.refKey)=false:=by
   rw[List.any_eq_false]
   intro y hy
   obtain⟨z,t,C⟩:=hk y (Array.mem_toList_iff.mp hy)
   simp[DictEntry.refKey,C]
  have J:¬ es.toList.any (·.refKey)=true:=by rw[a];exact aO
  rw[if_neg J]
  exact congrArg some e
theorem ObjM.look {h:Heap}{x z C:Addr}{F:Str->Option Value}(I:ObjM h x z C F):∃ od,PySem.W.InstAt h x (gT C z) C (some od)/\∀ name,ip name od=some (F name) :=
 let⟨od,ho,hl⟩:=aU7 I.ns
 ⟨od,⟨I.obj,rfl,rfl,ho⟩,hl⟩
section
variable {prog:aB} {w:World} {A:aN} {E:Value->af->Prop} {s:af} {K:ae} {x dx C f:Addr} {mA:Str->Option Value} {name:Str} {v:Value}
end
theorem aL7.some_of {v:V}{o:Option Value}(r:aL7 (some v) o):∃ u,o=some u/\RelV v u:=by
 cases o with
 | none=>exact(show False from r).elim
 | some u=>exact⟨u,rfl,r⟩
section
variable {P:aB} {w:World} {H H':Hp} {h h':Heap} {a C dx:Addr} {fs fs':List (Str×V)}
theorem br4 (hok:HOk P w H h)(e:H a=some (.ins C dx fs)):∃ F,ObjM h a dx C F/\(∀ f,aL7 (fs.lookup f) (F f))/\ku F (fs.map (·.1))/\fs.length<=1000/\H dx=some (.own a):=by
 obtain⟨d,z,ne,ob,F,n,r,q⟩:=(show ab5 P w H h a (.ins C dx fs)from hok a _ e)
 exact⟨F,⟨ob,n,ne⟩,r,q,z,d⟩
end
structure Cls (K:ae)(C:Addr):Prop where
 pg:jC K C Str.empty=true
 hd:PySem.W.hasDictIn K C=true
 po:PySem.W.plainOver K C=true
 sa:dA K (.ref C) "__setattr__"=some (some (.builtin "object.__setattr__"))
theorem Cls.get {K:ae}{C:Addr}(c:Cls K C)(f:Str):jC K C f=true:=c.pg
section
variable {X:Cx} {pins:List (Addr×Obj)} {σ:St} {H:Hp} {s:af} {a C dx:Addr} {fs:List (Str×V)} {f:Str} {v:V} {A:aN} {E:Value->af->Prop}
end
section
variable {X:Cx} {o e value:Expr} {f:Str} {pos pos' tpos:Pos} {ta tv:TE}
end
section
variable {X:Cx} {pins:List (Addr×Obj)} {σ:St} {H:Hp} {s:af} {A:aN} {E:Value->af->Prop} {Q:Value->af->Prop} {c:Value} {b:Bool}
inductive TyOf (K:ae)(H:Hp):V->Value->Prop where
 | non:TyOf K H .non (.type "NoneType")
 | bl (x:Bool):TyOf K H (.bl x) (.type "bool")
 | int (i:Int):TyOf K H (.int i) (.type "int")
 | str (x:Str):TyOf K H (.str x) (.type "str")
 | flt (x:UInt64):TyOf K H (.flt x) (.type "float")
 | lst {a:Addr} {xs:List V} (e:H a=some (.lst xs)):TyOf K H (.ref a) (.type "list")
 | frz {a:Addr} {o:Obj} {xs:List V} (e:H a=some (.frz o (.lst xs))):TyOf K H (.ref a) (.type "list")
 | tup {a:Addr} {xs:List V} (e:H a=some (.tup xs)):TyOf K H (.ref a) (.type "tuple")
 | dK {a:Addr} {kvs:List (Key×V)} (e:H a=some (.dK kvs)):TyOf K H (.ref a) (.type "dict")
 | dT {a:Addr} {kvs:List (List NI×V)} (e:H a=some (.dT kvs)):TyOf K H (.ref a) (.type "dict")
 | ins {a C dx:Addr} {fs:List (Str×V)} (e:H a=some (.ins C dx fs)) (cl:Cls K C) (ha:dA K (.ref C) "__class__"=some (some (.builtin "object.__class__")))
   (hn:jk K (.builtin "object.__class__") "__get__"=some (some (.builtin "getset_descriptor.__get__"))) (htk:jO K (.builtin "object.__class__")=some true)
   (hm:km K C (.type "object")=some true):TyOf K H (.ref a) (.ref C)
theorem qf {x:V}{u t:Value}(I:Inv X pins σ H s)(F:RelV x u)(ty:TyOf X.K H x t)(e:bZ X.K t c=some b)(h:∀ tk,Q (.bool b) { s with toks:=tk }) :
  wpAny (model X.prog X.w) A (call (.builtin "isinstance") [u,c]) Q E s:=by
 cases ty with
 | non=>cases(show u=Value.none from F);exact bD PySem.W.kitx_none I.kIn True.intro e (fun z=>nomatch z) h
 | bl y=>cases(show u=Value.bool y from F);exact bD PySem.W.kitx_bool I.kIn True.intro e (fun z=>nomatch z) h
 | int i=>obtain⟨t,q⟩:=(show ∃ t,u=Value.int i t from F);cases q;exact bD PySem.W.kitx_int I.kIn True.intro e (fun z=>nomatch z) h
 | str y=>obtain⟨t,q⟩:=(show ∃ t,u=Value.str y t from F);cases q;exact bD PySem.W.kitx_str I.kIn True.intro e (fun z=>nomatch z) h
 | flt y=>obtain⟨t,q⟩:=(show ∃ t,u=Value.float y t from F);cases q;exact bD PySem.W.kitx_float I.kIn True.intro e (fun z=>nomatch z) h
 | @lst a Y ea =>
  cases(show u=Value.ref a from F)
  obtain⟨_,_,n,_,G⟩:=(show ab5 X.prog X.w H s.heap a (.lst Y)from I.hok a _ ea)
  exact bD jl I.kIn ⟨_,G,rfl⟩ e (fun z=>nomatch z) h
 | @frz a ob Y ea =>
  cases(show u=Value.ref a from F)
  obtain⟨_,_,_,n,_,G⟩:=(show ab5 X.prog X.w H s.heap a (.frz ob (.lst Y))from I.hok a _ ea)
  exact bD jl I.kIn ⟨_,G,rfl⟩ e (fun z=>nomatch z) h
 | @tup a Y ea =>
  cases(show u=Value.ref a from F)
  obtain⟨_,_,_,p⟩:=(show ab5 X.prog X.w H s.heap a (.tup Y)from I.hok a _ ea)
  obtain⟨o,G,Z,_⟩:=p
  exact bD i7 I.kIn ⟨o,G,Z⟩ e (fun z=>nomatch z) h
 | @dK a kvs ea =>
  cases(show u=Value.ref a from F)
  obtain⟨_,_,vs,_,p⟩:=(show ab5 X.prog X.w H s.heap a (.dK kvs)from I.hok a _ ea)
  obtain⟨o,es,ep,G,Z,_⟩:=p
  exact bD jm I.kIn ⟨o,G,Z.1⟩ e (fun z=>nomatch z) h
 | @dT a kvs ea =>
  cases(show u=Value.ref a from F)
  obtain⟨_,_,Y,_,o,es,ep,G,Z,_⟩:=(show ab5 X.prog X.w H s.heap a (.dT kvs)from I.hok a _ ea)
  exact bD jm I.kIn ⟨o,G,Z.1⟩ e (fun z=>nomatch z) h
 | @ins a C dx fs ea cl ha hn htk hm =>
  cases(show u=Value.ref a from F)
  obtain⟨mA,O,_⟩:=br4 I.hok ea
  obtain⟨od,J,_⟩:=O.look
  exact bD (PySem.W.kitx_own (cl.get _) cl.hd ha hn htk hm) I.kIn J e (fun z=>nomatch z) h
end
structure Room (k:Nat)(A:aN):Prop where
 hd:A.handled=none
 dp:A.depth+3*k+5<recursionLimit
 un:A.units+16*k+200<cLine
theorem Room.mono {j k:Nat}{A:aN}(r:Room k A)(h:j<=k):Room j A:=⟨r.hd,by have:=r.dp;omega,by have:=r.un;omega⟩
theorem Room.deeper {k:Nat}{A:aN}(r:Room (k+1) A)(env:Env):Room k (A.deeper env) :=
 ⟨r.hd,by have:=r.dp;show A.depth+1+3*k+5<_;omega,by have:=r.un;show A.units+3+16*k+200<_;omega⟩
theorem Room.in1 {k:Nat}{A:aN}(r:Room (k+1) A):Room k A.in1 :=
 ⟨r.hd,by have:=r.dp;show A.depth+3*k+5<_;omega,by have:=r.un;show A.units+1+16*k+200<_;omega⟩
theorem Room.depth {k:Nat}{A:aN}(r:Room k A):A.depth<recursionLimit:=by have:=r.dp;omega
theorem Room.units {k:Nat}{A:aN}(r:Room k A):A.units+64<cLine:=by have:=r.un;omega
theorem Room.units0 {k:Nat}{A:aN}(r:Room k A):A.units<cLine:=by have:=r.un;omega
def bg2:TA:=fun _ H Q=>Q [] H
def an5 (ta:TE)(tr:TA):TA:=fun σ H Q=>ta σ H fun x H1=>tr σ H1 fun xs H2=>Q (x::xs) H2
section
variable {X:Cx} {e:Expr} {es:List Expr} {te:TE} {t:TA} {pos:Pos}
theorem ad7:PA X [] bg2:=fun _ _ _ _ H Q I h=>Calls.spliced_nil ⟨[],H,I,.nil,h⟩
theorem zI (ha:PE X e te)(hr:PA X es t)(hs:bq (e::es) X.env=(false,eval e X.env)::bq es X.env:=by rfl):PA X (e::es) (an5 te t):=by
 intro pos z s σ H Q I h
 rw[hs]
 show wpAny _ _ (spliced ((false,eval e X.env)::eW pos (bq es X.env))) _ _ s
 refine Calls.spliced_cons (thn (ha z s σ H _ I h) fun u s1 ⟨x,F,G,r1,Z⟩=>?_)
 exact thn (hr pos z s1 σ F _ G Z) fun us s2 ⟨J,C,Y,r2,q2⟩=>⟨x::J,C,Y,.cons r1 r2,q2⟩
def cb6 (t:TA):TE:=fun σ H Q=>t σ H fun xs H1=>xs.length<=aE/\∀ p,H1 p=none->Q (.ref p) (upd H1 p (.tup xs))
def cd1 (t:TA):TE:=fun σ H Q=>t σ H fun xs H1=>xs.length<=aE/\∀ p,H1 p=none->Q (.ref p) (upd H1 p (.lst xs))
theorem bP1 {x1}(h:PA X es t):PE X (.Tuple es x1 pos) (cb6 t):=by
 intro C s σ H Q I hq
 refine wpAny_Tuple_spliced (thn (h pos C s σ H _ I hq) fun us s1 ⟨J,F,G,r,z,q⟩=>⟨by rw[<-r.length];exact z,?_⟩)
 have hf:F s1.heap.objs.size=none:=G.hok.fresh (aj _)
 refine⟨.ref s1.heap.objs.size,upd F s1.heap.objs.size (.tup J),G.laid (t':=s1.toks) (fun b u e=>am _ e) (aj _) ?_,rfl,q _ hf⟩
 exact⟨z,us,r,⟨_,aQ _ rfl,rfl,_,rfl⟩⟩
theorem bl5 (h:PA X es t):PE X (.List es pos) (cd1 t):=by
 intro C s σ H Q I hq
 refine wpAny_List_spliced (thn (h pos C s σ H _ I hq) fun us s1 ⟨J,F,G,r,z,q⟩=>⟨by rw[<-r.length];exact z,?_⟩)
 have hf:F s1.heap.objs.size=none:=G.hok.fresh (aj _)
 refine⟨.ref s1.heap.objs.size,upd F s1.heap.objs.size (.lst J),G.laid (t':=s1.toks) (fun b u e=>am _ e) (aj _) ?_,rfl,q _ hf⟩
 exact⟨z,us,0,r,aQ _ rfl⟩
end
abbrev Sp:=List V->Hp->VK->XK->Prop
abbrev CXT:=List Env->Hp->af->XK->Value->af->Prop
structure Env0 (P:aB)(w:World)(K:ae)(mg:Str->Option Value)(base:Heap)(A:aN)(outer:List Env)(s:af)(H:Hp):Prop where
 frames:A.frames=some outer
 mod:Mod K mg base
 bs:∀ b o,base.get? b=some o->s.heap.get? b=some o/\H b=none
 bsz:base.objs.size<=s.heap.objs.size
 funs:s.heap.FunFrames base outer
 frf:∀ b∈frs outer,H b=none
 hok:HOk P w H s.heap
 bare:fL s.gens
def CE (outer:List Env)(P:aB)(w:World)(H:Hp)(s:af)(Q:VK)(u:Value)(s':af):Prop :=
 ∃ v H',s'.os=s.os/\fL s'.gens/\Un (frs outer) [] H H' s.heap s'.heap/\HOk P w H' s'.heap/\RelV v u/\Q v H'
def CR (CX:CXT)(outer:List Env)(P:aB)(w:World)(H:Hp)(s:af)(Q:VK)(E:XK)(r:j0)(s':af):Prop :=
 match r with
 | .ok (.ret u)=>CE outer P w H s Q u s'
 | .ok _=>False
 | .error e=>CX outer H s E e s'
structure FnOk (P:aB)(w:World)(K:ae)(mg:Str->Option Value)(base:Heap)(CX:CXT)(k:Nat)(f:Addr)(fd:bL)(ps:List Str)(sp:Sp):Prop where
 len:∀ vs H Q E,sp vs H Q E->vs.length=ps.length
 run:∀(A:aN) (outer:List Env) (s:af) (H:Hp) (args:Args) (us:List Value) (vs:List V) (Q:VK) (E:XK),Room k A->Env0 P w K mg base A outer s H->jT s fd args (ps.zip us)->Vals vs us->sp vs H Q E ->
  fM (model P w) A (.call (.ref f) args) (CR CX outer P w H s Q E) s
theorem FnOk.imp {P:aB}{w:World}{K:ae}{Y:Str->Option Value}{base:Heap}{G:CXT}{k:Nat}{f:Addr}{J:bL}{ps:List Str}{sp C:Sp}(F:FnOk P w K Y base G k f J ps sp)
  (h:∀ vs H Q E,C vs H Q E->sp vs H Q E):FnOk P w K Y base G k f J ps C :=
 ⟨fun vs H Q E q=>F.len vs H Q E (h _ _ _ _ q),fun A z s H args us vs Q E hr Z hb hv hs=>F.run A z s H args us vs Q E hr Z hb hv (h _ _ _ _ hs)⟩
section
variable {X:Cx} {pins:List (Addr×Obj)} {σ:St} {H:Hp} {s s':af}
theorem Inv.env0 (I:Inv X pins σ H s):Env0 X.prog X.w X.K X.mg X.base X.A X.stack s H :=
 ⟨I.ok.frames,I.ok.mod,I.bs,ak I.ok.bsz I.sz,I.stack,I.stkFree,I.hok,I.bare⟩
theorem Inv.after {Q:VK}{u:Value}(I:Inv X pins σ H s)(h:CE X.stack X.prog X.w H s Q u s'):EP X pins σ Q u s':=by
 obtain⟨v,H',os,bare,un,hok,r,q⟩:=h
 obtain⟨F,g,d,t,C⟩:=s'
 obtain rfl:C=s.os:=os
 exact⟨v,H',I.call (h':=F) (g':=g) (d':=d) (t':=t) (ch:=[]) un hok bare (fun b z=>absurd z (by simp)),r,q⟩
end
def aM1 (sp:Sp)(dvs:List V)(E:XK)(t:TA):TE:=fun σ H Q=>t σ H fun vs H1=>sp (vs++dvs) H1 Q E
def Binds (K:ae)(fd:bL)(ps:List Str)(ds:List Value):Prop :=
 ∀(s:af) (us:List Value),K.In s.heap->(us++ds).length=ps.length->jT s fd ⟨us,[]⟩ (ps.zip (us++ds))
theorem Binds.all {K:ae}{z:bL}{ps:List Str}(h:∀ us:List Value,us.length=ps.length->dZ z ⟨us,[]⟩=pure (ps.zip us)):Binds K z ps []:=fun s us _ hl=>by
 rw[aZ]at hl ⊢
 exact .of_eq (h us hl)
def aF3 (CX:CXT)(X:Cx)(E:XK):Prop:=∀(pins:List (Addr×Obj)) (σ:St) (H:Hp) (s:af) (e:Value) (s':af),Inv X pins σ H s->CX X.stack H s E e s'->X.xe e s'
section
variable {X:Cx} {CX:CXT} {k:Nat} {f C:Addr} {fd:bL} {ps:List Str} {sp:Sp} {dvs:List V} {ds:List Value} {E:XK} {x m:Str} {p pos apos:Pos} {e o:Expr} {es:List Expr} {ta:TE} {t:TA}
theorem bm0 {z:List (Addr×Obj)}{σ:St}{H:Hp}{s:af}{Q:VK}{us:List Value}{vs:List V}(F:FnOk X.prog X.w X.K X.mg X.base CX k f fd ps sp)(hr:Room k X.A)(hb:Binds X.K fd ps ds)(hd:Vals dvs ds)(hx:aF3 CX X E)
  (I:Inv X z σ H s) (r:Vals vs us) (h:sp (vs++dvs) H Q E):wpAny (model X.prog X.w) X.A (call (.ref f) us) (EP X z σ Q) X.xe s:=by
 have r2:Vals (vs++dvs) (us++ds):=r.append hd
 have hl:(us++ds).length=ps.length:=by rw[<-r2.length];exact F.len _ _ _ _ h
 refine wpAny_call (jn (F.run X.A X.stack s H ⟨us,[]⟩ (us++ds) (vs++dvs) Q E hr I.env0 (hb s us I.kIn hl) r2 h) fun r s' hq=>?_)
 cases r with
 | error e=>exact hx z σ H s e s' I hq
 | ok fl =>
  cases fl with
  | ret u=>exact I.after hq
  | next=>exact cn hq
  | brk=>exact cn hq
  | cont=>exact cn hq
theorem bt9 (F:FnOk X.prog X.w X.K X.mg X.base CX k f fd ps sp)(hr:Room k X.A)(hg:Gl X x)(hm:X.mg x=some (.ref f))(hk:cE X.K (.ref f)=true)(hb:Binds X.K fd ps ds)(hd:Vals dvs ds)(hx:aF3 CX X E)
  (ha:PA X (e::es) t) (G:(x==("__debug__":Str))=false:=by decide) (Y:bq (e::es) X.env=(false,eval e X.env)::bq es X.env:=by rfl) (C:(eW pos (bq es X.env)).any (·.1)=false:=by rfl) :
  PE X (.Call (.Name x p) (e::es) [] pos) (aM1 sp dvs E t):=by
 intro z s σ H Q I h
 refine cY (aC5 I hg hm ?_ G)
 refine PySem.W.callWith_K (h₀:=X.base) I.ok.mod.kin hk (thn (ha pos z s σ H _ I h) fun us s1 ⟨vs,Z,J,r,q⟩=>⟨J.kIn,?_⟩) Y C
 exact bm0 F hr hb hd hx J r q
theorem bc1 (F:FnOk X.prog X.w X.K X.mg X.base CX k f fd ps sp)(hr:Room k X.A)(hg:Gl X x)(hm:X.mg x=some (.ref f))(hk:cE X.K (.ref f)=true)(hb:Binds X.K fd ps ds)(hd:Vals dvs ds)(hx:aF3 CX X E)
  (z:(x==("__debug__":Str))=false:=by decide):PE X (.Call (.Name x p) [] [] pos) (aM1 sp dvs E bg2):=by
 intro C s σ H Q I h
 refine cY (aC5 I hg hm ?_ z)
 exact PySem.W.callWith_K0 I.kIn hk (bm0 (us:=[]) F hr hb hd hx I .nil h)
structure Mk (K:ae)(C f:Addr):Prop where
 makes:PySem.W.makesIn K C=true
 init:dA K (.ref C) "__init__"=some (some (.ref f))
 fn:PySem.W.isFn K (.ref f)=true
 kp:cE K (.ref C)=true
end
section
variable {X:Cx} {CX:CXT} {k:Nat} {f C:Addr} {fd:bL} {ps ks:List Str} {sp:Sp} {E:XK} {x m:Str} {p pos apos kpos:Pos} {e o:Expr} {es:List Expr} {kws:List jU} {te ta:TE} {t tk:TA} {nm:Option Str}
variable {g:List Value->List Value->List Value} {gV:List V->List V->List V}
end
structure FnScope (N P:List Str)(sc:Scope):Prop where
 kind:sc.kind=.function
 co:sc.isCoroutine=false
 gen:sc.isGenerator=false
 nd:N.Nodup
 pre:N.take P.length=P
 par:∀ x∈P,sc.names.lookup x=some .local\/sc.names.lookup x=some .cell
 nofree:∀ y∈sc.names,y.2≠.free
theorem aw0 {em:Str->Option cb}{x:Str}:∀ {binds:List (Str×Value)} {m:Str->Option Value},(∀ v,(x,v) ∉ binds)->bindL em binds m x=m x
 | [],_,_=>rfl
 | (n,v)::r,m,h=>by
  unfold bindL
  rw[aw0 fun w hw=>h w (ao _ hw)]
  split
  ·have:x≠n:=by rintro rfl;exact h v aw
   simp[this]
  ·rfl
theorem aw8 {em:Str->Option cb}{x:Str}:∀ {binds:List (Str×Value)} {m:Str->Option Value},(∀ v,(x,v) ∉ binds)->bindC em binds m x=m x
 | [],_,_=>rfl
 | (n,v)::r,m,h=>by
  unfold bindC
  rw[aw8 fun w hw=>h w (ao _ hw)]
  split
  ·rfl
  ·have:x≠n:=by rintro rfl;exact h v aw
   simp[this]
theorem al9 {em:Str->Option cb}{x:Str}{v:Value}:∀ {P:List Str} {vs:List Value} {i:Nat} {m:Str->Option Value},P.Nodup->P[i]?=some x->vs[i]?=some v->em x=some .local ->
  bindL em (P.zip vs) m x=some v
 | [],_,_,_,_,h,_,_=>by simp at h
 | _::_,[],_,_,_,_,h,_=>by simp at h
 | p::P,w::vs,0,m,nd,h1,h2,hk=>by
  simp at h1 h2;subst h1;subst h2
  show bindL em ((p,w)::P.zip vs) m p=_
  unfold bindL
  rw[aw0 fun v hv=>(eY.mp nd).1 (dL hv).1,if_pos hk]
  simp
 | p::P,w::vs,i+1,m,nd,h1,h2,hk=>by
  show bindL em ((p,w)::P.zip vs) m x=_
  unfold bindL
  exact al9 (i:=i) (eY.mp nd).2 (by simpa using h1) (by simpa using h2) hk
theorem al3 {em:Str->Option cb}{x:Str}{v:Value}:∀ {P:List Str} {vs:List Value} {i:Nat} {m:Str->Option Value},P.Nodup->P[i]?=some x->vs[i]?=some v->em x≠some .local ->
  bindC em (P.zip vs) m x=some v
 | [],_,_,_,_,h,_,_=>by simp at h
 | _::_,[],_,_,_,_,h,_=>by simp at h
 | p::P,w::vs,0,m,nd,h1,h2,hk=>by
  simp at h1 h2;subst h1;subst h2
  show bindC em ((p,w)::P.zip vs) m p=_
  unfold bindC
  rw[aw8 fun v hv=>(eY.mp nd).1 (dL hv).1,if_neg hk]
  simp
 | p::P,w::vs,i+1,m,nd,h1,h2,hk=>by
  show bindC em ((p,w)::P.zip vs) m x=_
  unfold bindC
  exact al3 (i:=i) (eY.mp nd).2 (by simpa using h1) (by simpa using h2) hk
noncomputable def ag5 (N:List Str)(vs:List V):St:=vs.map some++au (N.length - vs.length) none
noncomputable def bd8 (CX:CXT)(P:aB)(w:World)(K:ae)(mg:Str->Option Value)(base:Heap)(N:List Str)(qual:Str)(scope:Scope)(f:Addr)(cd:Value)(A:aN)(outer:List Env)(s:af)(H:Hp)(E:XK):Cx where
 prog:=P
 w:=w
 K:=K
 mg:=mg
 base:=base
 A:=A.deeper (fx qual scope s.heap.objs.size f cd)
 N:=N
 s₀:=s
 H₀:=H
 env:=fx qual scope s.heap.objs.size f cd
 outer:=outer
 stack:=fx qual scope s.heap.objs.size f cd::outer
 ex:=[]
 calm:=true
 fn:=fun _=>true
 pn:=[]
 xe:=fun e s'=>wpAny (model P w) (A.deeper (fx qual scope s.heap.objs.size f cd)) (leaving (fx qual scope s.heap.objs.size f cd) e) (fun _ s''=>CX outer H s E e s'') (fun e' s''=>CX outer H s E e' s'') s'
theorem zM {sc:Scope}{n:Nat}{x:Str}(h:sc.names.lookup x=some .cell):∃ c,(aK n sc.names []).lookup x=some c:=by
 have q:=gC sc.names n [] (.inl h)
 exact fX.mp q
theorem aS3 {CX:CXT}{P:aB}{w:World}{K:ae}{mg:Str->Option Value}{base:Heap}{N ps:List Str}{qual:Str}{scope:Scope}{f:Addr}{cd:Value}{A:aN}{C:List Env}{s s1:af}{H:Hp}{E:XK}{us:List Value}{vs:List V}
  (S:FnScope N ps scope) (hd:A.handled=none) (G:Env0 P w K mg base A C s H) (hl:vs.length=ps.length) (r:Vals vs us)
  (x:fN s s.heap.objs.size (bindL (fx qual scope s.heap.objs.size f cd).kindOf (ps.zip us) fun _=>none) (aK (s.heap.objs.size+1) scope.names []) (bindC (fx qual scope s.heap.objs.size f cd).kindOf (ps.zip us) fun _=>none) s1) :
  Inv (bd8 CX P w K mg base N qual scope f cd A C s H E) [] (ag5 N vs) H s1:=by
 have a0:ps.length<=N.length:=by have:=congrArg kJ S.pre;rw[bE]at this;omega
 obtain⟨h1,tk,rfl,hk⟩:=x.done
 have J:∀ b:Addr,b ∉ (bd8 CX P w K mg base N qual scope f cd A C s H E).ex:=fun b z=>absurd (show b∈([]:List Addr)from z) (by simp)
 refine⟨⟨G.mod,S.kind,rfl,rfl,aj _,fun y z c h1 F=>?_,fun y hy=>?_,fun y c _ h=>?_,fun _=>hd,iq G.frames,.inr ⟨rfl,rfl⟩,fun b z=>absurd z (J b),G.bs,G.bsz,fun b _ _=>J b,fun b z=>absurd z (J b),G.funs,G.frf⟩,
  rfl,G.bare,Un.kept hk,⟨_,x.toInCall.ns,fun i y v h1 F h3=>?_⟩,fun y c h=>⟨_,x.cell y c h⟩,G.hok.fresh (aj _),fun y c h=>?_,fun p hp=>absurd (show p∈([]:List (Addr×Obj))from hp) (by simp),G.hok.kept hk,?_⟩
 ·exact gD x.apart (aC h1) (aC F)
 ·have hy:scope.names.lookup y=some .cell\/scope.names.lookup y=some .free:=hy
  rcases hy with hy|hy
  ·exact zM hy
  ·exact absurd rfl (S.nofree _ (aC hy))
 ·exact fj (x.above y c (aC h))
 ·have Z:i<vs.length:=by
   unfold ag5 at F
   by_cases Z:i<vs.length
   ·exact Z
   ·rw[aF (by simpa using Z)]at F
    rw[gf]at F
    split at F<;>cases F
  have ha:vs[i]?=some v:=by
   unfold ag5 at F
   rw[aJ (by simpa using Z),aA]at F
   cases e:vs[i]? with
   | none=>rw[e]at F;cases F
   | some a=>rw[e]at F;cases F;rfl
  obtain⟨u,hu,rv⟩:=r.get ha
  have hp:ps[i]?=some y:=by
   rw[<-S.pre,List.getElem?_take_of_lt (by omega)];exact h1
  have Y:ps.Nodup:=by rw[<-S.pre];exact S.nd.sublist (List.take_sublist _ _)
  refine⟨u,rv,?_⟩
  rcases S.par y (aS hp)with k|k
  ·exact .inl ⟨k,al9 Y hp hu k⟩
  ·obtain⟨c,e⟩:=zM (n:=s.heap.objs.size+1) k
   refine .inr ⟨.inl k,c,e,?_⟩
   have q:=x.cell y c e
   rw[al3 Y hp hu (by show scope.names.lookup y≠_;rw[k];decide)]at q
   exact q
 ·exact G.hok.fresh (fj (x.above y c (aC h)))
 ·unfold ag5
  show _=N.length
  rw[aG,ay,List.length_replicate]
  omega
theorem bO2 {CX:CXT}{P:aB}{w:World}{K:ae}{mg:Str->Option Value}{base:Heap}{k:Nat}{f:Addr}{name qual:Str}{params:bU}{body:List Stmt}{scope:Scope}{dV kV Y pm z ct oc:Value}{an od:Option Addr}
  {a2:Array (Option Value)} {N ps:List Str} {sp:Sp} (lk:K.lookup f=some ⟨oc,od,.func (cZ name qual params body scope dV kV Y pm an z ct),a2⟩) (a1:fy K z qual=true) (S:FnScope N ps scope)
  (len:∀ vs H Q E,sp vs H Q E->vs.length=ps.length)
  (C:∀(A:aN) (h:List Env) (s:af) (H:Hp) (vs:List V) (Q:VK) (E:XK),Room k (A.deeper (fx qual scope s.heap.objs.size f z))->sp vs H Q E ->
   ∃ t,PSs (bd8 CX P w K mg base N qual scope f z A h s H E) body t/\t { nx:=fun _ H'=>Q .non H',rt:=Q } (ag5 N vs) H) :
  FnOk P w K mg base CX (k+1) f (cZ name qual params body scope dV kV Y pm an z ct) ps sp:=by
 refine⟨len,fun A h s H args us vs Q E hr G hb r Z=>?_⟩
 have hl:=len _ _ _ _ Z
 have KX:K.In s.heap:=G.mod.kin.keeps fun b o e=>(G.bs b o e).1
 have a0:s.heap.NoLimit:=G.mod.nolimit.keeps fun b o e=>(G.bs b o e).1
 have F:∀ y∈ps.zip us,scope.names.lookup y.1=some .local\/(scope.names.lookup y.1=some .cell/\((aK (s.heap.objs.size+1) scope.names []).lookup y.1).isSome=true):=fun⟨n,v⟩ hy=>by
  rcases S.par n (dL hy).1 with q|q
  ·exact .inl q
  ·exact .inr ⟨q,gC _ _ _ (.inl q)⟩
 refine hG hr.depth (KX _ _ lk) rfl S.co S.gen rfl (PySem.W.codeRec_of KX a1) (hb _ _ _ _ ?_)
 refine wpAny_newFunctionEnv_cells S.kind F fun env he s1 x=>?_
 subst he
 refine⟨a0.keeps x.toInCall.keep,codeAny_func ?_⟩
 obtain⟨t,ht,hq⟩:=C A h s H vs Q E (hr.deeper _) Z
 have I:Inv (bd8 CX P w K mg base N qual scope f z A h s H E) [] (ag5 N vs) H s1:=aS3 S hr.hd G hl r x
 refine bN (ht [] s1 (ag5 N vs) H _ I hq) (fun fl s' hs=>?_) fun e s' hs=>hs
 have fin:∀ {σ':St} {H':Hp} {v:V} {u:Value},Inv (bd8 CX P w K mg base N qual scope f z A h s H E) [] σ' H' s'->RelV v u->Q v H'->CE h P w H s Q u s' :=
  fun {σ' H' v u} J rv q=>⟨v,H',J.os,J.bare,J.base,J.hok,rv,q⟩
 cases fl with
 | ret u =>
  obtain⟨v,σ',H',J,rv,q⟩:=hs
  exact fin J rv q
 | next =>
  obtain⟨σ',H',J,q⟩:=hs
  exact fin (v:=V.non) (u:=Value.none) J rfl q
 | brk =>
  obtain⟨_,_,_,q⟩:=hs
  exact cn q
 | cont =>
  obtain⟨_,_,_,q⟩:=hs
  exact cn q
section
variable {X:Cx} {x:Str} {p pos:Pos} {e:Expr} {es:List Expr} {t:TA} {id T:String} {r:List V->Hp->VK->Prop}
def tCB (r:List V->Hp->VK->Prop)(t:TA):TE:=fun σ H Q=>t σ H fun vs H1=>r vs H1 Q
theorem ar0 (hc:ab8 X (.builtin id) r)(hg:Gl X x)(hm:X.mg x=none)(hv:bf x=some (.builtin id))(ha:PA X (e::es) t)(hn:x ≠ "__name__":=by decide)(F:(x==("__debug__":Str))=false:=by decide)
  (Y:bq (e::es) X.env=(false,eval e X.env)::bq es X.env:=by rfl) (C:(eW pos (bq es X.env)).any (·.1)=false:=by rfl):PE X (.Call (.Name x p) (e::es) [] pos) (tCB r t):=by
 intro z s σ H Q I h
 refine cY (ap0 I hg hm hv ?_ hn F)
 exact PyProof.Rows.callWith_builtin1 (thn (ha pos z s σ H _ I h) fun us s1 ⟨vs,G,J,r1,Z⟩=>hc z s1 σ G vs us Q J r1 Z) Y C
theorem am6 (hc:ab8 X (.type T) r)(hg:Gl X x)(hm:X.mg x=none)(hv:bf x=some (.type T))(ha:PA X (e::es) t)(hn:x ≠ "__name__":=by decide)(F:(x==("__debug__":Str))=false:=by decide)
  (Y:bq (e::es) X.env=(false,eval e X.env)::bq es X.env:=by rfl) (C:(eW pos (bq es X.env)).any (·.1)=false:=by rfl):PE X (.Call (.Name x p) (e::es) [] pos) (tCB r t):=by
 intro z s σ H Q I h
 refine cY (ap0 I hg hm hv ?_ hn F)
 exact dv (thn (ha pos z s σ H _ I h) fun us s1 ⟨vs,G,J,r1,Z⟩=>hc z s1 σ G vs us Q J r1 Z) Y C
end
end L2
end
noncomputable section
namespace HT
open PySem PyProof.Rows
section
open PySem.SeqAt
open PySem.AutoSeq1 (wpAny_loadPart')
open PySem.MeetsSeq PySem.MeetsSeq2 PySem.MeetsSeq3
end
section
variable {prog:aB} {w:World} {A:aN} {E:Value->af->Prop} {s:af}
theorem cat_tup {t b:Addr}{vs ws:List Value}{Q:Value->af->Prop}(ht:IsTup s.heap t vs.toArray)(hb:IsTup s.heap b ws.toArray)(hv:vs≠[])
  (h1:ws=[]->Q (.ref t) s) (h2:ws≠[]->Q (.ref s.heap.objs.size) { s with heap:=s.heap.push { cls:=.type "tuple",data:=.seq (vs++ws).toArray } })
  (hsz:vs.length+ws.length<=aE):wpAny (model prog w) A (bP .Add (.ref t) (.ref b)) Q E s:=by
 obtain⟨⟨cls,Y,data,sl⟩,ho,hc,n,hd⟩:=id ht
 obtain⟨⟨Z,z,J,G⟩,h,C,n2,F⟩:=id hb
 simp only at hc hd C F
 subst hc hd C F
 have e:vs.toArray++ws.toArray=(vs++ws).toArray:=by simp
 by_cases hw:ws=[]
 ·exact jo ⟨_,ho,rfl⟩ ⟨_,h,rfl⟩ gg iX d3 dR (dG _ _)
   (tuple_addW1 t b vs.toArray ws.toArray n n2 Y z sl G (by simpa using hv) (by simp[hw])) ⟨ho,h,h1 hw⟩
 ·refine jo ⟨_,ho,rfl⟩ ⟨_,h,rfl⟩ gg iX d3 dR (dG _ _)
   (tuple_addW2 t b vs.toArray ws.toArray n n2 Y z sl G (by simpa using hv) (by simpa using hw) (by rw[aq,aq];exact hsz)) ⟨ho,h,?_⟩
  rw[e]
  exact h2 hw
noncomputable def sIx (n d:Nat):Option Int->Nat
 | none=>d
 | some v=>if v<0 then(v+(n:Int)).toNat else min v.toNat n
theorem sIx_le (n d:Nat)(hd:d<=n)(o:Option Int):sIx n d o<=n:=by
 cases o with
 | none=>exact hd
 | some v =>
  show(if v<0 then(v+(n:Int)).toNat else min v.toNat n)<=n
  by_cases hv:v<0
  ·rw[if_pos hv];omega
  ·rw[if_neg hv];exact Nat.min_le_right _ _
theorem clip_eq (v:Int)(n d:Nat):(if v<0 then max (v+(n:Int)) 0 else min v (n:Int))=((sIx n d (some v):Nat):Int):=by
 show(if v<0 then max (v+(n:Int)) 0 else min v (n:Int))=(((if v<0 then(v+(n:Int)).toNat else min v.toNat n):Nat):Int)
 by_cases hv:v<0
 ·simp only[if_pos hv];omega
 ·simp only[if_neg hv];omega
theorem adjust_gen (z h:Option Int)(n:Nat):dF z h 1 (n:Int)=(((sIx n 0 z:Nat):Int),((sIx n n h:Nat):Int)):=by
 have C:¬((1:Int)<0):=by omega
 unfold dF
 simp only[C,if_false]
 refine Prod.ext ?_ ?_
 ·cases z with
  | none=>rfl
  | some v=>exact clip_eq v n 0
 ·cases h with
  | none=>rfl
  | some v=>exact clip_eq v n n
theorem places_gen (i j:Nat):cI (i:Int) (j:Int) 1=j - i:=by
 unfold cI
 have h:(1:Int) > 0:=by omega
 simp only[h,if_true,kz]
 split<;>omega
theorem slicePart_ {v:Value}{o:Option Int}{Q:Option Int->af->Prop}(p:fY v o)(h:Q o s):wpAny (model prog w) A (jP v) Q E s:=by
 cases p with
 | none=>exact slicePart_none h
 | int i t=>exact slicePart_int h
theorem sliceApplied_gen {sl:Addr}{vl vu:Value}{z C:Option Int}{n:Nat}{Q:Int×Int×Nat->af->Prop}(hs:s.heap.IsSliceOf sl vl vu .none)(Y:fY vl z)(pu:fY vu C)
  (h:Q (((sIx n 0 z:Nat):Int),1,sIx n n C - sIx n 0 z) s):wpAny (model prog w) A (fz (.ref sl) (pure (n:Int))) Q E s:=by
 obtain⟨os,F,J,G⟩:=id hs
 unfold fz ka
 refine ag (ag (dS F G (x:=vl) rfl (ag (dS F G (x:=vu) rfl (ag (dS F G (x:=.none) rfl (ar ?_)))))))
 refine ag (slicePart_none ?_)
 show wpAny _ _ (if((1:Int)==0)=true then _ else _) _ _ s
 rw[if_neg (by decide)]
 refine ag (slicePart_ Y (ag (slicePart_ pu (ag (ar ?_)))))
 show wpAny _ _ (match dF z C 1 (n:Int)with|(z,C)=>pure (z,(1:Int),cI z C 1)) _ _ s
 rw[adjust_gen z C n]
 show wpAny _ _ (pure (((sIx n 0 z:Nat):Int),(1:Int),cI ((sIx n 0 z:Nat):Int) ((sIx n n C:Nat):Int) 1)) _ _ s
 rw[places_gen]
 exact ar h
theorem pick_gen (h:Array Value)(i k:Nat):((aR k).filterMap fun(m:Nat)=>h[((i:Int)+(m:Int)*1).toNat]?).toArray=((h.toList.drop i).take k).toArray:=by
 have e:(fun(m:Nat)=>h[((i:Int)+(m:Int)*1).toNat]?)=fun m=>h[i+m]?:=by
  funext m
  have:((i:Int)+(m:Int)*1).toNat=i+m:=by omega
  rw[this]
 rw[e]
 have:=pick_run h i k
 rw[c0]at this
 have e2:((fun x=>h[x]?) ∘ fun x=>i+x)=fun m=>h[i+m]?:=rfl
 rw[e2]at this
 rw[this]
theorem getItem_tuple_cut {t sl:Addr}{z:Array Value}{vl vu:Value}{F G:Option Int}{Q:Value->af->Prop}(J:IsTup s.heap t z)(hs:s.heap.IsSliceOf sl vl vu .none)(pl:fY vl F)(pu:fY vu G)
  (hw:¬(sIx z.size 0 F=0/\sIx z.size z.size G=z.size))
  (h:Q (.ref s.heap.objs.size) { s with heap:=s.heap.push { cls:=.type "tuple",data:=.seq ((z.toList.drop (sIx z.size 0 F)).take (sIx z.size z.size G - sIx z.size 0 F)).toArray } })
  (hsz:z.size<=aE):wpAny (model prog w) A (gE (.ref t) (.ref sl)) Q E s:=by
 have C:sizeOk (.seq ((z.toList.drop (sIx z.size 0 F)).take (sIx z.size z.size G - sIx z.size 0 F)).toArray):=by
  show((z.toList.drop (sIx z.size 0 F)).take (sIx z.size z.size G - sIx z.size 0 F)).toArray.size<=aE
  rw[aq,bE,eC,cQ]
  omega
 have hj:sIx z.size z.size G<=z.size:=sIx_le _ _ (aj _) G
 obtain⟨os,a0,Y,a2⟩:=id hs
 have a1:s.TypeIs (.ref sl) "slice":=⟨os,a0,Y⟩
 unfold gE
 try with_reducible refine dk ?_
 first|refine ag (ar ?_)|skip
 refine ag (jp J.typeIs (by decide) ?_)
 refine ag (cU (name:=bA "__getitem__") J.typeIs bo
  (cw bo J.typeIs iL ?_ (i8 _ _)))
 show wpAny _ _ (cy (.ref t) >>= _) _ _ s
 refine ag (iY J ?_)
 refine ag (gG a1 ?_)
 rw[if_pos (by decide)]
 refine ag (sliceApplied_gen hs pl pu ?_)
 have Z:¬((((sIx z.size 0 F:Nat):Int)==0&&(1:Int)==1&&(sIx z.size z.size G - sIx z.size 0 F)==z.size)=true):=by
  intro q
  rw[ah,ah]at q
  have q1:((sIx z.size 0 F:Nat):Int)=0:=eq_of_beq q.1.1
  have q2:sIx z.size z.size G - sIx z.size 0 F=z.size:=eq_of_beq q.2
  exact hw ⟨by omega,by omega⟩
 show wpAny _ _ (if(((sIx z.size 0 F:Nat):Int)==0&&(1:Int)==1&&(sIx z.size z.size G - sIx z.size 0 F)==z.size)=true then _ else _) _ _ s
 rw[if_neg Z,pick_gen]
 first
  | exact ag (m:=cP _) (bw (ar ⟨_,rfl,ar h⟩) C)
  | exact ag (m:=cP _) (bw (ag (ar (ar ⟨_,rfl,ar h⟩))) C)
  | exact ag (ag (m:=cP _) (bw (ar (ar ⟨_,rfl,ar h⟩)) C))
  | exact ag (ag (m:=cP _) (bw (ar ⟨_,rfl,ar h⟩) C))
end
end HT
noncomputable section
namespace L2
open PySem PySem.Spec PyProof.Rows
abbrev TO:=St->Hp->(Option Int->Hp->Prop)->Prop
def PO (X:Cx)(e:Option Expr)(t:TO):Prop :=
 ∀(pins:List (Addr×Obj)) (s:af) (σ:St) (H:Hp) (Q:Option Int->Hp->Prop),Inv X pins σ H s->t σ H Q ->
  wpAny (model X.prog X.w) X.A (evalPart e X.env) (fun u s'=>∃ o H',Inv X pins σ H' s'/\fY u o/\Q o H') X.xe s
noncomputable def aD1:TO:=fun _ H Q=>Q none H
noncomputable def aX3 (t:TE):TO:=fun σ H Q=>t σ H fun x H1=>∃ i,x=.int i/\Q (some i) H1
section
variable {X:Cx} {e:Expr} {te:TE} {lo hi:Option Expr} {tl th:TO} {pos p2:Pos}
theorem bw8:PO X none aD1:=by
 intro z s σ H Q I h
 rw[evalPart_none]
 exact ar ⟨none,H,I,.none,h⟩
theorem bs2 (h:PE X e te):PO X (some e) (aX3 te):=by
 intro z s σ H Q I hw
 rw[evalPart_some]
 refine thn (h z s σ H _ I hw) fun u s1 ⟨x,C,F,r1,G⟩=>?_
 obtain⟨i,rfl,q⟩:=G
 obtain⟨t,rfl⟩:=r1
 exact⟨some i,C,F,.int i t,q⟩
def SlR (X:Cx)(r:V->Option Int->Option Int->Hp->VK->Prop):Prop :=
 ∀(pins:List (Addr×Obj)) (s:af) (σ:St) (H:Hp) (x:V) (v vl vu:Value) (lo hi:Option Int) (sl:Addr) (Q:VK),Inv X pins σ H s->RelV x v->s.heap.IsSliceOf sl vl vu .none->fY vl lo->fY vu hi->r x lo hi H Q ->
  ∃ T id,typeLookup (.type T) "__getitem__"=pure (some (.builtin id))/\s.TypeIs v T/\wpAny (model X.prog X.w) X.A (gE v (.ref sl)) (EP X pins σ Q) X.xe s
def tSl (r:V->Option Int->Option Int->Hp->VK->Prop)(te:TE)(tl th:TO):TE:=fun σ H Q=>te σ H fun x H1=>tl σ H1 fun l H2=>th σ H2 fun u H3=>r x l u H3 Q
theorem bf9 {r:V->Option Int->Option Int->Hp->VK->Prop}(hr:SlR X r)(he:PE X e te)(hl:PO X lo tl)(hu:PO X hi th):PE X (.Subscript e (.Slice lo hi none p2) pos) (tSl r te tl th):=by
 intro z s σ H Q I h
 refine Subscript_ (thn (he z s σ H _ I h) fun v s1 ⟨x,H1,Y,r1,J⟩=>?_)
 refine wpAny_Slice (thn (hl z s1 σ H1 _ Y J) fun vl s2 ⟨l,F,I2,pl,q2⟩=>thn (hu z s2 σ F _ I2 q2) fun vu s3 ⟨u,C,G,pu,q3⟩=>?_)
 rw[evalPart_none]
 refine ar ?_
 have Z:Inv X z σ C { s3 with heap:=s3.heap.push { cls:=.type "slice",data:=.fields #[vl,vu,.none] } }:=G.kept (t':=s3.toks) fun b ob q=>am _ q
 obtain⟨T,id,hT,ht,hg⟩:=hr z { s3 with heap:=s3.heap.push { cls:=.type "slice",data:=.fields #[vl,vu,.none] } } σ C x v vl vu l u s3.heap.objs.size Q Z r1 (kP ..) pl pu q3
 show wpAny (model X.prog X.w) X.A (subscriptTail e (.Slice lo hi none p2) v (.ref s3.heap.objs.size)) (EP X z σ Q) X.xe { s3 with heap:=s3.heap.push { cls:=.type "slice",data:=.fields #[vl,vu,.none] } }
 exact j1 (ops:=[.ref s3.heap.objs.size,v]) ht hT hg (by with_unfolding_all rfl)
noncomputable def aM4 (xs:List V)(lo hi:Option Int):List V:=(xs.drop (HT.sIx xs.length 0 lo)).take (HT.sIx xs.length xs.length hi - HT.sIx xs.length 0 lo)
theorem ak8 (h:List V)(z C:Option Int):(aM4 h z C).length<=h.length:=by
 unfold aM4
 rw[bE,eC]
 omega
def cc6 (K:ae):V->Option Int->Option Int->Hp->VK->Prop:=fun x lo hi H Q=>∃ a xs,x=.ref a/\SqT K H a xs /\
 ¬(HT.sIx xs.length 0 lo=0/\HT.sIx xs.length xs.length hi=xs.length)/\∀ p,H p=none->Q (.ref p) (upd H p (.tup (aM4 xs lo hi)))
theorem bG7:SlR X (cc6 X.K):=by
 intro J s σ H x v vl vu F G sl Q I Z hs pl pu h
 obtain⟨a,C,rfl,hx,hw,q⟩:=h
 cases Z
 obtain⟨its,r,Y,hz⟩:=I.tuple hx
 have z:its.toArray.size=C.length:=by rw[aq];exact r.length.symm
 refine⟨"tuple",_,bo.lookup,Y.typeIs,?_⟩
 refine HT.getItem_tuple_cut Y hs pl pu (by rw[z];exact hw) ?_ (by rw[z];exact hz)
 rw[z]
 refine⟨.ref s.heap.objs.size,_,I.laid (t':=s.toks) (o:=.tup (aM4 C F G)) (fun b ob q=>am _ q) (aj _) ?_,rfl,q _ (I.hok.fresh (aj _))⟩
 exact⟨ak (ak8 C F G) hz,_,(r.drop (HT.sIx C.length 0 F)).take (HT.sIx C.length C.length G - HT.sIx C.length 0 F),jD _ _⟩
def bU9 (K:ae):R2:=fun x y H Q=>∃ a b xs ys,x=.ref a/\y=.ref b/\SqT K H a xs/\SqT K H b ys/\xs≠[]/\xs.length+ys.length<=aE /\
 (ys=[]->Q (.ref a) H)/\(ys≠[]->∀ p,H p=none->Q (.ref p) (upd H p (.tup (xs++ys))))
theorem Vals.nil_iff {h:List V}{us:List Value}(r:Vals h us):us=[]↔h=[]:=by
 cases r with
 | nil=>simp
 | cons _ _=>simp
theorem bt0:OpR X (bP .Add) (bU9 X.K):=by
 intro C s σ H x y v u Q I Z Y h
 obtain⟨a,b,G,ys,rfl,rfl,ha,hb,hx,hz,J,q2⟩:=h
 cases Z
 cases Y
 obtain⟨its,r1,p1,_⟩:=I.tuple ha
 obtain⟨F,r2,p2,_⟩:=I.tuple hb
 refine HT.cat_tup p1 p2 (fun z=>hx (r1.nil_iff.mp z)) (fun z=>⟨.ref a,H,I,rfl,J (r2.nil_iff.mp z)⟩) (fun z=>?_) (by rw[<-r1.length,<-r2.length];exact hz)
 refine⟨.ref s.heap.objs.size,_,I.laid (t':=s.toks) (o:=.tup (G++ys)) (fun b ob q=>am _ q) (aj _) ?_,rfl,q2 (fun w=>z (r2.nil_iff.mpr w)) _ (I.hok.fresh (aj _))⟩
 exact⟨by rw[aG];exact hz,_,r1.append r2,jD _ _⟩
end
noncomputable def ixN (n:Nat)(i:Int):Option Nat:=if 0<=i then(if i<n then some i.toNat else none)else if -(n:Int)<=i then some (i+n).toNat else none
noncomputable def atI {α:Type}(xs:List α)(i:Int):Option α:=(ixN xs.length i).bind fun j=>xs[j]?
theorem aY4 {n:Nat}{i:Int}{j:Nat}(h:ixN n i=some j):seqIndex? i n=some j/\j<n/\-(n:Int)<=i/\i<n:=by
 unfold ixN at h
 by_cases h0:0<=i
 ·rw[if_pos h0]at h
  by_cases h1:i<n
  ·rw[if_pos h1]at h
   have e:i.toNat=j:=av h
   exact⟨by rw[jK h0 h1,e],by omega,by omega,h1⟩
  ·rw[if_neg h1]at h;cases h
 ·rw[if_neg h0]at h
  by_cases h1:-(n:Int)<=i
  ·rw[if_pos h1]at h
   have e:(i+n).toNat=j:=av h
   exact⟨by rw[jq (by omega) h1,e],by omega,h1,by omega⟩
  ·rw[if_neg h1]at h;cases h
theorem aE2 {α:Type}{z:List α}{i:Int}{v:α}(h:atI z i=some v):∃ j,seqIndex? i z.length=some j/\z[j]?=some v/\j<z.length/\-(z.length:Int)<=i/\i<z.length:=by
 unfold atI at h
 cases e:ixN z.length i with
 | none=>rw[e]at h;cases h
 | some j =>
  rw[e]at h
  obtain⟨G,C,h3,F⟩:=aY4 e
  exact⟨j,G,h,C,h3,F⟩
def aW1 (b:Expr):Prop:=∀ o i,subscripted b false o i=operate [o,i] (gE o i)
def IxR (X:Cx)(r:R2):Prop :=
 ∀(value slice:Expr) (pins:List (Addr×Obj)) (s:af) (σ:St) (H:Hp) (x y:V) (v u:Value) (Q:VK),Inv X pins σ H s->RelV x v->RelV y u->r x y H Q ->
  subscripted slice false v u=operate [v,u] (gE v u)->wpAny (model X.prog X.w) X.A (subscriptTail value slice v u) (EP X pins σ Q) X.xe s
def MtR (X:Cx)(id:String)(r:V->List V->Hp->VK->Prop):Prop :=
 ∀(pins:List (Addr×Obj)) (s:af) (σ:St) (H:Hp) (x:V) (xs:List V) (v:Value) (us:List Value) (Q:VK),Inv X pins σ H s->RelV x v->Vals xs us->r x xs H Q ->
  wpAny (model X.prog X.w) X.A (call (.builtin id) (v::us)) (EP X pins σ Q) X.xe s
section
variable {X:Cx} {a b:Expr} {ta tb:TE} {pos:Pos}
theorem bW9 {r:R2}(hr:IxR X r)(ha:PE X a ta)(hb:PE X b tb)(hs:aW1 b):PE X (.Subscript a b pos) (tOp r ta tb):=by
 intro z s σ H Q I h
 exact Subscript_ (bX7 ha hb I h fun v u s2 x y C J G F q=>hr a b z s2 σ C x y v u Q J G F q (hs _ _))
def bZ6 (K:ae):R2:=fun x y H Q=>∃ p xs i v,x=.ref p/\y=.int i/\SqL K H p xs/\atI xs i=some v/\Q v H
def bY5 (K:ae):R2:=fun x y H Q=>∃ p xs i v,x=.ref p/\y=.int i/\SqT K H p xs/\atI xs i=some v/\Q v H
def cb8:R2:=fun x y H Q=>∃ z i c,x=.str z/\y=.int i/\z.length<=aE/\atI z.cps.toList i=some c/\Q (.str ⟨#[c]⟩) H
theorem bo4:IxR X (bZ6 X.K):=by
 intro J Y C s σ H x y v u Q I rx ry h hs
 obtain⟨p,xs,i,z,rfl,rfl,hq,he,q⟩:=h
 cases rx
 obtain⟨t,rfl⟩:=ry
 obtain⟨its,r,Z,hz⟩:=I.list hq
 obtain⟨j,F,h2,h3,h4,h5⟩:=aE2 he
 obtain⟨w,ew,G⟩:=r.get h2
 have hl:=r.length
 have hn:=al8
 have fin:EP X C σ Q w s:=⟨z,H,I,G,q⟩
 by_cases h0:0<=i
 ·have hj:i.toNat=j:=by
   rw[jK h0 h5]at F
   exact av F
  exact item_listR Z.isList h0 (by omega) (by rw[hj];simpa using ew) fin hs
 ·have hj:(i+(its.toArray.size:Int)).toNat=j:=by
   rw[jq (by omega) h4]at F
   rw[aq,<-hl]
   exact av F
  exact gH (x:=w) Z.isList.typeIs jr.lookup
   (wpAny_getItem_list_neg (Q:=fun r s'=>r=w/\EP X C σ Q r s') Z.isList (by omega) (by rw[aq]<;>omega) (by omega) (by rw[hj];simpa using ew) ⟨rfl,fin⟩) hs
theorem ix_tup:IxR X (bY5 X.K):=by
 intro G J C s σ H x y v u Q I rx ry h hs
 obtain⟨p,xs,i,z,rfl,rfl,hq,he,q⟩:=h
 cases rx
 obtain⟨t,rfl⟩:=ry
 obtain⟨its,r,Y,hz⟩:=I.tuple hq
 obtain⟨j,h1,Z,h3,h4,h5⟩:=aE2 he
 obtain⟨w,ew,F⟩:=r.get Z
 have hl:=r.length
 have hn:=al8
 have fin:EP X C σ Q w s:=⟨z,H,I,F,q⟩
 exact gH (x:=w) Y.typeIs bo.lookup
  (getItem_tuple (j:=j) (Q:=fun r s'=>r=w/\EP X C σ Q r s') Y (by omega) (by omega) (by rw[aq,<-hl];exact h1) (by simpa using ew) ⟨rfl,fin⟩) hs
theorem ix_str:IxR X cb8:=by
 intro C F G s σ H x y v u Q I rx Z h hs
 obtain⟨z,i,c,rfl,rfl,hz,he,q⟩:=h
 obtain⟨t,rfl⟩:=rx
 obtain⟨t',rfl⟩:=Z
 obtain⟨j,J,Y,h3,h4,h5⟩:=aE2 he
 have hl:z.cps.toList.length=z.length:=by simp[j2]
 rw[hl]at J h4 h5
 have hn:=al8
 exact j1 (fA s z t) slot_str_getitem.lookup (getItem_str (c:=c) (by
  have e1:decide (i < -(2^63:Int))=false:=decide_eq_false (by omega)
  have e2:decide (i ≥ 2^63)=false:=decide_eq_false (by omega)
  rw[e1,e2,Bool.or_false]) (by rw[J];simpa using Y) ⟨.str ⟨#[c]⟩,H,I.tok _,⟨_,rfl⟩,q⟩) hs
theorem aL8 (its:List Value)(n j:Nat)(u:Value):gI (·.setIfInBounds j u) { cls:=.type "list",data:=.seq its.toArray n }={ cls:=.type "list",data:=.seq (its.set j u).toArray n }:=by
 simp[gI]
theorem Inv.lst {C:List (Addr×Obj)}{σ:St}{H:Hp}{s:af}{p:Addr}{F:List V}(I:Inv X C σ H s)(h:H p=some (.lst F)) :
  ∃(its:List Value) (n:Nat),Vals F its/\s.heap.get? p=some { cls:=.type "list",data:=.seq its.toArray n }/\F.length<=aE:=by
 obtain⟨z,its,n,r,e⟩:=I.hok p _ h
 exact⟨its,n,r,e,z⟩
theorem Inv.lstUpd {z:List (Addr×Obj)}{σ:St}{H:Hp}{s:af}{p:Addr}{F ys:List V}{its its':List Value}{n C:Nat}{f:Obj->Obj}(I:Inv X z σ H s)(h:H p=some (.lst F))
  (ho:s.heap.get? p=some { cls:=.type "list",data:=.seq its.toArray n }) (hf:f { cls:=.type "list",data:=.seq its.toArray n }={ cls:=.type "list",data:=.seq its'.toArray C }) (r:Vals ys its') (hz:ys.length<=aE) (t:Nat) :
  Inv X z σ (upd H p (.lst ys)) { s with heap:=s.heap.update p f,toks:=t }:=by
 have e:(s.heap.update p f).get? p=some { cls:=.type "list",data:=.seq its'.toArray C }:=by
  rw[dr f ho (by rw[hf]<;>rfl),hf]
 refine I.write (x:=p) (e:=p) (by rw[h];trivial) (.inl rfl) (fun b u hb q=>(bI _ _ (cM hb)).trans q) ⟨_,e⟩ ?_
 exact⟨hz,its',C,r,e⟩
def bY3:V->V->V->Hp->(Hp->Prop)->Prop:=fun o i v H Q=>∃ p xs k j,o=.ref p/\i=.int k/\H p=some (.lst xs)/\ixN xs.length k=some j/\Q (upd H p (.lst (xs.set j v)))
theorem bb1:bT1 X bY3:=by
 intro z s σ H o i v ov iv u Q I Z ri Y h
 obtain⟨p,J,k,j,rfl,rfl,hp,hj,q⟩:=h
 cases Z
 obtain⟨t,rfl⟩:=ri
 obtain⟨its,n,r,ho,hz⟩:=I.lst hp
 obtain⟨C,h2,h3,F⟩:=aY4 hj
 have hl:=r.length
 have hn:=al8
 have G:Inv X z σ (upd H p (.lst (J.set j v))) { s with heap:=s.heap.update p (gI (·.setIfInBounds j u)) } :=
  I.lstUpd hp ho (aL8 its n j u) (r.set Y j) (by rw[aP];exact hz) s.toks
 by_cases h0:0<=k
 ·have hk:k.toNat=j:=by
   rw[jK h0 F]at C
   exact av C
  exact PySem.W.ki_setAt ho h0 (by omega) (by rw[aq,<-hl];exact F) (by rw[hk];exact⟨_,G,q⟩)
 ·have hk:(k+(its.toArray.size:Int)).toNat=j:=by
   rw[jq (by omega) h3]at C
   rw[aq,<-hl]
   exact av C
  exact PySem.W.ki_setBack ho (by omega) (by rw[aq,<-hl];exact h3) (by omega) (by rw[hk];exact⟨_,G,q⟩)
theorem av7 (C z:Option Int)(n:Nat):(dU C z none n).1=((HT.sIx n 0 C:Nat):Int)/\(dU C z none n).2.1=((HT.sIx n n z:Nat):Int)/\(dU C z none n).2.2=1:=by
 refine⟨?_,?_,rfl⟩
 ·cases C with
  | none=>simp[dU,HT.sIx]
  | some i =>
   simp only[dU,HT.sIx,jE,show(1:Int) > 0 by decide,if_true]
   by_cases h:i<0
   ·simp only[h,if_true]<;>omega
   ·simp only[h,if_false]<;>omega
 ·cases z with
  | none=>simp[dU,HT.sIx]
  | some i =>
   simp only[dU,HT.sIx,jE,show(1:Int) > 0 by decide,if_true]
   by_cases h:i<0
   ·simp only[h,if_true]<;>omega
   ·simp only[h,if_false]<;>omega
theorem at6 (its:List Value)(h z:Option Int):slicePick its.toArray h z none=((its.drop (HT.sIx its.length 0 h)).take (HT.sIx its.length its.length z - HT.sIx its.length 0 h)).toArray:=by
 obtain⟨F,C,h3⟩:=av7 h z its.toArray.size
 unfold slicePick
 rw[F,C,h3]
 simp only[sliceRange_one,pick_run,aq]<;>rfl
def bZ9 (K:ae):V->Option Int->Option Int->Hp->VK->Prop:=fun x lo hi H Q=>∃ a xs,x=.ref a/\SqL K H a xs/\∀ p,H p=none->Q (.ref p) (upd H p (.lst (aM4 xs lo hi)))
theorem bz0:SlR X (bZ9 X.K):=by
 intro J s σ H x v vl vu F G sl Q I Z hs pl pu h
 obtain⟨a,z,rfl,hx,q⟩:=h
 cases Z
 obtain⟨its,r,Y,hz⟩:=I.list hx
 have C:=r.length
 refine⟨"list",_,jr.lookup,Y.isList.typeIs,?_⟩
 refine wpAny_getItem_list_slice Y.isList hs pl pu .none (by simp) ?_ (by rw[aq]<;>omega)
 rw[at6,<-C]
 refine⟨.ref s.heap.objs.size,_,I.laid (t':=s.toks) (o:=.lst (aM4 z F G)) (fun b ob q=>am _ q) (aj _) ?_,rfl,q _ (I.hok.fresh (aj _))⟩
 exact⟨ak (ak8 z F G) hz,_,0,(r.drop (HT.sIx z.length 0 F)).take (HT.sIx z.length z.length G - HT.sIx z.length 0 F),aQ _ rfl⟩
theorem ay2:ab8 X (.builtin "len") (fun J H Q=>∃ p ys,J=[.ref p]/\(SqL X.K H p ys\/SqT X.K H p ys)/\Q (.int ys.length) H):=by
 intro G s σ H J us Q I r h
 obtain⟨p,ys,rfl,hq,q⟩:=h
 obtain⟨u,rfl,Y⟩:=qz r
 cases Y
 have hn:=al8
 rcases hq with hq|hq
 ·obtain⟨its,C,F,hz⟩:=I.list hq
  have z:=C.length
  exact Calls.call_len_list F.isList (by simp only[aq]<;>omega) ⟨.int ys.length,H,I.tok _,⟨s.toks+1,by rw[aq,z]⟩,q⟩
 ·obtain⟨its,C,F,hz⟩:=I.tuple hq
  have z:=C.length
  exact len_tuple F (by simp only[aq]<;>omega) ⟨.int ys.length,H,I.tok _,⟨s.toks+1,by rw[aq,z]⟩,q⟩
theorem at8:ab8 X (.builtin "len") (fun F H Q=>∃ z,F=[.str z]/\z.length<=aE/\Q (.int z.length) H):=by
 intro C s σ H F us Q I r h
 obtain⟨z,rfl,hz,q⟩:=h
 obtain⟨u,rfl,t,rfl⟩:=qz r
 have hn:=al8
 exact len_str (by omega) ⟨.int z.length,H,I.tok _,⟨_,rfl⟩,q⟩
theorem ab8.or {f:Value}{r F:List V->Hp->VK->Prop}(h:ab8 X f r)(h':ab8 X f F):ab8 X f (fun C H Q=>r C H Q\/F C H Q):=by
 intro z s σ H C us Q I G q
 rcases q with q|q
 ·exact h z s σ H C us Q I G q
 ·exact h' z s σ H C us Q I G q
theorem ay8:ab8 X (.type "list") (fun Y H Q=>∃ p ys,Y=[.ref p]/\(SqL X.K H p ys\/SqT X.K H p ys)/\∀ l,H l=none->Q (.ref l) (upd H l (.lst ys))):=by
 intro F s σ H Y us Q I r h
 obtain⟨p,ys,rfl,hq,q⟩:=h
 obtain⟨u,rfl,rx⟩:=qz r
 cases rx
 have fin:∀(its:List Value),Vals ys its->ys.length<=aE->∀(h':Heap) (z:Nat),(∀ b Z,s.heap.get? b=some Z->h'.get? b=some Z) ->
   h'.get? s.heap.objs.size=some { cls:=.type "list",dict:=none,data:=.seq its.toArray z,slots:=#[] }->EP X F σ Q (.ref s.heap.objs.size) { s with heap:=h' }:=fun its C hz h' z kp e =>
  ⟨.ref s.heap.objs.size,_,I.laid (t':=s.toks) kp (aj _) (show ab5 X.prog X.w _ h' _ (.lst ys)from⟨hz,its,z,C,e⟩),rfl,q _ (I.hok.fresh (aj _))⟩
 rcases hq with hq|hq
 ·obtain⟨its,C,J,hz⟩:=I.list hq
  have G:=C.length
  obtain⟨o,ho,hc,n,hd⟩:=J.isList
  exact call_list_seq p (.inl rfl) ho hc hd (fun h' z kp e=>fin its C hz h' z kp e) (by simp only[aq]<;>omega)
 ·obtain⟨its,C,J,hz⟩:=I.tuple hq
  have G:=C.length
  obtain⟨o,ho,hc,n,hd⟩:=J
  exact call_list_seq p (.inr rfl) ho hc hd (fun h' z kp e=>fin its C hz h' z kp e) (by simp only[aq]<;>omega)
theorem aq3:ab8 X (.type "tuple") (fun G H Q=>∃ p ys,G=[.ref p]/\((SqL X.K H p ys/\∀ l,H l=none->Q (.ref l) (upd H l (.tup ys)))\/(SqT X.K H p ys/\Q (.ref p) H))):=by
 intro z s σ H G us Q I r h
 obtain⟨p,ys,rfl,h⟩:=h
 obtain⟨u,rfl,Z⟩:=qz r
 cases Z
 rcases h with⟨hq,q⟩|⟨hq,q⟩
 ·obtain⟨its,C,F,hz⟩:=I.list hq
  have Y:=C.length
  refine call_tuple_list F.isList (fun h' kp=>?_) (by simp only[aq]<;>omega)
  have J:Inv X z σ H { s with heap:=h' }:=I.kept (t':=s.toks) kp
  have I2:Inv X z σ (upd H h'.objs.size (.tup ys)) { s with heap:=h'.push { cls:=.type "tuple",data:=.seq its.toArray } } :=
   J.laid (t':=s.toks) (fun b o e=>am _ e) (aj _) (show ab5 X.prog X.w _ _ _ (.tup ys)from⟨hz,its,C,jD _ _⟩)
  exact⟨.ref h'.objs.size,_,I2,rfl,q _ (J.hok.fresh (aj _))⟩
 ·obtain⟨its,C,F,hz⟩:=I.tuple hq
  exact call_tuple_same F ⟨.ref p,H,I,rfl,q⟩
def tyV (K:ae)(T:String)(x:V)(H:Hp):Prop:=match x with
 | .str _=>T = "str"
 | .int _=>T = "int"
 | .ref p=>(T = "list"/\∃ xs,SqL K H p xs)\/(T = "tuple"/\∃ o,K.lookup p=some o/\o.cls=.type "tuple"/\o.dict=none) \/
   (T = "dict"/\((∃ kvs,H p=some (.dK kvs))\/∃ kvs,H p=some (.dT kvs)))\/(T = "set"/\∃ S n,H p=some (.set S n))
 | _=>False
theorem bj2 {h:List (Addr×Obj)}{σ:St}{H:Hp}{s:af}{T:String}{x:V}{v:Value}(I:Inv X h σ H s)(r:RelV x v)(C:tyV X.K T x H) :
  s.TypeIs v T/\∀ a,v=.ref a->∃ ob,s.heap.get? a=some ob/\ob.dict=none:=by
 cases x with
 | str z =>
  obtain⟨t,rfl⟩:=r
  cases(show T = "str" from C)
  exact⟨fA s z t,fun _ e=>nomatch e⟩
 | int i =>
  obtain⟨t,rfl⟩:=r
  cases(show T = "int" from C)
  exact⟨gJ s i t,fun _ e=>nomatch e⟩
 | ref p =>
  cases r
  rcases C with⟨rfl,J,hq⟩|⟨rfl,o,hk,hc,hd⟩|⟨rfl,hk⟩|⟨rfl,S,n,hk⟩
  ·obtain⟨its,_,G,_⟩:=I.list hq
   refine⟨G.isList.typeIs,fun a e=>?_⟩
   cases e
   obtain⟨o,n,e,c,hd,_⟩:=G
   exact⟨o,e,hd⟩
  ·refine⟨⟨o,I.kIn p o hk,hc⟩,fun a e=>?_⟩
   cases e
   exact⟨o,I.kIn _ o hk,hd⟩
  ·have z:∃ o,s.heap.get? p=some o/\o.ExactDict:=by
    rcases hk with⟨F,hk⟩|⟨F,hk⟩
    ·obtain⟨_,_,_,_,o,_,_,e,ex,_⟩:=I.hok p _ hk
     exact⟨o,e,ex⟩
    ·obtain⟨_,_,_,_,o,_,_,e,ex,_⟩:=I.hok p _ hk
     exact⟨o,e,ex⟩
   obtain⟨o,e,ex⟩:=z
   refine⟨⟨o,e,ex.1⟩,fun a e2=>?_⟩
   cases e2
   exact⟨o,e,ex.2.1⟩
  ·obtain⟨o,_,_,_,e,ex,_⟩:=I.hok p _ hk
   refine⟨⟨o,e,ex.1⟩,fun a e2=>?_⟩
   cases e2
   exact⟨o,e,ex.2.1⟩
 | _=>exact cn C
def bZ8 (K:ae)(T:String)(r:V->List V->Hp->VK->Prop)(to:TE):TE:=fun σ H Q=>to σ H fun x H1=>tyV K T x H1/\r x [] H1 Q
def tBM (K:ae)(T:String)(r:V->List V->Hp->VK->Prop)(to:TE)(t:TA):TE:=fun σ H Q=>to σ H fun x H1=>tyV K T x H1/\t σ H1 fun xs H2=>r x xs H2 Q
variable {o e:Expr} {es:List Expr} {to:TE} {t:TA} {name:Str} {apos cpos:Pos} {T id:String} {r:V->List V->Hp->VK->Prop}
theorem bO8 (pa:j3 T)(slot:Slot T name id)(G:typeOf (.builtin id)=pure (.type "method_descriptor"))(hm:MtR X id r)(ho:PE X o to)
  (F:fZ o name X.env (eval o X.env)=eval o X.env:=by rfl) (C:(apos.endLine==cpos.line)=true:=by rfl):PE X (.Call (.Attribute o name apos) [] [] cpos) (bZ8 X.K T r to):=by
 intro z s σ H Q I h
 refine wpAny_Call_method0_late F C (thn (ho z s σ H _ I h) fun v s1 ⟨x,Y,J,r1,ty,q1⟩=>?_)
 obtain⟨h1,Z⟩:=bj2 J r1 ty
 exact⟨T,id,pa,slot,G,h1,Z,gK rfl (PySem.evalArgs_none (hm z s1 σ Y x [] v [] Q J r1 .nil q1))⟩
theorem bY4 (pa:j3 T)(slot:Slot T name id)(Y:typeOf (.builtin id)=pure (.type "method_descriptor"))(hm:MtR X id r)(ho:PE X o to)(ha:PA X (e::es) t)
  (G:fZ o name X.env (eval o X.env)=eval o X.env:=by rfl)
  (J:((eW cpos (bq (e::es) X.env)).all (fun x=>!x.1)&&(backToKw cpos (keywordEach [] X.env)).all (fun x=>x.1.isSome)
   && decide ((e::es).length+([]:List jU).length+(if([]:List jU).isEmpty then 0 else 1)<30))=true:=by rfl)
  (F:(apos.endLine==cpos.line)=true:=by rfl) (hs:bq (e::es) X.env=(false,eval e X.env)::bq es X.env:=by rfl) (C:(eW cpos (bq es X.env)).any (·.1)=false:=by rfl) :
  PE X (.Call (.Attribute o name apos) (e::es) [] cpos) (tBM X.K T r to t):=by
 intro z s σ H Q I h
 refine wpAny_Call_method_late G J F rfl (thn (ho z s σ H _ I h) fun v s1 ⟨x,H1,I1,r1,ty,q1⟩=>?_)
 obtain⟨h1,h2⟩:=bj2 I1 r1 ty
 refine⟨T,id,pa,slot,Y,h1,h2,?_⟩
 have Z:=ha cpos z s1 σ H1 _ I1 q1
 rw[hs]at Z ⊢
 refine gK (by show(false||(eW cpos (bq es X.env)).any (·.1))=false;rw[C]<;>rfl) (Calls.evalArgs_plain ?_)
 exact thn Z fun us s2 ⟨vs,H2,I2,r2,q2⟩=>hm z s2 σ H2 x vs v us Q I2 r1 r2 q2
end
def MtM (X:Cx)(id:String)(r:V->List V->Hp->VK->Prop):Prop :=
 ∀(pins:List (Addr×Obj)) (s:af) (σ:St) (H:Hp) (x:V) (xs:List V) (v:Value) (us:List Value) (Q:VK),Inv X pins σ H s->RelV x v->Vals xs us->r x xs H Q ->
  wpAny (model X.prog X.w) X.A (call (.builtin id) (v::us)) (EP X pins σ Q) X.xe s
theorem Vals.one:∀ {x:V} {us:List Value},Vals [x] us->∃ u,us=[u]/\RelV x u
 | _,_,.cons r .nil=>⟨_,rfl,r⟩
theorem Vals.zero:∀ {us:List Value},Vals [] us->us=[]
 | _,.nil=>rfl
theorem Vals.dropLast {z:List V}{us:List Value}(h:Vals z us):Vals z.dropLast us.dropLast:=by
 induction h with
 | nil=>exact .nil
 | cons r t ih =>
  cases t with
  | nil=>exact .nil
  | cons q t'=>exact .cons r ih
theorem Vals.reverse {z:List V}{us:List Value}(h:Vals z us):Vals z.reverse us.reverse:=by
 induction h with
 | nil=>exact .nil
 | cons r t ih=>rw[d4,d4];exact Vals.append ih (.cons r .nil)
theorem Vals.rep {z:List V}{us:List Value}(h:Vals z us):∀ k:Nat,Vals (au k z).flatten (au k us).flatten
 | 0=>.nil
 | k+1=>by
  rw[bF,bF,cN,cN]
  exact Vals.append h (Vals.rep h k)
theorem av3 (its:List Value):∀(k:Nat) (h:List Value),
  j4 (fun x1 z=>x1++z) h.toArray (au k its.toArray)=(h++(au k its).flatten).toArray
 | 0,h=>by simp
 | k+1,h=>by
  have e:h.toArray++its.toArray=(h++its).toArray:=by simp
  have e2:(h++its)++(au k its).flatten=h++(au (k+1) its).flatten:=by
   rw[bF,cN,br]
  rw[<-e2,<-av3 its k (h++its),<-e,bF,da]
section
variable {X:Cx} {pins:List (Addr×Obj)} {σ:St} {H:Hp} {s:af} {l b:Addr} {xs ys zs:List V}
theorem Inv.lset {its its':List Value}{n:Nat}{f:Array Value->Array Value}{t':Nat}(I:Inv X pins σ H s)(h:H l=some (.lst xs))
  (e:s.heap.get? l=some { cls:=.type "list",data:=.seq its.toArray n }) (hf:f its.toArray=its'.toArray) (hv:Vals ys its') (hz:ys.length<=aE) :
  Inv X pins σ (upd H l (.lst ys)) { s with heap:=s.heap.update l (gI f),toks:=t' }:=by
 have q:=PySem.IsL.update e f
 rw[hf]at q
 refine I.write (x:=l) (e:=l) (by rw[h];exact trivial) (.inl rfl) (fun z u hb hu=>(bI s.heap (gI f) (cM hb)).trans hu) ⟨_,q⟩ ?_
 exact⟨hz,its',_,hv,q⟩
theorem Inv.lnew {its:List Value}{t':Nat}(I:Inv X pins σ H s)(hv:Vals ys its)(hz:ys.length<=aE) :
  Inv X pins σ (upd H s.heap.objs.size (.lst ys)) { s with heap:=s.heap.push { cls:=.type "list",data:=.seq its.toArray },toks:=t' } :=
 I.laid (fun _ _ q=>am _ q) (aj _) ⟨hz,its,0,hv,aQ _ rfl⟩
theorem Inv.fresh (I:Inv X pins σ H s):H s.heap.objs.size=none:=I.hok.fresh (aj _)
theorem Inv.lstM (I:Inv X pins σ H s)(h:H l=some (.lst xs)):xs.length<=aE/\∃(its:List Value) (n:Nat),Vals xs its/\xs.length=its.length/\s.heap.get? l=some { cls:=.type "list",data:=.seq its.toArray n }:=by
 obtain⟨z,its,n,r,e⟩:=I.hok l _ h
 exact⟨z,its,n,r,r.length,e⟩
theorem bf3 {n:Nat}(h:n<=aE):dH n=false:=by
 unfold dH
 exact decide_eq_false (by omega)
end
section
variable {X:Cx}
def bo1:V->List V->Hp->VK->Prop:=fun x vs H Q=>∃ l xs y,x=.ref l/\vs=[y]/\H l=some (.lst xs)/\xs.length<aE/\Q .non (upd H l (.lst (xs++[y])))
theorem az1:MtM X "list.append" bo1:=by
 intro C s σ H x vs v us Q I Z Y h
 obtain⟨l,xs,y,rfl,rfl,G,hz,q⟩:=h
 cases Z
 obtain⟨u,rfl,J⟩:=Y.one
 obtain⟨z,its,n,r,hl,e⟩:=I.lstM G
 refine eF hJ ⟨_,e,rfl⟩ F.entry_list_append (F.args_list_append_2 _ _) (PySem.list_append l its.toArray n u (by rw[aq];omega)) ⟨e,?_⟩
 refine⟨.non,_,I.lset (its':=its++[u]) G e (by simp) (r.append (.cons J .nil)) ?_,rfl,q⟩
 rw[aG,dt]
 omega
def cc7:R2:=fun x y H Q=>∃ l b xs zs,x=.ref l/\y=.ref b/\H l=some (.lst xs)/\H b=some (.lst zs)/\xs.length+zs.length<=aE/\∀ p,H p=none->Q (.ref p) (upd H p (.lst (xs++zs)))
theorem bP6:OpR X (bP .Add) cc7:=by
 intro F s σ H x y v u Q I J G h
 obtain⟨l,b,xs,zs,rfl,rfl,Y,hB,hz,q⟩:=h
 cases J
 cases G
 obtain⟨z,its,n,r,hl,e⟩:=I.lstM Y
 obtain⟨z2,C,n2,r2,a0,e2⟩:=I.lstM hB
 refine PySem.P.add_list e e2 ?_ (by rw[aq,aq];omega)
 have Z:its.toArray++C.toArray=(its++C).toArray:=by simp
 rw[Z]
 exact⟨.ref _,_,I.lnew (t':=s.toks) (r.append r2) (by rw[aG];omega),rfl,q _ I.fresh⟩
def cb9:R2:=fun x y H Q=>∃ l k xs,x=.ref l/\y=.int k/\H l=some (.lst xs)/\-(2^63)<=k/\k<2^63/\xs.length*k.toNat<=aE /\
 ∀ p,H p=none->Q (.ref p) (upd H p (.lst (au k.toNat xs).flatten))
theorem bx1 {α:Type}(h:List α)(k:Nat):(au k h).flatten.length=k*h.length:=by
 induction k with
 | zero=>simp
 | succ k ih=>rw[bF,cN,aG,ih,Nat.succ_mul,gL]
theorem bB1:OpR X (bP .Mult) cb9:=by
 intro a0 s σ H x y v u Q I rx ry h
 obtain⟨l,k,xs,rfl,rfl,hH,h1,h2,hz,q⟩:=h
 cases rx
 obtain⟨t,rfl⟩:=ry
 obtain⟨z,its,n,r,hl,e⟩:=I.lstM hH
 have Z:its.toArray.size*k.toNat<=aE:=by rw[aq,<-hl];exact hz
 have J:¬ its.toArray.size*k.toNat > (2^63 - 1) / 8:=by
  have:(aE:Nat)<=(2^63 - 1) / 8:=by decide
  omega
 have G:¬(!Builtin.List.listFitsIndex k)=true:=by
  rw[fitsIndex_both h1 h2]
  exact aO
 have C:¬ dH (its.toArray.size*k.toNat)=true:=by
  rw[bf3 Z]
  exact aO
 have Y:j4 (fun x1 x2=>x1++x2) #[] (au (if its.toArray.isEmpty=true then 0 else k.toNat) its.toArray)=(au k.toNat its).flatten.toArray:=by
  have f0:∀ m:Nat,j4 (fun x1 x2=>x1++x2) #[] (au m its.toArray)=(au m its).flatten.toArray:=fun m=>by
   have:=av3 its m []
   rw[cK]at this
   exact this
  rw[f0]
  cases its with
  | nil=>simp
  | cons a r'=>rw[if_neg (by simp)]
 refine fG (T := "list") (U := "int") (by decide) ⟨_,e,rfl⟩ (fun s'=>gJ s' k t) noFill_list_mul i9 dQ repeat_list iM.lookup
  (eF dQ (gJ s k t) iO (ir _ _) (int___rmul___int_list k t l its.toArray n)
   ⟨e,rfl,⟨_,e,rfl⟩,eF F.slot_list_mul ⟨_,e,rfl⟩ F.entry_list_mul (F.args_list_mul_2 _ _) (AutoListH.list___mul___list_int_3 l its.toArray n k t G J C) ⟨e,?_⟩⟩)
 rw[Y]
 exact⟨.ref _,_,I.lnew (t':=s.toks) (r.rep k.toNat) (by rw[bx1,kA];exact hz),rfl,q _ I.fresh⟩
end
section
variable {prog:aB} {w:World} {A:aN} {E:Value->af->Prop} {s:af}
end
section
variable {X:Cx}
end
end L2
end
noncomputable section
namespace Att
open PySem PySem.W PySem.Calls PyProof.Rows
theorem ints_of_wellAll {P:Params}{h:Heap}:∀(ns:List Int) (vs:List Value),WellAll P h vs (ns.map WData.int)->jV vs ns:=by
 intro ns
 induction ns with
 | nil =>
  intro vs w
  rw[bX]at w
  cases w
  exact .nil
 | cons n ns ih =>
  intro vs w
  rw[aL]at w
  cases w with
  | cons a b =>
   cases a
   exact .cons _ _ (ih _ b)
theorem script_of {l:OpenLaw}{n:Nat}(hn:l.most=some n){P:Params}{h:Heap}{args:List WData}{z:List Value}
  (C:l.row.toRowW.claim.pre args=true) (Y:WellAll P h z args) :
  ∃ a vs ns,z=[Value.ref a]/\args=[WData.list (ns.map WData.int)]/\h.get? a=some { cls:=.type "list",data:=.seq vs.toArray }/\jV vs ns/\ns.length<=n:=by
 have Z:WShape.hasAll [] args [.list .int]=true:=(pre_splitW C).1
 have hc:l.pre.holds [] { args:=args }=true:=(pre_splitW C).2
 obtain⟨d,r,rfl,h1,h2⟩:=hasAllW_cons Z
 obtain rfl:=hasAllW_nil h2
 obtain⟨xs,rfl,h3⟩:=hasW_list h1
 obtain⟨ns,rfl⟩:=items_int h3
 have F:ns.length<=n:=by
  unfold OpenLaw.pre at hc
  have G:(WTm.not (.lt (.lit (.int (n:Int))) (.len (.arg 0)))).holds [] { args:=[.list (ns.map .int)] }=true:=by
   have G:=(holds_andW hc).1
   rw[hn]at G
   exact G
  have J:=condW_of G (w_not (w_lt w_lit (w_len_list (w_arg rfl))))
  rw[ay]at J
  refine jF fun q=>?_
  have q':(n:Int)<((ns.length:Nat):Int):=by omega
  first
   | (rw[decide_eq_true q']at J;exact absurd J (by decide))
   | (simp at J;omega)
 cases Y with
 | cons w1 w2 =>
  cases w2
  cases w1 with
  | list ho hall=>exact⟨_,_,ns,rfl,rfl,ho,ints_of_wellAll ns _ hall,F⟩
theorem post_true (l:OpenLaw)(args:List WData):l.row.toRowW.claim.post args (.bool true) args=true :=
 postW_of (r:=l.row.toRowW) (X:=(true==true))
  (show WShape.has [] (.bool true) .bool=true by first|rfl|decide|simp[WShape.has,WShape.arms,WShape.armsAll])
  (show(WTm.eq .res (.lit (.bool true))).value [] { args:=args,res:=some (.bool true),after:=args }=some (.bool (true==true))from w_eq_bool (w_res rfl) w_lit) rfl
theorem attach_call {l:OpenLaw}{n:Nat}{q:aB}{loose:List Str}{XP:(Str->Option Value)->Heap->Prop}{YP:World->Heap->Prop}{d:DefRec}
  (hn:l.most=some n) (a2:d.params.defaults=[])
  (call:∀(w:World) (s₀ h:af) (mg mb:Str->Option Value) (fa:Addr) (o:Obj) (pm cd z:Value) (a:Addr) (vs:List Value) (ns:List Int),
   Ground q loose [] XP w s₀ mg mb h.heap->YP w h.heap ->
   h.heap.get? fa=some o->o.data=.func (docDef d.name d.params d.body d.scope pm cd z)->h.heap.CodeRec cd d.name->mg d.name=some (.ref fa) ->
   h.heap.get? a=some { cls:=.type "list",data:=.seq vs.toArray }->jV vs ns->ns.length<=n->h.gens=#[] ->
   fM (model l.prog w) iC (.call (.ref fa) ⟨[.ref a],[]⟩) (fun r s'=>r=.ok (.ret (.bool true))/\OldK h.heap s'.heap/\s'.os=h.os/\fL s'.gens) h) :
  WalkO q loose XP YP l.row.toRowW d [] (fun f vs=>jX f vs):=by
 intro w s₀ h mg mb G Y fa o pm cd z dV kV ho hd a3 hD a0 hg args a5 as Z a4 a6 a1 a7
 obtain rfl:dV=.none:=Dflts.none hD a2
 obtain rfl:kV=.none:=Dflts.noKw hD
 obtain⟨a,vs,ns,rfl,rfl,F,C,J⟩:=script_of hn Z a1
 refine enter_call (jn (call w s₀ h mg mb fa o pm cd z a vs ns G Y ho (fd_plain hd) a3 a0 F C J hg) fun r s' hq=>?_)
 obtain⟨rfl,h2,h3,h4⟩:=hq
 exact⟨.inl ⟨.bool true,.bool true,[],rfl,fun _=>rfl,.bool true,post_true l _,fun _=>⟨List.Pairwise.nil,fun _ hm=>(nomatch hm)⟩⟩,h2,h3,h4⟩
section
variable {prog:aB} {w:World} {A:aN} {E:Value->af->Prop} {s:af} {K:Frag}
end
end Att
noncomputable section
namespace L2
open PySem PySem.Spec PyProof.Rows
theorem av4:∀ {vs:List Value} {ns:List Int},jV vs ns->Vals (ns.map V.int) vs
 | _,_,.nil=>.nil
 | _,_,.cons n t h=>.cons ⟨t,rfl⟩ (av4 h)
noncomputable def defArgs (s:Stmt):bU:=match s with
 | .FunctionDef _ a _ _ _ _ _ _ _ _=>a
 | _=>{ posonlyargs:=[],args:=[],vararg:=none,kwonlyargs:=[],kw_defaults:=[],kwarg:=none,defaults:=[] }
noncomputable def zB (s:Stmt):List Stmt:=match s with
 | .FunctionDef _ _ b _ _ _ _ _ _ _=>b
 | _=>[]
noncomputable def defScope (s:Stmt):Scope:=match s with
 | .FunctionDef _ _ _ _ _ _ sc _ _ _=>sc
 | _=>{ kind:=.function,names:=[],isGenerator:=false,isCoroutine:=false }
noncomputable abbrev CX0:CXT:=fun _ _ _ _ _ _=>False
abbrev E0:XK:=fun _ _ _=>False
theorem bO6 {X:Cx}:aF3 CX0 X E0:=fun _ _ _ _ _ _ _ h=>h.elim
structure Fun (K:ae)(x qual:Str)(st:Stmt)(f:Addr)(fd:bL):Prop where
 ex:∃(oc:Value) (od:Option Addr) (kV doc pm:Value) (an:Option Addr) (cdv ct:Value) (osl:Array (Option Value)),
  fd=cZ x qual (defArgs st) (zB st) (defScope st) .none kV doc pm an cdv ct/\K.lookup f=some ⟨oc,od,.func fd,osl⟩/\fy K cdv qual=true
 kp:cE K (.ref f)=true
section
variable {P:aB} {w:World} {K:ae} {mg:Str->Option Value} {base:Heap}
theorem Fun.ok {x qual:Str}{st:Stmt}{f:Addr}{Z:bL}{N ps:List Str}{k:Nat}{sp:Sp}(F:Fun K x qual st f Z)(S:FnScope N ps (defScope st))(len:∀ vs H Q E,sp vs H Q E->vs.length=ps.length)
  (G:∀(C:Value) (A:aN) (z:List Env) (s:af) (H:Hp) (vs:List V) (Q:VK) (E:XK),Room k (A.deeper (fx qual (defScope st) s.heap.objs.size f C))->sp vs H Q E ->
   ∃ t,PSs (bd8 CX0 P w K mg base N qual (defScope st) f C A z s H E).nox (zB st) t/\t { nx:=fun _ H'=>Q .non H',rt:=Q } (ag5 N vs) H):FnOk P w K mg base CX0 (k+1) f Z ps sp:=by
 obtain⟨oc,od,kV,a0,pm,an,C,ct,a1,rfl,lk,Y⟩:=F.ex
 refine bO2 lk Y S len fun A z s H vs Q E hr J=>?_
 obtain⟨t,h,q⟩:=G C A z s H vs Q E hr J
 exact⟨t,h.nox,q⟩
theorem Fun.binds {x qual:Str}{st:Stmt}{f:Addr}{Y:bL}{ps:List Str}(F:Fun K x qual st f Y)
  (h:∀(kV z J:Value) (G:Option Addr) (C ct:Value) (us:List Value),us.length=ps.length->dZ (cZ x qual (defArgs st) (zB st) (defScope st) .none kV z J G C ct) ⟨us,[]⟩=pure (ps.zip us)):Binds K Y ps []:=by
 obtain⟨oc,od,kV,z,J,G,C,ct,Z,rfl,lk,a0⟩:=F.ex
 exact .all (h kV z J G C ct)
theorem bi9 {x qual:Str}{st:Stmt}{f:Addr}{oc:Value}{od F:Option Addr}{C:Array (Option Value)}{kV z G h ct:Value}(l:K.lookup f=some ⟨oc,od,.func (cZ x qual (defArgs st) (zB st) (defScope st) .none kV z G F h ct),C⟩)
  (c:fy K h qual=true) (k:cE K (.ref f)=true):Fun K x qual st f (cZ x qual (defArgs st) (zB st) (defScope st) .none kV z G F h ct):=⟨⟨oc,od,kV,z,G,F,h,ct,C,rfl,l,c⟩,k⟩
end
section
variable {X:Cx}
end
theorem cc3 {A B:Prop}(h:B):if false=true then A else B:=by
 rw[if_neg aO]
 exact h
theorem iteT {A B:Prop}(h:A):if true=true then A else B:=by
 rw[if_pos rfl]
 exact h
def ae3 (H H':Hp):Prop:=∀ b o,H b=some o->H' b=some o
theorem ae3.refl (H:Hp):ae3 H H:=fun _ _ h=>h
theorem aR1 {prog:aB}{w:World}{A:aN}{R:j0->af->Prop}{s:af}{F z iter:Expr}{C:List Expr}{scope:Scope}{pos:Pos}{it G:Value}{env:Env}(I:Nat->af->Prop)
  (turn:∀ n s,I n s->wpAny (model prog w) A (jB it) (fun r Z=>match r with
   | none=>R (.ok .next) Z
   | some v=>wpAny (model prog w) A (eX z it v) (fun _ J=>wpAny (model prog w) A (gz z env v) (fun _ s₂ =>
     wpAny (model prog w) A (forIn C true fun c r=>if r=true then do let ok <- dP c env (eval c env);pure (ForInStep.yield ok)else pure (ForInStep.yield r)) (fun ok s₃ =>
      if ok=true then wpAny (model prog w) A (eval F env) (fun x s₄ =>
       wpAny (model prog w) A (call (.builtin "list.append") [G,x]) (fun _ s₅=>∃ m,m<n/\I m s₅) (js (model prog w) A env fun e s'=>R (.error e) s') s₄) (js (model prog w) A env fun e s'=>R (.error e) s') s₃
      else ∃ m,m<n/\I m s₃) (js (model prog w) A env fun e s'=>R (.error e) s') s₂) (js (model prog w) A env fun e s'=>R (.error e) s') J) (js (model prog w) A env fun e s'=>R (.error e) s') Z) (js (model prog w) A env fun e s'=>R (.error e) s') s)
  (n:Nat) (h:I n s) :
  fM (model prog w) A (.compLoop (.ListComp F [⟨z,iter,C,0⟩] scope pos) 0 it G env) R s:=by
 refine codeAny_loop rfl I (fun n s hI=>?_) n h
 show wpAny _ A ((compTurn (.ListComp F [⟨z,iter,C,0⟩] scope pos) 0 it G env).onRaise (fun x=>do noteFrame x env;theTreesLotGoes x)) _ _ s
 refine wpAny_noted ?_
 rw[compTurn_list]
 refine ag (iV (ag (bN (turn n s hI) (fun r Z h₁=>?_) fun _ _ h'=>h')))
 cases r with
 | none=>exact ar h₁
 | some v =>
  refine ag (bN h₁ (fun _ J Y=>?_) fun _ _ h'=>h')
  refine ag (bN Y (fun _ s₂ h₂=>ag (bN h₂ (fun ok s₃ h₃=>?_) fun _ _ h'=>h')) fun _ _ h'=>h')
  cases ok with
  | false=>exact ar ⟨rfl,h₃⟩
  | true =>
   exact ag (ag (bN h₃ (fun x s₄ h₄=>ag (bN h₄ (fun _ s₅ h₅=>ar (ar ⟨rfl,h₅⟩)) fun _ _ h'=>h')) fun _ _ h'=>h'))
noncomputable def an1 (cells:List (Str×Addr)):List (Str×cb)->List (Str×Addr)->List (Str×Addr)
 | [],acc=>acc
 | (n,k)::r,acc=>an1 cells r (if k==.free then(match cells.lookup n with|some c=>(n,c)::acc|none=>acc)else acc)
theorem ae8 {env:Env}:∀(names:List (Str×cb)) (z:List (Str×Addr)),(∀ y∈names,y.2=.free->∃ c,env.cells.lookup y.1=some c) ->
  (forIn names z fun(x:Str×cb) (cs:List (Str×Addr))=>(if x.2==.free then do let c <- cellOf env x.1;pure (ForInStep.yield ((x.1,c)::cs))else pure (ForInStep.yield cs):Sem (ForInStep (List (Str×Addr)))))=pure (an1 env.cells names z)
 | [],z,_=>by rw[fB];rfl
 | (n,k)::r,z,h=>by
  have C:=fun a=>ae8 r a fun y hy=>h y (ao _ hy)
  rw[gX]
  unfold an1
  cases e:(k==NameKind.free)with
  | false =>
   simp only[bC,if_false]
   exact C z
  | true =>
   have hk:k=.free:=by simpa using e
   obtain⟨c,hc⟩:=h (n,k) aw hk
   have e1:cellOf env n=pure c:=by unfold cellOf;rw[hc]
   simp only[if_true,e1,hc]
   exact C _
theorem af2 {scope:Scope}{env:Env}(h:∀ y∈scope.names,y.2=.free->∃ c,env.cells.lookup y.1=some c):closureFor scope env=pure (an1 env.cells scope.names []):=by
 have:=ae8 (env:=env) scope.names [] h
 show(forIn scope.names [] (fun(x:Str×cb) (cs:List (Str×Addr))=>(if x.2==.free then do let c <- cellOf env x.1;pure (ForInStep.yield ((x.1,c)::cs))else pure (ForInStep.yield cs):Sem (ForInStep (List (Str×Addr))))) >>= fun cs=>pure cs)=_
 rw[this]
 rfl
theorem clOf_mem {cells:List (Str×Addr)}{n:Str}{c:Addr}:∀ {names:List (Str×cb)} {C:List (Str×Addr)},(n,c)∈an1 cells names C->cells.lookup n=some c\/(n,c)∈C
 | [],_,h=>.inr h
 | (m,k)::r,C,h=>by
  unfold an1 at h
  rcases clOf_mem h with z|z
  ·exact .inl z
  ·cases e:(k==NameKind.free)with
   | false=>simp only[e,bC,if_false]at z;exact .inr z
   | true =>
    simp only[e,if_true]at z
    cases q:cells.lookup m with
    | none=>rw[q]at z;exact .inr z
    | some d =>
     rw[q]at z
     rcases aH.mp z with y|y
     ·cases y;exact .inl q
     ·exact .inr y
theorem aG8 {cells:List (Str×Addr)}{n:Str}{c:Addr}(hc:cells.lookup n=some c):∀ {names:List (Str×cb)} {z:List (Str×Addr)},((n,NameKind.free)∈names\/(n,c)∈z)->(n,c)∈an1 cells names z
 | [],_,h=>by rcases h with h|h;(exact absurd h (by simp));exact h
 | (m,k)::r,z,h=>by
  unfold an1
  refine aG8 hc ?_
  rcases h with h|h
  ·rcases aH.mp h with e|h
   ·cases e
    right
    simp[hc]
   ·exact .inl h
  ·right
   cases e:(k==NameKind.free)with
   | false=>simpa using h
   | true =>
    simp only[if_true]
    cases q:cells.lookup m with
    | none=>exact h
    | some d=>exact ao _ h
theorem af4 {α:Type}{n:Str}{c:α}:∀ {l:List (Str×α)},(n,c)∈l->(∀ d,(n,d)∈l->d=c)->l.lookup n=some c
 | (m,d)::r,h,u=>by
  rw[aX]
  cases e:n==m with
  | true =>
   have e':=beq_iff_eq.mp e
   subst e'
   rw[u d aw]
  | false =>
   rcases aH.mp h with z|z
   ·cases z;simp at e
   ·exact af4 z fun d' h'=>u d' (ao _ h')
theorem aC1 {cells:List (Str×Addr)}{n:Str}{c:Addr}{names:List (Str×cb)}(hc:cells.lookup n=some c)(h:(n,NameKind.free)∈names):(an1 cells names []).lookup n=some c:=by
 refine af4 (aG8 hc (.inl h)) fun d hd=>?_
 rcases clOf_mem hd with z|z
 ·rw[hc]at z;exact(av z).symm
 ·exact absurd z (by simp)
theorem ze:∀(names:List (Str×cb)) (n:Nat) (h:List (Str×Addr)),aK n names h=aK n names []++h
 | [],_,h=>by simp[aK]
 | (x,k)::r,n,h=>by
  unfold aK
  split
  ·rw[ze r (n+1) ((x,n)::h),ze r (n+1) [(x,n)]]
   simp
  ·exact ze r n h
theorem zq:∀ {names:List (Str×cb)} {n:Nat} {C:List (Str×Addr)} {x:Str} {c:Addr},(x,c)∈aK n names C->(x,NameKind.cell)∈names\/(x,c)∈C
 | [],_,_,_,_,h=>.inr h
 | (y,k)::r,n,C,x,c,h=>by
  unfold aK at h
  split at h
  ·rename_i hk
   rcases zq h with z|z
   ·exact .inl (ao _ z)
   ·rcases aH.mp z with e|z
    ·cases e
     have:k=.cell:=by simpa using hk
     subst this
     exact .inl aw
    ·exact .inr z
  ·rcases zq h with z|z
   ·exact .inl (ao _ z)
   ·exact .inr z
theorem zx {α:Type}(x:Str):∀(l r:List (Str×α)),(l++r).lookup x=(l.lookup x).or (r.lookup x)
 | [],r=>by simp
 | (y,v)::l,r=>by
  rw[bV,aX,aX]
  cases x==y with
  | true=>rfl
  | false=>exact zx x l r
noncomputable def zO (N':List Str)(src:List (Option Nat))(scope:Scope)(XN:List Str)(xs:Scope):Bool :=
 (scope.kind==.function) &&
 (scope.names.all fun y=>!(y.2==.free)||(xs.names.lookup y.1==some .cell||xs.names.lookup y.1==some .free)) &&
 (scope.names.all fun y=>!(y.2==.local)||scope.names.lookup y.1==some .local) &&
 (scope.names.all fun y=>!(y.2==.cell)||(scope.names.all fun z=>!(z.1==y.1)||z.2==.cell)) &&
 (src.length==N'.length) &&
 ((N'.zip src).all fun y=>match y.2 with|none=>true|some j=>XN[j]?==some y.1&&scope.names.lookup y.1==some .free)
structure CompCk (N':List Str)(src:List (Option Nat))(scope:Scope)(XN:List Str)(xs:Scope):Prop where
 kind:scope.kind=.function
 fr:∀ y∈scope.names,y.2=.free->xs.names.lookup y.1=some .cell\/xs.names.lookup y.1=some .free
 loc:∀ y∈scope.names,y.2=.local->scope.names.lookup y.1=some .local
 cel:∀ y∈scope.names,y.2=.cell->∀ z∈scope.names,z.1=y.1->z.2=.cell
 len:src.length=N'.length
 sr:∀(i j:Nat) (x:Str),src[i]?=some (some j)->N'[i]?=some x->XN[j]?=some x/\scope.names.lookup x=some .free
theorem bm6 {C:List Str}{src:List (Option Nat)}{scope:Scope}{F:List Str}{G:Scope}(h:zO C src scope F G=true):CompCk C src scope F G:=by
 unfold zO at h
 simp only[ah]at h
 obtain⟨⟨⟨⟨⟨h1,Y⟩,h3⟩,h4⟩,J⟩,h6⟩:=h
 refine⟨by simpa using h1,fun y hy e=>?_,fun y hy e=>?_,fun y hy e z hz Z=>?_,by simpa using J,fun i j x e1 e2=>?_⟩
 ·have:=aU.mp Y y hy
  simpa [e]using this
 ·have:=aU.mp h3 y hy
  simpa [e]using this
 ·have:=aU.mp h4 y hy
  simp only[e,beq_self_eq_true,eM,kn]at this
  have:=aU.mp this z hz
  simpa [Z]using this
 ·have hm:(x,some j)∈C.zip src:=by
   refine aS (i:=i) ?_
   rw[List.getElem?_zip_eq_some]
   exact⟨e2,e1⟩
  have:=aU.mp h6 _ hm
  simpa using this
noncomputable abbrev zz (X:Cx)(N':List Str)(scope:Scope)(C:Addr)(cells:List (Str×Addr))(s:af)(H:Hp)(ex:List Addr):Cx where
 prog:=X.prog
 w:=X.w
 K:=X.K
 mg:=X.mg
 base:=X.base
 A:=X.A
 N:=N'
 s₀:=s
 H₀:=H
 env:={ scope:=eN scope X.env,locals:=C,globals:=X.env.globals,cells:=cells,qual:=X.env.qual,func:=none,code:=X.env.code,frame:=X.env.frame,builtins:=X.env.builtins }
 outer:=X.stack
 stack:=X.stack
 ex:=ex
 fn:=fun x=>scope.names.lookup x==some .cell
 calm:=X.calm
 pn:=[]
 xe:=fun _ _=>False
def PIf (X:Cx)(ifs:List Expr)(t:TT):Prop :=
 ∀(pins:List (Addr×Obj)) (s:af) (σ:St) (H:Hp) (Q:Bool->Hp->Prop),Inv X pins σ H s->t σ H Q ->
  wpAny (model X.prog X.w) X.A (forIn ifs true fun c r=>if r=true then do let ok <- dP c X.env (eval c X.env);pure (ForInStep.yield ok)else pure (ForInStep.yield r)) (TP X pins σ Q) X.xe s
def cc2:TT:=fun _ H Q=>Q true H
theorem bt3 {X:Cx}:PIf X [] cc2:=fun _ _ _ H _ I h=>wpAny_tests_nil ⟨H,I,h⟩
theorem bn3 {X:Cx}{c:Expr}{t:TT}(h:PT X c t):PIf X [c] t:=fun z s σ H Q I hw=>wpAny_tests_one (h z s σ H Q I hw)
noncomputable def aA1 (src:List (Option Nat))(σ:St):St:=src.map fun o=>match o with|none=>none|some j=>(σ[j]?).join
def tComp (src:List (Option Nat))(wi:TI)(g:TG)(tc:TT)(te:TE):TE:=fun σ H Q=>wi σ H fun J H1=>∀ D,H1 D=none ->
 ∃ W:Nat->Nat->St->Hp->Prop,(∃ m,W 0 m (aA1 src σ) (upd H1 D (.lst [])))/\∀ i m σ' H',W i m σ' H' ->
  (J.stop i H'/\Q (.ref D) H')\/(J.go i H'/\∃ N:St->Hp->Prop,(∀ σ2 H2,N σ2 H2->∃ m',m'<m/\W (i+1) m' σ2 H2) /\
   ∀ x H2,J.yld i H' x H2->g x σ' H2 fun σ3 H3=>tc σ3 H3 fun b H4=>if b=true then te σ3 H4 fun v H5=>∃ ys,H5 D=some (.lst ys)/\ys.length<aE/\N σ3 (upd H5 D (.lst (ys++[v])))else N σ3 H4)
theorem zY {env:Env}:∀ {names:List (Str×cb)} {x:Str} {k:cb},names.lookup x=some k ->
  (names.map fun(n,k)=>if(k==NameKind.free&&env.scope.kind==.function&&env.kindOf n==some .cell)then(n,NameKind.cell)else(n,k)).lookup x =
   some (if(k==NameKind.free&&env.scope.kind==.function&&env.kindOf x==some .cell)then NameKind.cell else k)
 | [],_,_,h=>by simp at h
 | (n,k)::r,x,k',h=>by
  have z:=@zY env r x k'
  show kK x ((if(k==NameKind.free&&env.scope.kind==.function&&env.kindOf n==some .cell)=true then(n,NameKind.cell)else(n,k))::_)=_
  cases hx:x==n with
  | true =>
   have e:=beq_iff_eq.mp hx
   subst e
   simp only[aX,hx]at h
   cases h
   by_cases hc:(k==NameKind.free&&env.scope.kind==.function&&env.kindOf x==some .cell)=true
   ·rw[if_pos hc,if_pos hc];simp only[aX,hx]
   ·rw[if_neg hc,if_neg hc];simp only[aX,hx]
  | false =>
   simp only[aX,hx]at h
   by_cases hc:(k==NameKind.free&&env.scope.kind==.function&&env.kindOf n==some .cell)=true
   ·rw[if_pos hc];simp only[aX,hx];exact z h
   ·rw[if_neg hc];simp only[aX,hx];exact z h
theorem zU {env:Env}:∀ {names:List (Str×cb)} {x:Str},names.lookup x=none ->
  (names.map fun(n,k)=>if(k==NameKind.free&&env.scope.kind==.function&&env.kindOf n==some .cell)then(n,NameKind.cell)else(n,k)).lookup x=none
 | [],_,_=>rfl
 | (n,k)::r,x,h=>by
  have z:=@zU env r x
  show kK x ((if(k==NameKind.free&&env.scope.kind==.function&&env.kindOf n==some .cell)=true then(n,NameKind.cell)else(n,k))::_)=_
  cases hx:x==n with
  | true=>simp only[aX,hx]at h;cases h
  | false =>
   simp only[aX,hx]at h
   by_cases hc:(k==NameKind.free&&env.scope.kind==.function&&env.kindOf n==some .cell)=true
   ·rw[if_pos hc];simp only[aX,hx];exact z h
   ·rw[if_neg hc];simp only[aX,hx];exact z h
theorem ap2 {X:Cx}{N':List Str}{src:List (Option Nat)}{scope:Scope}{a4:List (Addr×Obj)}{σ:St}{H:Hp}{s s4:af}{fp:List Addr}
  (F:CompCk N' src scope X.N X.env.scope) (I:Inv X a4 σ H s) (hf:∀ b∈fp,FpOk X a4 H b) (a7:∀ b∈fp,b<s.heap.objs.size)
  (e4:∃ tk,s4={ s with heap:=eG (s.heap.push { cls:=.type "dict",data:=.dict #[] }) scope.names,toks:=tk }) :
  Inv (zz X N' scope s.heap.objs.size (aK (s.heap.objs.size+1) scope.names (an1 X.env.cells scope.names [])) s H fp) [] (aA1 src σ) H s4:=by
 obtain⟨tk,rfl⟩:=e4
 have hk:∀ b o,s.heap.get? b=some o->(eG (s.heap.push { cls:=.type "dict",data:=.dict #[] }) scope.names).get? b=some o:=fun b o e=>db _ _ b o (am _ e)
 have ok:=cellsFrom_ok scope.names (s.heap.push { cls:=.type "dict",data:=.dict #[] }) (s.heap.objs.size+1) [] ⟨fun _ _ hm=>(nomatch hm),List.Pairwise.nil⟩ (by rw[bQ];exact aj _)
 rw[bQ]at ok
 have Z:=ze scope.names (s.heap.objs.size+1) (an1 X.env.cells scope.names [])
 have lk:∀ x c,(aK (s.heap.objs.size+1) scope.names (an1 X.env.cells scope.names [])).lookup x=some c ->
   ((x,c)∈aK (s.heap.objs.size+1) scope.names []/\(x,NameKind.cell)∈scope.names)\/(X.env.cells.lookup x=some c/\(aK (s.heap.objs.size+1) scope.names []).lookup x=none):=fun x c e=>by
  rw[Z,zx]at e
  cases q:(aK (s.heap.objs.size+1) scope.names []).lookup x with
  | some d =>
   rw[q]at e
   have e':d=c:=av e
   subst e'
   have hm:=aC q
   refine .inl ⟨hm,?_⟩
   rcases zq hm with z|z
   ·exact z
   ·exact absurd z (by simp)
  | none =>
   rw[q]at e
   have e':(an1 X.env.cells scope.names []).lookup x=some c:=e
   rcases clOf_mem (aC e')with z|z
   ·exact .inr ⟨z,rfl⟩
   ·exact absurd z (by simp)
 have up:∀ x c,(x,c)∈aK (s.heap.objs.size+1) scope.names []->s.heap.objs.size+1<=c:=fun x c h=>(ok.empty x c h).2
 have old:∀ x c,X.env.cells.lookup x=some c->c<s.heap.objs.size:=fun x c h=>by
  obtain⟨v,q⟩:=I.cell x c h
  exact q.lt
 have a3:∀ b,b<s.heap.objs.size->b≠s.heap.objs.size:=fun b h=>az h
 have b0:∀ b∈fp,H b=none/\b≠X.env.locals/\b ∉ X.fs:=fun b hb=>⟨(hf b hb).1,(hf b hb).2.1,(hf b hb).2.2.1⟩
 have b1:(eG (s.heap.push { cls:=.type "dict",data:=.dict #[] }) scope.names).Ns s.heap.objs.size (fun _=>none):=(kL s.heap (.type "dict")).keeps (db _ _)
 have Y:∀ x k,scope.names.lookup x=some k->(eN scope X.env).names.lookup x=some (if(k==NameKind.free&&X.env.scope.kind==.function&&X.env.kindOf x==some .cell)then NameKind.cell else k):=fun x k e=>zY (env:=X.env) e
 have a0:∀ x,scope.names.lookup x=none->(eN scope X.env).names.lookup x=none:=fun x e=>zU (env:=X.env) e
 have a6:∀ x c,(x,NameKind.free)∈scope.names->X.env.cells.lookup x=some c->(aK (s.heap.objs.size+1) scope.names (an1 X.env.cells scope.names [])).lookup x=some c:=fun x c hx hc=>by
  rw[Z,zx]
  cases q:(aK (s.heap.objs.size+1) scope.names []).lookup x with
  | some d =>
   rcases zq (aC q)with z|z
   ·have:=F.cel _ z rfl _ hx rfl
    cases this
   ·exact absurd z (by simp)
  | none=>exact aC1 hc hx
 have a5:∀ x,(x,NameKind.free)∈scope.names->∃ c,X.env.cells.lookup x=some c:=fun x hx=>I.ok.has x (F.fr _ hx rfl)
 refine⟨⟨I.ok.mod,F.kind,I.ok.glob,I.ok.blt,aj _,fun x y c e1 e2=>?_,fun x hx=>?_,fun x c hx e=>?_,I.ok.hd,I.ok.frames,.inl rfl,fun b hb=>⟨a3 b (a7 b hb),fun x c e z=>?_⟩,I.bs,ak I.ok.bsz I.sz,fun b o e hb=>?_,fun b hb z=>?_,I.stack,I.stkFree⟩,
  rfl,I.bare,Un.kept hk,⟨_,b1,fun i x v e1 e2 e3=>?_⟩,fun x c e=>?_,I.hok.fresh (aj _),fun x c e=>?_,fun p hp=>absurd (show p∈([]:List (Addr×Obj))from hp) (by simp),I.hok.kept hk,by unfold aA1;rw[ay];exact F.len⟩
 ·rcases lk x c e1 with⟨a1,_⟩|⟨a1,_⟩<;>rcases lk y c e2 with⟨a2,_⟩|⟨a2,_⟩
  ·exact gD ok.apart a1 a2
  ·exact absurd (ax (old _ _ a2) (fO (up _ _ a1))) (bp _)
  ·exact absurd (ax (old _ _ a1) (fO (up _ _ a2))) (bp _)
  ·exact I.ok.inj x y c a1 a2
 ·cases q:scope.names.lookup x with
  | none =>
   have C:(eN scope X.env).names.lookup x=some .cell\/(eN scope X.env).names.lookup x=some .free:=hx
   rw[a0 x q]at C
   rcases C with z|z<;>cases z
  | some k =>
   have C:(eN scope X.env).names.lookup x=some .cell\/(eN scope X.env).names.lookup x=some .free:=hx
   rw[Y x k q]at C
   cases k with
   | free =>
    obtain⟨c,hc⟩:=a5 x (aC q)
    exact⟨c,a6 x c (aC q) hc⟩
   | cell =>
    obtain⟨c,hc⟩:=zM (n:=s.heap.objs.size+1) q
    exact⟨c,by show(aK _ _ _).lookup x=_;rw[Z,zx,hc];rfl⟩
   | _=>rcases C with z|z<;>cases z
 ·have C:(scope.names.lookup x==some .cell)=true:=hx
  have q:scope.names.lookup x=some .cell:=by simpa using C
  rcases lk x c e with⟨a,_⟩|⟨a,b⟩
  ·have:=up _ _ a;show s.heap.objs.size<=c;omega
  ·obtain⟨d,hd⟩:=zM (n:=s.heap.objs.size+1) q
   rw[hd]at b;cases b
 ·subst z
  rcases lk x c e with⟨a,_⟩|⟨a,_⟩
  ·exact absurd (ax (a7 c hb) (fO (up _ _ a))) (bp _)
  ·exact(hf c hb).2.2.2.2.1 x c a rfl
 ·rcases(hf b hb).2.2.2.1 with z|z
  ·exact I.ok.noex b o e z
  ·exact absurd (ax (aD e) (ak I.ok.bsz z)) (bp _)
 ·rcases aH.mp (I.stkSub b z)with y|y
  ·exact(b0 b hb).2.1 y
  ·exact(b0 b hb).2.2 y
 ·have G:(aA1 src σ)[i]?=some (some v):=e2
  unfold aA1 at G
  rw[aA]at G
  cases q:src[i]? with
  | none=>rw[q]at G;cases G
  | some o =>
   rw[q]at G
   cases o with
   | none=>cases G
   | some j =>
    have J:(σ[j]?).join=some v:=av G
    have ej:σ[j]?=some (some v):=by
     cases q2:σ[j]? with
     | none=>rw[q2]at J;cases J
     | some o2=>rw[q2]at J;exact congrArg some J
    obtain⟨h1,h2⟩:=F.sr i j x q e1
    have hm:=aC h2
    obtain⟨mX,b3,b2⟩:=I.loc
    have a8:Vis X.env.scope x:=by
     rcases F.fr _ hm rfl with z|z
     ·exact .inr (.inl z)
     ·exact .inr (.inr z)
    obtain⟨u,ru,look⟩:=b2 j x v h1 ej a8
    refine⟨u,ru,.inr ?_⟩
    have hcell:∃ c,X.env.cells.lookup x=some c/\s.heap.IsCell c (some u):=by
     rcases look with⟨z,_⟩|⟨_,c,z1,z2⟩
     ·have z':X.env.scope.names.lookup x=some .local:=z
      rcases F.fr _ hm rfl with y|y<;>(rw[z']at y;cases y)
     ·exact⟨c,z1,z2⟩
    obtain⟨c,c1,c2⟩:=hcell
    refine⟨?_,c,a6 x c hm c1,c2.keeps hk⟩
    show(eN scope X.env).names.lookup x=some .cell\/(eN scope X.env).names.lookup x=some .free
    rw[Y x _ h2]
    by_cases hc:(NameKind.free==NameKind.free&&X.env.scope.kind==.function&&X.env.kindOf x==some .cell)=true
    ·rw[if_pos hc];exact .inl rfl
    ·rw[if_neg hc];exact .inr rfl
 ·rcases lk x c e with⟨a,_⟩|⟨a,_⟩
  ·exact⟨_,(ok.empty x c a).1⟩
  ·obtain⟨v,q⟩:=I.cell x c a
   exact⟨v,q.keeps hk⟩
 ·rcases lk x c e with⟨a,_⟩|⟨a,_⟩
  ·exact I.hok.fresh (by have:=up _ _ a;omega)
  ·exact I.freeC x c a
theorem aJ1 {X:Cx}{Z:List Str}{scope:Scope}{h:List (Addr×Obj)}{σ σ':St}{H G:Hp}{s s5:af}{F:List Addr}{cells:List (Str×Addr)}{h':Heap}
  (I:Inv X h σ H s) (hf:∀ b∈F,FpOk X h H b) (J:Inv (zz X Z scope s.heap.objs.size cells s H F) [] σ' G s5) (hs:dY s.heap.objs.size s5.heap h') :
  Inv X h σ G { s5 with heap:=h' }:=by
 have C:∀ b o,s.heap.get? b=some o->b≠s.heap.objs.size:=fun b o e=>az (aD e)
 have u:Un (frs X.stack) F H G s.heap s5.heap:=J.base
 refine I.call' (s':={ s5 with heap:=h' }) (ch:=F) J.os ⟨fun b o e n hb hx=>?_,fun b o e n hb hx=>?_,fun b o e n hx=>u.free b o e n hx,fun b o e hx=>?_,u.tups,u.frzs,u.tbls⟩ (fun b o e=>?_) J.bare fun b hb=>⟨(hf b hb).2.2.2.1,(hf b hb).2.1,(hf b hb).2.2.2.2.1,(hf b hb).2.2.2.2.2⟩
 ·exact(hs.2 b (C b o e)).trans (u.keep b o e n hb hx)
 ·obtain⟨sl,q⟩:=u.slot b o e n hb hx
  exact⟨sl,(hs.2 b (C b o e)).trans q⟩
 ·obtain⟨Y,q⟩:=u.there b o e hx
  exact⟨Y,(hs.2 b (C b o e)).trans q⟩
 ·have fr:G s.heap.objs.size=none:=J.free
  refine(J.hok b o e).stay (fun c w' hc q=>(hs.2 c ?_).trans q) (fun _ q=>q) fun _ _ q=>q
  rintro rfl
  rcases hc with z|hc
  ·rw[<-z,fr]at e;cases e
  ·rw[fr]at hc;cases hc
theorem af6 {M:Model}{A:aN}{E:Value->af->Prop}{s:af}{scope:Scope}{globals:Addr}{C:List (Str×Addr)}{qual:Str}{z:Env}{Q:Env->af->Prop}
  (h:Q { scope:=scope,locals:=s.heap.objs.size,globals:=globals,cells:=aK (s.heap.objs.size+1) scope.names C,qual:=qual,func:=none,code:=z.code,frame:=z.frame,builtins:=z.builtins }
   { s with heap:=eG (s.heap.push { cls:=.type "dict",data:=.dict #[] }) scope.names }) :
  wpAny M A (fC scope globals C [] qual none .none (some z)) Q E s:=by
 simp only[fC,ja,if_true]
 refine ag (wpAny_alloc ?_)
 refine ag (wpAny_layCells _ (fun name kind cells=>by cases hkc:kind==NameKind.cell<;>simp[hkc]) _ _ _ _ ?_)
 rw[show({ s with heap:=s.heap.push { cls:=.type "dict",data:=.dict #[] } }:af).heap.objs.size=s.heap.objs.size+1 from bQ ..]
 refine ag ?_
 rw[fB]
 exact ar (ar h)
theorem aw7 {X':Cx}{R:j0->af->Prop}{a5 tg iter:Expr}{a2:List Expr}{scope:Scope}{pos:Pos}{g:TG}{tc:TT}{te:TE}{J:It}{fp:List Addr}{it D:Addr}{tn:Nat->Heap->Prop}{W:Nat->Nat->St->Hp->Prop}
  {QD:Hp->Prop} {σ0:St} {H0:Hp} {s4:af} {m0:Nat} (hx:X'.xe=fun _ _=>False) (C:X'.calm=true) (I4:Inv X' [] σ0 H0 s4) (T:Turn X'.prog X'.w X'.K tg J fp it tn) (a7:tn 0 s4.heap)
  (G:∀ H':Hp,(∀ b∈fp,H' b=none)->∀ b∈fp,FpOk X' [] H' b) (b0:∀ b∈fp,H0 b=none) (w0:W 0 m0 σ0 H0)
  (turn:∀ i m σ' H',W i m σ' H'->(J.stop i H'/\QD H')\/(J.go i H'/\∃ N:St->Hp->Prop,(∀ σ2 H2,N σ2 H2->∃ m',m'<m/\W (i+1) m' σ2 H2) /\
   ∀ x H2,J.yld i H' x H2->g x σ' H2 fun σ3 Y=>tc σ3 Y fun b H4=>if b=true then te σ3 H4 fun v H5=>∃ ys,H5 D=some (.lst ys)/\ys.length<aE/\N σ3 (upd H5 D (.lst (ys++[v])))else N σ3 H4))
  (hg:PG X' tg g) (hif:PIf X' a2 tc) (he:PE X' a5 te) (a4:∀ σ' H' s',Inv X' [] σ' H' s'->QD H'->R (.ok .next) s') :
  fM (model X'.prog X'.w) X'.A (.compLoop (.ListComp a5 [⟨tg,iter,a2,0⟩] scope pos) 0 (.ref it) (.ref D) X'.env) R s4:=by
 have nox:∀ {α:Type} {t:Sem α} {Q Q':α->af->Prop} {E:Value->af->Prop} {s:af},wpAny (model X'.prog X'.w) X'.A t Q X'.xe s->(∀ a s,Q a s->Q' a s)->wpAny (model X'.prog X'.w) X'.A t Q' E s :=
  fun h hQ=>bN h hQ fun _ _ z=>by rw[hx]at z;exact z.elim
 refine aR1 (fun n s'=>∃ i σ' H',Inv X' [] σ' H' s'/\tn i s'.heap/\(∀ b∈fp,H' b=none)/\W i n σ' H') ?_ m0 ⟨0,σ0,H0,I4,a7,b0,w0⟩
 rintro n s3 ⟨i,σ3,Y,I3,a3,a1,w3⟩
 rcases turn i n σ3 Y w3 with⟨stop,qn⟩|⟨go,N,hN,step⟩
 ·refine nox (T.done X' rfl rfl rfl C i [] s3 σ3 Y X'.xe I3 (G Y a1) a3 stop) fun r s4 ⟨hr,I4⟩=>?_
  subst hr
  exact a4 σ3 Y s4 I4 qn
 ·refine nox (T.item X' rfl rfl rfl C i [] s3 σ3 Y X'.xe I3 (G Y a1) a3 go) fun r s4 ⟨u,hr,h4⟩=>?_
  subst hr
  refine nox h4 fun _ s5 ⟨x,H5,I5,r5,y5,a0,a6⟩=>?_
  have a8:=I5.pinned (G H5 a6) (T.obj _ _ a0)
  refine nox (hg _ s5 σ3 H5 x u _ a8 r5 (step x H5 y5)) fun _ s6 ⟨σ6,H6,I6,q6⟩=>?_
  have F:∀ {σ7:St} {Z:Hp} {s7:af},Inv X' ([]++au9 fp s5.heap) σ7 Z s7->N σ7 Z->∃ m,m<n/\∃ i σ' H',Inv X' [] σ' H' s7/\tn i s7.heap/\(∀ b∈fp,H' b=none)/\W i m σ' H':=fun {σ7 Z s7} I7 n7=>by
   obtain⟨m',hm,w7⟩:=hN σ7 Z n7
   refine⟨m',hm,i+1,σ7,Z,I7.unpinned,T.keep _ _ _ a0 fun b hb o e=>(I7.pin (b,o) (bn _ (bn _ (qp hb e)))).1,fun b hb=>?_,w7⟩
   obtain⟨o,e,d⟩:=T.obj _ _ a0 b hb
   exact(I7.pin (b,o) (bn _ (bn _ (qp hb e)))).2.1
  refine nox (hif _ s6 σ6 H6 _ I6 q6) fun b s7 ⟨Z,I7,q7⟩=>?_
  cases b with
  | false =>
   rw[if_neg aO]at q7 ⊢
   exact F I7 q7
  | true =>
   rw[if_pos rfl]at q7 ⊢
   refine nox (he _ s7 σ6 Z _ I7 q7) fun v s8 ⟨y,H8,I8,r8,ys,hy,hz,q8⟩=>?_
   refine nox (az1 _ s8 σ6 H8 (.ref D) [y] (.ref D) [v] (fun _ H9=>N σ6 H9) I8 rfl (.cons r8 .nil) ⟨D,ys,y,rfl,rfl,hy,hz,q8⟩) fun v9 s9 ⟨_,H9,I9,_,q9⟩=>?_
   exact F I9 q9
theorem aQ0 {X:Cx}{a3 tg iter:Expr}{a1:List Expr}{scope:Scope}{pos:Pos}{wi:TI}{g:TG}{tc:TT}{te:TE}(Z:List Str)(src:List (Option Nat))
  (a7:zO Z src scope X.N X.env.scope=true) (hi:PI X tg iter wi) (Y:X.calm=true)
  (b2:∀(C:Addr) (cells:List (Str×Addr)) (s:af) (H:Hp) (ex:List Addr),PG (zz X Z scope C cells s H ex) tg g/\PIf (zz X Z scope C cells s H ex) a1 tc/\PE (zz X Z scope C cells s H ex) a3 te)
  (hs:∀ x,dw iter X.env x=pure x:=by intro _;rfl):PE X (.ListComp a3 [⟨tg,iter,a1,0⟩] scope pos) (tComp src wi g tc te):=by
 intro z s σ H Q I h
 have ck:=bm6 a7
 rw[eval_ListComp]
 have b0:=af2 (scope:=scope) (env:=X.env) fun y hy e=>I.ok.has y.1 (ck.fr y hy e)
 refine f6 (use:=none) rfl hs b0 ck.kind ck.loc (thn (hi z s σ H _ I h) fun v s1 h1=>thn h1 fun b4 s2 h2=>?_)
 obtain⟨it,F,tn,J,H2,e,I2,T,a0,f2,W⟩:=h2
 subst e
 have hD:=I2.fresh
 obtain⟨W,⟨m0,w0⟩,turn⟩:=W _ hD
 have I3:=I2.lnew (its:=[]) (ys:=[]) (t':=s2.toks) .nil (cu _)
 have a5:∀ b∈F,b<s2.heap.objs.size:=fun b hb=>by obtain⟨o,q,_⟩:=T.obj _ _ a0 b hb;exact aD q
 have f3:∀ b∈F,FpOk X z (upd H2 s2.heap.objs.size (.lst [])) b:=fun b hb=>⟨by rw[zm (az (a5 b hb))];exact(f2 b hb).1,(f2 b hb).2⟩
 refine bw (af6 ?_)
 generalize G:({ s2 with heap:=s2.heap.push { cls:=.type "list",data:=.seq ([]:List Value).toArray },toks:=s2.toks }:af)=s3 at I3
 have b3:({ s2 with heap:=s2.heap.push { cls:=.type "list",data:=.seq ([]:List Value).toArray } }:af)=s3:=G
 have a8:∀ b∈F,b<s3.heap.objs.size:=fun b hb=>by
  rw[<-G]
  show b<(s2.heap.push _).objs.size
  rw[bQ]
  exact fP (a5 b hb)
 have I4:=ap2 (s4:={ s3 with heap:=eG (s3.heap.push { cls:=.type "dict",data:=.dict #[] }) scope.names }) ck I3 f3 a8 ⟨_,rfl⟩
 have a4:tn 0 (eG (s3.heap.push { cls:=.type "dict",data:=.dict #[] }) scope.names):=T.keep _ _ _ a0 fun b hb o e=>db _ _ b o (am _ (by rw[<-G];exact am _ e))
 obtain⟨hg,hif,he⟩:=b2 s3.heap.objs.size (aK (s3.heap.objs.size+1) scope.names (an1 X.env.cells scope.names [])) s3 (upd H2 s2.heap.objs.size (.lst [])) F
 have a2:∀ H':Hp,(∀ b∈F,H' b=none)->∀ b∈F,FpOk (zz X Z scope s3.heap.objs.size (aK (s3.heap.objs.size+1) scope.names (an1 X.env.cells scope.names [])) s3 (upd H2 s2.heap.objs.size (.lst [])) F) [] H' b:=fun H' hn b hb =>
  ⟨hn b hb,(I4.ok.exf b hb).1,I4.ok.exfs b hb,.inl hb,fun x c e=>(I4.ok.exf b hb).2 x c e,fun p hp=>absurd (show p∈([]:List (Addr×Obj))from hp) (by simp)⟩
 have T':Turn X.prog X.w X.K tg J F it tn:=T
 have a6:∀ b∈F,upd H2 s2.heap.objs.size (.lst []) b=none:=fun b hb=>(f3 b hb).1
 have L:=aw7 (X':=zz X Z scope s3.heap.objs.size (aK (s3.heap.objs.size+1) scope.names (an1 X.env.cells scope.names [])) s3 (upd H2 s2.heap.objs.size (.lst [])) F) (R:=compPost (model X.prog X.w) X.A X.xe none (EP X z σ Q) (Value.ref s2.heap.objs.size) s3.heap.objs.size) (iter:=iter) (scope:=scope) (pos:=pos) (QD:=fun H'=>Q (.ref s2.heap.objs.size) H') rfl Y I4 T' a4 a2 a6 w0 turn hg hif he
  (fun σ' H' s' J' q=>by
   obtain⟨mm,hn,_⟩:=J'.loc
   exact⟨mm,hn,fun h' b1=>⟨.ref s2.heap.objs.size,H',aJ1 I3 f3 J' b1,rfl,q⟩⟩)
 exact gM L (T.self _ _ _ _ _ a4 L)
section
variable {X:Cx}
theorem bS9:bf "abs"=some (.builtin "abs"):=by decide +kernel
theorem bX6:bf "len"=some (.builtin "len"):=by decide +kernel
theorem br3:bf "min"=some (.builtin "min"):=by decide +kernel
theorem bX8:bf "max"=some (.builtin "max"):=by decide +kernel
theorem bV5:bf "all"=some (.builtin "all"):=by decide +kernel
theorem ax3:bf "isinstance"=some (.builtin "isinstance"):=by decide +kernel
theorem bO9:bf "int"=some (.type "int"):=by decide +kernel
theorem bH5:bf "bool"=some (.type "bool"):=by decide +kernel
theorem bD4:bf "str"=some (.type "str"):=by decide +kernel
theorem aV3:bf "tuple"=some (.type "tuple"):=by decide +kernel
theorem bm8:bf "list"=some (.type "list"):=by decide +kernel
def bS4 (i j:Int):Prop:=0<j/\j<2^4096
theorem aO2 {y:Int}(h0:0<y)(h:y<2^4096):y.natAbs.log2<9000:=by
 have hn:y.natAbs<2^4096:=by
  have:(y.natAbs:Int)=y:=by omega
  have z:(y.natAbs:Int)<((2^4096:Nat):Int):=by rw[this];simpa using h
  exact jt.mp z
 have:=(Nat.log2_lt (by omega)).mpr hn
 omega
theorem bh2:OpR X (bP .FloorDiv) (rI bS4 fun i j=>.int (i / j)):=opI fun i j _ _ _ _ _ hc q=>by
 refine floordiv_int (by have:=hc.1;omega) ?_ (.inl (PyProof.noPylong_of_log2 (aO2 hc.1 hc.2)))
 rw[fw i (by have:=hc.1;omega)]
 exact q
theorem aG2 {K:ae}(h:X.K=K):IxR X (bZ6 K):=by subst h;exact bo4
theorem bp5 {K:ae}(h:X.K=K):IxR X (bY5 K):=by subst h;exact ix_tup
theorem aj5 {K:ae}(h:X.K=K):ab8 X (.builtin "len") (fun z H Q=>∃ p ys,z=[.ref p]/\(SqL K H p ys\/SqT K H p ys)/\Q (.int ys.length) H):=by subst h;exact ay2
theorem aC3 {K:ae}(h:X.K=K):ab8 X (.type "tuple") (fun z H Q=>∃ p ys,z=[.ref p]/\((SqL K H p ys/\∀ l,H l=none->Q (.ref l) (upd H l (.tup ys)))\/(SqT K H p ys/\Q (.ref p) H))):=by subst h;exact aq3
theorem aO1 {K:ae}(h:X.K=K):ab8 X (.type "list") (fun z H Q=>∃ p ys,z=[.ref p]/\(SqL K H p ys\/SqT K H p ys)/\∀ l,H l=none->Q (.ref l) (upd H l (.lst ys))):=by subst h;exact ay8
theorem bb3 {K:ae}{tg l:Expr}{h:TE}(z:X.K=K)(hl:PE X l h):PI X tg l (bn6 K h):=by subst z;exact bv6 hl
theorem bq5 {K:ae}{tg l:Expr}{h:TE}(z:X.K=K)(hl:PE X l h):PI X tg l (bS7 K h):=by subst z;exact bM1 hl
theorem bu4 {K:ae}{pos:Pos}{es:List Expr}{k:Nat}{t:TGs}{n:Nat}(C:X.K=K)(hc:X.calm=true)(h:PGs X es t)
  (hn:(cC es X.env).length=n:=by rfl) (z:(cC es X.env).findIdx? (·.1)=none:=by rfl):PG X (.Tuple es k pos) (bU1 K n t):=by subst C;exact bE5 hc h hn z
end
structure DefAt (K:ae)(mg:Str->Option Value)(x:Str)(st:Stmt)(ps:List Str)(f:Addr)(fd:bL):Prop where
 fn:Fun K x x st f fd
 mg:mg x=some (.ref f)
 bi:Binds K fd ps []
@[irreducible] noncomputable def cd8 (p:Prop):Prop:=p
theorem ae3.new {p:Addr}{H z:Hp}{o:HO}(h:ae3 H z)(hp:z p=none):ae3 H (L2.upd z p o):=fun x o e=>by
 have e1:=h x o e
 rw[zm (zr e1 hp)]
 exact e1
section
variable {prog:aB} {w:World} {A:aN} {R:j0->af->Prop} {I:Addr} {fp wr:List Addr} {n:Nat} {P:Nat->Value->Prop} {St:Nat->Heap->Prop} {kw:List (Str×Value)}
theorem aS7 (W:Walks prog w A.in1 I fp wr n P St)(bt:Nat->Nat->Bool)(a7:CmpOf prog w A.in1 .Lt P bt)(S:Addr)(a6:S ∉ fp) :
  ∀(k j:Nat) (s:af) (vb:Value) (c:Nat),n - (j+1)=k->j+1<=n->St (j+1) s.heap->P (dE bt j) vb ->
  s.heap.get? S=some { cls:=.type "list",dict:=none,data:=.seq #[vb,vb] c,slots:=#[] } ->
  (∀ v h' tk,P (dE bt (n - 1)) v->(∀ b o,b ∉ wr->b≠S->s.heap.get? b=some o->h'.get? b=some o)->R (.ok (.ret v)) { s with heap:=h',toks:=tk }) ->
  fM (model prog w) A (.builtin "min.loop" ⟨[.ref I,.none,.ref S],kw⟩) R s:=by
 have a5:S ∉ wr:=fun h=>a6 (W.sub _ h)
 have G:(toString "min"++toString ".loop":String) = "min.loop":=by decide
 intro k
 induction k with
 | zero =>
  intro j s vb c hk hj a3 a0 hS hR
  have a8:j+1=n:=by omega
  refine gY gh ?_
  rw[eR cx _]
  show wpAny _ A.in1 (iD (.ref S) >>= _) _ _ s
  refine ag (cS hS rfl ?_)
  show wpAny _ A.in1 (tryCatch (jB (.ref I)) _ >>= _) _ _ s
  refine ag (d5 (W.done s _ _ (a8▸a3) fun h' tk C=>?_))
  have Y:=C S _ a5 hS
  show wpAny _ A.in1 (updateSeq S (fun _=>#[]) >>= _) _ _ _
  refine ag ?_
  refine gZ Y rfl (ag (iu (ar ?_)))
  refine hR vb _ tk (by rw[<-a8];exact a0) fun b o z F e=>(bI _ _ (cM F)).trans (C b o z e)
 | succ k ih =>
  intro j s vb c hk hj a3 a0 hS hR
  have hlt:j+1<n:=by omega
  refine gY gh ?_
  rw[eR cx _]
  show wpAny _ A.in1 (iD (.ref S) >>= _) _ _ s
  refine ag (cS hS rfl ?_)
  show wpAny _ A.in1 (tryCatch (jB (.ref I)) _ >>= _) _ _ s
  refine ag (d5 (W.item (j+1) s _ _ hlt a3 fun v h' tk hP a1 C=>?_))
  have Y:=C S _ a5 hS
  show wpAny _ A.in1 (tryCatch (jg [v,v] (richCompare .Lt v vb >>= _)) _ >>= _) _ _ _
  refine ag (d5 (dk (ag (a7 (j+1) (dE bt j) v vb _ _ _ hP a0 ?_))))
  refine ag (dk (bO ?_))
  refine ag (iu (ar ?_))
  cases hb:bt (j+1) (dE bt j)with
  | true =>
   simp only[if_true]
   refine ag ?_
   refine gZ Y rfl (ag (iu ?_))
   rw[G]
   refine ar ⟨f7 cx _,ih (j+1) _ v _ (by omega) hlt (W.frame _ _ _ a1 fun b b0 o e=>?_) (by simp only[dE,hb,if_true];exact hP) (dr _ Y rfl)
    fun v' a2 J a4 Z=>?_⟩
   ·exact(bI _ _ (fun h:S=b=>a6 (by rw[h];exact b0))).trans e
   ·exact hR v' a2 J a4 fun b o z F e=>Z b o z F ((bI _ _ (cM F)).trans (C b o z e))
  | false =>
   simp only[bC,if_false]
   refine ag (iu ?_)
   rw[G]
   refine ar ⟨f7 cx _,ih (j+1) _ vb c (by omega) hlt a1 (by simp only[dE,hb,bC,if_false];exact a0) Y fun v' a2 J a4 Z=>?_⟩
   exact hR v' a2 J a4 fun b o z F e=>Z b o z F (C b o z e)
theorem aO0 (W:Walks prog w A.in1 I fp wr n P St)(bt:Nat->Nat->Bool)(a3:CmpOf prog w A.in1 .Lt P bt)(S:Addr)(G:S ∉ fp){s:af}{c:Nat}{d:Value}(Y:St 0 s.heap)
  (hS:s.heap.get? S=some { cls:=.type "list",dict:=none,data:=.seq #[] c,slots:=#[] })
  (h0:n=0->∀ h' tk,(∀ b o,b ∉ wr->b≠S->s.heap.get? b=some o->h'.get? b=some o)->R (.ok (.ret d)) { s with heap:=h',toks:=tk })
  (hR:0<n->∀ v h' tk,P (dE bt (n - 1)) v->(∀ b o,b ∉ wr->b≠S->s.heap.get? b=some o->h'.get? b=some o)->R (.ok (.ret v)) { s with heap:=h',toks:=tk }) :
  fM (model prog w) A (.builtin "min.loop" ⟨[.ref I,.none,.ref S],[(bA "default",d)]⟩) R s:=by
 have a4:S ∉ wr:=fun h=>G (W.sub _ h)
 have F:(toString "min"++toString ".loop":String) = "min.loop":=by decide
 refine gY gh ?_
 rw[eR cx _]
 show wpAny _ A.in1 (iD (.ref S) >>= _) _ _ s
 refine ag (cS hS rfl ?_)
 show wpAny _ A.in1 (tryCatch (jB (.ref I)) _ >>= _) _ _ s
 rcases Nat.eq_zero_or_pos n with hn|hn
 ·refine ag (d5 (W.done s _ _ (hn▸Y) fun h' tk z=>?_))
  show wpAny _ A.in1 (rule _ >>= _) _ _ _
  refine ag (gv (ar ?_))
  exact h0 hn h' tk fun b o C _ e=>z b o C e
 ·refine ag (d5 (W.item 0 s _ _ hn Y fun v h' tk hP a0 z=>?_))
  have Z:=z S _ a4 hS
  show wpAny _ A.in1 (updateSeq S (fun _=>#[v,v]) >>= _) _ _ _
  refine ag ?_
  refine gZ Z rfl ?_
  rw[F]
  refine ar ⟨f7 cx _,aS7 W bt a3 S G _ 0 _ v _ rfl hn (W.frame _ _ _ a0 fun b a6 o e=>?_) hP (dr _ Z rfl) fun v' a5 J a7 a1=>?_⟩
  ·exact(bI _ _ (fun h:S=b=>G (by rw[h];exact a6))).trans e
  ·exact hR hn v' a5 J a7 fun b o C a2 e=>a1 b o C a2 ((bI _ _ (cM a2)).trans (z b o C e))
end
theorem aP0 (a d:Value):argsOk "min" ⟨[a],[(bA "default",d)]⟩:=by unfold argsOk;kernel_rfl
theorem qy (val : Nat -> Int) : ∀ k j, j <= k -> val (dE (fun i j => decide (val i < val j)) k) <= val j
  | 0, j, h => by have : j = 0 := by omega
                  subst this; exact fQ _
  | k + 1, j, h => by
    have ih := qy val k
    unfold dE
    by_cases hb : val (k + 1) < val (dE (fun i j => decide (val i < val j)) k)
    · rw[if_pos (by simpa using hb)]
      by_cases hj : j = k + 1
      · subst hj; exact fQ _
      · have := ih j (by omega); omega
    · rw[if_neg (by simpa using hb)]
      by_cases hj : j = k + 1
      · subst hj; omega
      · exact ih j (by omega)
def bn0 (K:ae):V->V->Hp->VK->Prop:=fun x d H Q=>∃ a ns,x=.ref a/\SqL K H a (ns.map V.int)/\(ns=[]->Q d H)/\∀ m∈ns,(∀ y∈ns,m<=y)->Q (.int m) H
theorem as8 {ns:List Int}{its:List Value}(r:Vals (ns.map V.int) its){i:Nat}{v:Value}(h:its[i]?=some v):∃ z t,ns[i]?=some z/\v=Value.int z t:=by
 have hl:=r.length
 rw[ay]at hl
 have C:i<its.length:=(ac.mp h).1
 obtain⟨u,e1,q⟩:=r.get (i:=i) (x:=.int ns[i]) (by rw[aA,ai (by omega)];rfl)
 rw[h]at e1;cases e1
 obtain⟨t,rfl⟩:=q
 exact⟨_,t,ai (by omega),rfl⟩
theorem ba5 {X:Cx}{C:List (Addr×Obj)}{σ:St}{H:Hp}{s:af}{x d:V}{u Z:Value}{Q:VK}(hc:X.calm=true)(I:Inv X C σ H s)(rx:RelV x u)(rd:RelV d Z)(h:bn0 X.K x d H Q) :
  wpAny (model X.prog X.w) X.A (call (.builtin "min") [u] [(bA "default",Z)]) (EP X C σ Q) X.xe s:=by
 obtain⟨a,ns,rfl,hS,q0,qm⟩:=h
 cases rx
 obtain⟨its,rv,pl,hz⟩:=I.list hS
 have hl:=rv.length
 rw[ay]at hl
 have Y:(toString "min"++toString ".loop":String) = "min.loop":=by decide
 refine kmb_tree F.kind_min F.plain_min F.entry_min (aP0 _ _) ?_
 show wpAny _ X.A.in1 (fm "min" ["key", "default"] 0 ⟨[],[(bA "default",Z)]⟩ >>= _) _ _ s
 refine ag (wpAny_of_eq (show fm "min" ["key", "default"] 0 ⟨[],[(bA "default",Z)]⟩=pure [none,some Z]from rfl) ?_)
 refine ag (ar ?_)
 refine ag (du pl.isList ?_)
 have a0:a<s.heap.objs.size:=by obtain⟨o,_,e,_⟩:=pl;exact aD e
 have W:=j5 (prog:=X.prog) (w:=X.w) (A:=X.A.in1) (I.ok.hd hc) s.heap.objs.size a (az a0) its.toArray
 refine ag (bw ?_)
 generalize J:s.heap.push _=h2
 have G:h2.objs.size=s.heap.objs.size+1:=by rw[<-J,bQ]
 have a2:∀ b o,s.heap.get? b=some o->h2.get? b=some o:=fun b o e=>by rw[<-J];exact am _ e
 have a4:h2.objs.size ∉ [s.heap.objs.size,a]:=by
  rw[G]
  intro z
  rcases aH.mp z with z|z
  ·exact absurd z (Nat.succ_ne_self _)
  ·have z':s.heap.objs.size+1=a:=by simpa using z
   exact absurd (ax a0 (by rw[<-z'];exact dB _)) (bp _)
 have a3:(h2.push { cls:=.type "list",data:=.seq ([]:List Value).toArray }).IsListIter s.heap.objs.size a 0/\(h2.push { cls:=.type "list",data:=.seq ([]:List Value).toArray }).IsList a its.toArray:=by
  refine⟨⟨_,am _ (by rw[<-J];exact aQ _ rfl),rfl,rfl⟩,?_⟩
  obtain⟨o,e,r⟩:=pl.isList
  exact⟨o,am _ (a2 _ _ e),r⟩
 let val:Nat->Int:=fun i=>ns.getD i 0
 have a1:∀ i v,its.toArray[i]?=some v->∃ t,v=Value.int (val i) t:=fun i v e=>by
  obtain⟨z,t,e1,e2⟩:=as8 rv (i:=i) (v:=v) (by rw[cH]at e;exact e)
  refine⟨t,?_⟩
  rw[e2]
  show Value.int z t=Value.int (ns.getD i 0) t
  rw[aV,e1]
  rfl
 rw[Y]
 have nx:∀(h':Heap) (tk:Nat),(∀ b o,b ∉ [s.heap.objs.size]->b≠h2.objs.size->(h2.push { cls:=.type "list",data:=.seq ([]:List Value).toArray }).get? b=some o->h'.get? b=some o)->Inv X C σ H { s with heap:=h',toks:=tk }:=fun h' tk k=>I.kept fun b o e=>by
  refine k b o ?_ ?_ (am _ (a2 b o e))
  ·intro z
   have z':b=s.heap.objs.size:=by simpa using z
   exact absurd (aD e) (by rw[z'];exact bp _)
  ·intro z
   exact absurd (aD e) (by rw[z,G];exact Nat.not_lt.mpr (dB _))
 refine ar ⟨f7 cx _,aO0 (d:=Z) W _ (ko val a1) h2.objs.size a4 a3 (aQ _ rfl) (fun hn h' tk k=>?_) fun hn v h' tk hP k=>?_⟩
 ·have e:ns=[]:=by
   have:its.toArray.size=0:=hn
   have:its.length=0:=by simpa using this
   exact ci.mp (by omega)
  exact⟨d,H,nx h' tk k,rd,q0 e⟩
 ·obtain⟨z,t,e1,e2⟩:=as8 rv (i:=dE (fun i j=>decide (val i<val j)) (its.toArray.size - 1)) (v:=v) (by rw[cH]at hP;exact hP)
  subst e2
  have hv:val (dE (fun i j=>decide (val i<val j)) (its.toArray.size - 1))=z:=by
   show ns.getD _ 0=z
   rw[aV,e1]
   rfl
  refine⟨.int z,H,nx h' tk k,⟨t,rfl⟩,qm z (aS e1) fun y hy=>?_⟩
  obtain⟨j,hj,e3⟩:=cf.mp hy
  have:=qy val (its.toArray.size - 1) j (by simp only[aq];omega)
  rw[hv]at this
  have e4:val j=y:=by
   show ns.getD j 0=y
   rw[aV,ai hj]
   exact e3
  omega
def bW1 (K:ae)(ta td:TE):TE:=fun σ H Q=>ta σ H fun x H1=>td σ H1 fun d H2=>bn0 K x d H2 Q
theorem bz6 {X:Cx}{K:ae}{e Z:Expr}{J C:TE}{p pos kp:Pos}(hK:X.K=K)(hc:X.calm=true)(hg:Gl X "min")(hm:X.mg "min"=none)(ha:PE X e J)(hd:PE X Z C)
  (hs:bq [e] X.env=[(false,eval e X.env)]:=by rfl) :
  PE X (.Call (.Name "min" p) [e] [⟨some "default",Z,kp⟩] pos) (bW1 K J C):=by
 subst hK
 intro z s σ H Q I h
 refine cY (ap0 I hg hm br3 ?_)
 have h':an5 J bg2 σ H (fun vs G=>match vs with|[x]=>C σ G fun d Y=>bn0 X.K x d Y Q|_=>False):=h
 refine callWith_kw (env:=X.env) (thn ((zI ha ad7 hs) pos z s σ H _ I h') fun us s1 ⟨vs,G,I1,r1,F⟩=>?_) (by rw[hs];rfl) (by rw[hs];rfl)
 match vs,F,r1 with
 | [x],F,r1 =>
  obtain⟨u,rfl,ru⟩:=qz r1
  refine kws_cons (thn (hd z s1 σ G _ I1 F) fun v s2 ⟨d,Y,I2,rd,q2⟩=>kws_nil ?_)
  exact ba5 hc I2 ru rd q2
inductive D where
 | non|bl (b:Bool)|int (i:Int)|str (x:Str)|tup (l:List D)|lst (l:List D)
mutual
noncomputable def D.deep:D->Nat
 | .tup l=>D.deepL l+1
 | .lst l=>D.deepL l+1
 | _=>0
noncomputable def D.deepL:List D->Nat
 | []=>0
 | d::l=>max (D.deep d) (D.deepL l)
end
section
variable {X:Cx}
end
section
variable {X:Cx}
def bX2 (K:ae):R2:=fun x y H Q=>∃ a b xs ys,x=.ref a/\y=.ref b/\SqT K H a xs/\SqT K H b ys/\xs.length+ys.length<=aE/\∀ p H',ae3 H H'->SqT K H' p (xs++ys)->(H' p=some (.tup (xs++ys))\/(p=a/\ys=[])\/(p=b/\xs=[]))->Q (.ref p) H'
theorem bs9 {prog:aB}{w:World}{A:aN}{E:Value->af->Prop}{s:af}{t b:Addr}{ws:List Value}{Q:Value->af->Prop}(ht:IsTup s.heap t ([]:List Value).toArray)(hb:IsTup s.heap b ws.toArray)(h1:Q (.ref b) s) :
  wpAny (model prog w) A (bP .Add (.ref t) (.ref b)) Q E s:=by
 obtain⟨⟨cls,Z,data,sl⟩,ho,hc,n,hd⟩:=id ht
 obtain⟨⟨Y,F,J,G⟩,h,z,n2,C⟩:=id hb
 simp only at hc hd z C
 subst hc hd z C
 exact jo ⟨_,ho,rfl⟩ ⟨_,h,rfl⟩ gg iX d3 dR (dG _ _)
   (tuple_addW0 t b _ ws.toArray n n2 Z F sl G rfl) ⟨ho,h,h1⟩
theorem bq6 {K:ae}(Z:X.K=K):OpR X (bP .Add) (bX2 K):=by
 subst Z
 intro C s σ H x y v u Q I Y J h
 obtain⟨a,b,F,ys,e1,e2,ha,hb,hz,q⟩:=h
 by_cases hx:F=[]
 ·subst e1;subst e2;subst hx
  cases Y;cases J
  obtain⟨its,r1,p1,_⟩:=I.tuple ha
  obtain⟨G,r2,p2,_⟩:=I.tuple hb
  obtain rfl:its=[]:=r1.nil_iff.mpr rfl
  exact bs9 p1 p2 ⟨.ref b,H,I,rfl,q b H (ae3.refl H) hb (.inr (.inr ⟨rfl,rfl⟩))⟩
 ·refine bt0 C s σ H x y v u Q I Y J ⟨a,b,F,ys,e1,e2,ha,hb,hx,hz,fun z=>?_,fun z p hp=>?_⟩
  ·subst z
   exact q a H (ae3.refl H) (by rw[aZ];exact ha) (.inr (.inl ⟨rfl,rfl⟩))
  ·exact q p _ ((ae3.refl H).new hp) (SqT.of zv) (.inl zv)
def cc9 (K:ae):V->Option Int->Option Int->Hp->VK->Prop:=fun x lo hi H Q=>∃ a xs,x=.ref a/\SqT K H a xs/\∀ p H',ae3 H H'->SqT K H' p (aM4 xs lo hi)->(H' p=some (.tup (aM4 xs lo hi))\/(p=a/\aM4 xs lo hi=xs))->Q (.ref p) H'
theorem ar5 {prog:aB}{w:World}{A:aN}{E:Value->af->Prop}{s:af}{t sl:Addr}{z:Array Value}{vl vu:Value}{C J:Option Int}{Q:Value->af->Prop}(F:IsTup s.heap t z)(hs:s.heap.IsSliceOf sl vl vu .none)(pl:fY vl C)(pu:fY vu J)
  (hw:HT.sIx z.size 0 C=0/\HT.sIx z.size z.size J=z.size) (h:Q (.ref t) s):wpAny (model prog w) A (gE (.ref t) (.ref sl)) Q E s:=by
 obtain⟨os,Z,Y,a1⟩:=id hs
 have a0:s.TypeIs (.ref sl) "slice":=⟨os,Z,Y⟩
 unfold gE
 try with_reducible refine dk ?_
 first|refine ag (ar ?_)|skip
 refine ag (jp F.typeIs (by decide) ?_)
 refine ag (cU (name:=bA "__getitem__") F.typeIs bo
  (cw bo F.typeIs iL ?_ (i8 _ _)))
 show wpAny _ _ (cy (.ref t) >>= _) _ _ s
 refine ag (iY F ?_)
 refine ag (gG a0 ?_)
 rw[if_pos (by decide)]
 refine ag (HT.sliceApplied_gen hs pl pu ?_)
 have G:((((HT.sIx z.size 0 C:Nat):Int)==0&&(1:Int)==1&&(HT.sIx z.size z.size J - HT.sIx z.size 0 C)==z.size)=true):=by
  rw[hw.1,hw.2]
  simp
 show wpAny _ _ (if(((HT.sIx z.size 0 C:Nat):Int)==0&&(1:Int)==1&&(HT.sIx z.size z.size J - HT.sIx z.size 0 C)==z.size)=true then _ else _) _ _ s
 rw[if_pos G]
 refine ag (ag (gG F.typeIs (ar ?_)))
 rw[if_pos (by decide)]
 exact ag (gv (ar ⟨_,rfl,ar h⟩))
theorem ao1 {z:List V}{C F:Option Int}(h:HT.sIx z.length 0 C=0/\HT.sIx z.length z.length F=z.length):aM4 z C F=z:=by
 unfold aM4
 rw[h.1,h.2]
 simp
theorem by2 {K:ae}(hK:X.K=K):SlR X (cc9 K):=by
 subst hK
 intro C s σ H x v vl vu Z J sl Q I G hs pl pu h
 obtain⟨a,z,e1,hx,q⟩:=h
 by_cases hw:HT.sIx z.length 0 Z=0/\HT.sIx z.length z.length J=z.length
 ·subst e1
  cases G
  obtain⟨its,r,Y,hz⟩:=I.tuple hx
  have F:its.toArray.size=z.length:=by rw[aq];exact r.length.symm
  refine⟨"tuple",_,bo.lookup,Y.typeIs,?_⟩
  exact ar5 Y hs pl pu (by rw[F];exact hw) ⟨.ref a,H,I,rfl,q a H (ae3.refl H) (by rw[ao1 hw];exact hx) (.inr ⟨rfl,ao1 hw⟩)⟩
 ·exact bG7 C s σ H x v vl vu Z J sl Q I G hs pl pu ⟨a,z,e1,hx,hw,fun p hp=>q p _ ((ae3.refl H).new hp) (SqT.of zv) (.inl zv)⟩
theorem bc7 {K:ae}(h:X.K=K):SlR X (bZ9 K):=by subst h;exact bz0
end
noncomputable def Its (x:Str):It:=⟨fun i _=>i<x.cps.size,fun i H v H'=>H'=H/\∃ c,x.cps[i]?=some c/\v=.str ⟨#[c]⟩,fun i _=>x.cps.size<=i⟩
theorem aI6 {P:aB}{w:World}{K:ae}{tg:Expr}{G:String}{x:Str}{t:Tok}(it:Addr)(hn:["enumerate", "zip", "dict_itemiterator", "dict_reverseitemiterator", "odict_iterator", "itertools.zip_longest", "itertools.pairwise"].contains G=false)
  (W:∀ A:aN,A.handled=none->Walks P w A it [it] [it] x.cps.size (SignAt x) (fun i h=>h.IsStrIter it G x t i))
  (Y:∀(A:aN) (s:af) (i:Nat) (Q:Option Value->af->Prop) (E:Value->af->Prop),A.handled=none->s.heap.IsStrIter it G x t i->x.cps[i]?=none->(∀ h',jL it s.heap h'->Q none { s with heap:=h' })->wpAny (model P w) A (jB (.ref it)) Q E s)
  (F:∀(A:aN) (i:Nat) (s:af) (Q:Value->af->Prop) (E:Value->af->Prop),s.heap.IsStrIter it G x t i->Q (.ref it) s->wpAny (model P w) A (kx (.ref it)) Q E s):Turn P w K tg (Its x) [it] it (fun i h=>h.IsStrIter it G x t i) where
 mem:=by simp
 obj:=fun i h st b hb=>by
  have e:b=it:=by simpa using hb
  subst e
  obtain⟨o,ho,hc,hd⟩:=st
  exact⟨o,ho,fun v z=>by rw[hd]at z;cases z⟩
 keep:=fun i h h' st k=>by
  obtain⟨o,ho,r⟩:=st
  exact⟨o,k it (by simp) _ ho,r⟩
 item:=by
  intro X hP hw hK hc i C s σ H E I hf st hg
  subst hP hw hK
  obtain⟨f0,f1,f2,f3,f4,f5⟩:=hf it (by simp)
  refine(W X.A (I.ok.hd hc)).item i s _ _ hg st fun v h' tk hv J kk=>?_
  obtain⟨c,u,Z,rfl⟩:=hv
  have I1:Inv X C σ H { s with heap:=h',toks:=tk }:=I.turned (fun b o hb e=>kk b o (by simpa using hb) e) f0 f1 f3 f4 f5
  obtain⟨o,ho,a0,hd⟩:=id J
  exact⟨_,rfl,aP1 (s:={ s with heap:=h',toks:=tk }) (n:=G) ho a0 hd hn ⟨.str ⟨#[c]⟩,H,I1,⟨u,rfl⟩,⟨rfl,c,Z,rfl⟩,J,fun b hb=>(hf b hb).1⟩⟩
 done:=by
  intro X hP hw hK hc i C s σ H E I hf st hg
  subst hP hw hK
  obtain⟨f0,f1,f2,f3,f4,f5⟩:=hf it (by simp)
  have a1:x.cps.size<=i:=hg
  exact Y X.A s i _ E (I.ok.hd hc) st (by simp;omega) fun h' eb=>⟨rfl,I.turned (t':=s.toks) (fun b o hb e=>eb b o hb e) f0 f1 f3 f4 f5⟩
 self:=fun A i s Q E st h=>F A i s Q E st h
def cb5 (tl:TE):TI:=fun σ H R=>tl σ H fun v H1=>∃ x,v=.str x/\R (Its x) H1
theorem bK7 {X:Cx}{tg l:Expr}{Y:TE}(hl:PE X l Y):PI X tg l (cb5 Y):=by
 intro z s σ H R I h
 refine thn (hl z s σ H _ I h) fun v s1 ⟨v0,H1,F,r1,Z⟩=>?_
 obtain⟨x,e,q⟩:=Z
 subst e
 obtain⟨t,rfl⟩:=r1
 have fin:∀(J:String) (o:Obj),o={ cls:=.type J,data:=.fields #[.str x t,.int 0 0] }->Turn X.prog X.w X.K tg (Its x) [s1.heap.objs.size] s1.heap.objs.size (fun i h=>h.IsStrIter s1.heap.objs.size J x t i)->PIE X z σ tg R (.ref s1.heap.objs.size) { s1 with heap:=s1.heap.push o }:=fun J o eo T=>by
  subst eo
  refine⟨s1.heap.objs.size,[s1.heap.objs.size],_,_,H1,rfl,F.kept (t':=s1.toks) fun b o e=>am _ e,T,⟨_,aQ _ rfl,rfl,rfl⟩,fun b hb=>?_,q⟩
  have e:b=s1.heap.objs.size:=by simpa using hb
  subst e
  exact F.fpOk (aj _) (F.hok.fresh (aj _))
 cases ha:x.cps.all (·<128)
 ·exact wpAny_pyIter_wide ha (fin "str_iterator" _ rfl (aI6 _ (by decide) (fun A C=>Walks.strWide C _ x t) (fun A s i Q E C st hx G=>wpAny_pyNext_wide_end C st hx G) fun A i s Q E st h=>wpAny_pyIter_striter_wide st h))
 ·exact wpAny_pyIter_ascii ha (fin "str_ascii_iterator" _ rfl (aI6 _ (by decide) (fun A C=>Walks.strAscii C _ x t) (fun A s i Q E C st hx G=>wpAny_pyNext_ascii_end C st hx G) fun A i s Q E st h=>wpAny_pyIter_striter_ascii st h))
section
variable {X:Cx} {K:ae} {T id:String} {name:Str} {o e:Expr} {es:List Expr} {to:TE} {t:TA} {r:V->List V->Hp->VK->Prop} {apos cpos:Pos}
theorem bl3 (J:X.K=K)(pa:j3 T)(slot:Slot T name id)(G:typeOf (.builtin id)=pure (.type "method_descriptor"))(hm:MtR X id r)(ho:PE X o to)(ha:PA X (e::es) t)
  (C:fZ o name X.env (eval o X.env)=eval o X.env:=by rfl)
  (F:((eW cpos (bq (e::es) X.env)).all (fun x=>!x.1)&&(backToKw cpos (keywordEach [] X.env)).all (fun x=>x.1.isSome)
   && decide ((e::es).length+([]:List jU).length+(if([]:List jU).isEmpty then 0 else 1)<30))=true:=by rfl)
  (z:(apos.endLine==cpos.line)=true:=by rfl) (hs:bq (e::es) X.env=(false,eval e X.env)::bq es X.env:=by rfl) (h:(eW cpos (bq es X.env)).any (·.1)=false:=by rfl) :
  PE X (.Call (.Attribute o name apos) (e::es) [] cpos) (tBM K T r to t):=by
 subst J
 exact bY4 pa slot G hm ho ha C F z hs h
end
structure Mach where
 letters:Int
 rooms:Int
 begins:List Int
 ends:List Int
 doors:List (Int×Str×Int×Int)
noncomputable def bR4 (q:Int×Str×Int×Int):D:=.tup [.int q.1,.str q.2.1,.int q.2.2.1,.int q.2.2.2]
noncomputable def Mach.D (M:Mach):D:=.tup [.int M.letters,.int M.rooms,.tup (M.begins.map .int),.tup (M.ends.map .int),.tup (M.doors.map bR4)]
noncomputable def ltr (i:Nat):Str:=⟨#[97+i]⟩
structure DoorOk (letters rooms:Int)(q:Int×Str×Int×Int):Prop where
 s0:0<=q.1
 s1:q.1<rooms
 l:∃ i:Nat,(i:Int)<letters/\q.2.1=ltr i
 g0:0<=q.2.2.1
 g1:q.2.2.1<rooms
 t0:0<=q.2.2.2
 t1:q.2.2.2<=3
structure RoomsOk (rooms:Int)(l:List Int):Prop where
 mem:∀ r∈l,0<=r/\r<rooms
 up:l.Pairwise (· < ·)
structure Mach.Ok (most:Nat)(M:Mach):Prop where
 l0:1<=M.letters
 l1:M.letters<=3
 r0:1<=M.rooms
 r1:M.rooms<=5
 b:RoomsOk M.rooms M.begins
 e:RoomsOk M.rooms M.ends
 d:∀ q∈M.doors,DoorOk M.letters M.rooms q
 m:M.doors.length<=most
mutual
noncomputable def D.tups:D->Bool
 | .lst _=>false
 | .tup l=>D.tupsL l
 | _=>true
noncomputable def D.tupsL:List D->Bool
 | []=>true
 | d::l=>D.tups d&&D.tupsL l
end
end L2
end
noncomputable section
namespace L2
end L2
end
noncomputable section
namespace L2
open PySem PySem.Spec PyProof.Rows
noncomputable def addO:Option Int->Option Int->Option Int
 | some a,some b=>some (a+b)
 | _,_=>none
noncomputable def cutO (k:Int):Option Int->Option Int
 | none=>none
 | some p=>some (if p<=k then p else k+1)
noncomputable def minO:List Int->Option Int
 | []=>none
 | a::l=>some (match minO l with|none=>a|some b=>if b<a then b else a)
theorem aO5 {X:Cx}{Z tg iter:Expr}{Y:List Expr}{scope:Scope}{pos a0 py:Pos}{y:Str}{i:Nat}{wi:TI}{g:TG}{tc:TT}{te:TE}(N':List Str)(src:List (Option Nat))
  (hN:X.N.Nodup) (b3:X.N[i]?=some y) (a6:X.env.scope.names.lookup y=some .local)
  (a8:zO N' src scope X.N X.env.scope=true) (hi:PI X tg iter wi) (a2:X.calm=true)
  (b5:∀(C:Addr) (cells:List (Str×Addr)) (s:af) (H:Hp) (ex:List Addr),PG (zz X N' scope C cells s H ex) tg g/\PIf (zz X N' scope C cells s H ex) Y tc/\PE (zz X N' scope C cells s H ex) Z te)
  (hs:∀ x,dw iter X.env x=pure x:=by intro _;rfl)
  (b4:fq (.ListComp Z [⟨tg,iter,Y,0⟩] scope pos) (some (.Name y py)) a0.line X.env=pure true:=by rfl) :
  PS X (.Assign [.Name y py] (.ListComp Z [⟨tg,iter,Y,0⟩] scope pos) a0) (bf1 (tComp src wi g tc te) (au8 i)):=by
 intro F s σ H D0 I h
 have ck:=bm6 a8
 rw[exec_Assign_Name_used _ _ _ _ b4]
 refine ag (iV (ag ?_))
 show wpAny _ X.A (do let _ <- comprehension (.ListComp Z [⟨tg,iter,Y,0⟩] scope pos) scope X.env _ (newList []) false (eval iter X.env) (some (gz (.Name y py) X.env))) _ _ s
 have b0:=af2 (scope:=scope) (env:=X.env) fun y hy e=>I.ok.has y.1 (ck.fr y hy e)
 refine ag (bN (f6 (use:=some (gz (.Name y py) X.env)) (Q:=fun _ s'=>SP X F D0 .next s') rfl hs b0 ck.kind ck.loc (thn (hi F s σ H _ I h) fun v s1 h1=>thn h1 fun b8 s2 h2=>?_)) (fun _ s' hq=>ar (ar hq)) fun _ _ e=>e)
 obtain⟨it,G,tn,J,H2,e,I2,T,a3,f2,W⟩:=h2
 subst e
 have hD:=I2.fresh
 obtain⟨W,⟨m0,w0⟩,turn⟩:=W _ hD
 have I3:=I2.lnew (its:=[]) (ys:=[]) (t':=s2.toks) .nil (cu _)
 have a7:∀ b∈G,b<s2.heap.objs.size:=fun b hb=>by obtain⟨o,q,_⟩:=T.obj _ _ a3 b hb;exact aD q
 have f3:∀ b∈G,FpOk X F (upd H2 s2.heap.objs.size (.lst [])) b:=fun b hb=>⟨by rw[zm (az (a7 b hb))];exact(f2 b hb).1,(f2 b hb).2⟩
 refine bw (af6 ?_)
 generalize a1:({ s2 with heap:=s2.heap.push { cls:=.type "list",data:=.seq ([]:List Value).toArray },toks:=s2.toks }:af)=s3 at I3
 have b7:({ s2 with heap:=s2.heap.push { cls:=.type "list",data:=.seq ([]:List Value).toArray } }:af)=s3:=a1
 have b2:∀ b∈G,b<s3.heap.objs.size:=fun b hb=>by
  rw[<-a1]
  show b<(s2.heap.push _).objs.size
  rw[bQ]
  exact fP (a7 b hb)
 have I4:=ap2 (s4:={ s3 with heap:=eG (s3.heap.push { cls:=.type "dict",data:=.dict #[] }) scope.names }) ck I3 f3 b2 ⟨_,rfl⟩
 have a4:tn 0 (eG (s3.heap.push { cls:=.type "dict",data:=.dict #[] }) scope.names):=T.keep _ _ _ a3 fun b hb o e=>db _ _ b o (am _ (by rw[<-a1];exact am _ e))
 obtain⟨hg,hif,he⟩:=b5 s3.heap.objs.size (aK (s3.heap.objs.size+1) scope.names (an1 X.env.cells scope.names [])) s3 (upd H2 s2.heap.objs.size (.lst [])) G
 have a5:∀ H':Hp,(∀ b∈G,H' b=none)->∀ b∈G,FpOk (zz X N' scope s3.heap.objs.size (aK (s3.heap.objs.size+1) scope.names (an1 X.env.cells scope.names [])) s3 (upd H2 s2.heap.objs.size (.lst [])) G) [] H' b:=fun H' hn b hb =>
  ⟨hn b hb,(I4.ok.exf b hb).1,I4.ok.exfs b hb,.inl hb,fun x c e=>(I4.ok.exf b hb).2 x c e,fun p hp=>absurd (show p∈([]:List (Addr×Obj))from hp) (by simp)⟩
 have T':Turn X.prog X.w X.K tg J G it tn:=T
 have b6:∀ b∈G,upd H2 s2.heap.objs.size (.lst []) b=none:=fun b hb=>(f3 b hb).1
 have L:=aw7 (X':=zz X N' scope s3.heap.objs.size (aK (s3.heap.objs.size+1) scope.names (an1 X.env.cells scope.names [])) s3 (upd H2 s2.heap.objs.size (.lst [])) G) (R:=compPost (model X.prog X.w) X.A X.xe (some (gz (.Name y py) X.env)) (fun _ s'=>SP X F D0 .next s') (Value.ref s2.heap.objs.size) s3.heap.objs.size) (iter:=iter) (scope:=scope) (pos:=pos) (QD:=fun H'=>D0.nx (σ.set i (some (.ref s2.heap.objs.size))) H') rfl a2 I4 T' a4 a5 b6 w0 turn hg hif he
  (fun σ' H' s' J' q=>by
   have J2:=aJ1 I3 f3 J' (Heap.SameBut.refl _ _)
   obtain⟨mm,hn,_⟩:=J'.loc
   have nL:s3.heap.objs.size≠X.env.locals:=jj I3.lt
   have nC:∀ x c,X.env.cells.lookup x=some c->c≠s3.heap.objs.size:=fun x c e=>by
    obtain⟨v,z⟩:=I3.cell x c e
    exact az z.lt
   show wpAny _ X.A (gz (.Name y py) X.env (.ref s2.heap.objs.size)) _ _ _
   refine ji (az4 (v:=.ref s2.heap.objs.size) J2 hN b3 (.inl a6) rfl (fun s5 I5 sb=>?_) (.inr a6))
   obtain⟨aa,sb,ha⟩:=sb
   have na:s3.heap.objs.size≠aa:=by
    rcases ha with z|z
    ·rw[z];exact nL
    ·exact fun e=>nC _ _ z e.symm
   refine⟨mm,hn.sameBut sb na,fun h' b1=>⟨_,H',I5.turned (t':=s5.toks) (fun b o hb e=>(b1.2 b hb).trans e) J'.free nL (.inr I3.sz) nC fun p hp z=>?_,q⟩⟩
   exact absurd (aD (I3.pin p hp).1) (by rw[z];exact bp _))
 exact gM L (T.self _ _ _ _ _ a4 L)
def cd3:V->Option Int->Option Int->Hp->VK->Prop:=fun x lo hi H Q=>∃ z,x=.str z/\z.length<=aE/\Q (.str (eZ z lo hi)) H
theorem ax8 {v:Value}{o:Option Int}(p:fY v o):∃ q:Option (Int×Tok),v=partValue q/\q.map (·.1)=o:=by
 cases p with
 | none=>exact⟨none,rfl,rfl⟩
 | int i t=>exact⟨some (i,t),rfl,rfl⟩
theorem bD8 {X:Cx}:SlR X cd3:=by
 intro Z s σ H x v vl vu J G sl Q I rx hs pl pu h
 obtain⟨z,rfl,hz,q⟩:=h
 obtain⟨t,rfl⟩:=rx
 obtain⟨l,rfl,el⟩:=ax8 pl
 obtain⟨u,rfl,eu⟩:=ax8 pu
 refine⟨"str",_,F.slot_str_getitem.lookup,fA s z t,?_⟩
 refine wpAny_getItem_str_slice (l:=l) (u:=u) (st:=none) hs rfl ?_
 unfold sliceMade
 have e:slicePicked z l u none=bu J G 1 z.length:=by
  unfold slicePicked
  rw[el,eu]
  rfl
 rw[e]
 unfold eZ at q
 split
 ·rename_i hc
  have C:((1:Int)==1&&(bu J G 1 z.length).length==z.length)=true:=hc
  rw[if_pos C]at q
  exact⟨.str z,H,I,⟨t,rfl⟩,q⟩
 ·rename_i hc
  have C:¬((1:Int)==1&&(bu J G 1 z.length).length==z.length)=true:=hc
  rw[if_neg C]at q
  have Y:(Str.mk (iw (fun x=>z.cps[x]?) (bu J G 1 z.length)).toArray).length<=aE:=by
   show(iw (fun x=>z.cps[x]?) (bu J G 1 z.length)).toArray.size<=aE
   rw[aq]
   exact ak (List.length_filterMap_le _ _) (ak (sliceIndices_le J G z.length) hz)
  exact⟨Y,.str _,H,I.tok _,⟨_,rfl⟩,q⟩
section
variable {M:Model} {A:aN} {E:Value->af->Prop} {s₀ s:af} {m cm:Str->Option Value} {env:Env} {cs:List (Str×Addr)}
theorem bz4 {n:Str}{v:Value}{Q:Unit->af->Prop}(z:fN s₀ env.locals m cs cm s)(h:env.scope.kind=.function)(kl:env.kindOf n=some .local)
  (go:∀ s',fN s₀ env.locals (fun y=>if y=n then some v else m y) cs cm s'->Q () s'):wpAny M A (iB env n v) Q E s:=by
 refine hC kl z.toInCall.ns (fun g C gs=>go _ ⟨⟨?a,C,fun b o e=>?b,z.toInCall.fresh⟩,fun k c e=>?c,z.apart,z.above⟩) (by rw[h];rfl)
 case a=>obtain⟨F,tk,e⟩:=z.toInCall.same;subst e;exact⟨g,_,rfl⟩
 case b=>exact gs.extBut b o (az (ax (aD e) z.toInCall.fresh)) (z.toInCall.keep b o e)
 case c=>exact(z.cell k c e).sameBut gs (jj (z.above k c (aC e)))
theorem bz2 {n:Str}{c:Addr}{v:Value}{Q:Unit->af->Prop}(z:fN s₀ env.locals m cs cm s)(C:env.scope.kind=.function)(F:env.kindOf n=some .cell)
  (e1:env.cells.lookup n=some c) (e2:cs.lookup n=some c) (go:∀ s',fN s₀ env.locals m cs (fun y=>if y=n then some v else cm y) s'->Q () s'):wpAny M A (iB env n v) Q E s:=by
 have up:=z.above n c (aC e2)
 refine il C F e1 (z.cell n c e2) fun g G gs=>go _ ⟨⟨?a,z.toInCall.ns.sameBut gs (az up),fun b o e=>?b,z.toInCall.fresh⟩,fun k h e=>?c,z.apart,z.above⟩
 case a=>obtain⟨J,tk,e⟩:=z.toInCall.same;subst e;exact⟨g,_,rfl⟩
 case b=>exact gs.extBut b o (az (gN (ax (aD e) z.toInCall.fresh) up)) (z.toInCall.keep b o e)
 case c =>
  by_cases q:k=n
  ·subst q
   rw[e2]at e;cases e
   simpa using G
  ·rw[if_neg q]
   exact(z.cell k h e).sameBut gs fun y=>q (gD z.apart (aC e) (y▸aC e2))
theorem aA8 (f:Str×Value->PUnit->Sem (ForInStep PUnit))(hf:∀ n v u,f (n,v) u=(do iB env n v;pure (.yield ⟨⟩)))(F:env.scope.kind=.function)(sub:∀ n c,cs.lookup n=some c->env.cells.lookup n=some c) :
  ∀(bs:List (Str×Value)) (m G:Str->Option Value) (s:af) (Q:PUnit->af->Prop),fN s₀ env.locals m cs G s ->
   (∀ y∈bs,env.kindOf y.1=some .local\/(env.kindOf y.1=some .cell/\∃ c,cs.lookup y.1=some c)) ->
   (∀ s',fN s₀ env.locals (bindL env.kindOf bs m) cs (bindC env.kindOf bs G) s'->Q ⟨⟩ s')->wpAny M A (forIn bs ⟨⟩ f) Q E s
 | [],m,G,s,Q,z,_,go=>by rw[fB];exact ar (go s z)
 | (n,v)::r,m,G,s,Q,z,hy,go=>by
  rw[gX,hf]
  have hr:=fun y (q:y∈r)=>hy y (ao _ q)
  rcases hy (n,v) aw with kl|⟨Y,c,e2⟩
  ·refine ag (ag (bz4 z F kl fun s' J=>ar (aA8 f hf F sub r _ _ s' Q J hr fun h C=>go h ?_)))
   unfold bindL bindC;rw[if_pos kl,if_pos kl];exact C
  ·have Z:¬ env.kindOf n=some .local:=by rw[Y];decide
   refine ag (ag (bz2 z F Y (sub n c e2) e2 fun s' J=>ar (aA8 f hf F sub r _ _ s' Q J hr fun h C=>go h ?_)))
   unfold bindL bindC;rw[if_neg Z,if_neg Z];exact C
end
theorem ao7 {M:Model}{A:aN}{E:Value->af->Prop}{s:af}{scope:Scope}{globals:Addr}{h:List (Str×Addr)}{binds:List (Str×Value)}{qual:Str}{func:Option Addr}{code:Value}{builtins:Addr}{Q:Env->af->Prop}
  (C:scope.kind=.function) (hy:∀ y∈binds,scope.names.lookup y.1=some .local\/(scope.names.lookup y.1=some .cell/\∃ c,(aK (s.heap.objs.size+1) scope.names []).lookup y.1=some c))
  (go:∀ env,env=newEnv scope s.heap.objs.size globals (aK (s.heap.objs.size+1) scope.names h) qual func code none builtins ->
   ∀ s',fN s env.locals (bindL env.kindOf binds fun _=>none) (aK (s.heap.objs.size+1) scope.names []) (bindC env.kindOf binds fun _=>none) s'->Q env s') :
  wpAny M A (fC scope globals h binds qual func code none builtins) Q E s:=by
 simp only[fC,Option.isSome_none,bC,if_false]
 refine ag (wpAny_alloc (ag (wpAny_layCells _ (fun F kd G=>by cases q:kd==NameKind.cell<;>simp[q]) _ _ _ _ ?_)))
 have ok:=cellsFrom_ok scope.names (s.heap.push { cls:=.type "frame",data:=.dict #[] }) (s.heap.objs.size+1) [] ⟨fun _ _ hm=>(nomatch hm),List.Pairwise.nil⟩ (by rw[bQ];exact aj _)
 have z:({ s with heap:=s.heap.push { cls:=.type "frame",data:=.dict #[] } }:af).heap.objs.size=s.heap.objs.size+1:=bQ ..
 rw[bQ]at ok
 rw[z]
 refine ag (aA8 (s₀:=s) (cs:=aK (s.heap.objs.size+1) scope.names []) (env:=newEnv scope s.heap.objs.size globals (aK (s.heap.objs.size+1) scope.names h) qual func code none builtins)
  _ (fun _ _ _=>rfl) C (fun n c e=>?sub) binds (fun _=>none) (fun _=>none) _ _ ⟨⟨⟨_,_,rfl⟩,?ns,fun b o e=>?k,aj _⟩,fun n c e=>(ok.empty n c (aC e)).1,ok.apart,fun n c e=>(ok.empty n c e).2⟩ hy fun s' x=>ar (go _ rfl s' x))
 case sub =>
  show(aK _ _ _).lookup n=some c
  rw[ze,zx,e];rfl
 case ns=>exact(kL s.heap (.type "frame")).keeps (db _ _)
 case k=>exact db _ _ b o (am _ e)
noncomputable def au6 (c:Addr)(qual:Str):HO:=.ext fun h=>h.CodeRec (.ref c) qual
noncomputable def bA0 (f:Addr)(fd:bL):HO:=.ext fun h=>h.get? f=some { cls:=.type "function",data:=.func fd }
theorem aw3 {P:aB}{w:World}{H:Hp}{h:Heap}{c:Addr}{q:Str}(x:HOk P w H h)(e:H c=some (au6 c q)):h.CodeRec (.ref c) q:=(x c _ e).1
theorem at5 {P:aB}{w:World}{H:Hp}{h:Heap}{f:Addr}{z:bL}(x:HOk P w H h)(e:H f=some (bA0 f z)):h.get? f=some { cls:=.type "function",data:=.func z }:=(x f _ e).1
noncomputable def isC (cells:List (Str×Addr))(b:Addr):Bool:=cells.any fun p=>cells.lookup p.1==some b
theorem aY0 {cells:List (Str×Addr)}{b:Addr}:isC cells b=true↔∃ x,cells.lookup x=some b:=by
 unfold isC
 rw[jG]
 constructor
 ·rintro⟨p,_,e⟩;exact⟨p.1,by simpa using e⟩
 ·rintro⟨x,e⟩;exact⟨(x,b),aC e,by simpa using e⟩
noncomputable def ab6 (cells:List (Str×Addr))(H:Hp):Hp:=fun b=>if isC cells b=true then none else H b
noncomputable def Put (cells:List (Str×Addr))(H H':Hp):Hp:=fun b=>if isC cells b=true then H b else H' b
theorem ab6.cell {cells:List (Str×Addr)}{H:Hp}{b:Addr}(h:isC cells b=true):ab6 cells H b=none:=if_pos h
theorem ab6.ne {cells:List (Str×Addr)}{H:Hp}{b:Addr}(h:isC cells b≠true):ab6 cells H b=H b:=if_neg h
theorem ab6.some {cells:List (Str×Addr)}{H:Hp}{b:Addr}{o:HO}(h:ab6 cells H b=some o):isC cells b≠true/\H b=some o:=by
 unfold ab6 at h
 split at h
 ·cases h
 ·rename_i z;exact⟨z,h⟩
theorem ab6.none {cells:List (Str×Addr)}{H:Hp}{b:Addr}(h:H b=none):ab6 cells H b=none:=by
 unfold ab6
 split
 ·rfl
 ·exact h
theorem Put.cell {cells:List (Str×Addr)}{H H':Hp}{b:Addr}(h:isC cells b=true):Put cells H H' b=H b:=if_pos h
theorem Put.ne {cells:List (Str×Addr)}{H H':Hp}{b:Addr}(h:isC cells b≠true):Put cells H H' b=H' b:=if_neg h
def Cells (clos:List (Str×Addr))(H:Hp):Prop:=∀ x c,clos.lookup x=some c->∃ o v,H c=some (.frz o (.own c))/\o.data=.cell v
theorem Cells.at {C:List (Str×Addr)}{H:Hp}(z:Cells C H){b:Addr}(h:isC C b=true):∃ o v,H b=some (.frz o (.own b))/\o.data=.cell v:=by
 obtain⟨x,e⟩:=aY0.mp h
 exact z x b e
def Cap (clos:List (Str×Addr))(H:Hp)(fr:List Str)(cap:List V):Prop:=∀(i:Nat) (x:Str) (v:V),fr[i]?=some x->cap[i]?=some v->∃ c o u,clos.lookup x=some c/\H c=some (.frz o (.own c))/\o.data=.cell (some u)/\RelV v u
structure LamScope (N ps fr:List Str)(sc:Scope):Prop where
 kind:sc.kind=.function
 co:sc.isCoroutine=false
 gen:sc.isGenerator=false
 nd:N.Nodup
 app:N=ps++fr
 par:∀ x∈ps,sc.names.lookup x=some .local\/sc.names.lookup x=some .cell
 frs:∀ x∈fr,sc.names.lookup x=some .free
 cel:∀ y∈sc.names,y.2=.cell->sc.names.lookup y.1=some .cell
noncomputable def aC8 (P:aB)(w:World)(K:ae)(mg:Str->Option Value)(base:Heap)(N:List Str)(qual:Str)(scope:Scope)(f:Addr)(cd:Value)(clos:List (Str×Addr))(A:aN)(outer:List Env)(s:af)(H:Hp):Cx where
 prog:=P
 w:=w
 K:=K
 mg:=mg
 base:=base
 A:=A.deeper (c5 qual scope s.heap.objs.size f cd (aK (s.heap.objs.size+1) scope.names clos))
 N:=N
 s₀:=s
 H₀:=ab6 clos H
 env:=c5 qual scope s.heap.objs.size f cd (aK (s.heap.objs.size+1) scope.names clos)
 outer:=outer
 stack:=c5 qual scope s.heap.objs.size f cd (aK (s.heap.objs.size+1) scope.names clos)::outer
 ex:=[]
 fn:=fun x=>scope.names.lookup x==some .cell
 calm:=true
 pn:=[]
 xe:=fun _ _=>False
theorem HOk.drop {P:aB}{w:World}{H:Hp}{h:Heap}{C:List (Str×Addr)}(x:HOk P w H h)(z:Cells C H):HOk P w (ab6 C H) h:=fun b o e=>by
 obtain⟨_,e'⟩:=ab6.some e
 have G:∀ c u,H c=some u->(∀ o v,u≠.frz o v)->isC C c≠true:=fun c u q d y=>by
  obtain⟨o,v,F,_⟩:=z.at y
  rw[q]at F;cases F
  exact d _ _ rfl
 exact(x b o e').stay (fun _ _ _ q=>q) (fun c q=>by rw[ab6.ne (G c _ q fun _ _=>by nofun)];exact q) fun c J q=>by rw[ab6.ne (G c _ q fun _ _=>by nofun)];exact q
theorem aS5 {P:aB}{w:World}{K:ae}{mg:Str->Option Value}{base:Heap}{N ps fr:List Str}{qual:Str}{scope:Scope}{f:Addr}{cd:Value}{h:List (Str×Addr)}{A:aN}{C:List Env}{s s1:af}{H:Hp}{us:List Value}{vs cap:List V}
  (S:LamScope N ps fr scope) (hd:A.handled=none) (F:Env0 P w K mg base A C s H) (hl:vs.length=ps.length) (a0:cap.length=fr.length) (r:Vals vs us)
  (hc:Cells h H) (inj:∀ x y c,h.lookup x=some c->h.lookup y=some c->x=y) (a1:∀ x,scope.names.lookup x=some .free->∃ c,h.lookup x=some c) (Z:Cap h H fr cap)
  (x:fN s s.heap.objs.size (bindL (c5 qual scope s.heap.objs.size f cd (aK (s.heap.objs.size+1) scope.names h)).kindOf (ps.zip us) fun _=>none) (aK (s.heap.objs.size+1) scope.names [])
   (bindC (c5 qual scope s.heap.objs.size f cd (aK (s.heap.objs.size+1) scope.names h)).kindOf (ps.zip us) fun _=>none) s1) :
  Inv (aC8 P w K mg base N qual scope f cd h A C s H) [] (vs.map some++cap.map some) (ab6 h H) s1:=by
 obtain⟨h1,tk,rfl,hk⟩:=x.done
 have J:∀ b:Addr,b ∉ (aC8 P w K mg base N qual scope f cd h A C s H).ex:=fun b z=>absurd (show b∈([]:List Addr)from z) (by simp)
 have lk:∀ y c,(aK (s.heap.objs.size+1) scope.names h).lookup y=some c->(aK (s.heap.objs.size+1) scope.names []).lookup y=some c\/((aK (s.heap.objs.size+1) scope.names []).lookup y=none/\h.lookup y=some c):=fun y c e=>by
  rw[ze,zx]at e
  cases q:(aK (s.heap.objs.size+1) scope.names []).lookup y with
  | some d=>rw[q]at e;left;simpa using e
  | none=>rw[q]at e;right;exact⟨rfl,by simpa using e⟩
 have own:∀ y c,(aK (s.heap.objs.size+1) scope.names []).lookup y=some c->s.heap.objs.size<c:=fun y c e=>x.above y c (aC e)
 have old:∀ y c,h.lookup y=some c->c<s.heap.objs.size:=fun y c e=>by
  obtain⟨o,v,q,_⟩:=hc y c e
  exact F.hok.lt q
 have hx:∀ y c,h.lookup y=some c->scope.names.lookup y=some .free->(aK (s.heap.objs.size+1) scope.names h).lookup y=some c:=fun y c e k=>by
  rw[ze,zx]
  cases q:(aK (s.heap.objs.size+1) scope.names []).lookup y with
  | none=>exact e
  | some d =>
   rcases zq (aC q)with z|z
   ·rw[S.cel _ z rfl]at k;cases k
   ·exact absurd z (by simp)
 have dn:∀ b,H b=none->ab6 h H b=none:=fun b e=>ab6.none e
 refine⟨⟨F.mod,S.kind,rfl,rfl,aj _,fun y z c a b=>?inj,fun y hy=>?has,fun y c hy e=>?cab,fun _=>hd,iq F.frames,.inr ⟨rfl,rfl⟩,fun b z=>absurd z (J b),fun b o e=>⟨(F.bs b o e).1,dn b (F.bs b o e).2⟩,F.bsz,fun b _ _=>J b,fun b z=>absurd z (J b),F.funs,fun b hb=>dn b (F.frf b hb)⟩,
  rfl,F.bare,Un.kept hk,⟨_,x.toInCall.ns,fun i y v q1 q2 q3=>?loc⟩,fun y c e=>?cell,dn _ (F.hok.fresh (aj _)),fun y c e=>?freeC,fun p hp=>absurd (show p∈([]:List (Addr×Obj))from hp) (by simp),(F.hok.drop hc).kept hk,?len⟩
 case inj =>
  rcases lk y c a with a|⟨_,a⟩<;>rcases lk z c b with b|⟨_,b⟩
  ·exact gD x.apart (aC a) (aC b)
  ·exact absurd (gN (own _ _ a) (old _ _ b)) (bp _)
  ·exact absurd (gN (own _ _ b) (old _ _ a)) (bp _)
  ·exact inj y z c a b
 case has =>
  have hy:scope.names.lookup y=some .cell\/scope.names.lookup y=some .free:=hy
  rcases hy with hy|hy
  ·obtain⟨c,e⟩:=zM (n:=s.heap.objs.size+1) hy
   refine⟨c,?_⟩
   show(aK (s.heap.objs.size+1) scope.names h).lookup y=some c
   rw[ze,zx,e];rfl
  ·obtain⟨c,e⟩:=a1 y hy
   exact⟨c,hx y c e hy⟩
 case cab =>
  have hy:(scope.names.lookup y==some .cell)=true:=hy
  have a2:scope.names.lookup y=some .cell:=by simpa using hy
  rcases lk y c e with a|⟨a,_⟩
  ·exact fj (own y c a)
  ·obtain⟨d,q⟩:=zM (n:=s.heap.objs.size+1) a2
   rw[q]at a;cases a
 case loc =>
  have Y:ps.Nodup:=by have:=S.nd;rw[S.app]at this;exact(List.nodup_append.mp this).1
  by_cases hi:i<vs.length
  ·have ha:vs[i]?=some v:=by
    rw[aJ (by simpa using hi),aA]at q2
    cases e:vs[i]? with
    | none=>rw[e]at q2;cases q2
    | some a=>rw[e]at q2;cases q2;rfl
   obtain⟨u,hu,rv⟩:=r.get ha
   have hp:ps[i]?=some y:=by
    have G:N[i]?=some y:=q1
    rw[S.app,aJ (by omega)]at G;exact G
   refine⟨u,rv,?_⟩
   rcases S.par y (aS hp)with k|k
   ·exact .inl ⟨k,al9 Y hp hu k⟩
   ·obtain⟨c,e⟩:=zM (n:=s.heap.objs.size+1) k
    refine .inr ⟨.inl k,c,?_,?_⟩
    ·show(aK (s.heap.objs.size+1) scope.names h).lookup y=some c
     rw[ze,zx,e];rfl
    ·have q:=x.cell y c e
     rw[al3 Y hp hu (by show scope.names.lookup y≠_;rw[k];decide)]at q
     exact q
  ·have hf:fr[i - vs.length]?=some y:=by
    have G:N[i]?=some y:=q1
    rw[S.app,aF (by omega)]at G;rw[hl];exact G
   have hv:cap[i - vs.length]?=some v:=by
    rw[aF (by simpa using hi),aA,ay]at q2
    cases e:cap[i - vs.length]? with
    | none=>rw[e]at q2;cases q2
    | some a=>rw[e]at q2;cases q2;rfl
   obtain⟨c,o,u,e1,e2,e3,e4⟩:=Z _ y v hf hv
   have kf:=S.frs y (aS hf)
   refine⟨u,e4,.inr ⟨.inr kf,c,hx y c e1 kf,?_⟩⟩
   exact⟨o,hk c o (F.hok c _ e2).1,e3⟩
 case cell =>
  rcases lk y c e with a|⟨_,a⟩
  ·exact⟨_,x.cell y c a⟩
  ·obtain⟨o,v,q,d⟩:=hc y c a
   exact⟨v,o,hk c o (F.hok c _ q).1,d⟩
 case freeC =>
  rcases lk y c e with a|⟨_,a⟩
  ·exact dn c (F.hok.fresh (fj (own y c a)))
  ·exact ab6.cell (aY0.mpr ⟨y,a⟩)
 case len =>
  show _=N.length
  rw[S.app]
  simp[hl,a0]
theorem aV6 {P:aB}{w:World}{C:List Env}{H H':Hp}{s s':af}{h:List (Str×Addr)}(hok:HOk P w H s.heap)(hc:Cells h H)(frf:∀ b∈frs C,H b=none)
  (un:Un (frs C) [] (ab6 h H) H' s.heap s'.heap) (J:HOk P w H' s'.heap):Un (frs C) [] H (Put h H H') s.heap s'.heap/\HOk P w (Put h H H') s'.heap:=by
 have nc:∀ b,H b=none->isC h b≠true:=fun b e y=>by
  obtain⟨o,v,q,_⟩:=hc.at y
  rw[e]at q;cases q
 have G:∀ c u,H c=some u->(∀ o v,u≠.frz o v)->isC h c≠true:=fun c u q d y=>by
  obtain⟨o,v,q',_⟩:=hc.at y
  rw[q]at q';cases q'
  exact d _ _ rfl
 have F:∀ b,isC h b=true->H' b=none:=fun b y=>by
  obtain⟨o,v,q,_⟩:=hc.at y
  exact un.free b o (hok b _ q).1 (ab6.cell y) (by simp)
 refine⟨⟨fun b o e n hb hx=>un.keep b o e (ab6.none n) hb hx,fun b o e n hb hx=>un.slot b o e (ab6.none n) hb hx,fun b o e n hx=>?_,fun b o e hx=>un.there b o e hx,fun b Y e=>?_,fun b o u e=>?_,fun b ps e=>?_⟩,fun b o e=>?_⟩
 ·rw[Put.ne (nc b n)];exact un.free b o e (ab6.none n) hx
 ·have z:=G b _ e fun _ _=>by nofun
  rw[Put.ne z];exact un.tups b Y (by rw[ab6.ne z];exact e)
 ·by_cases z:isC h b=true
  ·rw[Put.cell z];exact e
  ·rw[Put.ne z];exact un.frzs b o u (by rw[ab6.ne z];exact e)
 ·have z:=G b _ e fun _ _=>by nofun
  rw[Put.ne z];exact un.tbls b ps (by rw[ab6.ne z];exact e)
 ·by_cases z:isC h b=true
  ·rw[Put.cell z]at e
   obtain⟨ob,v,q,d⟩:=hc.at z
   rw[q]at e;cases e
   have g:=(hok b _ q).1
   have g':=un.keep b ob g (ab6.cell z) (fun y=>by rw[frf b y]at q;cases q) (by simp)
   exact⟨g',ob,g'⟩
  ·rw[Put.ne z]at e
   have Z:∀ c u,H' c=some u->Put h H H' c=some u:=fun c u q=>by
    rw[Put.ne fun y=>by rw[F c y]at q;cases q];exact q
   exact(J b o e).stay (fun _ _ _ q=>q) (fun c q=>Z c _ q) fun c Y q=>Z c _ q
structure ClOk (P:aB)(w:World)(K:ae)(mg:Str->Option Value)(base:Heap)(k:Nat)(R:Hp->Prop)(f:Addr)(sp:Sp):Prop where
 run:∀(A:aN) (outer:List Env) (s:af) (H:Hp) (us:List Value) (vs:List V) (Q:VK),Room k A->Env0 P w K mg base A outer s H->R H->Vals vs us->sp vs H Q E0 ->
  fM (model P w) A (.call (.ref f) ⟨us,[]⟩) (CR CX0 outer P w H s Q E0) s
def aE1 (H:Hp)(f:Addr)(qual:Str)(params:bU)(body:Expr)(scope:Scope)(fr:List Str)(cap:List V)(clos:List (Str×Addr)):Prop :=
 ∃ pm c' ctv,H f=some (bA0 f (dC "<lambda>" qual params body scope clos pm (.ref c') ctv))/\H c'=some (au6 c' qual)/\Cells clos H /\
  (∀ x y c,clos.lookup x=some c->clos.lookup y=some c->x=y)/\(∀ x,scope.names.lookup x=some .free->∃ c,clos.lookup x=some c)/\Cap clos H fr cap
def BM (mg:Str->Option Value)(base:Heap):Prop:=∃ bm ob,mg "__builtins__"=some (.ref bm)/\bm≠gy/\base.get? bm=some ob/\ob.cls=.type "module"/\ob.dict=some gy/\ob.data=.plain
noncomputable def lamCheck (scope xs:Scope):Bool:=scope.names.all fun y=>!(y.2==.free)||(xs.names.lookup y.1==some .cell||xs.names.lookup y.1==some .free)
structure Caught (cl:List (Str×Addr))(N:List Str)(kd:Str->Option cb)(σ:St)(H1 H2:Hp):Prop where
 ne:∀ b,isC cl b≠true->H2 b=H1 b
 free:∀ b,isC cl b=true->H1 b=none
 cells:Cells cl H2
 cap:∀(i:Nat) (x:Str) (v:V) (c:Addr),N[i]?=some x->σ[i]?=some (some v)->(kd x=some .cell\/kd x=some .free)->cl.lookup x=some c->∃ o u,H2 c=some (.frz o (.own c))/\o.data=.cell (some u)/\RelV v u
 inj:∀ x y c,cl.lookup x=some c->cl.lookup y=some c->x=y
def bP7 (K:ae)(H:Hp)(f:Addr):Prop:=(∃ fd,H f=some (bA0 f fd))\/∃ oc od fd sl,K.lookup f=some ⟨oc,od,.func fd,sl⟩
theorem bP7.at {X:Cx}{z:List (Addr×Obj)}{σ:St}{H:Hp}{s:af}{f:Addr}(h:bP7 X.K H f)(I:Inv X z σ H s):PySem.W.FnAt f s.heap:=by
 rcases h with⟨C,h⟩|⟨oc,od,C,sl,h⟩
 ·exact⟨_,_,_,_,at5 I.hok h⟩
 ·exact⟨_,_,_,_,I.kIn _ _ h⟩
noncomputable def az3 (K:ae)(names:List Str):List (Str×Addr×Addr):=names.filterMap fun x=>(be K x).map fun p=>(x,p)
theorem ao6 {K:ae}{names:List Str}{y:Str×Addr×Addr}:y∈az3 K names↔y.1∈names/\be K y.1=some y.2:=by
 unfold az3
 rw[cD]
 constructor
 ·rintro⟨x,hx,e⟩
  obtain⟨p,hp,rfl⟩:=bR.mp e
  exact⟨hx,hp⟩
 ·rintro⟨hx,e⟩
  exact⟨y.1,hx,by rw[e];rfl⟩
def bo2 (K:ae)(names:List Str)(base:Heap):Prop:=∀ x∈names,∀ c P,be K x=some (c,P)->cF base c P
def bq7 (K:ae)(names:List Str)(H:Hp):Prop:=∀ x∈names,∀ c P,be K x=some (c,P)->H P=some (.tbl #[])
noncomputable def bG9 (K:ae)(names:List Str)(ts:List Addr):Bool:=names.all fun x=>match be K x with
 | some (c,P)=>jH K c P&&ts.contains P
 | none=>true
theorem as9 {K:ae}{x:Str}(h:(be K x).isSome=true):be K x=some (((be K x).getD (0,0)).1,((be K x).getD (0,0)).2):=by
 obtain⟨p,e⟩:=fX.mp h
 rw[e]
 rfl
def bP3 (H:Hp)(P:Addr)(q:Str):Prop:=∃ ps:Array Value,H P=some (.tbl ps)/\TriplesOk ps.toList/\∀ pos cv,codeAmong pos ps.toList=some cv->∃ c',cv=.ref c'/\H c'=some (au6 c' q)
def TabsH (T:List (Addr×Str))(H:Hp):Prop:=∀ y∈T,bP3 H y.1 y.2
def bO4 (H H':Hp):Prop:=∀ b o,(∀ ps,o≠.tbl ps)->H b=some o->H' b=some o
theorem bO4.of {H z:Hp}(a:ae3 H z):bO4 H z:=fun c o _ h=>a c o h
theorem TabsH.keep {T:List (Addr×Str)}{H H':Hp}(h:TabsH T H)(k:∀ b o,(∀ F,o≠.lst F)->H b=some o->H' b=some o):TabsH T H':=fun y hy=>by
 obtain⟨ps,e,t,c⟩:=h y hy
 refine⟨ps,k _ _ (fun _=>by nofun) e,t,fun pos z q=>?_⟩
 obtain⟨C,e1,e2⟩:=c pos z q
 exact⟨C,e1,k _ _ (fun _=>by unfold au6;nofun) e2⟩
theorem TabsH.same {T:List (Addr×Str)}{H H':Hp}(h:TabsH T H)(s:ae3 H H'):TabsH T H':=h.keep fun b o _ e=>s b o e
theorem TabsH.new {T:List (Addr×Str)}{H:Hp}{a:Addr}{o:HO}(h:TabsH T H)(n:H a=none):TabsH T (upd H a o):=h.same ((ae3.refl H).new n)
theorem TabsH.put {T:List (Addr×Str)}{H:Hp}{a:Addr}{o:HO}{C:List V}(h:TabsH T H)(n:H a=some (.lst C)):TabsH T (upd H a o):=h.keep fun b u d e=>by
 rw[zm fun z=>by subst z;rw[n]at e;cases e;exact d _ rfl];exact e
theorem TabsH.init {T:List (Addr×Str)}{H:Hp}(h:∀ p∈T.map (·.1),H p=some (.tbl #[])):TabsH T H:=fun y hy =>
 ⟨#[],h _ (bK hy),trivial,fun pos z e=>by simp[codeAmong]at e⟩
theorem Caught.same {cells:List (Str×Addr)}{N:List Str}{kd:Str->Option cb}{σ:St}{C h:Hp}(F:Caught cells N kd σ C h):ae3 C h:=fun b o e=>by
 rw[F.ne b fun z=>by rw[F.free b z]at e;cases e];exact e
theorem Fun.okC {P:aB}{w:World}{K:ae}{mg:Str->Option Value}{base:Heap}{x qual:Str}{st:Stmt}{f c:Addr}{J:bL}{N ps:List Str}{k:Nat}{sp:Sp}(F:Fun K x qual st f J)(Z:J.code=.ref c)(S:FnScope N ps (defScope st))(len:∀ vs H Q E,sp vs H Q E->vs.length=ps.length)
  (C:∀(A:aN) (z:List Env) (s:af) (H:Hp) (vs:List V) (Q:VK) (E:XK),Room k (A.deeper (fx qual (defScope st) s.heap.objs.size f (.ref c)))->sp vs H Q E ->
   ∃ t,PSs (bd8 CX0 P w K mg base N qual (defScope st) f (.ref c) A z s H E).nox (zB st) t/\t { nx:=fun _ H'=>Q .non H',rt:=Q } (ag5 N vs) H):FnOk P w K mg base CX0 (k+1) f J ps sp:=by
 obtain⟨oc,od,kV,a0,pm,an,G,ct,a1,rfl,lk,hc⟩:=F.ex
 have e:G=.ref c:=Z
 subst e
 refine bO2 lk hc S len fun A z s H vs Q E hr Y=>?_
 obtain⟨t,h,q⟩:=C A z s H vs Q E hr Y
 exact⟨t,h.nox,q⟩
theorem aP4 {X:Cx}{K:ae}(hc:X.calm=true)(hK:X.K=K):ab8 X (.builtin "min") (fun xs H Q=>∃ a ns,xs=[.ref a]/\SqL K H a (ns.map V.int)/\ns≠[]/\∀ m∈ns,(∀ y∈ns,m<=y)->Q (.int m) H):=by
 subst hK
 intro a0 s σ H xs us Q I r h
 obtain⟨a,ns,rfl,hS,Y,q⟩:=h
 obtain⟨u,rfl,ru⟩:=qz r
 cases ru
 obtain⟨its,G,Z,hz⟩:=I.list hS
 have hl:=G.length
 rw[ay]at hl
 have a1:0<ns.length:=iP.mpr Y
 refine call_min_walk (du Z.isList ?_)
 have C:a<s.heap.objs.size:=by obtain⟨o,_,e,_⟩:=Z;exact aD e
 have W:=j5 (prog:=X.prog) (w:=X.w) (A:=X.A.in1) (I.ok.hd hc) s.heap.objs.size a (az C) its.toArray
 let val:Nat->Int:=fun i=>ns.getD i 0
 have F:∀ i v,its.toArray[i]?=some v->∃ t,v=Value.int (val i) t:=fun i v e=>by
  obtain⟨z,t,e1,e2⟩:=as8 G (i:=i) (v:=v) (by rw[cH]at e;exact e)
  refine⟨t,?_⟩
  rw[e2]
  show Value.int z t=Value.int (ns.getD i 0) t
  rw[aV,e1]
  rfl
 refine⟨_,_,_,_,_,_,_,rfl,W,⟨⟨_,aQ _ rfl,rfl,rfl⟩,?_⟩,fun b hb=>?_,by rw[aq];omega,ko val F,fun v h' tk hP k=>?_⟩
 ·obtain⟨o,e,r⟩:=Z.isList
  exact⟨o,am _ e,r⟩
 ·show b<(s.heap.push _).objs.size
  rw[bQ]
  rcases aH.mp hb with z|z
  ·rw[z];exact eI _
  ·have J:b=a:=by simpa using z
   rw[J];exact fP C
 ·obtain⟨z,t,e1,e2⟩:=as8 G (i:=dE (fun i j=>decide (val i<val j)) (its.toArray.size - 1)) (v:=v) (by rw[cH]at hP;exact hP)
  subst e2
  have hv:val (dE (fun i j=>decide (val i<val j)) (its.toArray.size - 1))=z:=by
   show ns.getD _ 0=z
   rw[aV,e1]
   rfl
  refine⟨.int z,H,I.kept (h':=h') (t':=tk) fun b o q=>k b o ?_ (am _ q),⟨t,rfl⟩,q z (aS e1) fun y hy=>?_⟩
  ·intro z
   have J:b=s.heap.objs.size:=by simpa using z
   exact absurd (aD q) (by rw[J];exact bp _)
  ·obtain⟨j,hj,e3⟩:=cf.mp hy
   have:=qy val (its.toArray.size - 1) j (by simp only[aq];omega)
   rw[hv]at this
   have e4:val j=y:=by
    show ns.getD j 0=y
    rw[aV,ai hj]
    exact e3
   omega
noncomputable def mx (a b:Int):Int:=if b > a then b else a
section
variable {X:Cx}
end
noncomputable def mx3 (a b c:Int):Int:=mx (mx a b) c
noncomputable def rnd (x:Int):Int:=if x=0\/x=3 then x else 2
noncomputable def sharp (n:Nat)(s:Nat->Nat->Int)(i j:Nat):Int:=(minO ((aR n).map fun k=>mx3 (s i k) (rnd (s k k)) (s k j))).getD 3
section
variable {n:Nat} {s:Nat->Nat->Int}
end
def an7 (H:Hp)(f:Addr)(name qual:Str)(params:bU)(body:List Stmt)(scope:Scope)(fr:List Str)(cap:List V)(clos:List (Str×Addr)):Prop :=
 ∃ doc pm c' ctv,H f=some (bA0 f (fR name qual params body scope clos .none .none doc pm none (.ref c') ctv))/\H c'=some (au6 c' qual)/\Cells clos H /\
  (∀ x y c,clos.lookup x=some c->clos.lookup y=some c->x=y)/\(∀ x,scope.names.lookup x=some .free->∃ c,clos.lookup x=some c)/\Cap clos H fr cap
theorem an7.fn {K:ae}{H:Hp}{f:Addr}{name qual:Str}{params:bU}{body:List Stmt}{scope:Scope}{fr:List Str}{cap:List V}{z:List (Str×Addr)}(h:an7 H f name qual params body scope fr cap z):bP7 K H f:=by
 obtain⟨F,Y,J,C,G,_⟩:=h
 exact .inl ⟨_,G⟩
end L2
end
noncomputable section
namespace L2
open PySem PySem.Spec PyProof.Rows Builtin
section
variable {P:aB} {w:World} {A:aN} {E:Value->af->Prop} {s:af}
theorem aC6 {it t:Addr}{i:Nat}{l:Array Value}{v:Value}{Q:Value->af->Prop}(C:s.heap.IsTupleIter it t i)(F:s.heap.IsTuple t l)(hv:l[i]?=some v)
  (k:∀ h',h'.IsTupleIter it t (i+1)->dY it s.heap h'->Q v { s with heap:=h' }):wpAny (model P w) A (bJ (.ref it)) Q E s:=by
 obtain⟨o,e1,e2,h⟩:=id C
 obtain⟨p,p1,_,n,G⟩:=F
 unfold bJ
 refine ag (cU (name:=bA "__next__") C.typeIs cG (cw cG C.typeIs fo ?_ (fc _)))
 show wpAny _ _ (field (.ref it) 0 >>= _) _ _ _
 refine ag (dS e1 h (x:=.ref t) rfl ?_)
 show wpAny _ _ (if(Value.ref t==Value.none)=true then _ else _) _ _ _
 rw[if_neg (show ¬((Value.ref t==Value.none)=true)from fun z=>nomatch z)]
 show wpAny _ _ (field (.ref it) 1 >>= _) _ _ _
 refine ag (dS e1 h (x:=.int i 0) rfl ?_)
 show wpAny _ _ (iD (.ref t) >>= _) _ _ _
 refine ag (cS p1 G ?_)
 simp only[bS,hv]
 refine ag (wpAny_setField e1 h (by simp) (ar ⟨v,rfl,ar (k _ ⟨_,dr _ e1 (Obj.isFreed_of_fields (jb h _)),(Obj.cls_mapFields ..).trans e2,by rw[jb h];simp[rawInt]⟩ (iQ ..))⟩))
theorem aO8 {it t:Addr}{i:Nat}{l:Array Value}{Q:Value->af->Prop}(F:A.handled=none)(C:s.heap.IsTupleIter it t i)(G:s.heap.IsTuple t l)(hv:l[i]?=none)
  (k:∀ h' e,jL it s.heap h'->(∃ o,h'.get? e=some o/\o.cls=.type "StopIteration")->E (.ref e) { s with heap:=h' }):wpAny (model P w) A (bJ (.ref it)) Q E s:=by
 obtain⟨o,e1,e2,h⟩:=id C
 obtain⟨p,p1,_,n,J⟩:=G
 unfold bJ
 refine ag (cU (name:=bA "__next__") C.typeIs cG (cw cG C.typeIs fo ?_ (fc _)))
 show wpAny _ _ (field (.ref it) 0 >>= _) _ _ _
 refine ag (dS e1 h (x:=.ref t) rfl ?_)
 show wpAny _ _ (if(Value.ref t==Value.none)=true then _ else _) _ _ _
 rw[if_neg (show ¬((Value.ref t==Value.none)=true)from fun z=>nomatch z)]
 show wpAny _ _ (field (.ref it) 1 >>= _) _ _ _
 refine ag (dS e1 h (x:=.int i 0) rfl ?_)
 show wpAny _ _ (iD (.ref t) >>= _) _ _ _
 refine ag (cS p1 J ?_)
 simp only[bS,hv]
 refine ag (gv (ag (wpAny_setField e1 h (by simp) ?_)))
 show wpAny _ _ (newExc (.type "StopIteration") [] >>= _) _ _ (_:af)
 refine ag ?_
 simp only[newExc,newTuple]
 refine ag (bw ?_ (by size_fits))
 refine ag (m:=firstArgMember _ _) (wpAny_of_eq (a:=Value.none) (by first|rfl|(simp only[firstArgMember];rfl)) (bw ?_ (by size_fits)))
 simp only[raiseNew]
 refine ag (wpAny_handled ?_)
 first|rw[show A.in1.handled=none from F]|rw[F]
 exact ag (ar (wpAny_throw (k _ _ (((iQ ..).extBut.push _).push _) ⟨_,aQ _ rfl,rfl⟩)))
end
structure Dw (P:aB)(w:World)(K:ae)(J:It)(it:Addr)(tn:Nat->Heap->Prop):Prop where
 obj:∀ i h,tn i h->∃ o,h.get? it=some o/\∀ v,o.data≠.cell v
 keep:∀ i h h',tn i h->(∀ o,h.get? it=some o->h'.get? it=some o)->tn i h'
 item:∀(X:Cx),X.prog=P->X.w=w->X.K=K->∀(A:aN) (i:Nat) (pins:List (Addr×Obj)) (s:af) (σ:St) (H:Hp) (Q:Value->af->Prop) (E:Value->af->Prop),Inv X pins σ H s->tn i s.heap->J.go i H ->
  (∀ x u h' tk,RelV x u->J.yld i H x H->tn (i+1) h'->dY it s.heap h'->Q u { s with heap:=h',toks:=tk })->wpAny (model P w) A (bJ (.ref it)) Q E s
 done:∀(X:Cx),X.prog=P->X.w=w->X.K=K->∀(A:aN) (i:Nat) (pins:List (Addr×Obj)) (s:af) (σ:St) (H:Hp) (Q:Value->af->Prop) (E:Value->af->Prop),A.handled=none->Inv X pins σ H s->tn i s.heap->J.stop i H ->
  (∀ h' e,jL it s.heap h'->(∃ o,h'.get? e=some o/\o.cls=.type "StopIteration")->E (.ref e) { s with heap:=h' })->wpAny (model P w) A (bJ (.ref it)) Q E s
theorem bn8 {P:aB}{w:World}{K:ae}(a it:Addr):Dw P w K (Itl K a) it (fun i h=>h.IsListIter it a i) where
 obj:=fun i h st=>by
  obtain⟨o,e,c,d⟩:=st
  exact⟨o,e,fun v z=>by rw[d]at z;cases z⟩
 keep:=fun i h h' st k=>st.at k
 item:=by
  intro X J hw Y A i C s σ H Q E I st hg k
  subst J hw Y
  obtain⟨Z,x,hq,hx⟩:=hg
  obtain⟨its,F,p,hz⟩:=I.list hq
  obtain⟨u,hu,ru⟩:=F.get hx
  exact wpAny_nextOf_list_item st p.isList (x:=u) (by simpa using hu) fun h' G sb=>k x u h' s.toks ru ⟨rfl,fun ys hy=>by rw[I.list_inj hy hq];exact hx⟩ G sb
 done:=by
  intro X J hw Y A i C s σ H Q E hA I st hg k
  subst J hw Y
  obtain⟨Z,hq,hx⟩:=hg
  obtain⟨its,F,p,hz⟩:=I.list hq
  have hl:=F.length
  exact wpAny_nextOf_list_end hA st p.isList (by simp;omega) k
theorem bN1 {P:aB}{w:World}{K:ae}(a it:Addr):Dw P w K (Itt K a) it (fun i h=>h.IsTupleIter it a i) where
 obj:=fun i h st=>by
  obtain⟨o,e,c,d⟩:=st
  exact⟨o,e,fun v z=>by rw[d]at z;cases z⟩
 keep:=fun i h h' st k=>st.at k
 item:=by
  intro X J hw Y A i C s σ H Q E I st hg k
  subst J hw Y
  obtain⟨Z,x,hq,hx⟩:=hg
  obtain⟨its,F,p,hz⟩:=I.tuple hq
  obtain⟨u,hu,ru⟩:=F.get hx
  exact aC6 st (show s.heap.IsTuple a its.toArray from p) (v:=u) (by simpa using hu) fun h' G sb=>k x u h' s.toks ru ⟨rfl,fun ys hy=>by rw[I.tuple_inj hy hq];exact hx⟩ G sb
 done:=by
  intro X J hw Y A i C s σ H Q E hA I st hg k
  subst J hw Y
  obtain⟨Z,hq,hx⟩:=hg
  obtain⟨its,F,p,hz⟩:=I.tuple hq
  have hl:=F.length
  exact aO8 hA st (show s.heap.IsTuple a its.toArray from p) (by simp;omega) k
theorem bF4 {P:aB}{w:World}{K:ae}(x:Str)(t:Tok)(it:Addr):Dw P w K (Its x) it (fun i h=>h.IsStrIter it (iy x) x t i) where
 obj:=fun i h st=>by
  obtain⟨o,e,c,d⟩:=st
  exact⟨o,e,fun v z=>by rw[d]at z;cases z⟩
 keep:=fun i h h' st k=>by
  obtain⟨o,ho,r⟩:=st
  exact⟨o,k _ ho,r⟩
 item:=by
  intro X J hw Z A i G s σ H Q E I st hg k
  subst J hw Z
  have C:i<x.cps.size:=hg
  have hc:x.cps[i]?=some x.cps[i]:=by simp[C]
  unfold iy at st k
  cases ha:x.cps.all (·<128)
  ·rw[ha]at st k
   exact wpAny_nextOf_wide_item st hc fun h' F Y=>k (.str ⟨#[x.cps[i]]⟩) _ h' (s.toks+1) ⟨_,rfl⟩ ⟨rfl,_,hc,rfl⟩ F Y
  ·rw[ha]at st k
   exact wpAny_nextOf_ascii_item st hc fun h' F Y=>k (.str ⟨#[x.cps[i]]⟩) _ h' (s.toks+1) ⟨_,rfl⟩ ⟨rfl,_,hc,rfl⟩ F Y
 done:=by
  intro X J hw Z A i G s σ H Q E hA I st hg k
  subst J hw Z
  have C:x.cps.size<=i:=hg
  have hc:x.cps[i]?=none:=by simp[C]
  unfold iy at st
  cases ha:x.cps.all (·<128)
  ·rw[ha]at st
   exact wpAny_nextOf_wide_end hA st hc k
  ·rw[ha]at st
   exact wpAny_nextOf_ascii_end hA st hc k
section
variable {X:Cx} {pins:List (Addr×Obj)} {σ:St} {H:Hp} {s:af} {A:aN} {E:Value->af->Prop} {J1 J2:It} {t1 t2:Nat->Heap->Prop} {z ti to i1 i2:Addr} {n:Nat} {a b:Value}
end
def Mkr (v:Value)(o:Obj)(h:Heap):Prop:=∀(P:aB) (w:World) (A:aN) (E:Value->af->Prop) (s:af) (Q:Value->af->Prop),(∀ b u,h.get? b=some u->s.heap.get? b=some u) ->
 Q (.ref s.heap.objs.size) { s with heap:=s.heap.push o }->wpAny (model P w) A (kx v) Q E s
def Sr (K:ae)(H:Hp)(x:V)(J:It):Prop:=(∃ a,x=.ref a/\(∃ xs,SqL K H a xs)/\J=Itl K a)\/(∃ a,x=.ref a/\(∃ xs,SqT K H a xs)/\J=Itt K a)\/∃ y,x=.str y/\J=Its y
theorem Sr.mk {X:Cx}{z:List (Addr×Obj)}{σ:St}{H:Hp}{s:af}{x:V}{u:Value}{J:It}(I:Inv X z σ H s)(h:Sr X.K H x J)(r:RelV x u) :
  ∃(o:Obj) (C:Addr->Nat->Heap->Prop),o.isFreed=false/\Mkr u o s.heap/\(∀ it,Dw X.prog X.w X.K J it (C it))/\∀ it h',h'.get? it=some o->C it 0 h':=by
 rcases h with⟨a,e,⟨F,hq⟩,e'⟩|⟨a,e,⟨F,hq⟩,e'⟩|⟨y,e,e'⟩
 ·subst e e';cases r
  obtain⟨its,G,p,hz⟩:=I.list hq
  exact⟨_,fun it i h=>h.IsListIter it a i,rfl,fun P w A E s' Q hk q=>du (p.isList.at fun o e=>hk _ _ e) q,fun it=>bn8 a it,fun it h' e=>⟨_,e,rfl,rfl⟩⟩
 ·subst e e';cases r
  obtain⟨its,G,p,hz⟩:=I.tuple hq
  exact⟨_,fun it i h=>h.IsTupleIter it a i,rfl,fun P w A E s' Q hk q=>i5 (Heap.IsTuple.at (show s.heap.IsTuple a its.toArray from p) fun o e=>hk _ _ e) q,fun it=>bN1 a it,fun it h' e=>⟨_,e,rfl,rfl⟩⟩
 ·subst e e';obtain⟨t,rfl⟩:=r
  exact⟨_,fun it i h=>h.IsStrIter it (iy y) y t i,rfl,fun P w A E s' Q hk q=>wpAny_pyIter_strU q,fun it=>bF4 y t it,fun it h' e=>⟨_,e,rfl,rfl⟩⟩
end L2
end
noncomputable section
namespace L2
open PySem PySem.Spec PyProof.Rows Builtin
open AutoSeq1 (wpAny_loadPart')
section
variable {X:Cx} {pins:List (Addr×Obj)} {σ:St} {H:Hp} {s:af} {A:aN} {E:Value->af->Prop} {J1:It} {t1:Nat->Heap->Prop} {z it:Addr} {n:Nat} {old:Value}
end
end L2
end
noncomputable section
namespace L2
open PySem PySem.Spec PyProof.Rows Builtin
open AutoSeq1 (wpAny_loadPart')
theorem aC0:fillsNumberSlot (.type "tuple") "mul"=pure false :=
 PySem.fillsNumberSlot_seq (id := "tuple.__mul__") (r:=some (.builtin "tuple.__rmul__")) d6.lookup (by decide +kernel) gi.lookup (by decide +kernel)
theorem aN2:seqRepeat? (.type "tuple")=pure (some (.builtin "tuple.__mul__")):=by
 unfold seqRepeat?
 rw[jI (T := "tuple") (name := "__mul__") (id := "tuple.__mul__") d6.lookup (by decide +kernel),jI (T := "tuple") (name := "__rmul__") (id := "tuple.__rmul__") gi.lookup (by decide +kernel)]
 rfl
theorem ax7 (a:Int)(t:Tok)(l:Addr)(o:Obj)(z:Array Value)(n:Nat)(C:Option Addr)(sl:Array (Option Value)) :
  Meets (Builtin.«int.__rmul__» ⟨[.int a t,.ref l],[]⟩) (fun _ R s=>s.heap.get? l=some { cls:=.type "tuple",dict:=C,data:=.seq z n,slots:=sl }/\R (.ok (.ret Value.notImplemented)) s) :=
 .of_wp fun prog w A R s h=>by obtain⟨hp,g,d,tk,os⟩:=s;obtain⟨hl,h⟩:=h;wp_walk;exact⟨_,rfl,h⟩
noncomputable def an0 {α:Type}:Nat->List α->List α
 | 0,_=>[]
 | n+1,a=>a++an0 n a
theorem aK6 {α:Type}(l:List α):∀(n:Nat) (h:Array α),(au n l.toArray).foldl (·++·) h=h++(an0 n l).toArray
 | 0,h=>by simp[an0]
 | n+1,h=>by rw[bF,da,aK6 l n];simp[an0]
theorem ay5 {α:Type}(a:Array α):∀(n:Nat) (h:Array α),((au n a).foldl (·++·) h).size=h.size+a.size*n
 | 0,h=>by simp
 | n+1,h=>by rw[bF,da,ay5 a n,Array.size_append,Nat.mul_succ];omega
def TmA (items:Array Value)(k:Int)(l:Addr)(R:Value->af->Prop)(s:af):Prop :=
 ((items.isEmpty||k==1)=true->R (.ref l) s)/\((items.isEmpty||k==1)=false->R (.ref s.heap.objs.size) { s with heap:=s.heap.push { cls:=.type "tuple",data:=.seq ((au k.toNat items).foldl (·++·) #[]) } })
theorem aY5 {P:aB}{w:World}{A:aN}{E:Value->af->Prop}{s:af}{l:Addr}{z:Array Value}{k:Int}{t:Tok}{Q:Value->af->Prop}(h0:0<=k)(Y:k<=1000000)(hz:z.size*k.toNat<=1000000)(hl:IsTup s.heap l z)
  (h:TmA z k l Q s):wpAny (model P w) A (call (.builtin "tuple.__mul__") [.ref l,.int k t]) Q E s:=by
 refine cw d6 hl.typeIs PySem.F.entry_tuple_mul ?_ (PySem.F.args_tuple_mul_2 _ _)
 obtain⟨C,q2⟩:=h
 show wpAny _ _ (asIndex (.int k t) >>= _) _ _ _
 refine ag (ar ?_)
 rw[if_neg (by rw[decide_eq_false (by omega),decide_eq_false (by omega)];decide)]
 show wpAny _ _ (cy (.ref l) >>= _) _ _ _
 refine ag (iY hl ?_)
 have G:(z.size:Int)*k<=1000000:=by
  have:((z.size*k.toNat:Nat):Int)<=1000000:=by omega
  rw[jQ,fg h0]at this
  exact this
 cases hb:(z.isEmpty||k==1)with
 | true =>
  rw[if_pos rfl]
  unfold j6
  refine ag (ag (gG hl.typeIs (ar ?_)))
  rw[if_pos (by decide)]
  exact ag (gv (ar ⟨_,rfl,C hb⟩))
 | false =>
  rw[if_neg aO]
  have J:z.isEmpty=false:=by
   rw[eS]at hb;exact hb.1
  have q:=q2 hb
  show wpAny _ _ (if(decide (k<=0)||z.isEmpty)=true then _ else _) _ _ _
  by_cases hk:k<=0
  ·rw[if_pos (by rw[decide_eq_true hk];rfl)]
   have:k.toNat=0:=by omega
   rw[this]at q
   exact ag (bw (ar ⟨_,rfl,q⟩) (by size_fits))
  ·rw[if_neg (by rw[decide_eq_false hk,J];decide)]
   show wpAny _ _ (if(z.size:Int)*k > (2^63 - 1) / 8 then _ else _) _ _ _
   rw[if_neg (by omega)]
   show wpAny _ _ (if fD ((z.size:Int)*k)=true then _ else _) _ _ _
   rw[if_neg (by unfold fD;rw[decide_eq_false (by unfold aE;omega)];decide)]
   refine ag (bw (ar ⟨_,rfl,q⟩) ?_)
   show Array.size _<=aE
   rw[ay5]
   show 0+_<=_
   rw[bv]
   have h3:z.size*k.toNat<=aE:=ak hz (by decide)
   exact h3
theorem aF9 {α:Type}:∀ n,an0 n ([]:List α)=[]
 | 0=>rfl
 | n+1=>by simp[an0,aF9 n]
theorem bc8 {α:Type}(l:List α):an0 1 l=l:=by simp[an0]
theorem aI3 {α:Type}(l:List α):∀ n,(an0 n l).length=l.length*n
 | 0=>by simp[an0]
 | n+1=>by simp[an0,aI3 l n,jM];omega
theorem Vals.repT {h:List V}{us:List Value}(r:Vals h us):∀ n,Vals (an0 n h) (an0 n us)
 | 0=>.nil
 | n+1=>r.append (Vals.repT r n)
def bU5 (K:ae):R2:=fun x y H Q=>∃ a xs n,x=.ref a/\y=.int n/\SqT K H a xs/\(0<=n/\n<=1000000/\xs.length*n.toNat<=1000000)/\∀ p H',ae3 H H'->SqT K H' p (an0 n.toNat xs)->(H' p=some (.tup (an0 n.toNat xs))\/(p=a/\an0 n.toNat xs=xs))->Q (.ref p) H'
theorem bw1 {X:Cx}{K:ae}(hK:X.K=K):OpR X (bP .Mult) (bU5 K):=by
 subst hK
 intro F s σ H x y v u Q I Z Y h
 obtain⟨a,C,n,rfl,rfl,ha,⟨h0,h1,hz⟩,q⟩:=h
 cases Z
 obtain⟨t,rfl⟩:=Y
 obtain⟨its,r1,p1,G⟩:=I.tuple ha
 have z:=r1.length
 obtain⟨⟨cls,dd,data,sl⟩,ho,hc,J,hd⟩:=id p1
 simp only at hc hd
 subst hc hd
 refine fG (T := "tuple") (U := "int") (by decide) p1.typeIs (fun s'=>gJ s' n t) aC0 i9 dQ aN2 iM.lookup
  (eF dQ (gJ s n t) iO (ir _ _) (ax7 n t a default its.toArray J dd sl) ⟨ho,⟨rfl,p1.typeIs,aY5 h0 h1 (by rw[aq,<-z];exact hz) p1 ⟨fun hb=>?_,fun hb=>?_⟩⟩⟩)
 ·have ex:an0 n.toNat C=C:=by
   rw[bH]at hb
   rcases hb with hb|hb
   ·have hi:its=[]:=by simpa using hb
    have hx:C=[]:=r1.nil_iff.mp hi
    rw[hx,aF9]
   ·have:n=1:=by simpa using hb
    subst this
    exact bc8 _
  exact⟨.ref a,H,I,rfl,q a H (ae3.refl H) (by rw[ex];exact ha) (.inr ⟨rfl,ex⟩)⟩
 ·have hp:=I.hok.fresh (aj s.heap.objs.size)
  refine⟨.ref s.heap.objs.size,_,I.laid (t':=s.toks) (o:=.tup (an0 n.toNat C)) (fun b ob q=>am _ q) (aj _) ?_,rfl,q _ _ ((ae3.refl H).new hp) (SqT.of zv) (.inl zv)⟩
  refine⟨by rw[aI3];exact ak hz (by decide),an0 n.toNat its,r1.repT _,?_⟩
  rw[show(an0 n.toNat its).toArray=(au n.toNat its.toArray).foldl (·++·) #[]by rw[aK6];simp]
  exact⟨_,aQ _ rfl,rfl,_,rfl⟩
end L2
end
noncomputable section
namespace L2
open PySem PySem.Spec PyProof.Rows
noncomputable def bo8 (x:List Nat):V:=.str ⟨x.toArray⟩
theorem ak4 {A:aN}{k:Nat}(hr:Room k A):A.units+2<cLine:=Nat.lt_of_le_of_lt (Nat.add_le_add_left (by decide:2<=64) _) hr.units
section
variable {κ:Type} [DecidableEq κ]
noncomputable def aA2 (kvs:List (κ×V))(k:κ):Option V:=(kvs.find? fun kv=>decide (kv.1=k)).map (·.2)
noncomputable def aq0 (kvs:List (κ×V))(k:κ)(v:V):List (κ×V) :=
 if(kvs.any fun kv=>decide (kv.1=k))=true then kvs.map (fun kv=>if kv.1=k then(kv.1,v)else kv)else kvs++[(k,v)]
theorem ah9 {p:κ×V}{r:List (κ×V)}{k:κ}(e:p.1=k):aA2 (p::r) k=some p.2:=by simp[aA2,bM,e]
theorem ai9 {p:κ×V}{r:List (κ×V)}{k:κ}(e:¬ p.1=k):aA2 (p::r) k=aA2 r k:=by simp[aA2,bM,e]
theorem as4 (k:κ):∀ h:List (κ×V),(h.any fun z=>decide (z.1=k))=(aA2 h k).isSome
 | []=>rfl
 | p::r=>by
  rw[f8]
  by_cases e:p.1=k
  ·simp only[ah9 e,decide_eq_true e,Bool.true_or,ja]
  ·rw[ai9 e,decide_eq_false e,kn];exact as4 k r
theorem qA (h:List (κ×V))(k:κ)(v:V):(aq0 h k v).length<=h.length+1:=by
 unfold aq0
 split
 ·rw[ay];omega
 ·rw[aG,aI,fe];omega
theorem aL7.isSome_eq {o:Option V}{u:Option Value}(r:aL7 o u):o.isSome=u.isSome:=by
 cases o with
 | none=>cases u with
  | none=>rfl
  | some _=>exact(show False from r).elim
 | some _=>cases u with
  | none=>exact(show False from r).elim
  | some _=>rfl
theorem aL7.getD {o:Option V}{u:Option Value}{d:V}{d':Value}(r:aL7 o u)(h:RelV d d'):RelV (o.getD d) (u.getD d'):=by
 cases o with
 | none=>cases u with
  | none=>exact h
  | some _=>exact(show False from r).elim
 | some _=>cases u with
  | none=>exact(show False from r).elim
  | some _=>exact r
theorem KV.val {C:List (κ×V)}{vs:List (κ×Value)}(r:KV C vs)(k:κ):aL7 (aA2 C k) (iE vs k):=by
 unfold KV at r
 induction r with
 | nil=>exact True.intro
 | @cons p q ps qs h t ih =>
  obtain⟨F,G⟩:=h
  by_cases e:p.1=k
  ·have e':q.1=k:=F.symm.trans e
   have b:iE (q::qs) k=some q.2:=by simp[iE,bM,e']
   rw[ah9 e,b];exact G
  ·have e':¬ q.1=k:=fun z=>e (F.trans z)
   have b:iE (q::qs) k=iE qs k:=by simp[iE,bM,e']
   rw[ai9 e,b];exact ih
theorem KV.any {z:List (κ×V)}{vs:List (κ×Value)}(r:KV z vs)(k:κ):(z.any fun C=>decide (C.1=k))=vs.any fun C=>decide (C.1=k):=by
 unfold KV at r
 induction r with
 | nil=>rfl
 | cons h t ih=>rw[f8,f8,ih,h.1]
theorem KV.repl {F:List (κ×V)}{vs:List (κ×Value)}(r:KV F vs)(k:κ){y:V}{u:Value}(Y:RelV y u) :
  KV (F.map fun C=>if C.1=k then(C.1,y)else C) (vs.map fun C=>if C.1=k then(C.1,u)else C):=by
 unfold KV at r ⊢
 induction r with
 | nil=>exact .nil
 | @cons p q ps qs h t ih =>
  rw[aL,aL]
  refine .cons ?_ ih
  obtain⟨G,J⟩:=h
  by_cases e:p.1=k
  ·rw[if_pos e,if_pos (G.symm.trans e)];exact⟨G,Y⟩
  ·rw[if_neg e,if_neg (fun z=>e (G.trans z))];exact⟨G,J⟩
theorem KV.put {h:List (κ×V)}{vs:List (κ×Value)}(r:KV h vs)(k:κ){y:V}{u:Value}(z:RelV y u):KV (aq0 h k y) (stored vs k u):=by
 unfold aq0 stored
 rw[r.any k]
 by_cases e:(vs.any fun C=>decide (C.1=k))=true
 ·rw[if_pos e,if_pos e];exact r.repl k z
 ·rw[if_neg e,if_neg e];exact kM r ⟨rfl,z⟩
theorem KV.length {h:List (κ×V)}{vs:List (κ×Value)}(r:KV h vs):h.length=vs.length:=eK r
end
theorem aO4 {P:aB}{w:World}{k:Key}{u:Value}(r:RelV (kV k) u):(zF P w).is k u=true:=by
 cases k with
 | inl i=>obtain⟨t,e⟩:=(show ∃ t,u=Value.int i t from r);subst e;exact aB1 P w i t
 | inr x=>obtain⟨t,e⟩:=(show ∃ t,u=Value.str x t from r);subst e;exact aE0 P w x t
theorem bO1 {P:aB}{w:World}{f:FK}{u:Value}(h:RelV (fV f) u):fIs f u=true:=by
 cases f with
 | none=>cases(show u=Value.none from h);rfl
 | some k=>exact aO4 (P:=P) (w:=w) h
theorem ax5 {P:aB}{w:World}:∀ {ks:List FK} {us:List Value},Vals (ks.map fV) us->ItemsAre (qh P w) ks us
 | [],_,r=>by rw[bX]at r;cases r;exact .nil
 | k::ks,_,r=>by
  rw[aL]at r
  cases r with
  | cons h t=>exact .cons (bO1 (P:=P) (w:=w) h) (ax5 t)
theorem bF5 {P:aB}{w:World}{H:Hp}{h:Heap}(ok:HOk P w H h):∀ {ks:List NI} {C:List V} {us:List Value},cR (NAt H) ks C->Vals C us->cR (NIs P w h) ks us
 | _,_,_,.nil,r=>by cases r;exact .nil
 | _,_,_,.cons (a:=k) q t,r=>by
  cases r with
  | cons z t1 =>
   refine .cons ?_ (bF5 ok t t1)
   cases k with
   | inl f=>cases q;exact bO1 (P:=P) (w:=w) z
   | inr l =>
    obtain⟨c,rfl,e⟩:=q
    cases z
    obtain⟨_,its,r,o,z,F,n,h3⟩:=(show ab5 P w H h c (.tup (l.map fV))from ok c _ e)
    exact⟨c,rfl,o,its.toArray,n,z,F,h3,by simpa using ax5 r⟩
abbrev KT (H:Hp):List (List NI×V)->List (List NI×Addr×Value)->Prop:=cR fun p q=>p.1=q.1/\NK H p.1 q.2.1/\RelV p.2 q.2.2
theorem KT.val {H:Hp}{C:List (List NI×V)}{F:List (List NI×Addr×Value)}(r:KT H C F)(k:List NI):aL7 (aA2 C k) ((atKey F k).map (·.2)):=by
 induction r with
 | nil=>exact True.intro
 | @cons p q ps qs h t ih =>
  obtain⟨G,_,J⟩:=h
  by_cases e:p.1=k
  ·have e':q.1=k:=G.symm.trans e
   have b:atKey (q::qs) k=some q.2:=by simp[atKey,bM,e']
   rw[ah9 e,b];exact J
  ·have e':¬ q.1=k:=fun z=>e (G.trans z)
   have b:atKey (q::qs) k=atKey qs k:=by simp[atKey,bM,e']
   rw[ai9 e,b];exact ih
theorem KT.repl {H:Hp}{C:List (List NI×V)}{Y:List (List NI×Addr×Value)}(r:KT H C Y)(k:List NI){y:V}{u:Value}(Z:RelV y u) :
  KT H (C.map fun G=>if G.1=k then(G.1,y)else G) (Y.map (putAt k u)):=by
 induction r with
 | nil=>exact .nil
 | @cons p q ps qs h t ih =>
  rw[aL,aL]
  refine .cons ?_ ih
  obtain⟨F,J,h3⟩:=h
  unfold putAt
  by_cases e:p.1=k
  ·rw[if_pos e,if_pos (F.symm.trans e)];exact⟨F,J,Z⟩
  ·rw[if_neg e,if_neg (fun z=>e (F.trans z))];exact⟨F,J,h3⟩
theorem KT.put {H:Hp}{h:List (List NI×V)}{z:List (List NI×Addr×Value)}(r:KT H h z)(k:List NI){b:Addr}{y:V}{u:Value}(hb:NK H k b)(C:RelV y u) :
  KT H (aq0 h k y) (storedH z k b u):=by
 have e:(h.any fun F=>decide (F.1=k))=(atKey z k).isSome:=by
  rw[as4,(r.val k).isSome_eq,fS]
 unfold aq0 storedH
 rw[e]
 by_cases q:(atKey z k).isSome=true
 ·rw[if_pos q,if_pos q];exact r.repl k C
 ·rw[if_neg q,if_neg q];exact kM r ⟨rfl,hb,C⟩
theorem KT.keeps {H H':Hp}{h:List (List NI×V)}{C:List (List NI×Addr×Value)}(r:KT H h C)(F:∀ b ys,H b=some (.tup ys)->H' b=some (.tup ys)):KT H' h C :=
 cR.mapP r fun _ _ z=>⟨z.1,z.2.1.mono F,z.2.2⟩
section
variable {P:aB} {w:World} {H:Hp} {h:Heap} {a:Addr}
theorem bD5 {u:HO}(ok:HOk P w H h)(e:Rd H a u):ab5 P w H h a u:=e.ok ok
theorem aV9 {z:List (Key×V)}(ok:HOk P w H h)(e:Rd H a (.dK z)):z.length<=aE/\(a==cX)=false/\∃ vs,KV z vs/\h.DictOf (zF P w) a vs :=
 show ab5 P w H h a (.dK z)from bD5 ok e
theorem bM4 {z:List (Key×V)}(ok:HOk P w H h)(e:H a=some (.dK z)):z.length<=aE/\(a==cX)=false/\∃ vs,KV z vs/\h.DictOf (zF P w) a vs:=aV9 ok (.inl e)
theorem an9 {ks:List NI}(ok:HOk P w H h)(e:NK H ks a):(ao5 P w).is h ks a:=by
 obtain⟨C,e,p⟩:=e
 obtain⟨_,its,r,o,F,z,n,h3⟩:=(show ab5 P w H h a (.tup C)from ok a _ e)
 exact⟨o,its.toArray,n,F,z,h3,by simpa using bF5 ok p r⟩
theorem aQ2 {C:List (List NI×V)}(ok:HOk P w H h)(e:Rd H a (.dT C)):C.length<=aE/\(a==cX)=false /\
  ∃ F,KT H C F/\h.DictOfH (ao5 P w) a F:=by
 obtain⟨z,y,F,r,o,es,ep,Y,J,h3,Z,G⟩:=(show ab5 P w H h a (.dT C)from bD5 ok e)
 refine⟨z,y,F,r,o,es,ep,Y,J,h3,Z,fun x hx=>?_,G⟩
 have all:∀ {l:List (List NI×V)} {m:List (List NI×Addr×Value)},KT H l m->∀ x∈m,(ao5 P w).is h x.1 x.2.1:=by
  intro l m q
  induction q with
  | nil=>intro x hx;exact nomatch hx
  | @cons p q ps qs hq t ih =>
   intro x hx
   rcases aH.mp hx with e|hx
   ·subst e
    exact an9 ok (by rw[<-hq.1];exact hq.2.1)
   ·exact ih x hx
 exact all r x hx
theorem bD6 {z:List (List NI×V)}(ok:HOk P w H h)(e:H a=some (.dT z)):z.length<=aE/\(a==cX)=false /\
  ∃ C,KT H z C/\h.DictOfH (ao5 P w) a C:=aQ2 ok (.inl e)
end
def aA3 (H:Hp)(a:Addr)(y:V)(r:Option V):Prop :=
 (∃ kvs k,Rd H a (.dK kvs)/\y=kV k/\r=aA2 kvs k)\/∃ kvs k b,Rd H a (.dT kvs)/\y=.ref b/\NK H k b/\r=aA2 kvs k
def bv5 (H:Hp)(a:Addr)(y v:V)(H':Hp):Prop :=
 (∃ kvs k,H a=some (.dK kvs)/\y=kV k/\kvs.length<aE/\H'=upd H a (.dK (aq0 kvs k v))) \/
 ∃ kvs k b,H a=some (.dT kvs)/\y=.ref b/\NK H k b/\kvs.length<aE/\H'=upd H a (.dT (aq0 kvs k v))
theorem aA3.k {H:Hp}{a:Addr}{h:List (Key×V)}{k:Key}(e:H a=some (.dK h)):aA3 H a (kV k) (aA2 h k):=.inl ⟨h,k,.inl e,rfl,rfl⟩
theorem aA3.t {H:Hp}{a b:Addr}{h:List (List NI×V)}{k:List NI}(e:H a=some (.dT h))(eb:NK H k b):aA3 H a (.ref b) (aA2 h k):=.inr ⟨h,k,b,.inl e,rfl,eb,rfl⟩
theorem bv5.k {H:Hp}{a:Addr}{h:List (Key×V)}{k:Key}{v:V}(e:H a=some (.dK h))(hl:h.length<aE):bv5 H a (kV k) v (upd H a (.dK (aq0 h k v))):=.inl ⟨h,k,e,rfl,hl,rfl⟩
theorem bv5.t {H:Hp}{a b:Addr}{h:List (List NI×V)}{k:List NI}{v:V}(e:H a=some (.dT h))(eb:NK H k b)(hl:h.length<aE) :
  bv5 H a (.ref b) v (upd H a (.dT (aq0 h k v))):=.inr ⟨h,k,b,e,rfl,eb,hl,rfl⟩
section
variable {X:Cx} {pins:List (Addr×Obj)} {σ:St} {H:Hp} {s:af} {a:Addr} {y v:V} {u r:Value} {o:Option V} {A:aN} {E:Value->af->Prop}
theorem Inv.big (I:Inv X pins σ H s):cX<s.heap.objs.size:=by
 have h:bz<s.heap.objs.size:=(I.mod.glob.keeps I.bk).lt
 exact gN (by decide) h
theorem au7 {Q:Value->af->Prop}(hu:A.units+2<cLine)(I:Inv X pins σ H s)(g:aA3 H a y (some v))(ry:RelV y u)(h:∀ G s',Inv X pins σ H s'->RelV v G->Q G s') :
  wpAny (model X.prog X.w) A (gE (.ref a) u) Q E s:=by
 rcases g with⟨a0,k,e,Z,l⟩|⟨a0,k,b,e,Z,eb,l⟩
 ·subst Z
  obtain⟨z,hd,vs,F,J⟩:=aV9 I.hok e
  obtain⟨G,hw,C⟩:=aL7.some_of (v:=v) (o:=iE vs k) (by rw[l];exact F.val k)
  exact wpAny_getItem_of (aO4 ry) J.mapOf hw (h G _ (I.tok _) C)
 ·subst Z
  cases(show u=Value.ref b from ry)
  obtain⟨z,hd,xs,F,J⟩:=aQ2 I.hok e
  obtain⟨G,hw,C⟩:=aL7.some_of (v:=v) (o:=(atKey xs k).map (·.2)) (by rw[l];exact F.val k)
  obtain⟨p,hp,Y⟩:=bR.mp hw
  refine wpAny_getItem_heap (show _<_ from hu) (an9 I.hok eb) J hp ?_
  rw[Y]
  exact h G _ (I.tok _) C
theorem bZ1 {Q:Value->af->Prop}(hu:A.units+2<cLine)(I:Inv X pins σ H s)(g:aA3 H a y o)(Y:RelV y u)(h:∀ s',Inv X pins σ H s'->Q (.bool o.isSome) s') :
  wpAny (model X.prog X.w) A (di .In u (.ref a)) Q E s:=by
 rcases g with⟨G,k,e,J,l⟩|⟨G,k,b,e,J,eb,l⟩
 ·subst J
  obtain⟨z,hd,vs,C,F⟩:=aV9 I.hok e
  refine wpAny_in_of (aO4 Y) hd F.mapOf ?_
  rw[<-(C.val k).isSome_eq,<-l]
  exact h _ (I.tok _)
 ·subst J
  cases(show u=Value.ref b from Y)
  obtain⟨z,hd,Z,C,F⟩:=aQ2 I.hok e
  refine wpAny_in_heap (show _<_ from hu) (an9 I.hok eb) hd F ?_
  have q:=(C.val k).isSome_eq
  rw[fS]at q
  rw[<-q,<-l]
  exact h _ (I.tok _)
theorem aX5 {Q:Value->af->Prop}(hu:A.units+2<cLine)(I:Inv X pins σ H s)(g:aA3 H a y o)(Y:RelV y u)(h:∀ s',Inv X pins σ H s'->Q (.bool (!o.isSome)) s') :
  wpAny (model X.prog X.w) A (di .NotIn u (.ref a)) Q E s:=by
 rcases g with⟨G,k,e,J,l⟩|⟨G,k,b,e,J,eb,l⟩
 ·subst J
  obtain⟨z,hd,vs,C,F⟩:=aV9 I.hok e
  refine wpAny_notIn_of (aO4 Y) hd F.mapOf ?_
  rw[<-(C.val k).isSome_eq,<-l]
  exact h _ (I.tok _)
 ·subst J
  cases(show u=Value.ref b from Y)
  obtain⟨z,hd,Z,C,F⟩:=aQ2 I.hok e
  refine wpAny_notIn_heap (show _<_ from hu) (an9 I.hok eb) hd F ?_
  have q:=(C.val k).isSome_eq
  rw[fS]at q
  rw[<-q,<-l]
  exact h _ (I.tok _)
theorem as5 {h':Heap}{t':Nat}{ob:HO}(I:Inv X pins σ H s)(mu:Mut (H a))(hs:dY a s.heap h')(h:∃ q,h'.get? a=some q)(new:ab5 X.prog X.w (upd H a ob) h' a ob) :
  Inv X pins σ (upd H a ob) { s with heap:=h',toks:=t' } :=
 I.write (x:=a) (e:=a) mu (.inl rfl) (fun b q hb z=>(hs.2 b hb).trans z) h new
theorem bi6 {P:aB}{w:World}{H':Hp}{h':Heap}{h:List (Key×V)}{vs:List (Key×Value)}(z:h.length<=aE)(hd:(a==cX)=false)(C:KV h vs)(F:h'.DictOf (zF P w) a vs) :
  ab5 P w H' h' a (.dK h):=⟨z,hd,vs,C,F⟩
theorem az6 {H':Hp}{Q:Unit->af->Prop}(hu:A.units+2<cLine)(I:Inv X pins σ H s)(g:bv5 H a y v H')(ry:RelV y u)(rv:RelV v r)(h:∀ s',Inv X pins σ H' s'->Q () s') :
  wpAny (model X.prog X.w) A (setItem (.ref a) u r) Q E s:=by
 rcases g with⟨F,k,e,Z,l,J⟩|⟨F,k,b,e,Z,eb,l,J⟩
 ·subst Z J
  obtain⟨z,hd,vs,C,Y⟩:=bM4 I.hok e
  have hz:vs.length<=aE:=by rw[<-C.length];exact z
  have hl:(aq0 F k v).length<=aE:=by have:=qA F k v;omega
  refine wpAny_setItem_pairs (hsz:=hz) (aO4 ry) Y fun h' G hs=>h _ ?_
  have he:∃ q,h'.get? a=some q:=let⟨q,_,_,hq,_⟩:=G;⟨q,hq⟩
  exact as5 I (by rw[e];exact True.intro) hs he (bi6 hl hd (C.put k rv) G)
 ·subst Z J
  cases(show u=Value.ref b from ry)
  obtain⟨z,hd,xs,C,Y⟩:=bD6 I.hok e
  have hz:xs.length<=aE:=by rw[<-eK C];exact z
  have hl:(aq0 F k v).length<=aE:=by have:=qA F k v;omega
  refine wpAny_setItem_heap (hsz:=hz) (show _<_ from hu) (an9 I.hok eb) Y fun h' G hs=>h _ ?_
  obtain⟨q,es,ep,hq,h2,h3,h4,_,h5⟩:=G
  refine as5 I (by rw[e];exact True.intro) hs ⟨q,hq⟩ ⟨hl,hd,_,(C.put k eb rv).keeps fun c ys ec=>?_,q,es,ep,hq,h2,h3,h4,h5⟩
  rw[zm (bI3 ec e (fun z=>nomatch z))]
  exact ec
end
section
variable {X:Cx} {pins:List (Addr×Obj)} {σ:St} {H:Hp} {s:af} {a:Addr} {kvs:List (Key×V)} {k:Key} {u:Value} {A:aN} {E:Value->af->Prop}
end
theorem al2 {X:Cx}{h:List (Addr×Obj)}{σ:St}{H:Hp}{s:af}{a:Addr}{y:V}{o:Option V}(I:Inv X h σ H s)(g:aA3 H a y o):s.TypeIs (.ref a) "dict":=by
 rcases g with⟨C,k,e,_,_⟩|⟨C,k,b,e,_,_,_⟩
 ·obtain⟨_,_,vs,_,z⟩:=aV9 I.hok e
  exact z.typeIs
 ·obtain⟨_,_,F,_,z⟩:=aQ2 I.hok e
  exact z.typeIs
section
variable {X:Cx} {o i e value:Expr} {pos pos' tpos:Pos} {td ty tv:TE}
end
theorem aG4 {P:aB}{w:World}{H:Hp}(h:Heap)(hb:cX<h.objs.size):ab5 P w H (h.push { cls:=.type "dict",data:=.dict #[] }) h.objs.size (.dK []) :=
 ⟨cu _,beq_eq_false_iff_ne.mpr (cM (az hb)),[],.nil,Heap.DictOf.new h⟩
theorem bb5 {P:aB}{w:World}{H:Hp}(h:Heap)(hb:cX<h.objs.size):ab5 P w H (h.push { cls:=.type "dict",data:=.dict #[] }) h.objs.size (.dT []) :=
 ⟨cu _,beq_eq_false_iff_ne.mpr (cM (az hb)),[],.nil,_,#[],0,aQ _ rfl,⟨rfl,rfl,rfl⟩,rfl,rfl,List.nodup_nil⟩
def bl6:TE:=fun _ H Q=>∀ p,H p=none->Q (.ref p) (upd H p (.dK []))
section
variable {X:Cx} {pos:Pos}
theorem aZ5:PE X (.Dict [] [] pos) bl6:=fun z s σ H Q I h =>
 wpAny_Dict_empty ⟨.ref s.heap.objs.size,_,I.laid (a:=s.heap.objs.size) (o:=.dK []) (t':=s.toks) (fun _ _ q=>am _ q) (aj _) (aG4 s.heap I.big),rfl,h _ (I.hok.fresh (aj _))⟩
end
noncomputable def aX7:List (TE×TE)->St->Hp->(List (V×V)->Hp->Prop)->Prop
 | [],_,H,Q=>Q [] H
 | (tk,tv)::r,σ,H,Q=>tk σ H fun x H1=>tv σ H1 fun y H2=>aX7 r σ H2 fun ps H3=>Q ((x,y)::ps) H3
abbrev VV:List (V×V)->List (Value×Value)->Prop:=cR fun p q=>RelV p.1 q.1/\RelV p.2 q.2
def PPs (X:Cx)(pos:Pos)(keys:List (Option Expr))(values:List Expr)(trs:List (TE×TE)):Prop :=
 ∀(pins:List (Addr×Obj)) (s:af) (σ:St) (H:Hp) (Q:List (V×V)->Hp->Prop),Inv X pins σ H s->aX7 trs σ H Q ->
  wpAny (model X.prog X.w) X.A (evalPairs (pairTrees keys values X.env pos)) (fun vs s'=>∃ ps H',Inv X pins σ H' s'/\VV ps vs/\Q ps H') X.xe s
theorem aS8 {X:Cx}{pos:Pos}:PPs X pos [] [] []:=fun z s σ H Q I h=>pairTrees_nil_walk ⟨[],H,I,.nil,h⟩
theorem aH0 {X:Cx}{pos:Pos}{k v:Expr}{ks:List (Option Expr)}{vs:List Expr}{tk G:TE}{C:List (TE×TE)}(hk:PE X k tk)(hv:PE X v G)(hr:PPs X pos ks vs C) :
  PPs X pos (some k::ks) (v::vs) ((tk,G)::C):=fun z s σ H Q I h =>
 pairTrees_cons_walk (thn (hk z s σ H _ I h) fun u s1 ⟨x,H1,I1,rx,q1⟩=>thn (hv z s1 σ H1 _ I1 q1) fun w2 s2 ⟨y,J,I2,ry,q2⟩ =>
  thn (hr z s2 σ J _ I2 q2) fun ws s3 ⟨ps,Y,Z,F,q3⟩=>⟨(x,y)::ps,Y,Z,.cons ⟨rx,ry⟩ F,q3⟩)
noncomputable def ay7 (kvs more:List (Key×V)):List (Key×V):=more.foldl (fun acc kv=>aq0 acc kv.1 kv.2) kvs
theorem KV.merge:∀ {z:List (Key×V)} {F:List (Key×Value)} {C:List (Key×V)} {vs:List (Key×Value)},KV z F->KV C vs->KV (ay7 C z) (merged vs F):=by
 intro z F C vs r
 unfold KV at r
 induction r generalizing C vs with
 | nil=>intro q;exact q
 | @cons p q ps qs h t ih =>
  intro r0
  have e:KV (aq0 C p.1 p.2) (stored vs q.1 q.2):=by
   have:=r0.put p.1 h.2
   rw[<-h.1];exact this
  exact ih e
theorem ae7:∀(z h:List (Key×V)),(ay7 h z).length<=h.length+z.length
 | [],h=>by show h.length<=h.length+0;omega
 | p::r,h=>by
  have F:=ae7 r (aq0 h p.1 p.2)
  have C:=qA h p.1 p.2
  show(ay7 (aq0 h p.1 p.2) r).length<=_
  rw[aI];omega
theorem ao9 {P:aB}{w:World}:∀ {z:List (Key×V)} {ws:List (Value×Value)},VV (z.map fun F=>(kV F.1,F.2)) ws->∃ C,Carries (zF P w) ws C/\KV z C
 | [],_,r=>by rw[bX]at r;cases r;exact⟨[],True.intro,.nil⟩
 | p::z,_,r=>by
  rw[aL]at r
  cases r with
  | @cons a b as bs h t =>
   obtain⟨C,c,q⟩:=ao9 (P:=P) (w:=w) t
   obtain⟨b1,b2⟩:=b
   exact⟨(p.1,b2)::C,⟨aO4 h.1,rfl,c⟩,.cons ⟨rfl,h.2⟩ q⟩
def bH4 (trs:List (TE×TE)):TE:=fun σ H Q=>∀ p,H p=none->aX7 trs σ (upd H p (.dK [])) fun ps H2=>H2 p=some (.dK [])/\∃ kvs:List (Key×V),ps=kvs.map (fun kv=>(kV kv.1,kv.2))/\kvs.length<=15/\Q (.ref p) (upd H2 p (.dK (ay7 [] kvs)))
theorem br9 {X:Cx}{pos:Pos}{keys:List (Option Expr)}{C:List Expr}{G:List (TE×TE)}(h:PPs X pos keys C G)(Y:keys.all (·.isSome)=true)(hl:keys.length=C.length)(h0:keys≠[])
  (a1:keys.length<=15):PE X (.Dict keys C pos) (bH4 G):=by
 intro F s σ H Q I q
 have hn:=I.hok.fresh (aj s.heap.objs.size)
 have I1:=I.laid (a:=s.heap.objs.size) (o:=.dK []) (h':=s.heap.push { cls:=.type "dict",data:=.dict #[] }) (t':=s.toks) (fun _ _ q=>am _ q) (aj _) (aG4 s.heap I.big)
 refine wpAny_Dict_walk (knd:=zF X.prog X.w) Y hl h0 a1 (thn (h F _ σ _ _ I1 (q _ hn)) fun ws s2 ⟨ps,H2,I2,a0,e,Z,ep,lk,q2⟩=>?_)
 subst ep
 obtain⟨rs,c,rk⟩:=ao9 (P:=X.prog) (w:=X.w) a0
 obtain⟨z,hd,a2,r0,dd⟩:=bM4 I2.hok e
 cases r0
 refine⟨rs,c,dd,fun h' J hs=>⟨.ref s.heap.objs.size,_,?_,rfl,q2⟩⟩
 have hz:(ay7 [] Z).length<=aE:=by
  have h1:=ae7 Z []
  rw[fe]at h1
  rw[eQ];omega
 have he:∃ q,h'.get? s.heap.objs.size=some q:=let⟨q,_,_,hq,_⟩:=J;⟨q,hq⟩
 exact as5 I2 (by rw[e];exact True.intro) hs he (bi6 hz hd (rk.merge .nil) J)
section
variable {X:Cx} {pins:List (Addr×Obj)} {σ:St} {H:Hp} {s:af} {a:Addr} {y d:V} {u r:Value} {o:Option V} {A:aN} {E:Value->af->Prop}
end
section
variable {X:Cx} {o e f:Expr} {apos cpos:Pos} {td ty tx:TE}
end
section
variable {P:aB} {w:World} {A:aN} {E:Value->af->Prop} {s:af}
end
section
variable {X:Cx} {pins:List (Addr×Obj)} {σ:St} {H:Hp} {s:af}
end
section
variable {prog:aB} {w:World} {A:aN} {R:j0->af->Prop} {I:Addr} {fp wr:List Addr} {n:Nat} {P:Nat->Value->Prop} {St:Nat->Heap->Prop} {kw:List (Str×Value)}
end
theorem bs1 (i:Int)(h:0<=i):j7 i 1=i % 2:=by
 unfold j7
 rw[decide_eq_true h]
 show((i.toNat &&& (1:Int).toNat:Nat):Int)=_
 rw[show(1:Int).toNat=1 from rfl,Nat.and_one_is_mod]
 omega
theorem bo5 {X:Cx}:OpR X (bP .BitAnd) (rI (fun i j=>0<=i/\j=1) fun i j=>.int (i % 2)):=opI fun i j _ _ _ _ _ hc q=>by
 obtain⟨h0,rfl⟩:=hc
 refine and_int ?_
 rw[bs1 i h0]
 exact q
section
variable {X:Cx} {pins:List (Addr×Obj)} {σ:St} {H:Hp} {s:af} {a C:Addr} {a0:Value}
end
section
variable {P:aB} {w:World} {K:ae} {mg:Str->Option Value} {base:Heap} {N:List Str} {qual:Str} {scope:Scope} {f:Addr} {cd:Value} {A:aN} {outer:List Env} {s0:af} {H0:Hp} {E:XK}
end
noncomputable def excTail:List Value:=[.type "ValueError",.type "Exception",.type "BaseException",.type "object"]
structure ExcCls (K:ae)(C:Addr):Prop where
 obj:∃ bm N nm q bs hdct sn sub ab col dd k0 k1 k2 k3 k5 mN,K.lookup C=some (excClassObj nm q C N bs bm hdct sn sub ab col dd k0 k1 k2 k3 k5 "ValueError.__new__")/\(∀ n∈quietNames,mN n=none)/\∀ h:Heap,K.In h->h.Ns N mN/\OwnTailQ h excTail bm
noncomputable def excI (K:ae)(C:Addr):Bool:=dA K (.ref C) (bA "__getattribute__")==some (some (.builtin "BaseException.__getattribute__"))&&(dA K (.ref C) (bA "__getattr__")==some none&&(dA K (.ref C) (bA "__class__")==some (some (.builtin "object.__class__"))&&(jk K (.builtin "object.__class__") (bA "__get__")==some (some (.builtin "getset_descriptor.__get__"))&&(jO K (.builtin "object.__class__")==some true&&km K C (.type "object")==some true))))
section
variable {X:Cx} {E:XK} {C:Addr} {x:Str}
end
section
variable {X:Cx} {pins:List (Addr×Obj)} {σ:St} {H:Hp} {s:af} {a C T:Addr} {fl fl' a0:Value} {h':Heap}
end
section
variable {X:Cx} {pins:List (Addr×Obj)} {σ:St} {H:Hp} {s:af} {a C:Addr} {oe:Obj} {fl:Value}
end
section
variable {prog:aB} {w:World} {A:aN} {R:j0->af->Prop} {I:Addr} {fp wr:List Addr} {n:Nat} {P:Nat->Value->Prop} {St:Nat->Heap->Prop} {h₀:Heap}
end
def bk6 (tk tv:TE):TE:=fun σ H Q=>∀ p,H p=none->tk σ (upd H p (.dT [])) fun x H1=>tv σ H1 fun y H2=>H2 p=some (.dT [])/\∃ b k,x=.ref b/\NK H2 k b/\Q (.ref p) (upd H2 p (.dT [(k,y)]))
theorem be9 {X:Cx}{pos:Pos}{e f:Expr}{tk Z:TE}(hu:X.A.units+1<cLine)(hk:PE X e tk)(hv:PE X f Z):PE X (.Dict [some e] [f] pos) (bk6 tk Z):=by
 intro F s σ H Q I q
 have hn:=I.hok.fresh (aj s.heap.objs.size)
 have I1:=I.laid (a:=s.heap.objs.size) (o:=.dT []) (h':=s.heap.push { cls:=.type "dict",data:=.dict #[] }) (t':=s.toks) (fun _ _ q=>am _ q) (aj _) (bb5 s.heap I.big)
 refine wpAny_Dict_any rfl rfl (by nofun) (by show 1<=15;decide) (thn (aH0 hk hv aS8 F _ σ _ (fun ps h=>match ps with
  | [(x,y)]=>h s.heap.objs.size=some (.dT [])/\∃ b k,x=.ref b/\NK h k b/\Q (.ref s.heap.objs.size) (upd h s.heap.objs.size (.dT [(k,y)]))
  | _=>False) I1 (q _ hn)) fun ws s2 ⟨ps,h,J,C,r⟩=>?_)
 obtain⟨x,y,eps,e2,b,k,ex,nk,r2⟩:∃ x y,ps=[(x,y)]/\h s.heap.objs.size=some (.dT [])/\∃ b k,x=.ref b/\NK h k b/\Q (.ref s.heap.objs.size) (upd h s.heap.objs.size (.dT [(k,y)])):=by
  split at r
  ·exact⟨_,_,rfl,r⟩
  ·exact r.elim
 subst eps ex
 cases C with
 | @cons _ w _ _ h1 t =>
  cases t
  obtain⟨w1,w2⟩:=w
  cases(show w1=Value.ref b from h1.1)
  unfold storeAll
  rw[gX]
  obtain⟨z,hd,xs,C,dd⟩:=bD6 J.hok e2
  cases C
  refine ag (ag (wpAny_dictSet_heap (knd:=ao5 X.prog X.w) (show _<_ from hu) (an9 J.hok nk) dd fun h' G hs=>?_))
  refine ar ?_
  show wpAny _ _ (forIn ([]:List (Value×Value)) _ _) _ _ _
  rw[fB]
  refine ar ⟨.ref _,_,?_,rfl,r2⟩
  obtain⟨Y,es,ep,hq,h2,h3,h4,_,h5⟩:=G
  refine as5 J (by rw[e2];exact True.intro) hs ⟨Y,hq⟩ ⟨by show 1<=aE;rw[eQ];omega,hd,_,.cons ⟨rfl,nk.mono fun c ys ec=>?_,h1.2⟩ .nil,Y,es,ep,hq,h2,h3,h4,h5⟩
  rw[zm (bI3 ec e2 (fun z=>nomatch z))]
  exact ec
noncomputable def bU0 (lo:Int)(n:Nat):It:=⟨fun i _=>i<n,fun i H x H'=>H'=H/\x=.int (lo+i*(-1)),fun i _=>n<=i⟩
theorem aE4 {P:aB}{w:World}{K:ae}{tg:Expr}(it:Addr)(G:Int)(n:Nat):Turn P w K tg (bU0 G n) [it] it (fun i h=>io h it (G+(i:Nat)*(-1)) ((n:Int) - (i:Nat)) (-1)) where
 mem:=by simp
 obj:=fun i h st b hb=>by
  have e:b=it:=by simpa using hb
  subst e
  exact⟨_,st,fun v z=>by
   have z':Data.fields _=Data.cell v:=z
   cases z'⟩
 keep:=fun i h h' st k=>k it (by simp) _ st
 item:=by
  intro X Z hw hK hc i C s σ H E I hf st hg
  subst Z hw hK
  obtain⟨f0,J,f2,f3,f4,Y⟩:=hf it (by simp)
  have W:=kH (prog:=X.prog) (w:=X.w) (I.ok.hd hc) it G (-1) n
  refine W.item i s _ _ hg st fun v h' tk hv F kk=>?_
  obtain⟨t,rfl⟩:=hv
  have I1:Inv X C σ H { s with heap:=h',toks:=tk }:=I.turned (fun b o hb e=>kk b o (by simpa using hb) e) f0 J f3 f4 Y
  exact⟨_,rfl,aP1 (s:={ s with heap:=h',toks:=tk }) (n := "range_iterator") F rfl rfl (by decide) ⟨.int (G+i*(-1)),H,I1,⟨t,rfl⟩,⟨rfl,rfl⟩,F,fun b hb=>(hf b hb).1⟩⟩
 done:=by
  intro X Z hw hK hc i C s σ H E I hf st hg
  subst Z hw hK
  obtain⟨f0,J,f2,f3,f4,Y⟩:=hf it (by simp)
  exact gA (I.ok.hd hc) st (by have:n<=i:=hg;omega) fun h' eb=>⟨rfl,I.turned (t':=s.toks) (fun b o hb e=>eb b o hb e) f0 J f3 f4 Y⟩
 self:=fun _ _ _ _ _ st h=>gB st h
theorem av0 {a:Int}(h:0<=a):cT a (-1) (-1)=a+1:=by
 unfold cT
 rw[if_neg (by decide),if_pos (by omega),show(-(-1:Int))=1 from rfl,kz]
 omega
theorem aM2 {a:Int}(ha:0<=a)(h:a<2^20):iR a (-1) (-1)=true:=by
 unfold iR
 rw[av0 ha]
 simp only[jW,ah,bH,decide_eq_true_eq,beq_iff_eq,show ¬((-1:Int) > 0)by decide,if_false]
 omega
def bC3 (ta:TA):TI:=fun σ H R=>ta σ H fun vs H1=>∃ i:Int,vs=[.int i,.int (-1),.int (-1)]/\(0<=i/\i<2^20)/\R (bU0 i (i+1).toNat) H1
theorem aU4 {X:Cx}{tg a b c:Expr}{ta:TA}{p pos:Pos}(hg:Gl X "range")(hm:X.mg "range"=none)(ha:PA X [a,b,c] ta)(hs:bq [a,b,c] X.env=(false,eval a X.env)::bq [b,c] X.env:=by rfl)(J:bq [b,c] X.env=[(false,eval b X.env),(false,eval c X.env)]:=by rfl) :
  PI X tg (.Call (.Name "range" p) [a,b,c] [] pos) (bC3 ta):=by
 intro F s σ H R I h
 refine Call_ (ap0 I hg hm boot_range (dv (thn (ha pos F s σ H _ I h) fun us s1 ⟨vs,Z,I1,r1,G⟩=>?_) hs (by rw[J];rfl)))
 obtain⟨z,e,⟨G,q2⟩,q⟩:=G
 subst e
 cases r1 with
 | cons r rr =>
  cases rr with
  | cons r' rr =>
   cases rr with
   | cons r'' rr =>
    cases rr
    obtain⟨t,rfl⟩:=r
    obtain⟨t',rfl⟩:=r'
    obtain⟨C,rfl⟩:=r''
    refine call_range_3 (by decide) ?_
    refine i6 (kI ..) (aM2 G q2) ?_
    have Y:Inv X F σ Z { s1 with heap:=s1.heap.push { cls:=.type "range",data:=.fields #[.int z t,.int (-1) t',.int (-1) C] },toks:=s1.toks }:=I1.kept fun b o e=>am _ e
    refine⟨(s1.heap.push { cls:=.type "range",data:=.fields #[.int z t,.int (-1) t',.int (-1) C] }).objs.size,[(s1.heap.push { cls:=.type "range",data:=.fields #[.int z t,.int (-1) t',.int (-1) C] }).objs.size],_,_,Z,rfl,
     Y.kept (t':=s1.toks) fun b o e=>am _ e,aE4 _ z (z+1).toNat,?_,fun b hb=>?_,q⟩
    ·show io _ _ (z+((0:Nat):Int)*(-1)) ((((z+1).toNat:Nat):Int) - ((0:Nat):Int)) (-1)
     have e1:z+((0:Nat):Int)*(-1)=z:=by simp
     have e2:(((z+1).toNat:Nat):Int) - ((0:Nat):Int)=cT z (-1) (-1):=by rw[av0 G];omega
     rw[e1,e2]
     exact aQ _ rfl
    ·have e:b=(s1.heap.push { cls:=.type "range",data:=.fields #[.int z t,.int (-1) t',.int (-1) C] }).objs.size:=by simpa using hb
     subst e
     exact Y.fpOk (aj _) (Y.hok.fresh (aj _))
theorem az7 {X:Cx}{k:Nat}{p1 C:Pos}:PE X (.UnaryOp .USub (.Constant (.int 1) k p1) C) (tC (.int (-1))) :=
 fun z s σ H Q I h=>bT3 (X:=X) bK5 bi2 z s σ H Q I ⟨1,rfl,h⟩
end L2
end
noncomputable section
namespace DV
inductive D where
 | non|bl (b:Bool)|int (i:Int)|str (x:List Nat)|tup (l:List D)|ref (n:Nat)|fn (f:String)|clo (f:String) (cs:List D)
noncomputable instance:DecidableEq D:=fun a b=>gj (a=b)
noncomputable instance (x:D):Decidable (x=.non):=match x with
 | .non=>.isTrue rfl
 | .bl _=>.isFalse nofun
 | .int _=>.isFalse nofun
 | .str _=>.isFalse nofun
 | .tup _=>.isFalse nofun
 | .ref _=>.isFalse nofun
 | .fn _=>.isFalse nofun
 | .clo _ _=>.isFalse nofun
inductive O where
 | lst (l:List D)|ro (l:List D)|dic (l:List (D×D))|ins (c:String) (fs:List (String×D))|dit (l:List (D×D))
noncomputable instance:DecidableEq O:=fun a b=>gj (a=b)
noncomputable abbrev Sto:=List O
noncomputable def O.kd:O->Nat
 | .lst _=>0|.ro _=>1|.dic _=>2|.ins _ _=>3|.dit _=>4
inductive R (α:Type) where
 | ok (a:α) (s:Sto)|exc (e:D) (s:Sto)|bad
noncomputable abbrev M (α:Type):=Sto->R α
noncomputable def R.bind {α β:Type}(r:R α)(f:α->Sto->R β):R β:=match r with
 | .ok a s=>f a s
 | .exc e s=>.exc e s
 | .bad=>.bad
@[simp] theorem R.bind_ok {α β:Type} (a:α) (s:Sto) (f:α->Sto->R β):(R.ok a s).bind f=f a s:=rfl
@[simp] theorem R.bind_bad {α β:Type} (f:α->Sto->R β):(R.bad:R α).bind f=.bad:=rfl
@[simp] theorem R.bind_exc {α β:Type} (e:D) (s:Sto) (f:α->Sto->R β):(R.exc e s:R α).bind f=.exc e s:=rfl
theorem R.bind_inv {α β:Type}{r:R α}{f:α->Sto->R β}{b:β}{t:Sto}(h:r.bind f=.ok b t):∃ a s,r=.ok a s/\f a s=.ok b t:=by
 cases r with
 | ok a s=>exact⟨a,s,rfl,h⟩
 | exc e s=>cases h
 | bad=>cases h
@[simp] theorem R.bind_assoc {α β γ:Type} (r:R α) (f:α->Sto->R β) (g:β->Sto->R γ):(r.bind f).bind g=r.bind fun a s=>(f a s).bind g:=by cases r<;>rfl
mutual
noncomputable def D.bnd (n:Nat):D->Bool
 | .tup l=>D.bndL n l
 | .ref k=>decide (k<n)
 | .clo _ l=>D.bndL n l
 | _=>true
noncomputable def D.bndL (n:Nat):List D->Bool
 | []=>true
 | d::l=>D.bnd n d&&D.bndL n l
end
noncomputable def O.bnd (n:Nat):O->Bool
 | .lst l=>D.bndL n l
 | .ro l=>D.bndL n l
 | .dic l=>D.bndL n (l.map (·.1))&&D.bndL n (l.map (·.2))
 | .ins _ fs=>D.bndL n (fs.map (·.2))
 | .dit l=>D.bndL n (l.map (·.1))&&D.bndL n (l.map (·.2))
mutual
noncomputable def D.plain:D->Bool
 | .non=>true|.int _=>true|.str _=>true
 | .tup l=>D.plainL l
 | _=>false
noncomputable def D.plainL:List D->Bool
 | []=>true
 | d::l=>D.plain d&&D.plainL l
end
mutual
noncomputable def D.ncl:D->Bool
 | .tup l=>D.nclL l
 | .clo _ _=>false
 | _=>true
noncomputable def D.nclL:List D->Bool
 | []=>true
 | d::l=>D.ncl d&&D.nclL l
end
noncomputable def O.ncl:O->Bool
 | .lst l=>D.nclL l
 | .ro l=>D.nclL l
 | .dic l=>D.nclL (l.map (·.2))
 | .dit l=>D.nclL (l.map (·.2))
 | _=>false
noncomputable def D.key:D->Bool
 | .int _=>true|.str _=>true|_=>false
noncomputable def D.hdI:List D->Bool
 | .int _::_=>true|.non::_=>true|.tup _::_=>true|_=>false
noncomputable def D.keyF:D->Bool
 | .int _=>true|.non=>true|.str x=>decide (x.length<=1000)|_=>false
noncomputable def D.keyS:D->Bool
 | .tup l=>D.hdI l&&(l.all D.keyF&&decide (l.length<=1000))|d=>D.keyF d
noncomputable def D.keyT:D->Bool
 | .tup l=>D.hdI l&&(l.all D.keyS&&decide (l.length<=1000))|_=>false
noncomputable def LIM:Nat:=1000000
@[irreducible] noncomputable def BIG:Nat:=2^60000
@[irreducible] noncomputable def DIVL:Nat:=2^4096
inductive BOp where
 | add|sub|mul|fdiv|mod|pow|shl|shr|band|bor
 deriving DecidableEq
inductive COp where
 | eq|ne|lt|le|gt|ge|isin|notin
 deriving DecidableEq
inductive Cn where
 | non|bl (b:Bool)|int (i:Int)|str (x:List Nat)
 deriving DecidableEq
noncomputable def Cn.d:Cn->D
 | .non=>.non|.bl b=>.bl b|.int i=>.int i|.str x=>.str x
inductive Bi where
 | len|abs|int|str|min2|max2|max3|min3|isInt|isBool|isStr|isTup|isList|ord
 deriving DecidableEq
inductive Mk where
 | tuple|list|all|any|sum|min|max|sorted|lenset
 deriving DecidableEq
inductive Mt where
 | append|pop|index|count|reverse|clear|bitlen|get1|get2|setdefault|update|split|partition
 deriving DecidableEq
inductive Tg where
 | one (i:Nat)|tup (is:List Nat)
 deriving DecidableEq
mutual
inductive E where
 | var (i:Nat)|cst (c:Cn)|glob (x:String)
 | bin (op:BOp) (a b:E)|neg (a:E)|not (a:E)
 | cmp (op:COp) (a b:E)|chain (o p:COp) (a b c:E)
 | isN (a:E)|notN (a:E)|isB (a:E) (b:Bool)|notB (a:E) (b:Bool)
 | and (a b:E)|or (a b:E)|ite (c a b:E)
 | tup (es:Es)|lst (es:Es)|dic (ks vs:Es)|dicT|dicU (k v:E)|get2 (o k d:E)|bitl (a:E)|lrng (a:E)|fstr (es:Es)|inC (e:E) (c:String)|getC (c:String) (e:E)
 | ix (a b:E)|slL (a lo:E)|slU (a hi:E)|slLU (a lo hi:E)|rev (a:E)
 | call (f:String) (as:As)|callC (f:String) (as:As)|callV (i:Nat) (es:Es)
 | bi (b:Bi) (es:Es)|mk (k:Mk) (l:L)|mkD (k:Mk) (l:L) (d:E)
 | meth (m:Mt) (o:E) (es:Es)|ext (o:E) (l:L)|extS (o e:E)|join (o e:E)|mks (k:Mk) (e:E)|mkDs (k:Mk) (e d:E)|minK (id:String) (e:E) (j:Int)|spl (o:E) (c:Nat)
inductive Es where
 | nil|cons (e:E) (es:Es)
inductive As where
 | nil|ex (e:E) (as:As)|lam (id:String) (caps:List Nat) (as:As)|fn (f:String) (as:As)
inductive I where
 | seq (e:E)|rng1 (a:E)|rng2 (a b:E)|rng3 (a b:E) (c:Int)|rngD (a:E)|enum (it:I)|zip (a b:I)|items (e:E)
inductive L where
 | comp (tg:Tg) (it:I) (e:E) (caps:List (Option Nat))|compIf (tg:Tg) (it:I) (c e:E) (caps:List (Option Nat))|disp (es:Es)|seq (e:E)|itm (e:E)
end
mutual
inductive S where
 | asg (tg:Tg) (e:E)|setIx (o i e:E)|aug (i:Nat) (e:E)|ex (e:E)|ret (e:E)|retN
 | ite (c:E) (a b:Ss)|whl (c:E) (b:Ss)|for_ (tg:Tg) (it:I) (b:Ss)|pass|cont|brk|raise|und (i:Nat)
inductive Ss where
 | nil|cons (s:S) (ss:Ss)
end
noncomputable abbrev Env:=List (Option D)
noncomputable def ac0 (o:O):M D:=fun s=>.ok (.ref s.length) (s++[o])
noncomputable def pur (d:D):M D:=fun s=>.ok d s
noncomputable def bad {α:Type}:M α:=fun _=>.bad
noncomputable def mulOk (a b:Int):Bool:=decide (a.natAbs<2^64)||decide (b.natAbs<2^64)||(decide (a.natAbs<BIG)&&decide (b.natAbs<BIG))
noncomputable def rep:Nat->List Nat->List Nat
 | 0,_=>[]
 | n+1,a=>a++rep n a
noncomputable def aO9:Nat->List D->List D
 | 0,_=>[]
 | n+1,a=>a++aO9 n a
noncomputable def af5:BOp->D->D->M D
 | .add,.int a,.int b=>pur (.int (a+b))
 | .add,.str a,.str b=>if a.length+b.length<=LIM then pur (.str (a++b))else bad
 | .add,.tup a,.tup b=>if a.length+b.length<=LIM then pur (.tup (a++b))else bad
 | .add,.ref a,.ref b=>fun s=>match s[a]?,s[b]? with
  | some (.lst l),some (.lst m)=>if l.length+m.length<=LIM then ac0 (.lst (l++m)) s else .bad
  | _,_=>.bad
 | .sub,.int a,.int b=>pur (.int (a - b))
 | .mul,.int a,.int b=>if mulOk a b then pur (.int (a*b))else bad
 | .mul,.str a,.int n=>if 0<=n/\n<=1000000/\a.length*n.toNat<=LIM then pur (.str (rep n.toNat a))else bad
 | .mul,.tup a,.int n=>if 0<=n/\n<=1000000/\a.length*n.toNat<=LIM then pur (.tup (aO9 n.toNat a))else bad
 | .mul,.ref a,.int n=>fun s=>match s[a]? with
  | some (.lst l)=>if 0<=n/\n<=1000000/\l.length*n.toNat<=LIM then ac0 (.lst (aO9 n.toNat l)) s else .bad
  | _=>.bad
 | .fdiv,.int a,.int b=>if 0<b/\b<(DIVL:Int)then pur (.int (a / b))else bad
 | .mod,.int a,.int b=>if 0<b then pur (.int (a % b))else bad
 | .pow,.int a,.int b=>if 0<=b/\b<=1000000/\a.natAbs<2^64 then pur (.int (a^b.toNat))else bad
 | .shl,.int a,.int b=>if 0<=b/\b<=1000000/\a.natAbs<2^64 then pur (.int (a*2^b.toNat))else bad
 | .shr,.int a,.int b=>if 0<=b then pur (.int (a / 2^b.toNat))else bad
 | .band,.int a,.int b=>if 0<=a/\b=1 then pur (.int (a % 2))else bad
 | _,_,_=>bad
noncomputable def kd (s:Sto):D->Nat
 | .non=>0|.bl _=>1|.int _=>1|.str _=>2|.tup _=>3
 | .ref r=>match s[r]? with|some (.lst _)=>4|_=>9
 | _=>9
noncomputable def az0 (a b:Nat):Bool:=a==9||b==9||a==b
noncomputable def b2i (b:Bool):Int:=if b then 1 else 0
noncomputable def aT1:D->D->Option Bool
 | .non,.non=>some true
 | .bl a,.bl b=>some (a==b)
 | .int a,.int b=>some (a==b)
 | .bl a,.int b=>some (b2i a==b)
 | .int a,.bl b=>some (a==b2i b)
 | .str a,.str b=>some (a==b)
 | _,_=>none
noncomputable def ac7 (s:Sto)(a b:D):Option Bool:=match aT1 a b with
 | some z=>some z
 | none=>if az0 (kd s a) (kd s b)then none else some false
noncomputable def eqL (f:D->D->Option Bool):List D->List D->Option Bool
 | [],[]=>some true
 | [],_::_=>some false
 | _::_,[]=>some false
 | a::l,b::m=>match f a b,eqL f l m with
  | some x,some y=>some (x&&y)
  | _,_=>none
noncomputable def eqv (s:Sto):Nat->D->D->Option Bool
 | 0,a,b=>ac7 s a b
 | n+1,a,b=>match a,b with
  | .tup l,.tup m=>eqL (eqv s n) l m
  | .ref x,.ref y=>match s[x]?,s[y]? with
   | some (.lst l),some (.lst m)=>if l.length=m.length then eqL (eqv s n) l m else some false
   | _,_=>none
  | a,b=>ac7 s a b
noncomputable def DEEP:Nat:=30
noncomputable def eqM (a b:D):M D:=fun s=>match eqv s DEEP a b with
 | some r=>.ok (.bl r) s
 | none=>.bad
noncomputable def inL (s:Sto)(x:D):List D->Option Bool
 | []=>some false
 | y::l=>match eqv s DEEP y x,inL s x l with
  | some a,some b=>some (a||b)
  | _,_=>none
noncomputable def look (k:D):List (D×D)->Option D
 | []=>none
 | (a,v)::l=>if a=k then some v else look k l
noncomputable def inM (a b:D):M Bool:=fun s=>match b with
 | .tup l=>match inL s a l with|some r=>.ok r s|none=>.bad
 | .ref r=>match s[r]? with
  | some (.lst l)=>match inL s a l with|some r=>.ok r s|none=>.bad
  | some (.dic l)=>if a.key then .ok (look a l).isSome s else .bad
  | some (.dit l)=>if a.keyT then .ok (look a l).isSome s else .bad
  | _=>.bad
 | .str y=>match a with|.str [c]=>.ok (decide (c∈y)) s|_=>.bad
 | _=>.bad
noncomputable def zZ:COp->D->D->M D
 | .eq,a,b=>eqM a b
 | .ne,a,b=>fun s=>match eqv s DEEP a b with|some r=>.ok (.bl (!r)) s|none=>.bad
 | .lt,.int a,.int b=>pur (.bl (decide (a<b)))
 | .le,.int a,.int b=>pur (.bl (decide (a<=b)))
 | .gt,.int a,.int b=>pur (.bl (decide (b<a)))
 | .ge,.int a,.int b=>pur (.bl (decide (b<=a)))
 | .isin,a,b=>fun s=>(inM a b s).bind fun r s=>.ok (.bl r) s
 | .notin,a,b=>fun s=>(inM a b s).bind fun r s=>.ok (.bl (!r)) s
 | _,_,_=>bad
noncomputable def ixn (n:Nat)(i:Int):Option Nat:=if 0<=i then(if i<n then some i.toNat else none)else if -(n:Int)<=i then some (i+n).toNat else none
noncomputable def sbd (n:Nat)(i:Int):Nat:=if 0<=i then min i.toNat n else(i+n).toNat
noncomputable def loB (n:Nat):Option Int->Nat
 | none=>0
 | some i=>sbd n i
noncomputable def hiB (n:Nat):Option Int->Nat
 | none=>n
 | some i=>sbd n i
noncomputable def aA4 {α:Type}(l:List α)(lo hi:Option Int):List α:=(l.drop (loB l.length lo)).take (hiB l.length hi - loB l.length lo)
noncomputable def ixM (a b:D):M D:=fun s=>match a,b with
 | .tup l,.int i=>match(ixn l.length i).bind fun j=>l[j]? with|some d=>.ok d s|none=>.bad
 | .str l,.int i=>match(ixn l.length i).bind fun j=>l[j]? with|some c=>.ok (.str [c]) s|none=>.bad
 | .ref r,b=>match s[r]? with
  | some (.lst l)=>match b with
   | .int i=>match(ixn l.length i).bind fun j=>l[j]? with|some d=>.ok d s|none=>.bad
   | _=>.bad
  | some (.ro l)=>match b with
   | .int i=>match(ixn l.length i).bind fun j=>l[j]? with|some d=>.ok d s|none=>.bad
   | _=>.bad
  | some (.dic l)=>if b.key then match look b l with|some d=>.ok d s|none=>.bad else .bad
  | some (.dit l)=>if b.keyT then match look b l with|some d=>.ok d s|none=>.bad else .bad
  | _=>.bad
 | _,_=>.bad
noncomputable def slM (a:D)(lo hi:Option Int):M D:=fun s=>match a with
 | .tup l=>.ok (.tup (aA4 l lo hi)) s
 | .str l=>.ok (.str (aA4 l lo hi)) s
 | .ref r=>match s[r]? with
  | some (.lst l)=>ac0 (.lst (aA4 l lo hi)) s
  | _=>.bad
 | _=>.bad
noncomputable def bT8 (a:D):M D:=fun s=>match a with
 | .str l=>.ok (.str l.reverse) s
 | .ref r=>match s[r]? with
  | some (.lst l)=>ac0 (.lst l.reverse) s
  | _=>.bad
 | _=>.bad
noncomputable def aj9:List D->Option (List Bool)
 | []=>some []
 | .bl b::l=>(aj9 l).map (b::·)
 | _=>none
noncomputable def z4:List D->Option (List Int)
 | []=>some []
 | .int i::l=>(z4 l).map (i::·)
 | _=>none
noncomputable def ae6:List D->Option (List (List Nat))
 | []=>some []
 | .str i::l=>(ae6 l).map (i::·)
 | _=>none
noncomputable def bz7 (d:D):M D:=fun s=>match d with
 | .tup l=>.ok (.int l.length) s
 | .str l=>.ok (.int l.length) s
 | .ref r=>match s[r]? with
  | some (.lst l)=>.ok (.int l.length) s
  | some (.ro l)=>.ok (.int l.length) s
  | _=>.bad
 | _=>.bad
noncomputable def isK (k:Nat)(d:D):M D:=fun s=>match d with
 | .non=>.ok (.bl false) s
 | .bl _=>.ok (.bl (k==1||k==2)) s
 | .int _=>.ok (.bl (k==1)) s
 | .str _=>.ok (.bl (k==3)) s
 | .tup _=>.ok (.bl (k==4)) s
 | .ref r=>match s[r]? with
  | some (.lst _)=>.ok (.bl (k==5)) s
  | _=>.bad
 | _=>.bad
noncomputable def bi1 (f:D->M D):List D->M D
 | [d]=>f d
 | _=>bad
noncomputable def aM5:List D->M D
 | [.str [c]]=>fun s=>if 48<=c/\c<=57 then .ok (.int ((c - 48:Nat):Int)) s else .bad
 | _=>bad
noncomputable def aX0:List D->M D
 | [.int i]=>fun s=>if 0<=i/\i<=9 then .ok (.str [48+i.toNat]) s else .bad
 | [.str w]=>fun s=>.ok (.str w) s
 | _=>bad
noncomputable def bi:Bi->List D->M D
 | .len,l=>bi1 bz7 l
 | .abs,l=>fun s=>match z4 l with|some [i]=>.ok (.int (if i<0 then -i else i)) s|_=>.bad
 | .int,l=>fun s=>match aj9 l with|some [b]=>.ok (.int (if b then 1 else 0)) s|some _=>.bad|none=>aM5 l s
 | .str,l=>aX0 l
 | .min2,l=>fun s=>match z4 l with|some [a,b]=>.ok (.int (if b<a then b else a)) s|_=>.bad
 | .max2,l=>fun s=>match z4 l with|some [a,b]=>.ok (.int (if b > a then b else a)) s|_=>.bad
 | .max3,l=>fun s=>match z4 l with|some [a,b,c]=>.ok (.int (max (max a b) c)) s|_=>.bad
 | .isInt,l=>bi1 (isK 1) l
 | .isBool,l=>bi1 (isK 2) l
 | .isStr,l=>bi1 (isK 3) l
 | .isTup,l=>bi1 (isK 4) l
 | .isList,l=>bi1 (isK 5) l
 | _,_=>bad
noncomputable def minI:List Int->Option Int
 | []=>none
 | a::l=>some (l.foldl min a)
noncomputable def bY8:List Int->Option Int
 | []=>none
 | a::l=>some (l.foldl max a)
noncomputable def ins (a:Int):List Int->List Int
 | []=>[a]
 | b::l=>if a<=b then a::b::l else b::ins a l
noncomputable def bL2:List Int->List Int
 | []=>[]
 | a::l=>ins a (bL2 l)
noncomputable def cd0 (is:List Int):Bool:=is.all (fun i=>decide (-1000000000<=i/\i<=1000000000))&&decide (is.length<=1000000)
noncomputable def mk:Mk->List D->M D
 | .tuple,l=>fun s=>.ok (.tup l) s
 | .list,l=>ac0 (.lst l)
 | .all,l=>fun s=>match aj9 l with|some bs=>.ok (.bl (bs.all id)) s|none=>.bad
 | .any,l=>fun s=>match aj9 l with|some bs=>.ok (.bl (bs.any id)) s|none=>.bad
 | .sum,l=>fun s=>match z4 l with|some is=>if cd0 is then .ok (.int is.sum) s else .bad|none=>.bad
 | .min,l=>fun s=>match(z4 l).bind minI with|some m=>.ok (.int m) s|none=>.bad
 | .max,l=>fun s=>match(z4 l).bind bY8 with|some m=>.ok (.int m) s|none=>.bad
 | .sorted,l=>fun s=>match z4 l with|some is=>ac0 (.lst ((bL2 is).map D.int)) s|none=>.bad
 | .lenset,l=>bad
noncomputable def mkD (k:Mk)(l:List D)(d:D):M D:=fun s=>match k with
 | .min=>match z4 l with|some is=>(match minI is with|some m=>.ok (.int m) s|none=>.ok d s)|none=>.bad
 | .max=>match z4 l with|some is=>(match bY8 is with|some m=>.ok (.int m) s|none=>.ok d s)|none=>.bad
 | _=>.bad
noncomputable def at0 (k v:D)(l:List (D×D)):List (D×D):=if(look k l).isSome then l.map (fun p=>if p.1=k then(p.1,v)else p)else l++[(k,v)]
noncomputable def setIx (o i v:D):Sto->R Unit:=fun s=>match o with
 | .ref r=>match s[r]? with
  | some (.lst l)=>match i with
   | .int i=>match ixn l.length i with|some j=>.ok () (s.set r (.lst (l.set j v)))|none=>.bad
   | _=>.bad
  | some (.dic l)=>if i.key&&decide (l.length<LIM)then .ok () (s.set r (.dic (at0 i v l)))else .bad
  | some (.dit l)=>if i.keyT&&decide (l.length<LIM)then .ok () (s.set r (.dit (at0 i v l)))else .bad
  | _=>.bad
 | _=>.bad
noncomputable def bQ9 (o k e:D):M D:=fun s=>match o with
 | .ref r=>match s[r]? with
  | some (.dit l)=>if k.keyT then .ok ((look k l).getD e) s else .bad
  | _=>.bad
 | _=>.bad
noncomputable def idx (s:Sto)(x:D):Nat->List D->Option Nat
 | _,[]=>none
 | n,y::l=>match eqv s DEEP y x with
  | some true=>some n
  | some false=>idx s x (n+1) l
  | none=>none
noncomputable def meth:Mt->D->List D->M D
 | .append,.ref r,[d]=>fun s=>match s[r]? with
  | some (.lst l)=>if l.length<LIM then .ok .non (s.set r (.lst (l++[d])))else .bad
  | _=>.bad
 | .pop,.ref r,[]=>fun s=>match s[r]? with
  | some (.lst l)=>match l.getLast? with|some d=>.ok d (s.set r (.lst l.dropLast))|none=>.bad
  | _=>.bad
 | .reverse,.ref r,[]=>fun s=>match s[r]? with
  | some (.lst l)=>.ok .non (s.set r (.lst l.reverse))
  | _=>.bad
 | .clear,.ref r,[]=>fun s=>match s[r]? with
  | some (.lst l)=>.ok .non (s.set r (.lst []))
  | _=>.bad
 | .index,.ref r,[d]=>fun s=>match s[r]? with
  | some (.lst l)=>match inL s d l,idx s d 0 l with|some true,some n=>.ok (.int n) s|_,_=>.bad
  | _=>.bad
 | _,_,_=>bad
noncomputable def bC8 (o:D)(l:List D):M D:=fun s=>match o with
 | .ref r=>match s[r]? with
  | some (.lst m)=>if m.length+l.length<=LIM then .ok .non (s.set r (.lst (m++l)))else .bad
  | _=>.bad
 | _=>.bad
noncomputable def aA0 (sep:List Nat):List (List Nat)->List Nat
 | []=>[]
 | [p]=>p
 | p::q::ps=>p++(sep++aA0 sep (q::ps))
noncomputable def ab3 (c:Nat):List Nat->List (List Nat)
 | []=>[[]]
 | x::l=>if x=c then[]::ab3 c l else match ab3 c l with
  | p::ps=>(x::p)::ps
  | []=>[[x]]
noncomputable def bN3 (c:Nat)(x:D):M D:=fun s=>match x with
 | .str w=>if w.length+2<=LIM then ac0 (.lst ((ab3 c w).map D.str)) s else .bad
 | _=>.bad
noncomputable def bt7 (x y:D):M D:=fun s=>match x with
 | .str []=>match y with
  | .ref r=>match s[r]? with
   | some (.lst l)=>match ae6 l with
    | some ss=>if ss.flatten.length<=LIM then .ok (.str ss.flatten) s else .bad
    | none=>.bad
   | _=>.bad
  | _=>.bad
 | .str (c::sep)=>match y with
  | .ref r=>match s[r]? with
   | some (.lst l)=>match ae6 l with
    | some ss=>if(ss.map fun w=>w.length+(c::sep).length).sum<=LIM then .ok (.str (aA0 (c::sep) ss)) s else .bad
    | none=>.bad
   | _=>.bad
  | _=>.bad
 | _=>.bad
noncomputable def extS (o d:D):M D:=fun s=>match d with
 | .ref k=>match s[k]? with
  | some (.lst l)=>bC8 o l s
  | _=>.bad
 | _=>.bad
structure Fns where
 call:String->List D->M D
 lam:String->List D->List D->M D
 con:String->Option D
 xcall:String->List D->Sto->Option (String×Sto)
 xc:String->Bool
 xt:String->Bool
 cdc:String->Option (List (List Nat×List Nat))
noncomputable def aY3 (ρ:Env)(i:Nat):M D:=fun s=>match ρ[i]? with|some (some d)=>.ok d s|_=>.bad
noncomputable def bn2 (ρ:Env):List Nat->Option (List D)
 | []=>some []
 | i::is=>match ρ[i]?,bn2 ρ is with|some (some d),some l=>some (d::l)|_,_=>none
noncomputable def z0 (ρ:Env)(caps:List (Option Nat)):Env:=caps.map fun o=>match o with|none=>none|some j=>(ρ[j]?).join
noncomputable def aB4 (ρ:Env)(i:Nat)(d:D):Option Env:=if i < ρ.length then some (ρ.set i (some d))else none
noncomputable def al0 (ρ:Env)(i:Nat):Option Env:=if i < ρ.length then some (ρ.set i none)else none
noncomputable def am8 (ρ:Env):List Nat->List D->Option Env
 | [],[]=>some ρ
 | i::is,d::l=>(aB4 ρ i d).bind fun ρ=>am8 ρ is l
 | _,_=>none
noncomputable def ac5 (ρ:Env):Tg->D->Option Env
 | .one i,d=>aB4 ρ i d
 | .tup is,.tup l=>am8 ρ is l
 | _,_=>none
structure Sq where
 its:List D
 src:List Nat
noncomputable def at7 (d:D):M Sq:=fun s=>match d with
 | .tup l=>.ok ⟨l,[]⟩ s
 | .str l=>.ok ⟨l.map fun c=>.str [c],[]⟩ s
 | .ref r=>match s[r]? with
  | some (.lst l)=>.ok ⟨l,[r]⟩ s
  | some (.ro l)=>.ok ⟨l,[]⟩ s
  | _=>.bad
 | _=>.bad
noncomputable def aO3 (d:D):M Sq:=fun s=>match d with
 | .tup l=>.ok ⟨l,[]⟩ s
 | .str l=>.ok ⟨l.map fun c=>.str [c],[]⟩ s
 | .ref r=>match s[r]? with
  | some (.lst l)=>.ok ⟨l,[r]⟩ s
  | some (.ro l)=>.ok ⟨l,[]⟩ s
  | _=>.bad
 | _=>.bad
noncomputable def bb7 (d:D):M Sq:=fun s=>match d with
 | .tup l=>.ok ⟨l,[]⟩ s
 | .ref r=>match s[r]? with
  | some (.lst l)=>.ok ⟨l,[r]⟩ s
  | some (.ro l)=>.ok ⟨l,[]⟩ s
  | _=>.bad
 | _=>.bad
noncomputable def cc0 (p:D×D):D:=match p.1 with
 | .tup l=>.tup (l++[p.2])
 | _=>.non
noncomputable def bR0 (d:D):Sto->R (List D):=fun s=>match d with
 | .ref r=>match s[r]? with
  | some (.dit l)=>if l.length<=LIM then .ok (l.map cc0) s else .bad
  | _=>.bad
 | _=>.bad
noncomputable def bA1 (d:D):Sto->R (List D):=fun s=>match d with
 | .tup l=>.ok l s
 | .str l=>.ok (l.map fun c=>.str [c]) s
 | .ref r=>match s[r]? with
  | some (.lst l)=>.ok l s
  | some (.ro l)=>.ok l s
  | _=>.bad
 | _=>.bad
noncomputable def bk5 (d:D):Sto->R (List D):=fun s=>match d with
 | .ref r=>match s[r]? with
  | some (.lst l)=>.ok l s
  | _=>.bad
 | _=>.bad
noncomputable def cd2 (j:Int):D->Option Int
 | .tup l=>match(ixn l.length j).bind fun k=>l[k]? with|some (.int z)=>some z|_=>none
 | _=>none
noncomputable def bE8 (j:Int):List D->Option (List Int)
 | []=>some []
 | d::l=>match cd2 j d with
  | some z=>(match bE8 j l with|some zs=>some (z::zs)|none=>none)
  | none=>none
noncomputable def bW7 (f:Nat->Int):Nat->Nat
 | 0=>0
 | k+1=>if f (k+1)<f (bW7 f k)then k+1 else bW7 f k
noncomputable def bx6 (j:Int)(l:List D):M D:=fun s=>match bE8 j l with
 | some ks=>(match l[bW7 (fun i=>ks.getD i 0) (l.length - 1)]? with|some d=>.ok d s|none=>.bad)
 | none=>.bad
noncomputable def W62:Int:=4611686018427387904
noncomputable def ad8 (a b:Int):List D:=(aR (b - a).toNat).map fun(k:Nat)=>.int (a+k)
noncomputable def bitsN (i:Int):Nat:=if i=0 then 0 else i.natAbs.log2+1
noncomputable def bA7 (x:D):M D:=fun s=>match x with|.int i=>.ok (.int (bitsN i:Nat)) s|_=>.bad
noncomputable def bB7 (x:D):M D:=fun s=>match x with|.int i=>if 0<=i/\i<=1000000 then ac0 (.lst (ad8 0 i)) s else .bad|_=>.bad
noncomputable def ag3 (a:Int):List D:=(aR (a+1).toNat).map fun(k:Nat)=>.int (a+(k:Int)*(-1))
noncomputable def cc8 (a b c:Int):List D:=if 0<c then(aR ((b - a+c - 1) / c).toNat).map fun(k:Nat)=>.int (a+c*k)else(aR ((a - b+(-c) - 1) / (-c)).toNat).map fun(k:Nat)=>.int (a+c*k)
noncomputable def bt8 (n:Nat):List D->List D
 | []=>[]
 | d::l=>.tup [.int n,d]::bt8 (n+1) l
noncomputable def bX1:List D->List D->List D
 | a::l,b::m=>.tup [a,b]::bX1 l m
 | _,_=>[]
noncomputable def chk (s0 s:Sto)(src:List Nat):Bool:=src.all fun r=>decide (s[r]?=s0[r]?)
noncomputable def tru {α:Type}(r:R D)(f:Bool->Sto->R α):R α:=r.bind fun d s=>match d with|.bl b=>f b s|_=>.bad
@[simp] theorem tru_bl {α:Type} (b:Bool) (s:Sto) (f:Bool->Sto->R α):tru (.ok (.bl b) s) f=f b s:=rfl
noncomputable def ad5 (ok:Sto->Bool)(g:D->Env->Sto->R (Option D×Env)):List D->Env->Sto->R (List D)
 | [],_,s=>if ok s then .ok [] s else .bad
 | d::l,ρ,s=>if ok s then(g d ρ s).bind fun p s=>(ad5 ok g l p.2 s).bind fun r s=>.ok (match p.1 with|some v=>v::r|none=>r) s else .bad
noncomputable def bJ2 (l:List D):M D:=fun s=>match ae6 l with|some ws=>if ws.flatten.length<=LIM then .ok (.str ws.flatten) s else .bad|none=>.bad
noncomputable def bY6 (F:Fns)(c:String)(x:D):M D:=fun s=>match F.cdc c,x with|some kvs,.str w=>.ok (.bl (kvs.lookup w).isSome) s|_,_=>.bad
noncomputable def bE4 (F:Fns)(c:String)(x:D):M D:=fun s=>match F.cdc c,x with|some kvs,.str w=>(match kvs.lookup w with|some v=>if v.length<=LIM then .ok (.str v) s else .bad|none=>.bad)|_,_=>.bad
mutual
noncomputable def ev (F:Fns):E->Env->Sto->R D
 | .var i,ρ,s=>aY3 ρ i s
 | .cst c,_,s=>.ok c.d s
 | .glob x,_,s=>match F.con x with|some d=>.ok d s|none=>.bad
 | .bin op a b,ρ,s=>(ev F a ρ s).bind fun x s=>(ev F b ρ s).bind fun y s=>af5 op x y s
 | .neg a,ρ,s=>(ev F a ρ s).bind fun x s=>match x with|.int i=>.ok (.int (-i)) s|_=>.bad
 | .not a,ρ,s=>tru (ev F a ρ s) fun b s=>.ok (.bl (!b)) s
 | .cmp op a b,ρ,s=>(ev F a ρ s).bind fun x s=>(ev F b ρ s).bind fun y s=>zZ op x y s
 | .chain o p a b c,ρ,s=>(ev F a ρ s).bind fun x s=>(ev F b ρ s).bind fun y s=>tru (zZ o x y s) fun k s=>if k then(ev F c ρ s).bind fun z s=>zZ p y z s else .ok (.bl false) s
 | .isN a,ρ,s=>(ev F a ρ s).bind fun x s=>.ok (.bl (decide (x=.non))) s
 | .notN a,ρ,s=>(ev F a ρ s).bind fun x s=>.ok (.bl (!decide (x=.non))) s
 | .isB a b,ρ,s=>(ev F a ρ s).bind fun x s=>match x with|.bl c=>.ok (.bl (c==b)) s|_=>.bad
 | .notB a b,ρ,s=>(ev F a ρ s).bind fun x s=>match x with|.bl c=>.ok (.bl (!(c==b))) s|_=>.bad
 | .and a b,ρ,s=>tru (ev F a ρ s) fun c s=>if c then tru (ev F b ρ s) fun c s=>.ok (.bl c) s else .ok (.bl false) s
 | .or a b,ρ,s=>tru (ev F a ρ s) fun c s=>if c then .ok (.bl true) s else tru (ev F b ρ s) fun c s=>.ok (.bl c) s
 | .ite c a b,ρ,s=>tru (ev F c ρ s) fun k s=>if k then ev F a ρ s else ev F b ρ s
 | .tup es,ρ,s=>(evs F es ρ s).bind fun l s=>.ok (.tup l) s
 | .lst es,ρ,s=>(evs F es ρ s).bind fun l s=>ac0 (.lst l) s
 | .dic .nil .nil,ρ,s=>ac0 (.dic []) s
 | .dic (.cons k .nil) (.cons v .nil),ρ,s=>(ev F k ρ (s++[.dic []])).bind fun kd s1=>(ev F v ρ s1).bind fun vd s2=>if kd.key=true/\s2[s.length]?=some (.dic [])then .ok (.ref s.length) (s2.set s.length (.dic [(kd,vd)]))else .bad
 | .dic _ _,ρ,s=>.bad
 | .dicT,_,s=>ac0 (.dit []) s
 | .dicU k v,ρ,s=>(ev F k ρ (s++[.dit []])).bind fun kd s1=>(ev F v ρ s1).bind fun vd s2=>if kd.keyT=true/\s2[s.length]?=some (.dit [])then .ok (.ref s.length) (s2.set s.length (.dit [(kd,vd)]))else .bad
 | .get2 o k d,ρ,s=>(ev F o ρ s).bind fun x s=>(ev F k ρ s).bind fun y s=>(ev F d ρ s).bind fun z s=>bQ9 x y z s
 | .bitl a,ρ,s=>(ev F a ρ s).bind fun x s=>bA7 x s
 | .lrng a,ρ,s=>(ev F a ρ s).bind fun x s=>bB7 x s
 | .fstr es,ρ,s=>(evs F es ρ s).bind fun l s=>bJ2 l s
 | .inC e c,ρ,s=>(ev F e ρ s).bind fun x s=>bY6 F c x s
 | .getC c e,ρ,s=>(ev F e ρ s).bind fun x s=>bE4 F c x s
 | .ix a b,ρ,s=>(ev F a ρ s).bind fun x s=>(ev F b ρ s).bind fun y s=>ixM x y s
 | .slL a lo,ρ,s=>(ev F a ρ s).bind fun x s=>(ev F lo ρ s).bind fun y s=>match y with|.int i=>slM x (some i) none s|_=>.bad
 | .slU a hi,ρ,s=>(ev F a ρ s).bind fun x s=>(ev F hi ρ s).bind fun y s=>match y with|.int i=>slM x none (some i) s|_=>.bad
 | .slLU a lo hi,ρ,s=>(ev F a ρ s).bind fun x s=>(ev F lo ρ s).bind fun y s=>match y with|.int i=>(ev F hi ρ s).bind (fun z s=>match z with|.int j=>slM x (some i) (some j) s|_=>.bad)|_=>.bad
 | .rev a,ρ,s=>(ev F a ρ s).bind fun x s=>bT8 x s
 | .call f as,ρ,s=>(an3 F as ρ s).bind fun l s=>F.call f l s
 | .callC f as,ρ,s=>(an3 F as ρ s).bind fun l s=>(F.call f l s).bind fun d s'=>if(d.ncl&&s'.all O.ncl)=true then .ok d s' else .bad
 | .callV i es,ρ,s=>(evs F es ρ s).bind fun l s=>match ρ[i]? with
  | some (some (.fn f))=>F.call f l s
  | some (some (.clo id cs))=>F.lam id cs l s
  | _=>.bad
 | .bi b es,ρ,s=>(evs F es ρ s).bind fun l s=>bi b l s
 | .mk k it,ρ,s=>(evL F it ρ s).bind fun q s=>mk k q s
 | .mkD k it d,ρ,s=>(evL F it ρ s).bind fun q s=>(ev F d ρ s).bind fun d s=>mkD k q d s
 | .meth m o es,ρ,s=>(ev F o ρ s).bind fun x s=>(evs F es ρ s).bind fun l s=>meth m x l s
 | .ext o it,ρ,s=>(ev F o ρ s).bind fun x s=>(evL F it ρ s).bind fun q s=>bC8 x q s
 | .extS o e,ρ,s=>(ev F o ρ s).bind fun x s=>(ev F e ρ s).bind fun y s=>extS x y s
 | .join o e,ρ,s=>(ev F o ρ s).bind fun x s=>(ev F e ρ s).bind fun y s=>bt7 x y s
 | .mks k e,ρ,s=>(ev F e ρ s).bind fun x s=>(bk5 x s).bind fun q s=>mk k q s
 | .mkDs k e d,ρ,s=>(ev F e ρ s).bind fun x s=>(ev F d ρ s).bind fun z s=>(bk5 x s).bind fun q s=>mkD k q z s
 | .minK _ e j,ρ,s=>(ev F e ρ s).bind fun x s=>(bk5 x s).bind fun q s=>bx6 j q s
 | .spl o c,ρ,s=>(ev F o ρ s).bind fun x s=>bN3 c x s
noncomputable def evs (F:Fns):Es->Env->Sto->R (List D)
 | .nil,_,s=>.ok [] s
 | .cons e es,ρ,s=>(ev F e ρ s).bind fun d s=>(evs F es ρ s).bind fun l s=>.ok (d::l) s
noncomputable def an3 (F:Fns):As->Env->Sto->R (List D)
 | .nil,_,s=>.ok [] s
 | .ex e as,ρ,s=>(ev F e ρ s).bind fun d s=>(an3 F as ρ s).bind fun l s=>.ok (d::l) s
 | .lam id caps as,ρ,s=>match bn2 ρ caps with
  | some cs=>(an3 F as ρ s).bind fun l s=>.ok (.clo id cs::l) s
  | none=>.bad
 | .fn f as,ρ,s=>(an3 F as ρ s).bind fun l s=>.ok (.fn f::l) s
noncomputable def evI (F:Fns):I->Env->Sto->R Sq
 | .seq e,ρ,s=>(ev F e ρ s).bind fun d s=>at7 d s
 | .rng1 a,ρ,s=>(ev F a ρ s).bind fun x s=>match x with|.int i=>if -W62<=i/\i<W62 then .ok ⟨ad8 0 i,[]⟩ s else .bad|_=>.bad
 | .rng2 a b,ρ,s=>(ev F a ρ s).bind fun x s=>(ev F b ρ s).bind fun y s=>match x,y with|.int i,.int j=>if(-W62<=i/\i<W62)/\-W62<=j/\j<W62 then .ok ⟨ad8 i j,[]⟩ s else .bad|_,_=>.bad
 | .rng3 a b c,ρ,s=>(ev F a ρ s).bind fun x s=>(ev F b ρ s).bind fun y s=>match x,y with|.int i,.int j=>if c=2/\(0<=i/\i<1048576)/\0<=j/\j<1048576 then .ok ⟨cc8 i j c,[]⟩ s else .bad|_,_=>.bad
 | .rngD a,ρ,s=>(ev F a ρ s).bind fun x s=>match x with|.int i=>if 0<=i/\i<1048576 then .ok ⟨ag3 i,[]⟩ s else .bad|_=>.bad
 | .enum (.seq e),ρ,s=>(ev F e ρ s).bind fun d s=>(bb7 d s).bind fun q s=>.ok ⟨bt8 0 q.its,q.src⟩ s
 | .zip (.seq a) (.seq b),ρ,s=>(ev F a ρ s).bind fun x s=>(ev F b ρ s).bind fun y s=>(aO3 x s).bind fun p s=>(aO3 y s).bind fun q s=>.ok ⟨bX1 p.its q.its,p.src++q.src⟩ s
 | .enum _,_,_=>.bad
 | .zip _ _,_,_=>.bad
 | .items e,ρ,s=>.bad
noncomputable def evL (F:Fns):L->Env->Sto->R (List D)
 | .comp tg it e caps,ρ,s=>(evI F it ρ s).bind fun q s0=>if q.its.length<=LIM then ad5 (fun s=>chk s0 s q.src) (fun d ρ s=>match ac5 ρ tg d with
   | some ρ=>(ev F e ρ s).bind fun v s=>.ok (some v,ρ) s
   | none=>.bad) q.its (z0 ρ caps) s0 else .bad
 | .compIf tg it c e caps,ρ,s=>(evI F it ρ s).bind fun q s0=>if q.its.length<=LIM then ad5 (fun s=>chk s0 s q.src) (fun d ρ s=>match ac5 ρ tg d with
   | some ρ=>tru (ev F c ρ s) fun k s=>if k then(ev F e ρ s).bind fun v s=>.ok (some v,ρ) s else .ok (none,ρ) s
   | none=>.bad) q.its (z0 ρ caps) s0 else .bad
 | .disp es,ρ,s=>evs F es ρ s
 | .seq e,ρ,s=>(ev F e ρ s).bind fun d s=>bA1 d s
 | .itm e,ρ,s=>(ev F e ρ s).bind fun d s=>bR0 d s
end
inductive Ct where
 | next (ρ:Env)|ret (d:D)|cont (ρ:Env)|brk (ρ:Env)
noncomputable def ag8 (ok:Sto->Bool)(g:D->Env->Sto->R Ct):List D->Env->Sto->R Ct
 | [],ρ,s=>if ok s then .ok (.next ρ) s else .bad
 | d::l,ρ,s=>if ok s then(g d ρ s).bind fun c s=>match c with
   | .next ρ=>ag8 ok g l ρ s
   | .cont ρ=>ag8 ok g l ρ s
   | .brk ρ=>.ok (.next ρ) s
   | .ret d=>.ok (.ret d) s
  else .bad
noncomputable def qC (c:Env->Sto->R D)(g:Env->Sto->R Ct):Nat->Env->Sto->R Ct
 | 0,_,_=>.bad
 | n+1,ρ,s=>tru (c ρ s) fun b s=>if b then(g ρ s).bind fun c' s=>match c' with
   | .next ρ=>qC c g n ρ s
   | .cont ρ=>qC c g n ρ s
   | .brk ρ=>.ok (.next ρ) s
   | .ret d=>.ok (.ret d) s
  else .ok (.next ρ) s
open Classical in
noncomputable def whl (c:Env->Sto->R D)(g:Env->Sto->R Ct)(ρ:Env)(s:Sto):R Ct :=
 if h:∃ n,qC c g n ρ s≠.bad then qC c g h.choose ρ s else .bad
mutual
noncomputable def ex (F:Fns):S->Env->Sto->R Ct
 | .asg tg e,ρ,s=>(ev F e ρ s).bind fun d s=>match ac5 ρ tg d with|some ρ=>.ok (.next ρ) s|none=>.bad
 | .setIx o i e,ρ,s=>(ev F e ρ s).bind fun d s=>(ev F o ρ s).bind fun x s=>(ev F i ρ s).bind fun y s=>(setIx x y d s).bind fun _ s=>.ok (.next ρ) s
 | .aug i e,ρ,s=>(aY3 ρ i s).bind fun x s=>(ev F e ρ s).bind fun y s=>match x,y with
  | .int a,.int b=>match aB4 ρ i (.int (a+b))with|some ρ=>.ok (.next ρ) s|none=>.bad
  | _,_=>.bad
 | .ex e,ρ,s=>(ev F e ρ s).bind fun _ s=>.ok (.next ρ) s
 | .ret e,ρ,s=>(ev F e ρ s).bind fun d s=>.ok (.ret d) s
 | .retN,_,s=>.ok (.ret .non) s
 | .ite c a b,ρ,s=>tru (ev F c ρ s) fun k s=>if k then exs F a ρ s else exs F b ρ s
 | .whl c b,ρ,s=>whl (ev F c) (exs F b) ρ s
 | .for_ tg it b,ρ,s=>(evI F it ρ s).bind fun q s0=>ag8 (fun s=>chk s0 s q.src) (fun d ρ s=>match ac5 ρ tg d with
   | some ρ=>exs F b ρ s
   | none=>.bad) q.its ρ s0
 | .pass,ρ,s=>.ok (.next ρ) s
 | .cont,ρ,s=>.ok (.cont ρ) s
 | .brk,ρ,s=>.ok (.brk ρ) s
 | .raise,_,_=>.bad
 | .und i,ρ,s=>match al0 ρ i with|some ρ=>.ok (.next ρ) s|none=>.bad
noncomputable def exs (F:Fns):Ss->Env->Sto->R Ct
 | .nil,ρ,s=>.ok (.next ρ) s
 | .cons st ss,ρ,s=>(ex F st ρ s).bind fun c s=>match c with|.next ρ=>exs F ss ρ s|c=>.ok c s
end
structure Df where
 name:String
 ps:Nat
 vs:Nat
 body:Ss
structure Lm where
 id:String
 ps:Nat
 cs:Nat
 body:E
inductive HT where
 | isi (cs:List String)|one (c:String)|not (t:HT)|or (a b:HT)
inductive Hd where
 | ret (t:HT)|iff (t:HT) (b:Bool) (h:Hd)
noncomputable def subC (c d:String):Bool:=c==d||(d == "TollError"||d == "ValueError")
noncomputable def HT.val (c:String):HT->Bool
 | .isi cs=>cs.any (subC c)
 | .one d=>subC c d
 | .not t=>!t.val c
 | .or a b=>if a.val c then true else b.val c
noncomputable def HT.ok (p:String->Bool):HT->Bool
 | .isi cs=>cs.all p
 | .one d=>p d
 | .not t=>t.ok p
 | .or a b=>a.ok p&&b.ok p
noncomputable def Hd.val (c:String):Hd->Bool
 | .ret t=>t.val c
 | .iff t b h=>if t.val c then b else h.val c
noncomputable def Hd.ok (p:String->Bool):Hd->Bool
 | .ret t=>t.ok p
 | .iff t _ h=>t.ok p&&h.ok p
inductive XB where
 | no|rais (c:String)|call (f:String) (as:As)|iteT (c:E) (a r:XB)|seq (s:S) (b:XB)
noncomputable def xB (F:Fns):XB->Env->Sto->Option (String×Sto)
 | .no,_,_=>none
 | .rais c,_,s=>if F.xc c=true then some (c,s)else none
 | .call f as,ρ,s=>match an3 F as ρ s with|.ok l s1=>F.xcall f l s1|_=>none
 | .iteT c a r,ρ,s=>match ev F c ρ s with|.ok (.bl b) s1=>if b then xB F a ρ s1 else xB F r ρ s1|_=>none
 | .seq st b,ρ,s=>match ex F st ρ s with|.ok (.next ρ1) s1=>xB F b ρ1 s1|_=>none
structure Xf where
 ps:Nat
 vs:Nat
 body:XB
structure Tf where
 ps:Nat
 vs:Nat
 body:Ss
 xb:XB
 c:String
 i:Nat
 h:Hd
 tl:Ss
structure Pr where
 df:String->Option Df
 lm:String->Option Lm
 con:String->Option D
 xf:String->Option Xf
 tf:String->Option Tf
 xc:String->Bool
 xt:String->Bool
 cdc:String->Option (List (List Nat×List Nat))
noncomputable def as3 (st st':Sto):Bool:=(aR st.length).all fun i=>decide (st'[i]?=st[i]?)||(match st'[i]? with|some o=>o.bnd st.length|none=>false)
noncomputable def zy (st:Sto)(d:D)(st':Sto):R D :=
 if as3 st st' then
  match d with
  | .ref r=>if r<st.length then .ok d (st'.take st.length)else match st'[r]? with
   | some o=>if o.bnd st.length then .ok (.ref st.length) (st'.take st.length++[o])else .ok d st'
   | none=>.bad
  | d=>if d.bnd st.length then .ok d (st'.take st.length)else .ok d st'
 else .ok d st'
noncomputable def bW6 (F:Fns)(d:Tf)(l:List D)(s:Sto):R D:=match xB F d.xb (l.map some++au d.vs none) s with
 | some (c,s')=>if c=d.c/\F.xc c=true/\d.h.ok F.xt=true then zy s (.bl (d.h.val c)) s' else .bad
 | none=>(exs F d.body (l.map some++au d.vs none) s).bind fun c s1=>match c with
  | .ret v=>zy s v s1
  | .next ρ=>(exs F d.tl ρ s1).bind fun c s2=>match c with
   | .ret v=>zy s v s2
   | .next _=>zy s .non s2
   | _=>.bad
  | _=>.bad
noncomputable def aa1 (P:Pr):Nat->Fns
 | 0=>⟨fun _ _ _=>.bad,fun _ _ _ _=>.bad,P.con,fun _ _ _=>none,P.xc,P.xt,P.cdc⟩
 | n+1=>⟨fun f l s=>match P.df f with
   | some d=>if l.length=d.ps then(exs (aa1 P n) d.body (l.map some++au d.vs none) s).bind fun c s'=>match c with
     | .ret v=>zy s v s'
     | .next _=>zy s .non s'
     | _=>.bad else .bad
   | none=>match P.tf f with
    | some d=>if l.length=d.ps then bW6 (aa1 P n) d l s else .bad
    | none=>.bad,
  fun id cs l s=>match P.lm id with
   | some d=>if l.length=d.ps/\cs.length=d.cs/\(D.nclL l&&D.nclL cs&&s.all O.ncl)=true then(ev (aa1 P n) d.body (l.map some++cs.map some) s).bind fun v s'=>zy s v s' else .bad
   | none=>.bad,P.con,
  fun f l s=>match P.xf f with
   | some d=>if l.length=d.ps then xB (aa1 P n) d.body (l.map some++au d.vs none) s else none
   | none=>none,P.xc,P.xt,P.cdc⟩
def KP (s s':Sto):Prop:=∀(i:Nat) (o:O),s[i]?=some o->∃ o',s'[i]?=some o'/\o'.kd=o.kd
theorem KP.refl (s:Sto):KP s s:=fun i o h=>⟨o,h,rfl⟩
theorem KP.trans {a b c:Sto}(h:KP a b)(g:KP b c):KP a c:=fun i o e=>by
 obtain⟨C,e1,k1⟩:=h i o e
 obtain⟨z,e2,k2⟩:=g i C e1
 exact⟨z,e2,k2.trans k1⟩
theorem KP.app (s t:Sto):KP s (s++t):=fun i o e=>⟨o,by rw[aJ (ac.mp e).1];exact e,rfl⟩
theorem KP.set {s:Sto}{r:Nat}{o C:O}(h:s[r]?=some C)(k:o.kd=C.kd):KP s (s.set r o):=fun i u e=>by
 by_cases z:r=i
 ·subst z
  rw[h]at e;cases e
  exact⟨o,bj (ac.mp h).1,k⟩
 ·exact⟨u,by rw[aW z];exact e,rfl⟩
def KR {α:Type}(s:Sto)(r:R α):Prop:=∀ a s',r=.ok a s'->KP s s'
theorem KR.bad {α:Type}{s:Sto}:KR s (.bad:R α):=fun _ _ h=>by cases h
theorem KR.ok {α:Type}{s:Sto}{a:α}:KR s (.ok a s):=fun _ _ h=>by cases h;exact KP.refl _
theorem KR.bind {α β:Type}{s:Sto}{r:R α}{f:α->Sto->R β}(h:KR s r)(g:∀ a s1,KR s1 (f a s1)):KR s (r.bind f):=fun b s' e=>by
 obtain⟨a,s1,e1,e2⟩:=R.bind_inv e
 exact(h a s1 e1).trans (g a s1 b s' e2)
theorem KR.tru {α:Type}{s:Sto}{r:R D}{f:Bool->Sto->R α}(h:KR s r)(g:∀ a s1,KR s1 (f a s1)):KR s (tru r f):=KR.bind h fun a s1=>by
 cases a with
 | bl b=>exact g b s1
 | _=>exact KR.bad
theorem KR.if {α:Type}{s:Sto}{c:Prop}[Decidable c]{a b:R α}(h:KR s a)(g:KR s b):KR s (if c then a else b):=by split;exact h;exact g
theorem KR.al {s:Sto}{o:O}:KR s (ac0 o s):=fun _ _ h=>by cases h;exact KP.app _ _
theorem KR.pu {s:Sto}{d:D}:KR s (pur d s):=fun _ _ h=>by cases h;exact KP.refl _
theorem KR.bd {s:Sto}:KR s ((DV.bad:M D) s):=fun _ _ h=>by cases h
theorem KR.im {s:Sto}{c:Prop}{_:Decidable c}{d:D}:KR s ((if c then pur d else DV.bad:M D) s):=by split;exact KR.pu;exact KR.bd
theorem KR.ia {s:Sto}{c:Prop}{_:Decidable c}{o:O}:KR s (if c then ac0 o s else .bad):=KR.if KR.al KR.bd
theorem bg6 (op:BOp)(x y:D)(s:Sto):KR s (af5 op x y s):=by
 cases op with
 | add=>cases x with
  | int a=>cases y with
   | int b=>exact KR.pu
   | _=>exact KR.bd
  | str a=>cases y with
   | str b=>exact KR.im
   | _=>exact KR.bd
  | tup a=>cases y with
   | tup b=>exact KR.im
   | _=>exact KR.bd
  | ref a=>cases y with
   | ref b =>
    show KR s (match s[a]?,s[b]? with|some (.lst l),some (.lst m)=>if l.length+m.length<=LIM then ac0 (.lst (l++m)) s else .bad|_,_=>.bad)
    split
    ·exact KR.ia
    ·exact KR.bd
   | _=>exact KR.bd
  | _=>exact KR.bd
 | sub=>cases x with
  | int a=>cases y with
   | int b=>exact KR.pu
   | _=>exact KR.bd
  | _=>exact KR.bd
 | mul=>cases x with
  | int a=>cases y with
   | int b=>exact KR.im
   | _=>exact KR.bd
  | str a=>cases y with
   | int b=>exact KR.im
   | _=>exact KR.bd
  | tup a=>cases y with
   | int b=>exact KR.im
   | _=>exact KR.bd
  | ref a=>cases y with
   | int n =>
    show KR s (match s[a]? with|some (.lst l)=>if 0<=n/\n<=1000000/\l.length*n.toNat<=LIM then ac0 (.lst (aO9 n.toNat l)) s else .bad|_=>.bad)
    split
    ·exact KR.ia
    ·exact KR.bd
   | _=>exact KR.bd
  | _=>exact KR.bd
 | fdiv=>cases x with
  | int a=>cases y with
   | int b=>exact KR.im
   | _=>exact KR.bd
  | _=>exact KR.bd
 | mod=>cases x with
  | int a=>cases y with
   | int b=>exact KR.im
   | _=>exact KR.bd
  | _=>exact KR.bd
 | pow=>cases x with
  | int a=>cases y with
   | int b=>exact KR.im
   | _=>exact KR.bd
  | _=>exact KR.bd
 | shl=>cases x with
  | int a=>cases y with
   | int b=>exact KR.im
   | _=>exact KR.bd
  | _=>exact KR.bd
 | shr=>cases x with
  | int a=>cases y with
   | int b=>exact KR.im
   | _=>exact KR.bd
  | _=>exact KR.bd
 | band=>cases x with
  | int a=>cases y with
   | int b=>exact KR.im
   | _=>exact KR.bd
  | _=>exact KR.bd
 | _=>exact KR.bd
theorem aR3 (op:COp)(x y:D)(s:Sto):KR s (zZ op x y s):=by
 have z:∀ a b:D,KR s (inM a b s):=fun a b=>by
  intro r s' h
  unfold inM at h
  split at h
  ·split at h<;>cases h;exact KP.refl _
  ·split at h
   ·split at h<;>cases h;exact KP.refl _
   ·split at h<;>cases h;exact KP.refl _
   ·split at h<;>cases h;exact KP.refl _
   ·cases h
  ·split at h<;>cases h;exact KP.refl _
  ·cases h
 cases op with
 | isin=>exact KR.bind (z x y) fun _ _=>KR.ok
 | notin=>exact KR.bind (z x y) fun _ _=>KR.ok
 | eq=>intro a s' h;change eqM x y s=_ at h;unfold eqM at h;split at h<;>cases h;exact KP.refl _
 | ne =>
  intro a s' h
  change(match eqv s DEEP x y with|some r=>R.ok (D.bl (!r)) s|none=>.bad)=_ at h
  split at h<;>cases h;exact KP.refl _
 | _ =>
  intro a s' h
  cases x with
  | int i=>(cases y with
   | int j=>cases h;exact KP.refl _
   | _=>cases h)
  | _=>cases h
theorem bY2 (x y:D)(s:Sto):KR s (ixM x y s):=by
 intro a s' h
 unfold ixM at h
 repeat' split at h
 all_goals first|(cases h;exact KP.refl _;done)|(cases h;done)
theorem bq8 (x:D)(C z:Option Int)(s:Sto):KR s (slM x C z s):=by
 intro a s' h
 unfold slM at h
 repeat' split at h
 all_goals first|(cases h;exact KP.refl _;done)|(cases h;exact KP.app _ _;done)|(cases h;done)
theorem by0 (x:D)(s:Sto):KR s (bA1 x s):=by
 intro a s' h
 unfold bA1 at h
 repeat' split at h
 all_goals first|(cases h;exact KP.refl _;done)|(cases h;done)
theorem aE3 (x:D)(s:Sto):KR s (bk5 x s):=by
 intro a s' h
 unfold bk5 at h
 repeat' split at h
 all_goals first|(cases h;exact KP.refl _;done)|(cases h;done)
theorem bx4 (x:D)(s:Sto):KR s (at7 x s):=by
 intro a s' h
 unfold at7 at h
 repeat' split at h
 all_goals first|(cases h;exact KP.refl _;done)|(cases h;done)
theorem aJ9 (x:D)(s:Sto):KR s (aO3 x s):=by
 intro a s' h
 unfold aO3 at h
 repeat' split at h
 all_goals first|(cases h;exact KP.refl _;done)|(cases h;done)
theorem aZ7 (x:D)(s:Sto):KR s (bb7 x s):=by
 intro a s' h
 unfold bb7 at h
 repeat' split at h
 all_goals first|(cases h;exact KP.refl _;done)|(cases h;done)
theorem bp9 (x y:D)(s:Sto):KR s (bt7 x y s):=by
 intro a s' h
 unfold bt7 at h
 repeat' split at h
 all_goals first|(cases h;exact KP.refl _;done)|(cases h;done)
theorem bv7 (l:List D)(s:Sto):KR s (aX0 l s):=by
 intro a s' h
 unfold aX0 at h
 split at h
 ·split at h<;>cases h;exact KP.refl _
 ·cases h;exact KP.refl _
 ·cases h
theorem bx5 (l:List D)(s:Sto):KR s (aM5 l s):=by
 intro a s' h
 unfold aM5 at h
 split at h
 ·split at h<;>cases h;exact KP.refl _
 ·cases h
theorem bU7 (b:Bi)(l:List D)(s:Sto):KR s (bi b l s):=by
 have k1:∀ f:D->M D,(∀ d,KR s (f d s))->KR s (bi1 f l s):=fun f hf=>by
  cases l with
  | nil=>exact KR.bad
  | cons d t=>(cases t with
   | nil=>exact hf d
   | cons _ _=>exact KR.bad)
 have k2:∀ k d,KR s (isK k d s):=fun k d=>by
  intro a s' h
  unfold isK at h
  repeat' split at h
  all_goals first|(cases h;exact KP.refl _;done)|(cases h;done)
 have z:∀ d,KR s (bz7 d s):=fun d=>by
  intro a s' h
  unfold bz7 at h
  repeat' split at h
  all_goals first|(cases h;exact KP.refl _;done)|(cases h;done)
 cases b with
 | len=>exact k1 _ z
 | isInt=>exact k1 _ (k2 1)
 | isBool=>exact k1 _ (k2 2)
 | isStr=>exact k1 _ (k2 3)
 | isTup=>exact k1 _ (k2 4)
 | isList=>exact k1 _ (k2 5)
 | str=>exact bv7 l s
 | int =>
  intro a s' h
  have h:(match aj9 l with|some [b]=>R.ok (D.int (if b then 1 else 0)) s|some _=>.bad|none=>aM5 l s)=.ok a s':=h
  split at h
  ·cases h;exact KP.refl _
  ·cases h
  ·exact bx5 l s a s' h
 | _ =>
  intro a s' h
  unfold bi at h
  first|(cases h;done)|(simp only at h;split at h<;>first|(cases h;exact KP.refl _;done)|(cases h;done))
theorem bI2 (k:Mk)(l:List D)(s:Sto):KR s (mk k l s):=by
 cases k with
 | tuple=>exact KR.ok
 | list=>exact KR.al
 | lenset=>exact KR.bad
 | _ =>
  intro a s' h
  unfold mk at h
  simp only at h
  repeat' split at h
  all_goals first|(cases h;exact KP.refl _;done)|(cases h;exact KP.app _ _;done)|(cases h;done)
theorem bj1 (k:Mk)(l:List D)(d:D)(s:Sto):KR s (mkD k l d s):=by
 intro a s' h
 unfold mkD at h
 repeat' split at h
 all_goals first|(cases h;exact KP.refl _;done)|(cases h;done)
theorem bu8 (m : Mt) (o : D) (l : List D) (s : Sto) : KR s (meth m o l s) := by
  have lc : ∀ {r : Nat} {f : List D -> R D}, (∀ l, s[r]? = some (.lst l) -> KR s (f l)) -> KR s (match s[r]? with|some (.lst l) => f l|_ => .bad : R D) := fun {r f} h => by
    cases e : s[r]? with
    | none => exact KR.bad
    | some ob => cases ob with
      | lst l => exact h l e
      | _ => exact KR.bad
  cases o with
  | ref r => cases m with
    | append => match l with
      | [d] => exact lc fun l e => KR.if (fun _ _ h => by cases h; exact KP.set e rfl) KR.bad
      | [] => exact KR.bd
      | _ :: _ :: _ => exact KR.bd
    | pop => match l with
      | [] => exact lc fun l e => by
                show KR s (match l.getLast? with|some d => R.ok d (s.set r (.lst l.dropLast))|none => .bad : R D)
                split
                · exact fun _ _ h => by cases h; exact KP.set e rfl
                · exact KR.bad
      | _ :: _ => exact KR.bd
    | reverse => match l with
      | [] => exact lc fun l e => fun _ _ h => by cases h; exact KP.set e rfl
      | _ :: _ => exact KR.bd
    | clear => match l with
      | [] => exact lc fun l e => fun _ _ h => by cases h; exact KP.set e rfl
      | _ :: _ => exact KR.bd
    | index => match l with
      | [d] => exact lc fun l e => by
                show KR s (match inL s d l, idx s d 0 l with|some true, some n => R.ok (.int n) s|_, _ => .bad : R D)
                split
                · exact fun _ _ h => by cases h; exact KP.refl _
                · exact KR.bad
      | [] => exact KR.bd
      | _ :: _ :: _ => exact KR.bd
    | _ => exact KR.bd
  | _ => cases m <;> exact KR.bd
theorem aQ9 (o:D)(l:List D)(s:Sto):KR s (bC8 o l s):=by
 intro a s' h
 unfold bC8 at h
 repeat' split at h
 all_goals first|(cases h;done)|(rename_i e _;cases h;exact KP.set e rfl;done)
theorem ba7 (o i v:D)(s:Sto):KR s (setIx o i v s):=by
 intro a s' h
 unfold setIx at h
 cases o with
 | ref r =>
  simp only at h
  cases e:s[r]? with
  | none=>rw[e]at h;cases h
  | some ob =>
   rw[e]at h
   cases ob with
   | lst l =>
    cases i with
    | int k=>simp only at h;split at h<;>cases h;exact KP.set e rfl
    | _=>cases h
   | dic l=>simp only at h;split at h<;>cases h;exact KP.set e rfl
   | dit l=>simp only at h;split at h<;>cases h;exact KP.set e rfl
   | _=>cases h
 | _=>cases h
theorem bv3 (o k e:D)(s:Sto):KR s (bQ9 o k e s):=by
 intro a s' h
 unfold bQ9 at h
 repeat' split at h
 all_goals first|(cases h;exact KP.refl _;done)|(cases h;done)
theorem bt6 (d:D)(s:Sto):KR s (bR0 d s):=by
 intro a s' h
 unfold bR0 at h
 repeat' split at h
 all_goals first|(cases h;exact KP.refl _;done)|(cases h;done)
structure FK (F:Fns):Prop where
 call:∀ f l s,KR s (F.call f l s)
 lam:∀ id cs l s,KR s (F.lam id cs l s)
 xcall:∀ f l s c s',F.xcall f l s=some (c,s')->KP s s'
theorem ar1 {ok:Sto->Bool}{g:D->Env->Sto->R (Option D×Env)}(hg:∀ d ρ s,KR s (g d ρ s)):∀(l:List D) (ρ:Env) (s:Sto),KR s (ad5 ok g l ρ s)
 | [],ρ,s=>KR.if KR.ok KR.bad
 | d::l,ρ,s=>KR.if (KR.bind (hg d ρ s) fun p s1=>KR.bind (ar1 hg l p.2 s1) fun r s2=>KR.ok) KR.bad
section
variable {F:Fns} (hF:FK F)
theorem aR7 (ρ:Env)(i:Nat)(s:Sto):KR s (aY3 ρ i s):=by
 intro a s' h
 unfold aY3 at h
 split at h<;>cases h;exact KP.refl _
include hF
mutual
theorem za:∀(e:E) (ρ:Env) (s:Sto),KR s (ev F e ρ s)
 | .var i,ρ,s=>aR7 ρ i s
 | .cst c,ρ,s=>KR.ok
 | .glob x,ρ,s=>by
  intro a s' h
  change(match F.con x with|some d=>R.ok d s|none=>.bad)=_ at h
  split at h<;>cases h;exact KP.refl _
 | .bin op a b,ρ,s=>KR.bind (za a ρ s) fun x s=>KR.bind (za b ρ s) fun y s=>bg6 op x y s
 | .neg a,ρ,s=>KR.bind (za a ρ s) fun x s=>by
  cases x with
  | int i=>exact KR.ok
  | _=>exact KR.bad
 | .not a,ρ,s=>KR.tru (za a ρ s) fun b s=>KR.ok
 | .cmp op a b,ρ,s=>KR.bind (za a ρ s) fun x s=>KR.bind (za b ρ s) fun y s=>aR3 op x y s
 | .chain o p a b c,ρ,s=>KR.bind (za a ρ s) fun x s=>KR.bind (za b ρ s) fun y s=>KR.tru (aR3 o x y s) fun k s=>KR.if (KR.bind (za c ρ s) fun z s=>aR3 p y z s) KR.ok
 | .isN a,ρ,s=>KR.bind (za a ρ s) fun x s=>KR.ok
 | .notN a,ρ,s=>KR.bind (za a ρ s) fun x s=>KR.ok
 | .isB a b,ρ,s=>KR.bind (za a ρ s) fun x s=>by
  cases x with
  | bl i=>exact KR.ok
  | _=>exact KR.bad
 | .notB a b,ρ,s=>KR.bind (za a ρ s) fun x s=>by
  cases x with
  | bl i=>exact KR.ok
  | _=>exact KR.bad
 | .and a b,ρ,s=>KR.tru (za a ρ s) fun c s=>KR.if (KR.tru (za b ρ s) fun c s=>KR.ok) KR.ok
 | .or a b,ρ,s=>KR.tru (za a ρ s) fun c s=>KR.if KR.ok (KR.tru (za b ρ s) fun c s=>KR.ok)
 | .ite c a b,ρ,s=>KR.tru (za c ρ s) fun k s=>KR.if (za a ρ s) (za b ρ s)
 | .tup es,ρ,s=>KR.bind (ae2 es ρ s) fun l s=>KR.ok
 | .lst es,ρ,s=>KR.bind (ae2 es ρ s) fun l s=>KR.al
 | .dic .nil .nil,ρ,s=>KR.al
 | .dic (.cons k .nil) (.cons v .nil),ρ,s=>by
  intro a s' h
  obtain⟨kd,s1,e1,h⟩:=R.bind_inv (show(ev F k ρ (s++[.dic []])).bind _=_ from h)
  obtain⟨C,s2,e2,h⟩:=R.bind_inv h
  split at h
  case isFalse=>cases h
  rename_i hc
  cases h
  exact((KP.app _ _).trans ((za k ρ _ _ _ e1).trans (za v ρ _ _ _ e2))).trans (KP.set hc.2 rfl)
 | .dic .nil (.cons _ _),ρ,s=>KR.bad
 | .dic (.cons _ .nil) .nil,ρ,s=>KR.bad
 | .dic (.cons _ .nil) (.cons _ (.cons _ _)),ρ,s=>KR.bad
 | .dic (.cons _ (.cons _ _)) _,ρ,s=>KR.bad
 | .dicT,ρ,s=>KR.al
 | .dicU k v,ρ,s=>by
  intro a s' h
  obtain⟨kd,s1,e1,h⟩:=R.bind_inv (show(ev F k ρ (s++[.dit []])).bind _=_ from h)
  obtain⟨C,s2,e2,h⟩:=R.bind_inv h
  split at h
  case isFalse=>cases h
  rename_i hc
  cases h
  exact((KP.app _ _).trans ((za k ρ _ _ _ e1).trans (za v ρ _ _ _ e2))).trans (KP.set hc.2 rfl)
 | .fstr es,ρ,s=>KR.bind (ae2 es ρ s) fun x s=>by
  intro a s' h
  unfold bJ2 at h
  split at h
  ·split at h<;>cases h;exact KP.refl _
  ·cases h
 | .inC e c,ρ,s=>KR.bind (za e ρ s) fun x s=>by
  intro a s' h
  unfold bY6 at h
  split at h<;>cases h;exact KP.refl _
 | .getC c e,ρ,s=>KR.bind (za e ρ s) fun x s=>by
  intro a s' h
  unfold bE4 at h
  split at h
  ·split at h
   ·split at h<;>cases h;exact KP.refl _
   ·cases h
  ·cases h
 | .bitl a,ρ,s=>KR.bind (za a ρ s) fun x s=>by
  intro a s' h
  unfold bA7 at h
  repeat' split at h
  all_goals first|(cases h;exact KP.refl _;done)|(cases h;done)
 | .lrng a,ρ,s=>KR.bind (za a ρ s) fun x s=>by
  intro a s' h
  unfold bB7 at h
  repeat' split at h
  all_goals first|(cases h;exact KP.app _ _;done)|(cases h;done)
 | .get2 o k d,ρ,s=>KR.bind (za o ρ s) fun x s=>KR.bind (za k ρ s) fun y s=>KR.bind (za d ρ s) fun z s=>bv3 x y z s
 | .ix a b,ρ,s=>KR.bind (za a ρ s) fun x s=>KR.bind (za b ρ s) fun y s=>bY2 x y s
 | .slL a lo,ρ,s=>KR.bind (za a ρ s) fun x s=>KR.bind (za lo ρ s) fun y s=>by
  cases y with
  | int i=>exact bq8 _ _ _ _
  | _=>exact KR.bad
 | .slU a hi,ρ,s=>KR.bind (za a ρ s) fun x s=>KR.bind (za hi ρ s) fun y s=>by
  cases y with
  | int i=>exact bq8 _ _ _ _
  | _=>exact KR.bad
 | .slLU a lo hi,ρ,s=>KR.bind (za a ρ s) fun x s=>KR.bind (za lo ρ s) fun y s=>by
  cases y with
  | int i =>
   refine KR.bind (za hi ρ s) fun z s=>?_
   cases z with
   | int j=>exact bq8 _ _ _ _
   | _=>exact KR.bad
  | _=>exact KR.bad
 | .rev a,ρ,s=>KR.bind (za a ρ s) fun x s=>by
  cases x with
  | str l=>exact KR.ok
  | ref r =>
   intro a s' h
   unfold bT8 at h
   repeat' split at h
   all_goals first|(cases h;exact KP.refl _;done)|(cases h;exact KP.app _ _;done)|(cases h;done)
  | _=>exact KR.bad
 | .call f as,ρ,s=>KR.bind (ag0 as ρ s) fun l s=>hF.call f l s
 | .callC f as,ρ,s=>KR.bind (ag0 as ρ s) fun l s=>KR.bind (hF.call f l s) fun d s'=>KR.if KR.ok KR.bad
 | .callV i es,ρ,s=>KR.bind (ae2 es ρ s) fun l s=>by
  intro a s' h
  split at h
  ·exact hF.call _ _ _ _ _ h
  ·exact hF.lam _ _ _ _ _ _ h
  ·cases h
 | .bi b es,ρ,s=>KR.bind (ae2 es ρ s) fun l s=>bU7 b l s
 | .mk k it,ρ,s=>KR.bind (aT9 it ρ s) fun q s=>bI2 k q s
 | .mkD k it d,ρ,s=>KR.bind (aT9 it ρ s) fun q s=>KR.bind (za d ρ s) fun d s=>bj1 k q d s
 | .meth m o es,ρ,s=>KR.bind (za o ρ s) fun x s=>KR.bind (ae2 es ρ s) fun l s=>bu8 m x l s
 | .ext o it,ρ,s=>KR.bind (za o ρ s) fun x s=>KR.bind (aT9 it ρ s) fun q s=>aQ9 x q s
 | .extS o e,ρ,s=>KR.bind (za o ρ s) fun x s=>KR.bind (za e ρ s) fun y s=>by
  intro a s' h
  unfold extS at h
  repeat' split at h
  all_goals first|(cases h;done)|exact aQ9 _ _ _ _ _ h
 | .join o e,ρ,s=>KR.bind (za o ρ s) fun x s=>KR.bind (za e ρ s) fun y s=>bp9 x y s
 | .mks k e,ρ,s=>KR.bind (za e ρ s) fun x s=>KR.bind (aE3 x s) fun q s=>bI2 k q s
 | .mkDs k e d,ρ,s=>KR.bind (za e ρ s) fun x s=>KR.bind (za d ρ s) fun z s=>KR.bind (aE3 x s) fun q s=>bj1 k q z s
 | .minK _ e j,ρ,s=>KR.bind (za e ρ s) fun x s=>KR.bind (aE3 x s) fun q s=>by
  intro a s' h
  unfold bx6 at h
  split at h
  ·split at h<;>cases h;exact KP.refl _
  ·cases h
 | .spl o c,ρ,s=>KR.bind (za o ρ s) fun x s=>by
  intro a s' h
  unfold bN3 at h
  split at h
  ·split at h<;>cases h;exact KP.app _ _
  ·cases h
theorem ae2:∀(es:Es) (ρ:Env) (s:Sto),KR s (evs F es ρ s)
 | .nil,ρ,s=>KR.ok
 | .cons e es,ρ,s=>KR.bind (za e ρ s) fun d s=>KR.bind (ae2 es ρ s) fun l s=>KR.ok
theorem ag0:∀(z:As) (ρ:Env) (s:Sto),KR s (an3 F z ρ s)
 | .nil,ρ,s=>KR.ok
 | .ex e z,ρ,s=>KR.bind (za e ρ s) fun d s=>KR.bind (ag0 z ρ s) fun l s=>KR.ok
 | .lam id caps z,ρ,s=>by
  intro a s' h
  change(match bn2 ρ caps with|some cs=>(an3 F z ρ s).bind fun l s=>R.ok (D.clo id cs::l) s|none=>.bad)=_ at h
  split at h
  ·exact KR.bind (ag0 z ρ s) (fun l s=>KR.ok) _ _ h
  ·cases h
 | .fn f z,ρ,s=>KR.bind (ag0 z ρ s) fun l s=>KR.ok
theorem aR0:∀(it:I) (ρ:Env) (s:Sto),KR s (evI F it ρ s)
 | .seq e,ρ,s=>KR.bind (za e ρ s) fun d s=>bx4 d s
 | .rng1 a,ρ,s=>KR.bind (za a ρ s) fun x s=>by
  cases x with
  | int i=>exact KR.if KR.ok KR.bad
  | _=>exact KR.bad
 | .rng2 a b,ρ,s=>KR.bind (za a ρ s) fun x s=>KR.bind (za b ρ s) fun y s=>by
  cases x with
  | int i=>(cases y with
   | int j=>exact KR.if KR.ok KR.bad
   | _=>exact KR.bad)
  | _=>exact KR.bad
 | .rngD a,ρ,s=>KR.bind (za a ρ s) fun x s=>by
  cases x with
  | int i=>exact KR.if KR.ok KR.bad
  | _=>exact KR.bad
 | .rng3 a b c,ρ,s=>KR.bind (za a ρ s) fun x s=>KR.bind (za b ρ s) fun y s=>by
  cases x with
  | int i=>(cases y with
   | int j=>exact KR.if KR.ok KR.bad
   | _=>exact KR.bad)
  | _=>exact KR.bad
 | .enum (.seq e),ρ,s=>KR.bind (za e ρ s) fun d s=>KR.bind (aZ7 d s) fun q s=>KR.ok
 | .zip (.seq a) (.seq b),ρ,s=>KR.bind (za a ρ s) fun x s=>KR.bind (za b ρ s) fun y s=>KR.bind (aJ9 x s) fun p s=>KR.bind (aJ9 y s) fun q s=>KR.ok
 | .enum (.rng1 _),ρ,s=>KR.bad
 | .enum (.rng2 _ _),ρ,s=>KR.bad
 | .enum (.rng3 _ _ _),ρ,s=>KR.bad
 | .enum (.rngD _),ρ,s=>KR.bad
 | .enum (.enum _),ρ,s=>KR.bad
 | .enum (.zip _ _),ρ,s=>KR.bad
 | .enum (.items _),ρ,s=>KR.bad
 | .zip (.rng1 _) _,ρ,s=>KR.bad
 | .zip (.rng2 _ _) _,ρ,s=>KR.bad
 | .zip (.rng3 _ _ _) _,ρ,s=>KR.bad
 | .zip (.rngD _) _,ρ,s=>KR.bad
 | .zip (.enum _) _,ρ,s=>KR.bad
 | .zip (.zip _ _) _,ρ,s=>KR.bad
 | .zip (.items _) _,ρ,s=>KR.bad
 | .zip (.seq _) (.rng1 _),ρ,s=>KR.bad
 | .zip (.seq _) (.rng2 _ _),ρ,s=>KR.bad
 | .zip (.seq _) (.rng3 _ _ _),ρ,s=>KR.bad
 | .zip (.seq _) (.rngD _),ρ,s=>KR.bad
 | .zip (.seq _) (.enum _),ρ,s=>KR.bad
 | .zip (.seq _) (.zip _ _),ρ,s=>KR.bad
 | .zip (.seq _) (.items _),ρ,s=>KR.bad
 | .items e,ρ,s=>KR.bad
theorem aT9:∀(it:L) (ρ:Env) (s:Sto),KR s (evL F it ρ s)
 | .comp tg it e caps,ρ,s=>KR.bind (aR0 it ρ s) fun q s0=>KR.if (ar1 (fun d ρ s=>by
   intro a s' h
   split at h
   ·exact KR.bind (za e _ s) (fun v s=>KR.ok) _ _ h
   ·cases h) _ _ _) KR.bad
 | .compIf tg it c e caps,ρ,s=>KR.bind (aR0 it ρ s) fun q s0=>KR.if (ar1 (fun d ρ s=>by
   intro a s' h
   split at h
   ·exact KR.tru (za c _ s) (fun k s=>KR.if (KR.bind (za e _ s) fun v s=>KR.ok) KR.ok) _ _ h
   ·cases h) _ _ _) KR.bad
 | .disp es,ρ,s=>ae2 es ρ s
 | .seq e,ρ,s=>KR.bind (za e ρ s) fun d s=>by0 d s
 | .itm e,ρ,s=>KR.bind (za e ρ s) fun d s=>bt6 d s
end
theorem aB7 {ok:Sto->Bool}{g:D->Env->Sto->R Ct}(hg:∀ d ρ s,KR s (g d ρ s)):∀(l:List D) (ρ:Env) (s:Sto),KR s (ag8 ok g l ρ s)
 | [],ρ,s=>KR.if KR.ok KR.bad
 | d::l,ρ,s=>KR.if (KR.bind (hg d ρ s) fun c s=>by
   cases c with
   | next ρ=>exact aB7 hg l ρ s
   | cont ρ=>exact aB7 hg l ρ s
   | brk ρ=>exact KR.ok
   | ret d=>exact KR.ok) KR.bad
theorem aB6 {c:Env->Sto->R D}{g:Env->Sto->R Ct}(hc:∀ ρ s,KR s (c ρ s))(hg:∀ ρ s,KR s (g ρ s)):∀(n:Nat) (ρ:Env) (s:Sto),KR s (qC c g n ρ s)
 | 0,ρ,s=>KR.bad
 | n+1,ρ,s=>KR.tru (hc ρ s) fun b s=>KR.if (KR.bind (hg ρ s) fun h s=>by
   cases h with
   | next ρ=>exact aB6 hc hg n ρ s
   | cont ρ=>exact aB6 hc hg n ρ s
   | brk ρ=>exact KR.ok
   | ret d=>exact KR.ok) KR.ok
mutual
theorem bI7:∀(st:S) (ρ:Env) (s:Sto),KR s (ex F st ρ s)
 | .asg tg e,ρ,s=>KR.bind (za hF e ρ s) fun d s=>by
  intro a s' h
  split at h<;>cases h;exact KP.refl _
 | .setIx o i e,ρ,s=>KR.bind (za hF e ρ s) fun d s=>KR.bind (za hF o ρ s) fun x s=>KR.bind (za hF i ρ s) fun y s=>KR.bind (ba7 x y d s) fun _ s=>KR.ok
 | .aug i e,ρ,s=>KR.bind (aR7 ρ i s) fun x s=>KR.bind (za hF e ρ s) fun y s=>by
  intro a s' h
  repeat' split at h
  all_goals first|(cases h;exact KP.refl _;done)|(cases h;done)
 | .ex e,ρ,s=>KR.bind (za hF e ρ s) fun d s=>KR.ok
 | .ret e,ρ,s=>KR.bind (za hF e ρ s) fun d s=>KR.ok
 | .retN,ρ,s=>KR.ok
 | .ite c a b,ρ,s=>KR.tru (za hF c ρ s) fun k s=>KR.if (ah6 a ρ s) (ah6 b ρ s)
 | .whl c b,ρ,s=>by
  intro r s' h
  change whl (ev F c) (exs F b) ρ s=_ at h
  unfold whl at h
  split at h
  ·exact aB6 hF (fun ρ s=>za hF c ρ s) (fun ρ s=>ah6 b ρ s) _ ρ s _ _ h
  ·cases h
 | .for_ tg it b,ρ,s=>KR.bind (aR0 hF it ρ s) fun q s0=>aB7 hF (fun d ρ s=>by
   intro a s' h
   split at h
   ·exact ah6 b _ _ _ _ h
   ·cases h) _ _ _
 | .pass,ρ,s=>KR.ok
 | .cont,ρ,s=>KR.ok
 | .brk,ρ,s=>KR.ok
 | .raise,ρ,s=>KR.bad
 | .und i,ρ,s=>by
  intro a s' h
  change(match al0 ρ i with|some ρ=>R.ok (Ct.next ρ) s|none=>.bad)=_ at h
  split at h<;>cases h;exact KP.refl _
theorem ah6:∀(h:Ss) (ρ:Env) (s:Sto),KR s (exs F h ρ s)
 | .nil,ρ,s=>KR.ok
 | .cons st h,ρ,s=>KR.bind (bI7 st ρ s) fun c s=>by
  cases c with
  | next ρ=>exact ah6 h ρ s
  | _=>exact KR.ok
end
end
theorem qa {s st:Sto}{d:D}(h:KP s st):KR s (zy s d st):=by
 have tk:∀ t,KP s (st.take s.length++t):=fun t i o e=>by
  obtain⟨C,e',k⟩:=h i o e
  have G:=(ac.mp e).1
  have F:=(ac.mp e').1
  refine⟨C,?_,k⟩
  rw[aJ (by rw[bE];omega),jc,if_pos G];exact e'
 have z:KP s (st.take s.length):=by have:=tk [];rwa [aZ]at this
 intro a s' e
 unfold zy at e
 repeat' split at e
 all_goals first|(cases e;exact z;done)|(cases e;exact tk _;done)|(cases e;exact h;done)|(cases e;done)
theorem aQ6 {F:Fns}(z:FK F):∀(b:XB) (ρ:Env) (s:Sto) (c:String) (s':Sto),xB F b ρ s=some (c,s')->KP s s'
 | .no,ρ,s,c,s',h=>by cases h
 | .rais d,ρ,s,c,s',h=>by
  change(if F.xc d=true then some (d,s)else none)=_ at h
  split at h
  ·cases h;exact KP.refl _
  ·cases h
 | .call f as,ρ,s,c,s',h=>by
  change(match an3 F as ρ s with|.ok l s1=>F.xcall f l s1|_=>none)=_ at h
  split at h
  ·rename_i l s1 e;exact(ag0 z as ρ s _ _ e).trans (z.xcall _ _ _ _ _ h)
  ·cases h
 | .iteT d a r,ρ,s,c,s',h=>by
  change(match ev F d ρ s with|.ok (.bl b) s1=>if b then xB F a ρ s1 else xB F r ρ s1|_=>none)=_ at h
  split at h
  ·rename_i b s1 e
   have k:=za z d ρ s _ _ e
   split at h
   ·exact k.trans (aQ6 z a _ _ _ _ h)
   ·exact k.trans (aQ6 z r _ _ _ _ h)
  ·cases h
 | .seq st b,ρ,s,c,s',h=>by
  change(match ex F st ρ s with|.ok (.next ρ1) s1=>xB F b ρ1 s1|_=>none)=_ at h
  split at h
  ·rename_i ρ1 s1 e;exact(bI7 z st ρ s _ _ e).trans (aQ6 z b _ _ _ _ h)
  ·cases h
theorem bv8 {F:Fns}(z:FK F)(d:Tf)(l:List D)(s:Sto):KR s (bW6 F d l s):=by
 intro a s' h
 unfold bW6 at h
 split at h
 ·rename_i c s1 e
  have k:=aQ6 z _ _ _ _ _ e
  split at h
  ·exact qa k _ _ h
  ·cases h
 ·obtain⟨c,s1,e1,h⟩:=R.bind_inv h
  have k1:=ah6 z _ _ _ _ _ e1
  cases c with
  | ret v=>exact qa k1 _ _ h
  | next ρ =>
   obtain⟨c,s2,e2,h⟩:=R.bind_inv h
   have k2:=k1.trans (ah6 z _ _ _ _ _ e2)
   cases c with
   | ret v=>exact qa k2 _ _ h
   | next ρ=>exact qa k2 _ _ h
   | _=>cases h
  | _=>cases h
theorem ad9 (P:Pr):∀ n,FK (aa1 P n)
 | 0=>⟨fun _ _ _=>KR.bad,fun _ _ _ _=>KR.bad,fun _ _ _ _ _ h=>by cases h⟩
 | n+1=>by
  refine⟨fun f l s=>?_,fun id cs l s=>?_,fun f l s c s' h=>?_⟩
  ·intro a s' h
   unfold aa1 at h
   simp only at h
   split at h
   case h_2 =>
    split at h
    case h_2=>cases h
    split at h
    case isFalse=>cases h
    exact bv8 (ad9 P n) _ _ _ _ _ h
   split at h
   case isFalse=>cases h
   obtain⟨c,s1,e1,h⟩:=R.bind_inv h
   have k1:=ah6 (ad9 P n) _ _ _ _ _ e1
   cases c with
   | ret v=>exact qa k1 _ _ h
   | next ρ=>exact qa k1 _ _ h
   | _=>cases h
  ·intro a s' h
   unfold aa1 at h
   simp only at h
   split at h
   case h_2=>cases h
   split at h
   case isFalse=>cases h
   obtain⟨v,s1,e1,h⟩:=R.bind_inv h
   exact qa (za (ad9 P n) _ _ _ _ _ e1) _ _ h
  ·unfold aa1 at h
   simp only at h
   split at h
   case h_2=>cases h
   split at h
   case isFalse=>cases h
   exact aQ6 (ad9 P n) _ _ _ _ _ h
end DV
end
open DV renaming Sto->kR,D->kS,Env->kU,R->kW,ev->kX,LIM->k7,eqv->k9,aa1->la,ab3->lb,tru->lh,DEEP->li,at0->lj,Fns->ln,Pr->lp,eqL->lq,rep->lr,kd->lu,ac7->lw,ac5->lx,Es->ly,aA4->lz,O->lC,look->lD,evs->lE,Bi->lF,Tg->lG,Ct->lH,aO9->lI,ac0->lJ,sbd->lK,chk->lL,loB->lM,inL->lN,ixn->lO,z4->lQ,minI->lR,az0->lS,M->lT,aj9->lU,ad8->lV,ag3->lW,aB4->lX,ad5->lY,aA0->lZ,E->l6,Sq->l7,z0->l8,mk->l9,Lm->ma,Df->mf,hiB->mn,slM->mq,am8->mr,an3->mw,ae6->my,bi->mz,Mk->mB,Mt->mD,As->mF,aT1->mG,COp->mH,pur->mJ,inM->mK,bi1->mM,ag8->mO,evI->mP,meth->mQ,BOp->mU,isK->mV,W62->mY,as3->mZ
open DV.D renaming bndL->kT,bnd->kY,hdI->k8,keyS->lv,nclL->lP,keyF->mR,ncl->mW
open DV.O renaming bnd->kZ
noncomputable section
namespace L2
theorem fb {α:Type}{d:α}{s:kR}{p:Prop}(h:(DV.R.bad:kW α)=.ok d s):p:=nomatch h
open PySem PySem.Spec PyProof.Rows
structure LamI where
 qual:Str
 params:bU
 body:Expr
 scope:Scope
 ps:List Str
 fr:List Str
 nm:Option (Str×Pos)
def CloAt (H:Hp)(f:Addr)(J:LamI)(cap:List V)(clos:List (Str×Addr)):Prop:=match J.nm with
 | none=>aE1 H f J.qual J.params J.body J.scope J.fr cap clos
 | some p=>an7 H f p.1 J.qual J.params [.Return (some J.body) p.2] J.scope J.fr cap clos
def au3 (H:Hp)(f:Addr)(J:LamI)(clos:List (Str×Addr)):Prop:=match J.nm with
 | none=>∃ pm c' ctv,H f=some (bA0 f (dC "<lambda>" J.qual J.params J.body J.scope clos pm (.ref c') ctv))/\H c'=some (au6 c' J.qual)
 | some p=>∃ doc pm c' ctv,H f=some (bA0 f (fR p.1 J.qual J.params [.Return (some J.body) p.2] J.scope clos .none .none doc pm none (.ref c') ctv))/\H c'=some (au6 c' J.qual)
structure Gm where
 K:ae
 fa:String->Option Addr
 lg:String->LamI->Prop
 T:List (Addr×Str)
variable (Γ:Gm)
mutual
noncomputable def RV (φ:Nat->Addr)(H:Hp):kS->V->Prop
 | .non,v=>v=.non
 | .bl b,v=>v=.bl b
 | .int i,v=>v=.int i
 | .str x,v=>v=.str ⟨x.toArray⟩/\x.length<=k7
 | .tup l,v=>∃ a xs,v=.ref a/\(SqT Γ.K H a xs/\(k8 l=true->H a=some (.tup xs)))/\RVL φ H l xs
 | .ref n,v=>v=.ref (φ n)
 | .fn f,v=>∃ a,Γ.fa f=some a/\v=.ref a
 | .clo id cs,v=>∃ f cap J clos,v=.ref f/\Γ.lg id J/\CloAt H f J cap clos/\cap.length=J.fr.length/\RVL φ H cs cap
noncomputable def RVL (φ:Nat->Addr)(H:Hp):List kS->List V->Prop
 | [],xs=>xs=[]
 | d::l,xs=>∃ x r,xs=x::r/\RV φ H d x/\RVL φ H l r
end
noncomputable def bR1:HO->Bool
 | .tup _=>true
 | .frz _ _=>true
 | .ext _=>true
 | _=>false
def Kp (H H':Hp):Prop:=∀ b o,H b=some o->bR1 o=true->H' b=some o
theorem Kp.refl (H:Hp):Kp H H:=fun _ _ h _=>h
theorem Kp.trans {H z C:Hp}(a:Kp H z)(b:Kp z C):Kp H C:=fun c o h f=>b c o (a c o h f) f
theorem Kp.new {H z:Hp}{p:Addr}{o:HO}(a:Kp H z)(h:z p=none):Kp H (upd z p o):=fun c u e f=>by
 have e1:=a c u e f
 rw[zm (zr e1 h)];exact e1
theorem Kp.put {H C:Hp}{p:Addr}{o u:HO}(a:Kp H C)(h:C p=some u)(hu:bR1 u=false):Kp H (upd C p o):=fun c v e f=>by
 have e1:=a c v e f
 rw[zm (fun z=>by subst z;rw[h]at e1;cases e1;rw[hu]at f;cases f)];exact e1
theorem Kp.sqT {K:ae}{H H':Hp}{a:Addr}{z:List V}(e:Kp H H')(h:SqT K H a z):SqT K H' a z:=by
 rcases h with(h|⟨o,h⟩)|h
 ·exact .inl (.inl (e _ _ h rfl))
 ·exact .inl (.inr ⟨o,e _ _ h rfl⟩)
 ·exact .inr h
theorem aE1.kp {H H':Hp}{f:Addr}{qual:Str}{params:bU}{body:Expr}{scope:Scope}{fr:List Str}{cap:List V}{C:List (Str×Addr)}(h:aE1 H f qual params body scope fr cap C)(e:Kp H H'):aE1 H' f qual params body scope fr cap C:=by
 obtain⟨pm,G,F,h1,J,h3,Y,Z,h6⟩:=h
 refine⟨pm,G,F,e _ _ h1 rfl,e _ _ J rfl,fun x c q=>?_,Y,Z,fun i x v a b=>?_⟩
 ·obtain⟨o,v,z,d⟩:=h3 x c q
  exact⟨o,v,e _ _ z rfl,d⟩
 ·obtain⟨c,o,u,z1,z2,z3⟩:=h6 i x v a b
  exact⟨c,o,u,z1,e _ _ z2 rfl,z3⟩
theorem an7.kp {H H':Hp}{f:Addr}{name qual:Str}{params:bU}{body:List Stmt}{scope:Scope}{fr:List Str}{cap:List V}{C:List (Str×Addr)}(h:an7 H f name qual params body scope fr cap C)(e:Kp H H'):an7 H' f name qual params body scope fr cap C:=by
 obtain⟨G,pm,J,F,h1,Y,h3,Z,h5,h6⟩:=h
 refine⟨G,pm,J,F,e _ _ h1 rfl,e _ _ Y rfl,fun x c q=>?_,Z,h5,fun i x v a b=>?_⟩
 ·obtain⟨o,v,z,d⟩:=h3 x c q
  exact⟨o,v,e _ _ z rfl,d⟩
 ·obtain⟨c,o,u,z1,z2,z3⟩:=h6 i x v a b
  exact⟨c,o,u,z1,e _ _ z2 rfl,z3⟩
theorem CloAt.kp {H H':Hp}{f:Addr}{J:LamI}{cap:List V}{z:List (Str×Addr)}(h:CloAt H f J cap z)(e:Kp H H'):CloAt H' f J cap z:=by
 unfold CloAt at h ⊢
 cases q:J.nm with
 | none=>rw[q]at h;exact aE1.kp h e
 | some p=>rw[q]at h;exact an7.kp h e
theorem au3.kp {H H':Hp}{f:Addr}{J:LamI}{z:List (Str×Addr)}(h:au3 H f J z)(e:Kp H H'):au3 H' f J z:=by
 unfold au3 at h ⊢
 cases q:J.nm with
 | none =>
  rw[q]at h
  obtain⟨Z,F,C,h1,G⟩:=h
  exact⟨Z,F,C,e _ _ h1 rfl,e _ _ G rfl⟩
 | some p =>
  rw[q]at h
  obtain⟨Y,Z,F,C,h1,G⟩:=h
  exact⟨Y,Z,F,C,e _ _ h1 rfl,e _ _ G rfl⟩
theorem CloAt.fn {K:ae}{H:Hp}{f:Addr}{J:LamI}{cap:List V}{z:List (Str×Addr)}(h:CloAt H f J cap z):bP7 K H f:=by
 unfold CloAt at h
 cases q:J.nm with
 | none=>rw[q]at h;obtain⟨Y,G,C,F,_⟩:=h;exact .inl ⟨_,F⟩
 | some p=>rw[q]at h;exact an7.fn h
structure Gw (φ:Nat->Addr)(n:Nat)(H:Hp)(φ':Nat->Addr)(H':Hp):Prop where
 map:∀ i,i<n->φ' i=φ i
 kp:Kp H H'
variable {Γ:Gm}
mutual
theorem RV.monoW {φ φ':Nat->Addr}{n:Nat}{H H':Hp}(g:Gw φ n H φ' H'):∀(d:kS) (v:V),d.bnd n=true->RV Γ φ H d v->RV Γ φ' H' d v
 | .non,_,_,h=>by unfold RV at h ⊢;exact h
 | .bl _,_,_,h=>by unfold RV at h ⊢;exact h
 | .int _,_,_,h=>by unfold RV at h ⊢;exact h
 | .str _,_,_,h=>by unfold RV at h ⊢;exact h
 | .tup l,_,b,h=>by
  unfold RV at h ⊢
  unfold kY at b
  obtain⟨a,F,e,q,r⟩:=h
  exact⟨a,F,e,⟨g.kp.sqT q.1,fun z=>g.kp _ _ (q.2 z) rfl⟩,RVL.monoW g l F b r⟩
 | .ref k,_,b,h=>by
  unfold RV at h ⊢
  unfold kY at b
  rw[g.map k (of_decide_eq_true b)];exact h
 | .fn _,_,_,h=>by unfold RV at h ⊢;exact h
 | .clo id cs,_,b,h=>by
  unfold RV at h ⊢
  unfold kY at b
  obtain⟨f,cap,J,C,e,Z,G,h3,Y⟩:=h
  exact⟨f,cap,J,C,e,Z,G.kp g.kp,h3,RVL.monoW g cs cap b Y⟩
theorem RVL.monoW {φ φ':Nat->Addr}{n:Nat}{H H':Hp}(g:Gw φ n H φ' H'):∀(l:List kS) (z:List V),kT n l=true->RVL Γ φ H l z->RVL Γ φ' H' l z
 | [],_,_,h=>by unfold RVL at h ⊢;exact h
 | d::l,_,b,h=>by
  unfold RVL at h ⊢
  unfold kT at b
  rw[ah]at b
  obtain⟨x,r,e,q,t⟩:=h
  exact⟨x,r,e,RV.monoW g d x b.1 q,RVL.monoW g l r b.2 t⟩
end
mutual
theorem zh {n m:Nat}(h:n<=m):∀ d:kS,d.bnd n=true->d.bnd m=true
 | .non,_=>rfl
 | .bl _,_=>rfl
 | .int _,_=>rfl
 | .str _,_=>rfl
 | .tup l,b=>by unfold kY at b ⊢;exact aa5 h l b
 | .ref k,b=>by unfold kY at b ⊢;exact decide_eq_true (ax (of_decide_eq_true b) h)
 | .fn _,_=>rfl
 | .clo _ l,b=>by unfold kY at b ⊢;exact aa5 h l b
theorem aa5 {n m:Nat}(h:n<=m):∀ l:List kS,kT n l=true->kT m l=true
 | [],_=>rfl
 | d::l,b=>by
  unfold kT at b ⊢
  rw[ah]at b ⊢
  exact⟨zh h d b.1,aa5 h l b.2⟩
end
theorem aa3 {n:Nat}:∀ {l:List kS},kT n l=true↔∀ d∈l,d.bnd n=true
 | []=>by unfold kT;simp
 | d::l=>by
  unfold kT
  rw[ah,aa3 (l:=l)]
  simp
theorem zJ {n:Nat}{l m:List kS}(h:kT n l=true)(h':kT n m=true):kT n (l++m)=true :=
 aa3.mpr fun d hd=>(a9.mp hd).elim (aa3.mp h d) (aa3.mp h' d)
theorem aK1 {n:Nat}{l m:List kS}(h:kT n l=true)(s:∀ d∈m,d∈l):kT n m=true:=aa3.mpr fun d hd=>aa3.mp h d (s d hd)
theorem aj1 {n:Nat}{l:List kS}{i:Nat}{d:kS}(h:kT n l=true)(e:l[i]?=some d):d.bnd n=true:=aa3.mp h d (aS e)
section
variable {φ:Nat->Addr} {H:Hp}
theorem RVL.nil:RVL Γ φ H [] []:=by unfold RVL;rfl
theorem RVL.cons {d:kS}{l:List kS}{x:V}{h:List V}(a:RV Γ φ H d x)(b:RVL Γ φ H l h):RVL Γ φ H (d::l) (x::h):=by unfold RVL;exact⟨x,h,rfl,a,b⟩
theorem RVL.unnil {z:List V}(h:RVL Γ φ H [] z):z=[]:=by unfold RVL at h;exact h
theorem RVL.uncons {d:kS}{l:List kS}{z:List V}(h:RVL Γ φ H (d::l) z):∃ x r,z=x::r/\RV Γ φ H d x/\RVL Γ φ H l r:=by unfold RVL at h;exact h
theorem RVL.length:∀ {l:List kS} {z:List V},RVL Γ φ H l z->z.length=l.length
 | [],_,h=>by rw[h.unnil];rfl
 | d::l,_,h=>by
  obtain⟨x,r,rfl,_,t⟩:=h.uncons
  rw[aI,aI,RVL.length t]
theorem RVL.get:∀ {l:List kS} {z:List V} {i:Nat} {d:kS},RVL Γ φ H l z->l[i]?=some d->∃ x,z[i]?=some x/\RV Γ φ H d x
 | [],_,_,_,_,e=>by simp at e
 | d::l,_,0,d',h,e=>by
  obtain⟨x,r,rfl,q,t⟩:=h.uncons
  have e':d=d':=by simpa using e
  subst e'
  exact⟨x,rfl,q⟩
 | d::l,_,i+1,_,h,e=>by
  obtain⟨x,r,rfl,q,t⟩:=h.uncons
  obtain⟨y,e1,e2⟩:=RVL.get (i:=i) t (by simpa using e)
  exact⟨y,by simpa using e1,e2⟩
theorem RVL.append:∀ {l m:List kS} {z ys:List V},RVL Γ φ H l z->RVL Γ φ H m ys->RVL Γ φ H (l++m) (z++ys)
 | [],_,_,_,h,h'=>by rw[h.unnil];exact h'
 | d::l,_,_,_,h,h'=>by
  obtain⟨x,r,rfl,q,t⟩:=h.uncons
  exact .cons q (RVL.append t h')
theorem RVL.drop:∀ {l:List kS} {z:List V} (n:Nat),RVL Γ φ H l z->RVL Γ φ H (l.drop n) (z.drop n)
 | _,_,0,h=>h
 | [],_,n+1,h=>by rw[h.unnil];exact .nil
 | d::l,_,n+1,h=>by
  obtain⟨x,r,rfl,q,t⟩:=h.uncons
  exact RVL.drop n t
theorem RVL.take:∀ {l:List kS} {z:List V} (n:Nat),RVL Γ φ H l z->RVL Γ φ H (l.take n) (z.take n)
 | _,_,0,h=>.nil
 | [],_,n+1,h=>by rw[h.unnil];exact .nil
 | d::l,_,n+1,h=>by
  obtain⟨x,r,rfl,q,t⟩:=h.uncons
  exact .cons q (RVL.take n t)
theorem RVL.set:∀ {l:List kS} {z:List V} {d:kS} {x:V} (i:Nat),RVL Γ φ H l z->RV Γ φ H d x->RVL Γ φ H (l.set i d) (z.set i x)
 | [],_,_,_,_,h,_=>by rw[h.unnil];exact .nil
 | d::l,_,_,_,0,h,q=>by
  obtain⟨x,r,rfl,_,t⟩:=h.uncons
  exact .cons q t
 | d::l,_,_,_,i+1,h,q=>by
  obtain⟨x,r,rfl,C,t⟩:=h.uncons
  exact .cons C (RVL.set i t q)
theorem RVL.reverse:∀ {l:List kS} {z:List V},RVL Γ φ H l z->RVL Γ φ H l.reverse z.reverse
 | [],_,h=>by rw[h.unnil];exact .nil
 | d::l,_,h=>by
  obtain⟨x,r,rfl,q,t⟩:=h.uncons
  rw[d4,d4]
  exact(RVL.reverse t).append (.cons q .nil)
theorem RV.intE {i:Int}{v:V}(h:RV Γ φ H (.int i) v):v=.int i:=by unfold RV at h;exact h
theorem RV.blE {i:Bool}{v:V}(h:RV Γ φ H (.bl i) v):v=.bl i:=by unfold RV at h;exact h
theorem RV.nonE {v:V}(h:RV Γ φ H .non v):v=.non:=by unfold RV at h;exact h
theorem RV.strE {x:List Nat}{v:V}(h:RV Γ φ H (.str x) v):v=.str ⟨x.toArray⟩:=by unfold RV at h;exact h.1
theorem RV.strL {x:List Nat}{v:V}(h:RV Γ φ H (.str x) v):x.length<=k7:=by unfold RV at h;exact h.2
theorem RV.tupE {l:List kS}{v:V}(h:RV Γ φ H (.tup l) v):∃ a z,v=.ref a/\SqT Γ.K H a z/\RVL Γ φ H l z:=by unfold RV at h;obtain⟨a,z,e,q,r⟩:=h;exact⟨a,z,e,q.1,r⟩
theorem RV.tupZ {l:List kS}{v:V}(h:RV Γ φ H (.tup l) v):∃ a z,(v=.ref a/\(k8 l=true->H a=some (.tup z)))/\SqT Γ.K H a z/\RVL Γ φ H l z:=by unfold RV at h;obtain⟨a,z,e,q,r⟩:=h;exact⟨a,z,⟨e,q.2⟩,q.1,r⟩
theorem RVL.tonil {l:List kS}(h:RVL Γ φ H l []):l=[]:=ci.mp h.length.symm
theorem RV.tupK {l:List kS}{v:V}(h:RV Γ φ H (.tup l) v)(z:k8 l=true):∃ a C,v=.ref a/\H a=some (.tup C)/\RVL Γ φ H l C:=by unfold RV at h;obtain⟨a,C,e,q,r⟩:=h;exact⟨a,C,e,q.2 z,r⟩
theorem RV.refE {n:Nat}{v:V}(h:RV Γ φ H (.ref n) v):v=.ref (φ n):=by unfold RV at h;exact h
theorem RV.intI {i:Int}:RV Γ φ H (.int i) (.int i):=by unfold RV;rfl
theorem RV.blI {i:Bool}:RV Γ φ H (.bl i) (.bl i):=by unfold RV;rfl
theorem RV.nonI:RV Γ φ H .non .non:=by unfold RV;rfl
theorem RV.strI {x:List Nat}(h:x.length<=k7):RV Γ φ H (.str x) (.str ⟨x.toArray⟩):=by unfold RV;exact⟨rfl,h⟩
theorem RV.tupI {l:List kS}{a:Addr}{z:List V}(h:H a=some (.tup z))(q:RVL Γ φ H l z):RV Γ φ H (.tup l) (.ref a):=by unfold RV;exact⟨a,z,rfl,⟨SqT.of h,fun _=>h⟩,q⟩
theorem RV.tupC {l:List kS}{a:Addr}{C:List V}(h:SqT Γ.K H a C)(z:k8 l=true->H a=some (.tup C))(q:RVL Γ φ H l C):RV Γ φ H (.tup l) (.ref a):=by unfold RV;exact⟨a,C,rfl,⟨h,z⟩,q⟩
theorem RV.refI {n:Nat}:RV Γ φ H (.ref n) (.ref (φ n)):=by unfold RV;rfl
end
theorem bz3 {n:Nat}{l:List kS}(h:k8 (lI n l)=true):k8 l=true:=by
 cases n with
 | zero=>cases h
 | succ n =>
  cases l with
  | nil => 
   have:∀ k,lI k ([]:List kS)=[]:=fun k=>by
    induction k with
    | zero=>rfl
    | succ k ih=>show[]++lI k []=[];rw[ih];rfl
   rw[this]at h;cases h
  | cons a l =>
   have e:lI (n+1) (a::l)=a::(l++lI n (a::l)):=rfl
   rw[e]at h
   cases a with
   | int _=>rfl
   | non=>rfl
   | tup _=>rfl
   | _=>cases h
theorem aT7 {α:Type}{l:List α}{C F:Option Int}(h:(lz l C F).length=l.length):lz l C F=l:=by
 unfold lz at h ⊢
 rw[bE,eC]at h
 by_cases z:l=[]
 ·subst z;simp
 ·have hp:=iP.mpr z
  have e1:lM l.length C=0:=by omega
  rw[e1]at h ⊢
  rw[fF]
  exact d7 (by omega)
def SqF (K:ae)(H:Hp)(a:Addr)(xs:List V):Prop:=SqL K H a xs/\∀ H',Kp H H'->SqL K H' a xs
noncomputable def aW4:kS->Option Key
 | .int i=>some (.inl i)
 | .str x=>some (.inr ⟨x.toArray⟩)
 | _=>none
noncomputable def fOf:kS->Option FK
 | .non=>some none
 | .int i=>some (some (.inl i))
 | .str x=>some (some (.inr ⟨x.toArray⟩))
 | _=>none
noncomputable def qt {κ:Type}(f:kS->Option κ):List kS->Option (List κ)
 | []=>some []
 | d::l=>match f d,qt f l with
  | some k,some r=>some (k::r)
  | _,_=>none
noncomputable def nOf:kS->Option NI
 | .tup l=>(qt fOf l).map .inr
 | d=>(fOf d).map .inl
noncomputable def ap3:List kS->Option (List NI):=qt nOf
noncomputable def bG0:kS->Option (List NI)
 | .tup l=>if(k8 l&&(l.all lv&&decide (l.length<=1000)))=true then ap3 l else none
 | _=>none
noncomputable def RVD {κ:Type}(kf:kS->Option κ)(Γ:Gm)(φ:Nat->Addr)(H:Hp):List (kS×kS)->List (κ×V)->Prop
 | [],kvs=>kvs=[]
 | (d,e)::l,kvs=>∃ k v r,kvs=(k,v)::r/\kf d=some k/\RV Γ φ H e v/\RVD kf Γ φ H l r
variable (Γ)
noncomputable def RO (φ:Nat->Addr)(H:Hp)(a:Addr):lC->Prop
 | .lst l=>∃ xs,H a=some (.lst xs)/\RVL Γ φ H l xs
 | .ro l=>∃ xs,SqF Γ.K H a xs/\RVL Γ φ H l xs
 | .dic l=>∃ kvs,H a=some (.dK kvs)/\RVD aW4 Γ φ H l kvs
 | .dit l=>∃ kvs,H a=some (.dT kvs)/\RVD bG0 Γ φ H l kvs
 | .ins _ _=>False
noncomputable abbrev okd:lC->Nat:=DV.O.kd
noncomputable def isMut:lC->Bool
 | .ro _=>false
 | _=>true
structure Rp (φ:Nat->Addr)(H:Hp)(s:kR):Prop where
 inj:∀(i j:Nat) (o o':lC),s[i]?=some o->s[j]?=some o'->isMut o=true->isMut o'=true->φ i=φ j->i=j
 obj:∀(i:Nat) (o:lC),s[i]?=some o->RO Γ φ H (φ i) o
 wf:∀(i:Nat) (o:lC),s[i]?=some o->o.bnd s.length=true
 tab:TabsH Γ.T H
structure RE (φ:Nat->Addr)(H:Hp)(n:Nat)(ρ:kU)(σ:St):Prop where
 len:ρ.length=σ.length
 val:∀(i:Nat) (d:kS),ρ[i]?=some (some d)->d.bnd n=true/\∃ v,σ[i]?=some (some v)/\RV Γ φ H d v
structure Gr (φ:Nat->Addr)(s:kR)(H:Hp)(φ':Nat->Addr)(s':kR)(H':Hp):Prop where
 w:Gw φ s.length H φ' H'
 le:s.length<=s'.length
 new:∀ i:Nat,s.length<=i->i<s'.length->H (φ' i)=none
 kd:∀(i:Nat) (o o':lC),s[i]?=some o->s'[i]?=some o'->okd o'=okd o
 st:∀ b,H b≠none->H' b≠none
 fr:∀ b o,H b=some o->(∀ ps,o≠.tbl ps)->(∀(i:Nat) (ob:lC),s[i]?=some ob->isMut ob=true->φ i≠b)->H' b=some o
variable {Γ}
theorem br6 {o z:lC}(h:okd z=okd o)(m:isMut z=true):isMut o=true:=by
 cases o with
 | ro _=>cases z with
  | ro _=>cases m
  | _=>cases h
 | _=>rfl
theorem Gr.mu {φ φ':Nat->Addr}{s s':kR}{H H':Hp}(g:Gr φ s H φ' s' H')(i:Nat)(o h:lC)(e:s[i]?=some o)(e':s'[i]?=some h)(m:isMut h=true):isMut o=true:=br6 (g.kd i o h e e') m
theorem Gr.refl (φ:Nat->Addr)(s:kR)(H:Hp):Gr φ s H φ s H:=⟨⟨fun _ _=>rfl,Kp.refl H⟩,aj _,fun i F z=>absurd z (by omega),fun i o C e e'=>by rw[e]at e';cases e';rfl,fun _ h=>h,fun _ _ h _ _=>h⟩
theorem Gr.trans {φ φ1 φ2:Nat->Addr}{s s1 s2:kR}{H Z J:Hp}(a:Gr φ s H φ1 s1 Z)(b:Gr φ1 s1 Z φ2 s2 J)(_h:s.length<=s1.length):Gr φ s H φ2 s2 J:=by
 refine⟨⟨fun i C=>(b.w.map i (ax C a.le)).trans (a.w.map i C),a.w.kp.trans b.w.kp⟩,ak a.le b.le,fun i h1 h2=>?_,fun i o o' e e'=>?_,fun c h=>b.st c (a.st c h),fun c o h nt ne=>?_⟩
 ·by_cases C:i<s1.length
  ·rw[b.w.map i C];exact a.new i h1 C
  ·have e:=b.new i (by omega) h2
   cases q:H (φ2 i)with
   | none=>rfl
   | some o=>exact absurd e (a.st _ (by rw[q];simp))
 ·have hl:i<s1.length:=ax (ac.mp e).1 a.le
  obtain⟨F,e1⟩:∃ F,s1[i]?=some F:=⟨s1[i],ai hl⟩
  exact(b.kd i F o' e1 e').trans (a.kd i o F e e1)
 ·refine b.fr c o (a.fr c o h nt ne) nt fun i ob e m z=>?_
  by_cases C:i<s.length
  ·obtain⟨G,Y⟩:∃ G,s[i]?=some G:=⟨s[i],ai C⟩
   exact ne i G Y (a.mu i G ob Y e m) (by rw[<-a.w.map i C];exact z)
  ·have:=a.new i (by omega) (ac.mp e).1
   rw[z,h]at this;cases this
theorem RV.mono {φ φ':Nat->Addr}{s s':kR}{H H':Hp}(g:Gr φ s H φ' s' H')(d:kS)(v:V)(b:d.bnd s.length=true)(h:RV Γ φ H d v):RV Γ φ' H' d v:=RV.monoW g.w d v b h
theorem RVL.mono {φ φ':Nat->Addr}{s s':kR}{H H':Hp}(g:Gr φ s H φ' s' H')(d:List kS)(v:List V)(b:kT s.length d=true)(h:RVL Γ φ H d v):RVL Γ φ' H' d v:=RVL.monoW g.w d v b h
theorem RE.mono {φ φ':Nat->Addr}{s s':kR}{H H':Hp}{ρ:kU}{σ:St}(h:RE Γ φ H s.length ρ σ)(g:Gr φ s H φ' s' H')(hn:s.length<=s'.length):RE Γ φ' H' s'.length ρ σ :=
 ⟨h.len,fun i d e=>by
  obtain⟨b,v,e1,e2⟩:=h.val i d e
  exact⟨zh hn d b,v,e1,RV.mono g d v b e2⟩⟩
def ad4 (Γ:Gm)(φ:Nat->Addr)(s:kR)(H:Hp)(d:kS)(s':kR)(Q:VK):Prop :=
 ∀ v φ' H',Gr φ s H φ' s' H'->s.length<=s'.length->d.bnd s'.length=true->RV Γ φ' H' d v->Rp Γ φ' H' s'->Q v H'
theorem ad4.trans {φ φ1:Nat->Addr}{s s1 s':kR}{H z:Hp}{d:kS}{Q:VK}(h:ad4 Γ φ s H d s' Q)(g:Gr φ s H φ1 s1 z)(l:s.length<=s1.length):ad4 Γ φ1 s1 z d s' Q :=
 fun v φ' H' g' C b r p=>h v φ' H' (g.trans g' l) (ak l C) b r p
theorem ad4.here {φ:Nat->Addr}{s:kR}{H:Hp}{d:kS}{Q:VK}{v:V}(h:ad4 Γ φ s H d s Q)(p:Rp Γ φ H s)(b:d.bnd s.length=true)(r:RV Γ φ H d v):Q v H :=
 h v φ H (Gr.refl φ s H) (aj _) b r p
theorem RVD.monoW {κ:Type}{C:kS->Option κ}{φ φ':Nat->Addr}{n:Nat}{H H':Hp}(g:Gw φ n H φ' H'):∀(l:List (kS×kS)) (z:List (κ×V)),kT n (l.map (·.2))=true->RVD C Γ φ H l z->RVD C Γ φ' H' l z
 | [],_,_,h=>h
 | (d,e)::l,_,b,h=>by
  obtain⟨k,v,r,e1,e2,F,G⟩:=h
  rw[aL]at b
  unfold kT at b
  rw[ah]at b
  exact⟨k,v,r,e1,e2,RV.monoW g e v b.1 F,RVD.monoW g l r b.2 G⟩
theorem RO.mono {φ φ':Nat->Addr}{n:Nat}{H H':Hp}{a:Addr}{o:lC}(h:RO Γ φ H a o)(g:Gw φ n H φ' H')(b:o.bnd n=true)(hl:isMut o=true->∀ u,H a=some u->H' a=some u):RO Γ φ' H' a o:=by
 cases o with
 | lst l =>
  unfold kZ at b
  obtain⟨C,e,r⟩:=h
  exact⟨C,hl rfl _ e,RVL.monoW g l C b r⟩
 | ro l =>
  unfold kZ at b
  obtain⟨C,e,r⟩:=h
  exact⟨C,⟨e.2 _ g.kp,fun F k=>e.2 _ (g.kp.trans k)⟩,RVL.monoW g l C b r⟩
 | dic l =>
  unfold kZ at b
  rw[ah]at b
  obtain⟨z,e,r⟩:=h
  exact⟨z,hl rfl _ e,RVD.monoW g l z b.2 r⟩
 | dit l =>
  unfold kZ at b
  rw[ah]at b
  obtain⟨z,e,r⟩:=h
  exact⟨z,hl rfl _ e,RVD.monoW g l z b.2 r⟩
 | ins _ _=>exact h.elim
theorem RO.there {φ:Nat->Addr}{H:Hp}{a:Addr}{o:lC}(h:RO Γ φ H a o)(m:isMut o=true):∃ u,H a=some u/\bR1 u=false/\∀ ps,u≠.tbl ps:=by
 cases o with
 | lst l=>obtain⟨z,e,_⟩:=h;exact⟨_,e,rfl,by nofun⟩
 | ro l=>cases m
 | dic l=>obtain⟨z,e,_⟩:=h;exact⟨_,e,rfl,by nofun⟩
 | dit l=>obtain⟨z,e,_⟩:=h;exact⟨_,e,rfl,by nofun⟩
 | ins _ _=>exact h.elim
theorem Rp.addr {φ:Nat->Addr}{H:Hp}{s:kR}(p:Rp Γ φ H s){i:Nat}{l:List kS}(e:s[i]?=some (.lst l)):∃ h,H (φ i)=some (.lst h)/\RVL Γ φ H l h:=p.obj i _ e
theorem zS {n m:Nat}(h:n<=m)(o:lC)(b:o.bnd n=true):o.bnd m=true:=by
 cases o with
 | lst l=>unfold kZ at b ⊢;exact aa5 h l b
 | ro l=>unfold kZ at b ⊢;exact aa5 h l b
 | dic l =>
  unfold kZ at b ⊢
  rw[ah]at b ⊢
  exact⟨aa5 h _ b.1,aa5 h _ b.2⟩
 | dit l =>
  unfold kZ at b ⊢
  rw[ah]at b ⊢
  exact⟨aa5 h _ b.1,aa5 h _ b.2⟩
 | ins c l=>unfold kZ at b ⊢;exact aa5 h _ b
theorem TabsH.keepF {T:List (Addr×Str)}{H H':Hp}(h:TabsH T H)(k:∀ b o,(bR1 o=true\/∃ ps,o=.tbl ps)->H b=some o->H' b=some o):TabsH T H':=fun y hy=>by
 obtain⟨ps,e,t,c⟩:=h y hy
 refine⟨ps,k _ _ (.inr ⟨_,rfl⟩) e,t,fun pos z q=>?_⟩
 obtain⟨C,e1,e2⟩:=c pos z q
 exact⟨C,e1,k _ _ (.inl rfl) e2⟩
theorem Rp.new {φ:Nat->Addr}{H:Hp}{s:kR}{p:Addr}{u:HO}{o:lC}(r:Rp Γ φ H s)(hp:H p=none)(hb:o.bnd s.length=true)
  (ho:∀ φ' H',Gw φ s.length H φ' H'->H' p=some u->RO Γ φ' H' p o):Gr φ s H (fun i=>if i=s.length then p else φ i) (s++[o]) (upd H p u)/\Rp Γ (fun i=>if i=s.length then p else φ i) (upd H p u) (s++[o]):=by
 have g:Gw φ s.length H (fun i=>if i=s.length then p else φ i) (upd H p u):=⟨fun i z=>if_neg (az z),(Kp.refl H).new hp⟩
 have key:∀ i C,(s++[o])[i]?=some C->(i<s.length/\s[i]?=some C)\/(i=s.length/\C=o):=fun i C e=>by
  rcases d8 i s.length with h|h|h
  ·rw[aJ h]at e;exact .inl ⟨h,e⟩
  ·subst h;simp at e;exact .inr ⟨rfl,e.symm⟩
  ·rw[bG (by simp;omega)]at e;cases e
 refine⟨⟨g,by simp,fun i h1 Z=>?_,fun i o1 o2 e1 e2=>?_,fun b hb=>?_,fun b ob hb _ _=>by rw[zm (zr hb hp)];exact hb⟩,fun i j F G ei ej Y J e=>?_,fun i C e=>?_,fun i C e=>?_,r.tab.new hp⟩
 ·rw[aG,dt]at Z
  rw[if_pos (by omega)];exact hp
 ·rcases key i o2 e2 with⟨_,e⟩|⟨z,_⟩
  ·rw[e1]at e;cases e;rfl
  ·have:=(ac.mp e1).1;omega
 ·unfold upd;split
  ·simp
  ·exact hb
 ·rcases key i F ei with⟨z,ei⟩|⟨z,rfl⟩<;>rcases key j G ej with⟨hj,ej⟩|⟨hj,ej'⟩
  ·rw[if_neg (az z),if_neg (az hj)]at e
   exact r.inj i j F G ei ej Y J e
  ·rw[if_neg (az z),if_pos hj]at e
   obtain⟨u,hu,_,_⟩:=(r.obj i F ei).there Y
   rw[e,hp]at hu;cases hu
  ·rw[if_neg (az hj),if_pos z]at e
   obtain⟨u,hu,_,_⟩:=(r.obj j G ej).there J
   rw[<-e,hp]at hu;cases hu
  ·rw[z,hj]
 ·rcases key i C e with⟨z,e⟩|⟨z,rfl⟩
  ·show RO Γ _ _ (if i=s.length then p else φ i) C
   rw[if_neg (az z)]
   exact(r.obj i C e).mono g (r.wf i C e) fun _ v hv=>by rw[zm (zr hv hp)];exact hv
  ·show RO Γ _ _ (if i=s.length then p else φ i) C
   rw[if_pos z]
   exact ho _ _ g zv
 ·rw[aG,dt]
  rcases key i C e with⟨z,e⟩|⟨z,rfl⟩
  ·exact zS (dB _) _ (r.wf i C e)
  ·exact zS (dB _) _ hb
theorem Rp.set {φ:Nat->Addr}{H:Hp}{s:kR}{k:Nat}{u:HO}{o F:lC}(r:Rp Γ φ H s)(hk:s[k]?=some F)(Y:isMut F=true)(hb:o.bnd s.length=true)
  (ho:∀ H',Gw φ s.length H φ H'->H' (φ k)=some u->RO Γ φ H' (φ k) o) (a2:okd o=okd F:=by rfl):Gr φ s H φ (s.set k o) (upd H (φ k) u)/\Rp Γ φ (upd H (φ k) u) (s.set k o):=by
 obtain⟨v0,G,f0,a0⟩:=(r.obj k F hk).there Y
 have a1:k<s.length:=(ac.mp hk).1
 have g:Gw φ s.length H φ (upd H (φ k) u):=⟨fun _ _=>rfl,(Kp.refl H).put G f0⟩
 have key:∀ i C,(s.set k o)[i]?=some C->(i≠k/\s[i]?=some C)\/(i=k/\C=o):=fun i C e=>by
  by_cases h:i=k
  ·subst h;rw[bj a1]at e;exact .inr ⟨rfl,(av e).symm⟩
  ·rw[aW (cM h)]at e;exact .inl ⟨h,e⟩
 have mm:∀ i C,(s.set k o)[i]?=some C->isMut C=true->∃ J,s[i]?=some J/\isMut J=true:=fun i C e m=>by
  rcases key i C e with⟨_,e⟩|⟨h,_⟩
  ·exact⟨C,e,m⟩
  ·exact⟨F,by rw[h];exact hk,Y⟩
 refine⟨⟨g,by simp,fun i h1 h2=>by rw[aP]at h2;omega,fun i o1 Z e1 e2=>?_,fun b hb=>?_,fun b ob hb nt ne=>by rw[zm (cM (ne k F hk Y))];exact hb⟩,fun i j oi oj ei ej mi mj e=>?_,fun i C e=>?_,fun i C e=>?_,r.tab.keepF fun b v hv q=>?_⟩
 ·rcases key i Z e2 with⟨_,e⟩|⟨h,rfl⟩
  ·rw[e1]at e;cases e;rfl
  ·subst h;rw[hk]at e1;cases e1;exact a2
 ·unfold upd;split
  ·simp
  ·exact hb
 ·obtain⟨o1,e1,m1⟩:=mm i oi ei mi
  obtain⟨Z,e2,m2⟩:=mm j oj ej mj
  exact r.inj i j o1 Z e1 e2 m1 m2 e
 ·rcases key i C e with⟨h,e⟩|⟨h,rfl⟩
  ·refine(r.obj i C e).mono g (r.wf i C e) fun m v hv=>?_
   rw[zm fun z=>h (r.inj i k C F e hk m Y z)];exact hv
  ·subst h
   exact ho _ g zv
 ·rw[aP]
  rcases key i C e with⟨_,e⟩|⟨_,rfl⟩
  ·exact r.wf i C e
  ·exact hb
 ·rw[zm fun z=>by
   subst z;rw[G]at q;cases q
   rcases hv with h|⟨ps,h⟩
   ·rw[f0]at h;cases h
   ·exact a0 _ h]
  exact q
theorem Rp.same {φ:Nat->Addr}{H H':Hp}{s:kR}(r:Rp Γ φ H s)(e:ae3 H H'):Gr φ s H φ s H'/\Rp Γ φ H' s:=by
 have g:Gw φ s.length H φ H':=⟨fun _ _=>rfl,fun b o h _=>e b o h⟩
 exact⟨⟨g,aj _,fun i F z=>absurd z (by omega),fun i o C e e'=>by rw[e]at e';cases e';rfl,fun b hb=>by
  cases q:H b with
  | none=>exact absurd q hb
  | some o=>rw[e b o q];simp,fun b o h _ _=>e b o h⟩,r.inj,fun i o h=>(r.obj i o h).mono g (r.wf i o h) fun _ u hu=>e _ u hu,r.wf,r.tab.same e⟩
section
variable {φ:Nat->Addr} {H:Hp} {s:kR} {Q:VK}
theorem ad4.alloc {l:List kS}{z:List V}(h:ad4 Γ φ s H (.ref s.length) (s++[.lst l]) Q)(r:Rp Γ φ H s)(hl:RVL Γ φ H l z)(hb:kT s.length l=true){p:Addr}(hp:H p=none):Q (.ref p) (upd H p (.lst z)):=by
 obtain⟨g,C⟩:=r.new (o:=.lst l) (u:=.lst z) hp hb fun φ' H' g e=>⟨z,e,RVL.monoW g l z hb hl⟩
 have:=h (.ref p) _ _ g (by simp) (by unfold kY;simp) (by unfold RV;simp) C
 exact this
theorem ad4.tup {l:List kS}{z:List V}(h:ad4 Γ φ s H (.tup l) s Q)(r:Rp Γ φ H s)(hl:RVL Γ φ H l z)(hb:kT s.length l=true){p:Addr}(hp:H p=none):Q (.ref p) (upd H p (.tup z)):=by
 obtain⟨g,C⟩:=r.same (H':=upd H p (.tup z)) ((ae3.refl H).new hp)
 exact h _ _ _ g (aj _) (by unfold kY;exact hb) (RV.tupI zv (RVL.mono g l z hb hl)) C
theorem ad4.put {k:Nat}{l l0:List kS}{z:List V}{d:kS}{v:V}(h:ad4 Γ φ s H d (s.set k (.lst l)) Q)(r:Rp Γ φ H s)(hk:s[k]?=some (.lst l0))(hl:RVL Γ φ H l z)(hb:kT s.length l=true)
  (hd:d.bnd s.length=true) (hv:RV Γ φ H d v):Q v (upd H (φ k) (.lst z)):=by
 obtain⟨g,C⟩:=r.set (o:=.lst l) (u:=.lst z) hk rfl hb fun H' g e=>⟨z,e,RVL.monoW g l z hb hl⟩
 exact h _ _ _ g (by simp) (by rw[aP];exact hd) (RV.mono g d v hd hv) C
end
variable {Γ:Gm}
theorem keyOf_inj {a b:kS}{k:Key}(ha:aW4 a=some k)(hb:aW4 b=some k):a=b:=by
 cases a with
 | int i =>
  cases ha
  cases b with
  | int j=>cases hb;rfl
  | str y=>cases hb
  | _=>cases hb
 | str x =>
  cases ha
  cases b with
  | int j=>cases hb
  | str y =>
   have h:=av hb
   injection h with h
   injection h with h
   have z:y=x:=by simpa using h
   rw[z]
  | _=>cases hb
 | _=>cases ha
theorem ai4 {d:kS}(h:d.key=true):∃ k,aW4 d=some k:=by
 cases d with
 | int i=>exact⟨_,rfl⟩
 | str x=>exact⟨_,rfl⟩
 | _=>cases h
theorem aH6 {φ:Nat->Addr}{H:Hp}{d:kS}{k:Key}{v:V}(h:aW4 d=some k)(r:RV Γ φ H d v):v=kV k:=by
 cases d with
 | int i=>cases h;exact r.intE
 | str x=>cases h;exact r.strE
 | _=>cases h
def bk9 {κ:Type}(kf:kS->Option κ):Prop:=∀ {a b:kS} {k:κ},kf a=some k->kf b=some k->a=b
theorem aT0:bk9 fOf:=fun {a b k} ha hb=>by
 cases a with
 | non=>cases ha;cases b with|non=>rfl|_=>cases hb
 | int i=>cases ha;cases b with|int j=>cases hb;rfl|_=>cases hb
 | str x=>cases ha;cases b with|str y=>cases hb;rfl|_=>cases hb
 | _=>cases ha
theorem al7 {κ:Type}{f:kS->Option κ}(h:bk9 f):∀ {a b:List kS} {k:List κ},qt f a=some k->qt f b=some k->a=b
 | [],[],k,_,_=>rfl
 | [],y::b,k,ha,hb=>by
  cases ha
  unfold qt at hb
  split at hb<;>cases hb
 | x::a,[],k,ha,hb=>by
  cases hb
  unfold qt at ha
  split at ha<;>cases ha
 | x::a,y::b,k,ha,hb=>by
  unfold qt at ha hb
  split at ha
  ·rename_i k1 r1 e1 e2
   cases ha
   split at hb
   ·rename_i k2 r2 z C
    cases hb
    rw[h e1 z,al7 h e2 C]
   ·cases hb
  ·cases ha
theorem nOf_cases {d:kS}{k:NI}(h:nOf d=some k):(∃ l r,d=.tup l/\qt fOf l=some r/\k=.inr r)\/∃ f,fOf d=some f/\k=.inl f:=by
 cases d with
 | tup l =>
  obtain⟨r,e,q⟩:=bR.mp (show(qt fOf l).map .inr=some k from h)
  exact .inl ⟨l,r,rfl,e,q.symm⟩
 | non=>obtain⟨r,e,q⟩:=bR.mp (show(fOf .non).map .inl=some k from h);exact .inr ⟨r,e,q.symm⟩
 | int i=>obtain⟨r,e,q⟩:=bR.mp (show(fOf (.int i)).map .inl=some k from h);exact .inr ⟨r,e,q.symm⟩
 | str i=>obtain⟨r,e,q⟩:=bR.mp (show(fOf (.str i)).map .inl=some k from h);exact .inr ⟨r,e,q.symm⟩
 | _=>cases h
theorem by3:bk9 nOf:=fun {a b k} ha hb=>by
 rcases nOf_cases ha with⟨l,r,rfl,e,rfl⟩|⟨f,e,rfl⟩
 ·rcases nOf_cases hb with⟨m,h,rfl,e',q⟩|⟨f,e',q⟩
  ·cases q;rw[al7 aT0 e e']
  ·cases q
 ·rcases nOf_cases hb with⟨m,h,rfl,e',q⟩|⟨f',e',q⟩
  ·cases q
  ·cases q;exact aT0 e e'
theorem aq2 {d:kS}{k:List NI}(h:bG0 d=some k):∃ l,d=.tup l/\(k8 l=true/\l.all lv=true/\l.length<=1000)/\ap3 l=some k:=by
 cases d with
 | tup l =>
  have h:(if(k8 l&&(l.all lv&&decide (l.length<=1000)))=true then ap3 l else none)=some k:=h
  by_cases z:(k8 l&&(l.all lv&&decide (l.length<=1000)))=true
  ·rw[if_pos z]at h;rw[ah,ah]at z;exact⟨l,rfl,⟨z.1,z.2.1,of_decide_eq_true z.2.2⟩,h⟩
  ·rw[if_neg z]at h;cases h
 | _=>cases h
theorem keyT_inj:bk9 bG0:=fun ha hb=>by
 obtain⟨l,rfl,_,z⟩:=aq2 ha
 obtain⟨m,rfl,_,h⟩:=aq2 hb
 rw[al7 by3 z h]
theorem ag6 {κ:Type}{f:kS->Option κ}{p:kS->Bool}(hp:∀ d,p d=true->∃ k,f d=some k):∀ {l:List kS},l.all p=true->∃ k,qt f l=some k
 | [],_=>⟨[],rfl⟩
 | d::l,h=>by
  rw[bW,ah]at h
  obtain⟨k,hk⟩:=hp d h.1
  obtain⟨r,hr⟩:=ag6 hp h.2
  exact⟨k::r,by unfold qt;rw[hk,hr]⟩
theorem aZ1 (d:kS)(h:d.keyF=true):∃ k,fOf d=some k:=by
 cases d with
 | int i=>exact⟨_,rfl⟩
 | str x=>exact⟨_,rfl⟩
 | non=>exact⟨_,rfl⟩
 | _=>cases h
theorem aF7 {l:List kS}(h:(DV.D.tup l).keyS=true):k8 l=true/\l.all mR=true/\l.length<=1000:=by
 have h:(k8 l&&(l.all mR&&decide (l.length<=1000)))=true:=h
 rw[ah,ah]at h
 exact⟨h.1,h.2.1,of_decide_eq_true h.2.2⟩
theorem aY2 (d:kS)(h:d.keyS=true):∃ k,nOf d=some k:=by
 cases d with
 | tup l=>obtain⟨r,e⟩:=ag6 aZ1 (aF7 h).2.1;exact⟨.inr r,by show(qt fOf l).map _=_;rw[e];rfl⟩
 | int i=>exact⟨_,rfl⟩
 | str x=>exact⟨_,rfl⟩
 | non=>exact⟨_,rfl⟩
 | _=>cases h
theorem af0 {d:kS}(h:d.keyT=true):∃ k,bG0 d=some k:=by
 cases d with
 | tup l =>
  have h:(k8 l&&(l.all lv&&decide (l.length<=1000)))=true:=h
  have h':=h
  rw[ah,ah]at h'
  obtain⟨k,hk⟩:=ag6 aY2 h'.2.1
  exact⟨k,by show(if(k8 l&&(l.all lv&&decide (l.length<=1000)))=true then ap3 l else none)=some k;rw[if_pos h];exact hk⟩
 | _=>cases h
theorem bY9 {φ:Nat->Addr}{H:Hp}{d:kS}{k:FK}{v:V}(h:fOf d=some k)(r:RV Γ φ H d v):v=fV k:=by
 cases d with
 | non=>cases h;exact r.nonE
 | int i=>cases h;exact r.intE
 | str x=>cases h;exact r.strE
 | _=>cases h
theorem bM2 {φ:Nat->Addr}{H:Hp}:∀ {l:List kS} {k:List FK} {z:List V},qt fOf l=some k->RVL Γ φ H l z->z=k.map fV
 | [],k,z,h,r=>by cases h;exact r.unnil
 | d::l,k,z,h,r=>by
  unfold qt at h
  split at h
  ·rename_i k1 r1 e1 e2
   cases h
   obtain⟨x,ys,rfl,F,C⟩:=r.uncons
   rw[bY9 e1 F,bM2 e2 C,aL]
  ·cases h
theorem aS9 {φ:Nat->Addr}{H:Hp}:∀ {l:List kS} {k:List NI} {F:List V},ap3 l=some k->l.all lv=true->RVL Γ φ H l F->cR (NAt H) k F
 | [],k,F,h,_,r=>by cases h;cases r.unnil;exact .nil
 | d::l,k,F,h,z,r=>by
  unfold ap3 qt at h
  rw[bW,ah]at z
  split at h
  ·rename_i k1 r1 e1 e2
   cases h
   obtain⟨x,ys,rfl,C,G⟩:=r.uncons
   refine .cons ?_ (aS9 e2 z.2 G)
   rcases nOf_cases e1 with⟨m,q,rfl,e,rfl⟩|⟨f,e,rfl⟩
   ·obtain⟨a,F,e',J,Y⟩:=C.tupK (aF7 z.1).1
    rw[bM2 e Y]at J
    exact⟨a,e',J⟩
   ·exact bY9 e C
  ·cases h
theorem as7 {φ:Nat->Addr}{H:Hp}{d:kS}{k:List NI}{v:V}(h:bG0 d=some k)(r:RV Γ φ H d v):∃ b,v=.ref b/\NK H k b:=by
 obtain⟨l,rfl,z,hk⟩:=aq2 h
 obtain⟨a,F,e,G,C⟩:=r.tupK z.1
 exact⟨a,e,F,G,aS9 hk z.2.1 C⟩
section
variable {κ:Type} [DecidableEq κ] {kf:kS->Option κ}
theorem RVD.val {φ:Nat->Addr}{H:Hp}{d:kS}{k:κ}(F:bk9 kf)(hk:kf d=some k):∀ {l:List (kS×kS)} {C:List (κ×V)},RVD kf Γ φ H l C->(lD d l=none/\aA2 C k=none)\/∃ e v,lD d l=some e/\aA2 C k=some v/\RV Γ φ H e v/\e∈l.map (·.2)
 | [],C,h=>by
  have h:C=[]:=h
  subst h
  exact .inl ⟨rfl,rfl⟩
 | (a,e)::l,C,h=>by
  obtain⟨G,v,r,rfl,e2,J,Y⟩:=h
  by_cases z:a=d
  ·subst z
   rw[hk]at e2;cases e2
   exact .inr ⟨e,v,by unfold lD;rw[if_pos rfl],ah9 rfl,J,by simp⟩
  ·have Z:¬ G=k:=fun q=>z (F e2 (by rw[q];exact hk))
   have e5:lD d ((a,e)::l)=lD d l:=by
    conv=>lhs;unfold lD
    rw[if_neg z]
   rw[e5,ai9 (show ¬(G,v).1=k from Z)]
   rcases RVD.val F hk Y with q|⟨e',v',q1,q2,q3,q4⟩
   ·exact .inl q
   ·exact .inr ⟨e',v',q1,q2,q3,by simp at q4 ⊢;exact .inr q4⟩
theorem RVD.repl {φ:Nat->Addr}{H:Hp}{d e:kS}{k:κ}{v:V}(F:bk9 kf)(hk:kf d=some k)(hv:RV Γ φ H e v):∀ {l:List (kS×kS)} {C:List (κ×V)},RVD kf Γ φ H l C->RVD kf Γ φ H (l.map fun p=>if p.1=d then(p.1,e)else p) (C.map fun G=>if G.1=k then(G.1,v)else G)
 | [],C,h=>by
  have h:C=[]:=h
  subst h;exact(rfl:([]:List (κ×V))=[])
 | (a,e0)::l,C,h=>by
  obtain⟨J,v0,r,rfl,e2,Z,Y⟩:=h
  rw[aL,aL]
  by_cases z:a=d
  ·subst z
   rw[hk]at e2;cases e2
   rw[if_pos rfl,if_pos rfl]
   exact⟨k,v,_,rfl,hk,hv,RVD.repl F hk hv Y⟩
  ·have zk:¬ J=k:=fun q=>z (F e2 (by rw[q];exact hk))
   rw[if_neg z,if_neg zk]
   exact⟨J,v0,_,rfl,e2,Z,RVD.repl F hk hv Y⟩
theorem RVD.snoc {φ:Nat->Addr}{H:Hp}{d e:kS}{k:κ}{v:V}(F:bk9 kf)(hk:kf d=some k)(hv:RV Γ φ H e v):∀ {l:List (kS×kS)} {z:List (κ×V)},RVD kf Γ φ H l z->RVD kf Γ φ H (l++[(d,e)]) (z++[(k,v)])
 | [],z,h=>by
  have h:z=[]:=h
  subst h;exact⟨k,v,[],rfl,hk,hv,rfl⟩
 | (a,e0)::l,z,h=>by
  obtain⟨J,v0,r,rfl,e2,C,G⟩:=h
  exact⟨J,v0,_,rfl,e2,C,RVD.snoc F hk hv G⟩
theorem RVD.put {φ:Nat->Addr}{H:Hp}{d e:kS}{k:κ}{v:V}{l:List (kS×kS)}{z:List (κ×V)}(C:bk9 kf)(hk:kf d=some k)(hv:RV Γ φ H e v)(h:RVD kf Γ φ H l z):RVD kf Γ φ H (lj d e l) (aq0 z k v):=by
 unfold lj aq0
 rw[as4]
 rcases h.val C hk with⟨F,q2⟩|⟨e',v',F,q2,_⟩
 ·rw[F,q2];exact h.snoc C hk hv
 ·rw[F,q2];exact h.repl C hk hv
theorem RVD.get {φ:Nat->Addr}{H:Hp}:∀ {l:List (kS×kS)} {z:List (κ×V)} {i:Nat} {d e:kS},RVD kf Γ φ H l z->l[i]?=some (d,e)->∃ k v,z[i]?=some (k,v)/\kf d=some k/\RV Γ φ H e v
 | [],_,_,_,_,_,h=>by cases h
 | (a,b)::l,z,0,d,e,h,q=>by
  obtain⟨k,v,r,rfl,e2,C,F⟩:=h
  cases q
  exact⟨k,v,rfl,e2,C⟩
 | (a,b)::l,z,i+1,d,e,h,q=>by
  obtain⟨k,v,r,rfl,e2,C,F⟩:=h
  exact RVD.get (i:=i) F (show l[i]?=some (d,e)from q)
theorem RVD.keys {φ:Nat->Addr}{H:Hp}:∀ {l:List (kS×kS)} {C:List (κ×V)},RVD kf Γ φ H l C->∀ kv∈C,∃ d,kf d=some kv.1
 | [],C,h,kv,hk=>by
  have h:C=[]:=h
  subst h;cases hk
 | (a,b)::l,C,h,kv,hk=>by
  obtain⟨k,v,r,rfl,e2,G,F⟩:=h
  rcases aH.mp hk with z|z
  ·subst z;exact⟨a,e2⟩
  ·exact RVD.keys F kv z
theorem RVD.length {φ:Nat->Addr}{H:Hp}:∀ {l:List (kS×kS)} {z:List (κ×V)},RVD kf Γ φ H l z->z.length=l.length
 | [],z,h=>by
  have h:z=[]:=h
  subst h;rfl
 | (a,e)::l,z,h=>by
  obtain⟨G,v,r,rfl,e2,F,C⟩:=h
  rw[aI,aI,RVD.length C]
end
theorem aE7 {n:Nat}{d e:kS}{l:List (kS×kS)}(h:(DV.O.dic l).bnd n=true)(hd:d.bnd n=true)(C:e.bnd n=true):(DV.O.dic (lj d e l)).bnd n=true:=by
 unfold kZ at h ⊢
 rw[ah]at h ⊢
 obtain⟨G,F⟩:=h
 have g1:=aa3.mp G
 have z:=aa3.mp F
 unfold lj
 refine⟨aa3.mpr fun x hx=>?_,aa3.mpr fun x hx=>?_⟩
 ·obtain⟨p,hp,rfl⟩:=aM.mp hx
  split at hp
  ·obtain⟨q,hq,rfl⟩:=aM.mp hp
   split
   ·exact g1 _ (bK (f:=(·.1)) hq)
   ·exact g1 _ (bK (f:=(·.1)) hq)
  ·rcases a9.mp hp with q|q
   ·exact g1 _ (bK (f:=(·.1)) q)
   ·rw[aY.mp q];exact hd
 ·obtain⟨p,hp,rfl⟩:=aM.mp hx
  split at hp
  ·obtain⟨q,hq,rfl⟩:=aM.mp hp
   split
   ·exact C
   ·exact z _ (bK (f:=(·.2)) hq)
  ·rcases a9.mp hp with q|q
   ·exact z _ (bK (f:=(·.2)) q)
   ·rw[aY.mp q];exact C
theorem bf0 {n:Nat}{d e:kS}{l:List (kS×kS)}(h:(DV.O.dit l).bnd n=true)(hd:d.bnd n=true)(z:e.bnd n=true):(DV.O.dit (lj d e l)).bnd n=true:=aE7 h hd z
theorem ai7 {f:kS->kS->Option Bool}{a b:kS}{l m:List kS}{z:Bool}(h:lq f (a::l) (b::m)=some z):∃ x y,f a b=some x/\lq f l m=some y/\z=(x&&y):=by
 unfold lq at h
 cases e1:f a b with
 | none=>rw[e1]at h;cases h
 | some x =>
  cases e2:lq f l m with
  | none=>rw[e1,e2]at h;cases h
  | some y=>rw[e1,e2]at h;exact⟨x,y,rfl,rfl,(av h).symm⟩
theorem aQ7 {f:kS->kS->Option Bool}:∀ {l m:List kS} {z:Bool},lq f l m=some z->∃ e:Nat->Bool,(∀ j d d',l[j]?=some d->m[j]?=some d'->f d d'=some (e j))/\((l.length==m.length)&&(aR (min l.length m.length)).all e)=z
 | [],[],z,h=>by
  unfold lq at h
  cases h
  exact⟨fun _=>true,fun j d d' h=>by simp at h,by simp⟩
 | [],b::m,z,h=>by
  unfold lq at h
  cases h
  exact⟨fun _=>true,fun j d d' h=>by simp at h,by simp⟩
 | a::l,[],z,h=>by
  unfold lq at h
  cases h
  exact⟨fun _=>true,fun j d d' G F=>by simp at F,by simp⟩
 | a::l,b::m,z,h=>by
  obtain⟨x,y,e1,e2,J⟩:=ai7 h
  obtain⟨e,G,F⟩:=aQ7 e2
  refine⟨fun j=>match j with|0=>x|j+1=>e j,fun j d d' g1 C=>?_,?_⟩
  ·cases j with
   | zero=>simp at g1 C;subst g1;subst C;exact e1
   | succ j=>exact G j d d' (by simpa using g1) (by simpa using C)
  ·rw[aI,aI,show min (l.length+1) (m.length+1)=min l.length m.length+1 by omega,gx,bW,kt,J,<-F]
   have:((l.length+1==m.length+1)=(l.length==m.length)):=by
    by_cases q:l.length=m.length
    ·simp[q]
    ·have:¬ l.length+1=m.length+1:=by omega
     simp[q]
   rw[this]
   show((l.length==m.length)&&(x&&(aR _).all e))=_
   cases x<;>cases(l.length==m.length)<;>simp
section
variable {X:Cx} {pins:List (Addr×Obj)} {σ:St} {H:Hp} {sh:af} {φ:Nat->Addr} {s:kR}
theorem am5 (I:Inv X pins σ H sh){a:Addr}{C ys:List V}(h:H a=some (.lst C))(h':SqT X.K H a ys):False:=by
 rcases h' with(z|⟨o,z⟩)|⟨o,its,n,hk,_⟩
 ·rw[h]at z;cases z
 ·rw[h]at z;cases z
 ·have:=(I.bs a o (I.mod.kin a o hk)).2
  rw[h]at this;cases this
theorem rv_two (I:Inv X pins σ H sh)(hK:X.K=Γ.K)(R:Rp Γ φ H s){a b:kS}{x:V}(G:RV Γ φ H a x)(z:RV Γ φ H b x)(n1:lu s a≠9)(C:lu s b≠9):a=b\/∃ l m p J,a=.tup l/\b=.tup m/\x=.ref p/\RVL Γ φ H l J/\RVL Γ φ H m J:=by
 have F:∀ {r:Nat},lu s (.ref r)≠9->∃ l,s[r]?=some (.lst l):=fun {r} h=>by
  have h:(match s[r]? with|some (DV.O.lst l)=>4|_=>9:Nat)≠9:=h
  cases hs:s[r]? with
  | none=>rw[hs]at h;exact absurd rfl h
  | some o =>
   rw[hs]at h
   cases o with
   | lst l=>exact⟨l,rfl⟩
   | _=>exact absurd rfl h
 cases a with
 | non=>have e:=G.nonE;subst e;cases b with
  | non=>exact .inl rfl
  | bl _=>cases z.blE
  | int _=>cases z.intE
  | str _=>cases z.strE
  | tup _=>obtain⟨_,_,e,_⟩:=z.tupE;cases e
  | ref _=>cases z.refE
  | fn _=>exact absurd rfl C
  | clo _ _=>exact absurd rfl C
 | bl p=>have e:=G.blE;subst e;cases b with
  | non=>cases z.nonE
  | bl _=>cases z.blE;exact .inl rfl
  | int _=>cases z.intE
  | str _=>cases z.strE
  | tup _=>obtain⟨_,_,e,_⟩:=z.tupE;cases e
  | ref _=>cases z.refE
  | fn _=>exact absurd rfl C
  | clo _ _=>exact absurd rfl C
 | int p=>have e:=G.intE;subst e;cases b with
  | non=>cases z.nonE
  | bl _=>cases z.blE
  | int _=>cases z.intE;exact .inl rfl
  | str _=>cases z.strE
  | tup _=>obtain⟨_,_,e,_⟩:=z.tupE;cases e
  | ref _=>cases z.refE
  | fn _=>exact absurd rfl C
  | clo _ _=>exact absurd rfl C
 | str p=>have e:=G.strE;subst e;cases b with
  | non=>cases z.nonE
  | bl _=>cases z.blE
  | int _=>cases z.intE
  | str q =>
   have e':p.toArray=q.toArray:=Str.mk.inj (V.str.inj z.strE)
   have a0:p=q:=by simpa using congrArg jh e'
   subst a0;exact .inl rfl
  | tup _=>obtain⟨_,_,e,_⟩:=z.tupE;cases e
  | ref _=>cases z.refE
  | fn _=>exact absurd rfl C
  | clo _ _=>exact absurd rfl C
 | tup l =>
  obtain⟨p,J,e,Y,d1⟩:=G.tupE;subst e;cases b with
  | non=>cases z.nonE
  | bl _=>cases z.blE
  | int _=>cases z.intE
  | str _=>cases z.strE
  | tup m =>
   obtain⟨p',ys,e,q2,Z⟩:=z.tupE
   cases e
   rw[<-hK]at Y q2
   rw[I.tuple_inj q2 Y]at Z
   exact .inr ⟨l,m,p,J,rfl,rfl,rfl,d1,Z⟩
  | ref r =>
   cases z.refE
   obtain⟨m,hm⟩:=F C
   obtain⟨ys,hy,_⟩:=R.addr hm
   rw[<-hK]at Y
   exact(am5 I hy Y).elim
  | fn _=>exact absurd rfl C
  | clo _ _=>exact absurd rfl C
 | ref r =>
  have e:=G.refE;subst e
  obtain⟨l,hl⟩:=F n1
  obtain⟨J,hx,_⟩:=R.addr hl
  cases b with
  | non=>cases z.nonE
  | bl _=>cases z.blE
  | int _=>cases z.intE
  | str _=>cases z.strE
  | tup m =>
   obtain⟨p',ys,e,q2,Z⟩:=z.tupE
   cases e
   rw[<-hK]at q2
   exact(am5 I hx q2).elim
  | ref r' =>
   obtain⟨m,hm⟩:=F C
   have e:φ r=φ r':=V.ref.inj z.refE
   rw[R.inj r r' _ _ hl hm rfl rfl e]
   exact .inl rfl
  | fn _=>exact absurd rfl C
  | clo _ _=>exact absurd rfl C
 | fn _=>exact absurd rfl n1
 | clo _ _=>exact absurd rfl n1
theorem qr {a b:kS}{z:Bool}(h:lw s a b=some z):mG a b=some z\/(mG a b=none/\lS (lu s a) (lu s b)=false/\z=false):=by
 unfold lw at h
 cases e:mG a b with
 | some w=>rw[e]at h;exact .inl h
 | none =>
  rw[e]at h
  cases q:lS (lu s a) (lu s b)with
  | true=>rw[q]at h;cases h
  | false=>rw[q]at h;exact .inr ⟨rfl,rfl,(av h).symm⟩
theorem be4 {a b:kS}{z:Bool}(h:mG a b=some z):lu s a≠9/\lu s b≠9:=by
 cases a<;>cases b<;>first|(cases h;done)|(constructor<;>(intro z;cases z))
theorem af3 {a b:kS}{z:Bool}(h:lw s a b=some z):lu s a≠9/\lu s b≠9:=by
 rcases qr h with h|⟨_,h,_⟩
 ·exact be4 h
 ·unfold lS at h
  simp only[eS,beq_eq_false_iff_ne]at h
  exact⟨h.1.1,h.1.2⟩
theorem aB0 {a:kS}{z:Bool}(h:lw s a a=some z):z=true:=by
 rcases qr h with h|⟨_,h,_⟩
 ·cases a<;>cases h<;>first|rfl|exact beq_self_eq_true _
 ·unfold lS at h;simp at h
theorem aJ8 (I:Inv X pins σ H sh)(hK:X.K=Γ.K)(R:Rp Γ φ H s):∀(n:Nat) (a b:kS) (x:V) (z:Bool),k9 s n a b=some z->RV Γ φ H a x->RV Γ φ H b x->z=true:=by
 have J:∀(a b:kS) (x:V) (z:Bool),lw s a b=some z->RV Γ φ H a x->RV Γ φ H b x->z=true:=by
  intro a b x z h F C
  rcases rv_two I hK R F C (af3 h).1 (af3 h).2 with e|⟨l,m,_,_,rfl,rfl,_⟩
  ·subst e;exact aB0 h
  ·rcases qr h with h|⟨_,h,_⟩
   ·cases h
   ·unfold lS at h;simp[lu]at h
 intro n
 induction n with
 | zero=>intro a b x z h;unfold k9 at h;exact J a b x z h
 | succ n ih =>
  have a0:∀(l m:List kS) (G:List V) (z:Bool),lq (k9 s n) l m=some z->RVL Γ φ H l G->RVL Γ φ H m G->z=true:=by
   intro l
   induction l with
   | nil =>
    intro m G z h F C
    cases m with
    | nil=>unfold lq at h;exact(av h).symm
    | cons b m=>obtain⟨x,r,e,_⟩:=C.uncons;rw[F.unnil]at e;cases e
   | cons a l ihl =>
    intro m G z h F C
    cases m with
    | nil=>obtain⟨x,r,e,_⟩:=F.uncons;rw[C.unnil]at e;cases e
    | cons b m =>
     obtain⟨p,q,e1,e2,ez⟩:=ai7 h
     obtain⟨v,r,rfl,g1,g2⟩:=F.uncons
     obtain⟨v',r',e,g3,g4⟩:=C.uncons
     cases e
     rw[ez,ih a b v p e1 g1 g3,ihl m r q e2 g2 g4];rfl
  intro a b x z h F C
  unfold k9 at h
  split at h
  ·rename_i l m
   obtain⟨a,G,rfl,q1,d1⟩:=F.tupE
   obtain⟨b,ys,e,q2,Y⟩:=C.tupE
   cases e
   rw[<-hK]at q1 q2
   rw[I.tuple_inj q2 q1]at Y
   exact a0 l m G z h d1 Y
  ·rename_i p q
   split at h
   ·rename_i l m hl hm
    obtain⟨G,e1,d1⟩:=R.addr hl
    obtain⟨ys,e2,Y⟩:=R.addr hm
    have e:=F.refE.symm.trans C.refE
    have e':φ p=φ q:=V.ref.inj e
    rw[e',e2]at e1
    have e3:ys=G:=by injection (av e1)
    subst e3
    split at h
    ·exact a0 l m ys z h d1 Y
    ·rename_i Z;exact absurd (d1.length.symm.trans Y.length) Z
   ·cases h
  ·exact J a b x z h F C
end
variable {Γ:Gm}
inductive Vw (sh:af):Nat->Value->Prop where
 | non:Vw sh 0 .none
 | bl (b:Bool):Vw sh 1 (.bool b)
 | int (i:Int) (t:Tok):Vw sh 1 (.int i t)
 | str (x:Str) (t:Tok):Vw sh 2 (.str x t)
 | tup {l:Addr} {items:Array Value} (h:sh.heap.IsTuple l items):Vw sh 3 (.ref l)
 | lst {l:Addr} {items:Array Value} (h:sh.heap.IsList l items):Vw sh 4 (.ref l)
theorem Vw.eq {A:aN}{sh:af}{k C:Nat}{u v:Value}(a:Vw sh k u)(b:Vw sh C v)(z:k≠C)(hu:A.units<cLine):gO A sh u v false:=by
 cases a with
 | non=>cases b with
  | non=>exact absurd rfl z
  | bl b=>exact SeqAt.EqAt.none_bool b
  | int i t=>exact iH i t
  | str x t=>exact iI x t
  | tup h=>exact g7 h hu
  | lst h=>exact SeqAt.EqAt.none_list h hu
 | bl a=>cases b with
  | non=>exact SeqAt.EqAt.bool_none a
  | bl b=>exact absurd rfl z
  | int i t=>exact absurd rfl z
  | str x t=>exact SeqAt.EqAt.bool_str a x t
  | tup h=>exact SeqAt.EqAt.bool_tuple a h hu
  | lst h=>exact SeqAt.EqAt.bool_list a h hu
 | int a q=>cases b with
  | non=>exact iJ a q
  | bl b=>exact absurd rfl z
  | int i t=>exact absurd rfl z
  | str x t=>exact i0 a q x t
  | tup h=>exact ic a q h hu
  | lst h=>exact SeqAt.EqAt.int_list a q h hu
 | str a q=>cases b with
  | non=>exact iK a q
  | bl b=>exact SeqAt.EqAt.str_bool a q b
  | int i t=>exact i3 a q i t
  | str x t=>exact absurd rfl z
  | tup h=>exact ie a q h hu
  | lst h=>exact SeqAt.EqAt.str_list a q h hu
 | tup g=>cases b with
  | non=>exact g8 g hu
  | bl b=>exact SeqAt.EqAt.tuple_bool b g hu
  | int i t=>exact ig i t g hu
  | str x t=>exact ii x t g hu
  | tup h=>exact absurd rfl z
  | lst h=>exact SeqAt.EqAt.tuple_list g h hu
 | lst g=>cases b with
  | non=>exact SeqAt.EqAt.list_none g hu
  | bl b=>exact SeqAt.EqAt.list_bool b g hu
  | int i t=>exact SeqAt.EqAt.list_int i t g hu
  | str x t=>exact SeqAt.EqAt.list_str x t g hu
  | tup h=>exact SeqAt.EqAt.list_tuple g h hu
  | lst h=>exact absurd rfl z
theorem Vw.rc {A:aN}{sh:af}{k C:Nat}{u v:Value}(a:Vw sh k u)(b:Vw sh C v)(z:k≠C)(hu:A.units<cLine):kQ A sh u v false:=by
 cases a with
 | non=>cases b with
  | non=>exact absurd rfl z
  | bl b=>exact SeqAt.RcAt.none_bool b
  | int i t=>exact SeqAt.RcAt.none_int i t
  | str x t=>exact SeqAt.RcAt.none_str x t
  | tup h=>exact SeqAt.RcAt.none_tuple h hu
  | lst h=>exact SeqAt.RcAt.none_list h hu
 | bl a=>cases b with
  | non=>exact SeqAt.RcAt.bool_none a
  | bl b=>exact absurd rfl z
  | int i t=>exact absurd rfl z
  | str x t=>exact SeqAt.RcAt.bool_str a x t
  | tup h=>exact SeqAt.RcAt.bool_tuple a h hu
  | lst h=>exact SeqAt.RcAt.bool_list a h hu
 | int a q=>cases b with
  | non=>exact SeqAt.RcAt.int_none a q
  | bl b=>exact absurd rfl z
  | int i t=>exact absurd rfl z
  | str x t=>exact SeqAt.RcAt.int_str a q x t
  | tup h=>exact SeqAt.RcAt.int_tuple a q h hu
  | lst h=>exact SeqAt.RcAt.int_list a q h hu
 | str a q=>cases b with
  | non=>exact SeqAt.RcAt.str_none a q
  | bl b=>exact SeqAt.RcAt.str_bool a q b
  | int i t=>exact SeqAt.RcAt.str_int a q i t
  | str x t=>exact absurd rfl z
  | tup h=>exact SeqAt.RcAt.str_tuple a q h hu
  | lst h=>exact SeqAt.RcAt.str_list a q h hu
 | tup g=>cases b with
  | non=>exact SeqAt.RcAt.tuple_none g hu
  | bl b=>exact SeqAt.RcAt.tuple_bool b g hu
  | int i t=>exact SeqAt.RcAt.tuple_int i t g hu
  | str x t=>exact SeqAt.RcAt.tuple_str x t g hu
  | tup h=>exact absurd rfl z
  | lst h=>exact SeqAt.RcAt.tuple_list g h hu
 | lst g=>cases b with
  | non=>exact SeqAt.RcAt.list_none g hu
  | bl b=>exact SeqAt.RcAt.list_bool b g hu
  | int i t=>exact SeqAt.RcAt.list_int i t g hu
  | str x t=>exact SeqAt.RcAt.list_str x t g hu
  | tup h=>exact SeqAt.RcAt.list_tuple g h hu
  | lst h=>exact absurd rfl z
theorem Vw.ne {A:aN}{sh:af}{k C:Nat}{u v:Value}(a:Vw sh k u)(b:Vw sh C v)(z:k≠C)(hu:A.units<cLine):kB A sh u v true:=by
 cases a with
 | non=>cases b with
  | non=>exact absurd rfl z
  | bl b=>exact SeqAt.RcNeAt.none_bool b
  | int i t=>exact SeqAt.RcNeAt.none_int i t
  | str x t=>exact SeqAt.RcNeAt.none_str x t
  | tup h=>exact SeqAt.RcNeAt.none_tuple h hu
  | lst h=>exact SeqAt.RcNeAt.none_list h hu
 | bl a=>cases b with
  | non=>exact SeqAt.RcNeAt.bool_none a
  | bl b=>exact absurd rfl z
  | int i t=>exact absurd rfl z
  | str x t=>exact SeqAt.RcNeAt.bool_str a x t
  | tup h=>exact SeqAt.RcNeAt.bool_tuple a h hu
  | lst h=>exact SeqAt.RcNeAt.bool_list a h hu
 | int a q=>cases b with
  | non=>exact SeqAt.RcNeAt.int_none a q
  | bl b=>exact absurd rfl z
  | int i t=>exact absurd rfl z
  | str x t=>exact SeqAt.RcNeAt.int_str a q x t
  | tup h=>exact SeqAt.RcNeAt.int_tuple a q h hu
  | lst h=>exact SeqAt.RcNeAt.int_list a q h hu
 | str a q=>cases b with
  | non=>exact SeqAt.RcNeAt.str_none a q
  | bl b=>exact SeqAt.RcNeAt.str_bool a q b
  | int i t=>exact SeqAt.RcNeAt.str_int a q i t
  | str x t=>exact absurd rfl z
  | tup h=>exact SeqAt.RcNeAt.str_tuple a q h hu
  | lst h=>exact SeqAt.RcNeAt.str_list a q h hu
 | tup g=>cases b with
  | non=>exact SeqAt.RcNeAt.tuple_none g hu
  | bl b=>exact SeqAt.RcNeAt.tuple_bool b g hu
  | int i t=>exact SeqAt.RcNeAt.tuple_int i t g hu
  | str x t=>exact SeqAt.RcNeAt.tuple_str x t g hu
  | tup h=>exact absurd rfl z
  | lst h=>exact SeqAt.RcNeAt.tuple_list g h hu
 | lst g=>cases b with
  | non=>exact SeqAt.RcNeAt.list_none g hu
  | bl b=>exact SeqAt.RcNeAt.list_bool b g hu
  | int i t=>exact SeqAt.RcNeAt.list_int i t g hu
  | str x t=>exact SeqAt.RcNeAt.list_str x t g hu
  | tup h=>exact SeqAt.RcNeAt.list_tuple g h hu
  | lst h=>exact absurd rfl z
theorem bJ1 (a b:List Nat):((⟨a.toArray⟩:Str)==⟨b.toArray⟩)=(a==b):=by
 by_cases e:a=b
 ·subst e;simp
 ·have:(⟨a.toArray⟩:Str)≠⟨b.toArray⟩:=fun q=>e (by simpa using congrArg (fun z=>z.cps.toList) q)
  rw[beq_eq_false_iff_ne.mpr this,beq_eq_false_iff_ne.mpr e]
structure Cmp (A:aN)(sh:af)(u v:Value)(z:Bool):Prop where
 rc:kQ A sh u v z
 ne:kB A sh u v (!z)
section
variable {X:Cx} {pins:List (Addr×Obj)} {σ:St} {H:Hp} {sh:af} {φ:Nat->Addr} {s:kR}
theorem bE7 (I:Inv X pins σ H sh)(z:X.K=Γ.K)(R:Rp Γ φ H s){d:kS}{x:V}{u:Value}(h:RV Γ φ H d x)(r:RelV x u)(hk:lu s d≠9):Vw sh (lu s d) u:=by
 cases d with
 | non=>have e:=h.nonE;subst e;cases r;exact .non
 | bl b=>have e:=h.blE;subst e;cases r;exact .bl b
 | int i=>have e:=h.intE;subst e;obtain⟨t,rfl⟩:=r;exact .int i t
 | str y=>have e:=h.strE;subst e;obtain⟨t,rfl⟩:=r;exact .str _ t
 | tup l =>
  obtain⟨a,C,e,q,_⟩:=h.tupE
  subst e;cases r
  rw[<-z]at q
  obtain⟨its,_,t,_⟩:=I.tuple q
  exact .tup t
 | ref n =>
  have e:=h.refE;subst e;cases r
  have hk:(match s[n]? with|some (DV.O.lst l)=>4|_=>9:Nat)≠9:=hk
  show Vw sh (match s[n]? with|some (DV.O.lst l)=>4|_=>9:Nat) _
  cases hs:s[n]? with
  | none=>rw[hs]at hk;exact absurd rfl hk
  | some o =>
   rw[hs]at hk
   cases o with
   | lst l =>
    obtain⟨C,e,_⟩:=R.addr hs
    obtain⟨its,_,t,_⟩:=I.list (SqL.of e)
    exact .lst t.isList
   | _=>exact absurd rfl hk
 | fn _=>exact absurd rfl hk
 | clo _ _=>exact absurd rfl hk
theorem ay0 (I:Inv X pins σ H sh)(J:X.K=Γ.K)(R:Rp Γ φ H s){a b:kS}{x y:V}{u v:Value}{A:aN}{z:Bool}(h:lw s a b=some z)(F:RV Γ φ H a x)(C:RV Γ φ H b y)(r1:RelV x u)(r2:RelV y v)(hu:A.units<cLine) :
  gO A sh u v z/\Cmp A sh u v z:=by
 rcases qr h with h|⟨_,hn,hz⟩
 ·cases a<;>cases b<;>try cases h
  ·cases F.nonE;cases C.nonE;cases r1;cases r2
   exact⟨dJ _,SeqAt.RcAt.none_none,SeqAt.RcNeAt.none_none⟩
  ·cases F.blE;cases C.blE;cases r1;cases r2
   exact⟨SeqAt.EqAt.bool_bool _ _,SeqAt.RcAt.bool_bool _ _,SeqAt.RcNeAt.bool_bool _ _⟩
  ·cases F.blE;cases C.intE;cases r1;obtain⟨t',rfl⟩:=r2
   exact⟨SeqAt.EqAt.bool_int _ _ _,SeqAt.RcAt.bool_int _ _ _,SeqAt.RcNeAt.bool_int _ _ _⟩
  ·cases F.intE;cases C.blE;obtain⟨t,rfl⟩:=r1;cases r2
   exact⟨SeqAt.EqAt.int_bool _ _ _,SeqAt.RcAt.int_bool _ _ _,SeqAt.RcNeAt.int_bool _ _ _⟩
  ·cases F.intE;cases C.intE;obtain⟨t,rfl⟩:=r1;obtain⟨t',rfl⟩:=r2
   exact⟨SeqAt.EqAt.int_int _ _ _ _,SeqAt.RcAt.int_int _ _ _ _,SeqAt.RcNeAt.int_int _ _ _ _⟩
  ·cases F.strE;cases C.strE;obtain⟨t,rfl⟩:=r1;obtain⟨t',rfl⟩:=r2
   rw[<-bJ1]
   exact⟨SeqAt.EqAt.str_str _ _ _ _,SeqAt.RcAt.str_str _ _ _ _,SeqAt.RcNeAt.str_str _ _ _ _⟩
 ·subst hz
  unfold lS at hn
  simp only[eS,beq_eq_false_iff_ne]at hn
  have G:=bE7 I J R F r1 hn.1.1
  have w2:=bE7 I J R C r2 hn.1.2
  exact⟨G.eq w2 hn.2 hu,G.rc w2 hn.2 hu,G.ne w2 hn.2 hu⟩
theorem aR2 (I:Inv X pins σ H sh)(hK:X.K=Γ.K)(R:Rp Γ φ H s):∀(n:Nat) (a b:kS) (x y:V) (u v:Value) (A:aN) (z:Bool),k9 s n a b=some z->RV Γ φ H a x->RV Γ φ H b y->RelV x u->RelV y v->Room n A ->
  gO A sh u v z/\Cmp A sh u v z:=by
 intro n
 induction n with
 | zero=>intro a b x y u v A z h h1 h2 r1 r2 hr;unfold k9 at h;exact ay0 I hK R h h1 h2 r1 r2 hr.units0
 | succ n ih =>
  have C:∀ {l m:List kS} {xs ys:List V} {its its':List Value} {A:aN} {e:Nat->Bool},RVL Γ φ H l xs->RVL Γ φ H m ys->Vals xs its->Vals ys its'->Room n A->(∀ j d d',l[j]?=some d->m[j]?=some d'->k9 s n d d'=some (e j)) ->
    ∀ j (h1:j<its.toArray.size) (h2:j<its'.toArray.size),gO A sh its.toArray[j] its'.toArray[j] (e j):=by
   intro l m xs ys its its' A e d1 J Z Y hr he j h1 h2
   have l1:=Z.length
   have l2:=Y.length
   have e1:=d1.length
   have e2:=J.length
   have a3:j<its.length:=by simpa using h1
   have a4:j<its'.length:=by simpa using h2
   have hj:j<l.length:=by omega
   have a1:j<m.length:=by omega
   obtain⟨x,ex,dx⟩:=d1.get (ai hj)
   obtain⟨y,ey,dy⟩:=J.get (ai a1)
   obtain⟨u,eu,ru⟩:=Z.get ex
   obtain⟨w,ew,a2⟩:=Y.get ey
   have g1:its.toArray[j]=u:=by
    have:=ai a3
    rw[eu]at this
    simpa using(av this).symm
   have g2:its'.toArray[j]=w:=by
    have:=ai a4
    rw[ew]at this
    simpa using(av this).symm
   rw[g1,g2]
   exact(ih _ _ x y u w A (e j) (he j _ _ (ai hj) (ai a1)) dx dy ru a2 hr).1
  intro a b x y u v A z h h1 h2 r1 r2 hr
  have hz:=h
  unfold k9 at h
  split at h
  ·rename_i l m
   obtain⟨p,xs,ex,q1,d1⟩:=id h1.tupE
   obtain⟨q,ys,ey,q2,J⟩:=id h2.tupE
   subst ex;subst ey
   cases r1;cases r2
   rw[<-hK]at q1 q2
   obtain⟨its,Z,t1,_⟩:=I.tuple q1
   obtain⟨its',Y,t2,_⟩:=I.tuple q2
   obtain⟨e,he,G⟩:=aQ7 h
   have l1:=Z.length
   have l2:=Y.length
   have e1:=d1.length
   have e2:=J.length
   have sz:((aR (min its.toArray.size its'.toArray.size)).all e&&its.toArray.size==its'.toArray.size)=z:=by
    rw[<-G,Bool.and_comm,show its.toArray.size=l.length by simp;omega,show its'.toArray.size=m.length by simp;omega]
   have key:=je (A:=A) (s:=sh) (e:=e) t1 t2 hr.units0 (C d1 J Z Y hr.in1 he)
   have F:=SeqAt.RcNeAt.tuples (A:=A) (s:=sh) (e:=e) t1 t2 hr.units0 (C d1 J Z Y hr.in1 he)
   rw[sz]at key F
   refine⟨?_,key,F⟩
   by_cases hab:p=q
   ·subst hab
    rw[aJ8 I hK R _ _ _ _ _ hz h1 h2]
    exact dJ _
   ·exact fu hab key
  ·rename_i p q
   split at h
   ·rename_i l m hl hm
    obtain⟨xs,e1,d1⟩:=R.addr hl
    obtain⟨ys,e2,J⟩:=R.addr hm
    have ex:=h1.refE
    have ey:=h2.refE
    subst ex;subst ey
    cases r1;cases r2
    obtain⟨its,Z,t1,_⟩:=I.list (SqL.of e1)
    obtain⟨its',Y,t2,_⟩:=I.list (SqL.of e2)
    have l1:=Z.length
    have l2:=Y.length
    have c1:=d1.length
    have c2:=J.length
    have fin:Cmp A sh (.ref (φ p)) (.ref (φ q)) z:=by
     split at h
     ·rename_i a0
      obtain⟨e,he,G⟩:=aQ7 h
      have sz:(aR its.toArray.size).all e=z:=by
       rw[<-G,show its.toArray.size=l.length by simp;omega,a0]
       simp
      have key:=SeqAt.RcAt.lists (A:=A) (s:=sh) (e:=e) t1.isList t2.isList (by simp;omega) hr.units0 (C d1 J Z Y hr.in1 he)
      have F:=SeqAt.RcNeAt.lists (A:=A) (s:=sh) (e:=e) t1.isList t2.isList (by simp;omega) hr.units0 (C d1 J Z Y hr.in1 he)
      rw[sz]at key F
      exact⟨key,F⟩
     ·rename_i a0
      cases h
      have hs:(its.toArray.size != its'.toArray.size)=true:=by simp;omega
      exact⟨SeqAt.RcAt.lists_lengths t1.isList t2.isList hs hr.units0,SeqAt.RcNeAt.lists_lengths t1.isList t2.isList hs hr.units0⟩
    refine⟨?_,fin⟩
    by_cases hab:φ p=φ q
    ·rw[aJ8 I hK R _ _ _ _ _ hz RV.refI (by rw[hab];exact RV.refI),hab]
     exact dJ _
    ·exact fu hab fin.rc
   ·cases h
  ·exact ay0 I hK R h h1 h2 r1 r2 hr.units0
end
variable {Γ:Gm} {X:Cx}
noncomputable def bW5:mU->Operator
 | .add=>.Add|.sub=>.Sub|.mul=>.Mult|.fdiv=>.FloorDiv|.mod=>.Mod|.pow=>.Pow|.shl=>.LShift|.shr=>.RShift|.band=>.BitAnd|.bor=>.BitOr
noncomputable def bu9:mH->CmpOp
 | .eq=>.Eq|.ne=>.NotEq|.lt=>.Lt|.le=>.LtE|.gt=>.Gt|.ge=>.GtE|.isin=>.In|.notin=>.NotIn
def rOp (Γ:Gm)(f:kS->kS->kR->kW kS):R2:=fun x y H Q=>∃ φ s a b d s',Rp Γ φ H s/\RV Γ φ H a x/\RV Γ φ H b y/\a.bnd s.length=true/\b.bnd s.length=true/\f a b s=.ok d s'/\ad4 Γ φ s H d s' Q
theorem zK {d e:kS}{s t:kR}(h:mJ d s=.ok e t):d=e/\s=t:=by
 unfold mJ at h
 cases h
 exact⟨rfl,rfl⟩
theorem zN {o:lC}{e:kS}{s t:kR}(h:lJ o s=.ok e t):e=.ref s.length/\t=s++[o]:=by
 unfold lJ at h
 cases h
 exact⟨rfl,rfl⟩
theorem ar2 (a b:List Nat):(⟨a.toArray⟩:Str)++⟨b.toArray⟩=⟨(a++b).toArray⟩:=by
 show Str.append _ _=_
 unfold Str.append
 simp
theorem zE:k7<=aE:=by rw[eQ];decide
theorem bq3:OpR X (bP .Mult) (rI (fun i j=>DV.mulOk i j=true) fun i j=>.int (i*j)):=opI fun i j _ _ _ _ _ hc q=>mul_int q (by
 unfold DV.mulOk at hc
 simp only[bH,ah,decide_eq_true_eq]at hc
 rcases hc with(h|h)|⟨C,z⟩
 ·exact bP8.ok (.inl (by omega))
 ·exact bP8.ok (.inr (by omega))
 ·unfold DV.BIG at C z
  exact IntMulOk.of_le (m:=60000) (n:=60000) (intBits_le_iff.mpr C) (intBits_le_iff.mpr z) (by decide))
theorem aL0 (l:List Nat):∀(n:Nat) (h:Array Nat),(au n l.toArray).foldl (·++·) h=h++(lr n l).toArray
 | 0,h=>by simp[lr]
 | n+1,h=>by
  rw[bF,da,aL0 l n]
  simp[lr,i4]
theorem bp1 (l:List Nat):lr 1 l=l:=by simp[lr]
theorem aX2:∀ n,lr n []=[]
 | 0=>rfl
 | n+1=>by simp[lr,aX2 n]
theorem rep_len (l:List Nat):∀ n,(lr n l).length=l.length*n
 | 0=>by simp[lr]
 | n+1=>by simp[lr,rep_len l n,jM];omega
theorem bs5:OpR X (bP .Mult) (fun x y H Q=>∃(l:List Nat) (n:Int),x=.str ⟨l.toArray⟩/\y=.int n/\(0<=n/\n<=1000000/\l.length*n.toNat<=k7)/\Q (.str ⟨(lr n.toNat l).toArray⟩) H):=by
 intro F s σ H x y v u Q I Z Y h
 obtain⟨l,n,rfl,rfl,⟨h0,h1,G⟩,q⟩:=h
 obtain⟨t,rfl⟩:=Z
 obtain⟨t',rfl⟩:=Y
 have z:(⟨l.toArray⟩:Str).length=l.length:=by show l.toArray.size=_;simp
 have hL:=zE
 have a0:=al8
 refine SB.mul ⟨?_,fun hn _=>?_,fun hn _=>?_⟩ fun t2 k=>?_
 ·rw[decide_eq_false (by omega),decide_eq_false (by omega)];rfl
 ·rw[z]
  have C:1<=n:=by omega
  intro J
  have h3:(l.length:Int)*n<=1000000:=by
   have:((l.length*n.toNat:Nat):Int)<=(k7:Nat):=Int.ofNat_le.mpr G
   rw[jQ,fg h0]at this
   have e:((k7:Nat):Int)=1000000:=by unfold k7;rfl
   omega
  have h4:(l.length:Int)<=1000000:=by
   have:(l.length:Int)*1<=(l.length:Int)*n:=eT C (by omega)
   omega
  have h5:(1000000:Int)<=(2^63 - 1) / n:=by
   rw[Int.le_ediv_iff_mul_le (by omega)]
   have:(1000000:Int)*n<=1000000*1000000:=eT h1 (by omega)
   omega
  omega
 ·rw[z]
  unfold ke
  exact decide_eq_false (by omega)
 ·have e:Txt.mul ⟨l.toArray⟩ n=⟨(lr n.toNat l).toArray⟩:=by
   unfold Txt.mul
   split
   ·have:n.toNat=0:=by omega
    rw[this];rfl
   ·split
    ·rename_i hc
     rw[bH]at hc
     rcases hc with hc|hc
     ·have:n=1:=by simpa using hc
      subst this
      show(⟨l.toArray⟩:Str)=⟨(lr 1 l).toArray⟩
      rw[bp1]
     ·have:l=[]:=by
       have:=eq_of_beq hc
       rw[z]at this
       exact ci.mp this
      subst this
      rw[aX2]
    ·show(⟨(au n.toNat l.toArray).foldl (·++·) #[]⟩:Str)=_
     rw[aL0];simp
  rw[e]
  exact⟨.str _,H,I.tok _,⟨_,rfl⟩,q⟩
theorem ak7 {n:Nat}{l:List kS}(h:kT n l=true):∀ k,kT n (lI k l)=true
 | 0=>rfl
 | k+1=>zJ h (ak7 h k)
theorem RVL.repD {φ:Nat->Addr}{H:Hp}{l:List kS}{z:List V}(h:RVL Γ φ H l z):∀ k,RVL Γ φ H (lI k l) (an0 k z)
 | 0=>RVL.nil
 | k+1=>h.append (RVL.repD h k)
theorem ax4 {α:Type}(h:List α):∀ k,an0 k h=(au k h).flatten
 | 0=>rfl
 | k+1=>by rw[bF,cN,<-ax4 h k];rfl
theorem bG3 (hK:X.K=Γ.K)(op:mU):OpR X (bP (bW5 op)) (rOp Γ (DV.af5 op)):=by
 intro C s σ H x y v u Q I J G h
 obtain⟨φ,st,a,b,d,a0,R,ha,hb,na,nb,hf,q⟩:=h
 cases op with
 | add =>
  cases a with
  | int a =>
   cases b with
   | int b =>
    change(mJ _) st=_ at hf
    obtain⟨rfl,rfl⟩:=zK hf
    have ex:=ha.intE;have F:=hb.intE;subst ex;subst F
    exact bF0 C s σ H _ _ v u Q I J G ⟨_,_,rfl,rfl,q.here R rfl RV.intI⟩
   | _=>exact fb hf
  | str a =>
   cases b with
   | str b =>
    change(if _ then _ else _:lT kS) st=_ at hf
    split at hf
    ·rename_i hl
     obtain⟨rfl,rfl⟩:=zK hf
     have ex:=ha.strE;have F:=hb.strE;subst ex;subst F
     refine aM3 C s σ H _ _ v u Q I J G ⟨_,_,rfl,rfl,?_,?_⟩
     ·show a.toArray.size+b.toArray.size<=_
      simp only[aq]
      exact ak hl zE
     ·rw[ar2];exact q.here R rfl (RV.strI (by rw[aG];exact hl))
    ·exact fb hf
   | _=>exact fb hf
  | tup a =>
   cases b with
   | tup b =>
    change(if _ then _ else _:lT kS) st=_ at hf
    split at hf
    ·rename_i hl
     obtain⟨rfl,rfl⟩:=zK hf
     obtain⟨p,Z,⟨rfl,z1⟩,Y,d1⟩:=ha.tupZ
     obtain⟨p',ys,⟨rfl,z2⟩,h2,d2⟩:=hb.tupZ
     refine bq6 hK C s σ H _ _ v u Q I J G ⟨p,p',Z,ys,rfl,rfl,Y,h2,?_,fun t H' e ht hn=>?_⟩
     ·rw[d1.length,d2.length];exact ak hl zE
     ·obtain⟨g,r'⟩:=R.same e
      unfold kY at na nb
      refine q _ _ _ g (aj _) (by unfold kY;exact zJ na nb) (RV.tupC ht (fun z=>?_) ((RVL.mono g _ _ na d1).append (RVL.mono g _ _ nb d2))) r'
      rcases hn with hn|⟨rfl,rfl⟩|⟨rfl,rfl⟩
      ·exact hn
      ·rw[d2.tonil,aZ]at z;rw[aZ];exact e _ _ (z1 z)
      ·rw[d1.tonil]at z;exact e _ _ (z2 z)
    ·exact fb hf
   | _=>exact fb hf
  | ref a =>
   cases b with
   | ref b =>
    change(match st[a]?,st[b]? with|some (DV.O.lst l),some (DV.O.lst m)=>if l.length+m.length<=k7 then lJ (.lst (l++m)) st else .bad|_,_=>.bad:kW kS)=_ at hf
    split at hf
    ·rename_i l m Y h2
     split at hf
     ·rename_i hl
      obtain⟨rfl,rfl⟩:=zN hf
      obtain⟨Z,e1,d1⟩:=R.addr Y
      obtain⟨ys,e2,d2⟩:=R.addr h2
      have ex:=ha.refE;have F:=hb.refE;subst ex;subst F
      have b1:=R.wf _ _ Y
      have b2:=R.wf _ _ h2
      unfold kZ at b1 b2
      refine bP6 C s σ H _ _ v u Q I J G ⟨φ a,φ b,Z,ys,rfl,rfl,e1,e2,?_,fun p hp=>?_⟩
      ·rw[d1.length,d2.length];exact ak hl zE
      ·exact q.alloc R (d1.append d2) (zJ b1 b2) hp
     ·exact fb hf
    ·exact fb hf
   | _=>exact fb hf
  | _=>exact fb hf
 | sub =>
  cases a with
  | int a =>
   cases b with
   | int b =>
    change(mJ _) st=_ at hf
    obtain⟨rfl,rfl⟩:=zK hf
    have ex:=ha.intE;have F:=hb.intE;subst ex;subst F
    exact bF2 C s σ H _ _ v u Q I J G ⟨_,_,rfl,rfl,q.here R rfl RV.intI⟩
   | _=>exact fb hf
  | _=>exact fb hf
 | mul =>
  cases a with
  | int a =>
   cases b with
   | int b =>
    change(if _ then _ else _:lT kS) st=_ at hf
    split at hf
    ·rename_i hc
     obtain⟨rfl,rfl⟩:=zK hf
     have ex:=ha.intE;have F:=hb.intE;subst ex;subst F
     exact bq3 C s σ H _ _ v u Q I J G ⟨_,_,rfl,rfl,hc,q.here R rfl RV.intI⟩
    ·exact fb hf
   | _=>exact fb hf
  | str a =>
   cases b with
   | int b =>
    change(if _ then _ else _:lT kS) st=_ at hf
    split at hf
    ·rename_i hc
     obtain⟨rfl,rfl⟩:=zK hf
     have ex:=ha.strE;have F:=hb.intE;subst ex;subst F
     exact bs5 C s σ H _ _ v u Q I J G ⟨_,_,rfl,rfl,hc,q.here R rfl (RV.strI (by rw[rep_len];exact hc.2.2))⟩
    ·exact fb hf
   | _=>exact fb hf
  | tup a =>
   cases b with
   | int b =>
    change(if _ then _ else _:lT kS) st=_ at hf
    split at hf
    ·rename_i hc
     obtain⟨rfl,rfl⟩:=zK hf
     obtain⟨p,Z,⟨rfl,z1⟩,Y,d1⟩:=ha.tupZ
     have F:=hb.intE;subst F
     refine bw1 hK C s σ H _ _ v u Q I J G ⟨p,Z,_,rfl,rfl,Y,⟨hc.1,hc.2.1,by rw[d1.length];exact hc.2.2⟩,fun t H' e ht hn=>?_⟩
     obtain⟨g,r'⟩:=R.same e
     unfold kY at na
     refine q _ _ _ g (aj _) (by unfold kY;exact ak7 na _) (RV.tupC ht (fun z=>?_) (RVL.repD (RVL.mono g _ _ na d1) _)) r'
     rcases hn with hn|⟨rfl,ex⟩
     ·exact hn
     ·rw[ex];exact e _ _ (z1 (bz3 z))
    ·exact fb hf
   | _=>exact fb hf
  | ref a =>
   cases b with
   | int b =>
    change(match st[a]? with|some (DV.O.lst l)=>if 0<=b/\b<=1000000/\l.length*b.toNat<=k7 then lJ (.lst (lI b.toNat l)) st else .bad|_=>.bad:kW kS)=_ at hf
    split at hf
    ·rename_i l Y
     split at hf
     ·rename_i hc
      obtain⟨rfl,rfl⟩:=zN hf
      obtain⟨Z,e1,d1⟩:=R.addr Y
      have ex:=ha.refE;have F:=hb.intE;subst ex;subst F
      have b1:=R.wf _ _ Y
      unfold kZ at b1
      refine bB1 C s σ H _ _ v u Q I J G ⟨φ a,b,Z,rfl,rfl,e1,by omega,by omega,?_,fun p hp=>?_⟩
      ·rw[d1.length];exact ak hc.2.2 zE
      ·rw[<-ax4];exact q.alloc R (RVL.repD d1 _) (ak7 b1 _) hp
     ·exact fb hf
    ·exact fb hf
   | _=>exact fb hf
  | _=>exact fb hf
 | fdiv =>
  cases a with
  | int a =>
   cases b with
   | int b =>
    change(if _ then _ else _:lT kS) st=_ at hf
    split at hf
    ·rename_i hc
     obtain⟨rfl,rfl⟩:=zK hf
     have ex:=ha.intE;have F:=hb.intE;subst ex;subst F
     refine bh2 C s σ H _ _ v u Q I J G ⟨_,_,rfl,rfl,⟨hc.1,?_⟩,q.here R rfl RV.intI⟩
     have:=hc.2
     unfold DV.DIVL at this
     simpa using this
    ·exact fb hf
   | _=>exact fb hf
  | _=>exact fb hf
 | mod =>
  cases a with
  | int a =>
   cases b with
   | int b =>
    change(if _ then _ else _:lT kS) st=_ at hf
    split at hf
    ·rename_i hc
     obtain⟨rfl,rfl⟩:=zK hf
     have ex:=ha.intE;have F:=hb.intE;subst ex;subst F
     exact bA5 C s σ H _ _ v u Q I J G ⟨_,_,rfl,rfl,hc,q.here R rfl RV.intI⟩
    ·exact fb hf
   | _=>exact fb hf
  | _=>exact fb hf
 | pow =>
  cases a with
  | int a =>
   cases b with
   | int b =>
    change(if _ then _ else _:lT kS) st=_ at hf
    split at hf
    ·rename_i hc
     obtain⟨rfl,rfl⟩:=zK hf
     have ex:=ha.intE;have F:=hb.intE;subst ex;subst F
     exact bC2 C s σ H _ _ v u Q I J G ⟨_,_,rfl,rfl,hc,q.here R rfl RV.intI⟩
    ·exact fb hf
   | _=>exact fb hf
  | _=>exact fb hf
 | shl =>
  cases a with
  | int a =>
   cases b with
   | int b =>
    change(if _ then _ else _:lT kS) st=_ at hf
    split at hf
    ·rename_i hc
     obtain⟨rfl,rfl⟩:=zK hf
     have ex:=ha.intE;have F:=hb.intE;subst ex;subst F
     exact bN5 C s σ H _ _ v u Q I J G ⟨_,_,rfl,rfl,hc,q.here R rfl RV.intI⟩
    ·exact fb hf
   | _=>exact fb hf
  | _=>exact fb hf
 | shr =>
  cases a with
  | int a =>
   cases b with
   | int b =>
    change(if _ then _ else _:lT kS) st=_ at hf
    split at hf
    ·rename_i hc
     obtain⟨rfl,rfl⟩:=zK hf
     have ex:=ha.intE;have F:=hb.intE;subst ex;subst F
     exact bL7 C s σ H _ _ v u Q I J G ⟨_,_,rfl,rfl,hc,q.here R rfl RV.intI⟩
    ·exact fb hf
   | _=>exact fb hf
  | _=>exact fb hf
 | band =>
  cases a with
  | int a =>
   cases b with
   | int b =>
    change(if _ then _ else _:lT kS) st=_ at hf
    split at hf
    ·rename_i hc
     obtain⟨rfl,rfl⟩:=zK hf
     have ex:=ha.intE;have F:=hb.intE;subst ex;subst F
     exact bo5 C s σ H _ _ v u Q I J G ⟨_,_,rfl,rfl,hc,q.here R rfl RV.intI⟩
    ·exact fb hf
   | _=>exact fb hf
  | _=>exact fb hf
 | bor=>exact fb hf
variable {Γ:Gm} {X:Cx} {pins:List (Addr×Obj)} {σ:St} {H:Hp} {sh:af} {φ:Nat->Addr} {s:kR}
theorem aF2 {n:Nat}{a b:kS}{z:Bool}(h:k9 s n a b=some z):lu s a≠9:=by
 cases n with
 | zero=>unfold k9 at h;exact(af3 h).1
 | succ n =>
  unfold k9 at h
  split at h
  ·simp[lu]
  ·split at h
   ·rename_i C _;simp[lu,C]
   ·cases h
  ·exact(af3 h).1
theorem aT6 (I:Inv X pins σ H sh)(G:X.K=Γ.K)(R:Rp Γ φ H s):∀(n:Nat) (a b c:kS) (x:V) (p q:Bool),RV Γ φ H a x->RV Γ φ H b x->k9 s n a c=some p->k9 s n b c=some q->p=q:=by
 intro n
 induction n with
 | zero =>
  intro a b c x p q z h e1 e2
  rcases rv_two I G R z h (aF2 e1) (aF2 e2)with e|⟨l,m,_,_,rfl,rfl,_⟩
  ·subst e;rw[e1]at e2;exact av e2
  ·unfold k9 at e1 e2
   have:lw s (.tup l) c=lw s (.tup m) c:=by unfold lw;cases c<;>rfl
   rw[this,e2]at e1;exact(av e1).symm
 | succ n ih =>
  have F:∀(l m k:List kS) (C:List V) (p q:Bool),RVL Γ φ H l C->RVL Γ φ H m C->lq (k9 s n) l k=some p->lq (k9 s n) m k=some q->p=q:=by
   intro l
   induction l with
   | nil =>
    intro m k C p q z h e1 e2
    have:=z.unnil;subst this
    have hm:m=[]:=by have:=h.length;exact ci.mp this.symm
    subst hm
    rw[e1]at e2;exact av e2
   | cons a l ihl =>
    intro m k C p q z h e1 e2
    obtain⟨x,r,rfl,g1,g2⟩:=z.uncons
    cases m with
    | nil=>have:=h.unnil;cases this
    | cons b m =>
     obtain⟨x',r',e,g3,Z⟩:=h.uncons
     cases e
     cases k with
     | nil=>unfold lq at e1 e2;rw[<-av e1,<-av e2]
     | cons c k =>
      obtain⟨p1,p2,a1,a2,a3⟩:=ai7 e1
      obtain⟨Y,q2,b1,b2,b3⟩:=ai7 e2
      rw[a3,b3,ih a b c x p1 Y g1 g3 a1 b1,ihl m k r p2 q2 g2 Z a2 b2]
  intro a b c x p q z h e1 e2
  rcases rv_two I G R z h (aF2 e1) (aF2 e2)with e|⟨l,m,_,C,rfl,rfl,_,d1,J⟩
  ·subst e;rw[e1]at e2;exact av e2
  ·cases c with
   | tup k=>unfold k9 at e1 e2;exact F l m k C p q d1 J e1 e2
   | _ =>
    unfold k9 at e1 e2
    simp only at e1 e2
    have e3:lw s (.tup l)=lw s (.tup m):=by funext c;unfold lw;cases c<;>rfl
    rw[e3]at e1
    exact av (e1.symm.trans e2)
theorem bm1 {x:kS}:∀ {l:List kS} {z:Bool},lN s x l=some z->∃ e:Nat->Bool,(∀ j d,l[j]?=some d->k9 s li d x=some (e j))/\(z=true↔∃ j,j<l.length/\e j=true)
 | [],z,h=>by
  unfold lN at h
  cases h
  exact⟨fun _=>true,fun j d h=>by simp at h,by simp⟩
 | y::l,z,h=>by
  unfold lN at h
  cases e1:k9 s li y x with
  | none=>rw[e1]at h;cases h
  | some a =>
   cases e2:lN s x l with
   | none=>rw[e1,e2]at h;cases h
   | some b =>
    rw[e1,e2]at h
    obtain⟨e,F,C⟩:=bm1 e2
    refine⟨fun j=>match j with|0=>a|j+1=>e j,fun j d g=>?_,?_⟩
    ·cases j with
     | zero=>simp at g;subst g;exact e1
     | succ j=>exact F j d (by simpa using g)
    ·have hz:(a||b)=z:=av h
     rw[<-hz,bH,C]
     constructor
     ·rintro(q|⟨j,hj,q⟩)
      ·exact⟨0,by simp,q⟩
      ·exact⟨j+1,by simpa using hj,q⟩
     ·rintro⟨j,hj,q⟩
      cases j with
      | zero=>exact .inl q
      | succ j=>exact .inr ⟨j,by simpa using hj,q⟩
theorem bm2 (I:Inv X pins σ H sh)(hK:X.K=Γ.K)(R:Rp Γ φ H s){x:kS}{Z:V}{Y:Value}(hx:RV Γ φ H x Z)(rx:RelV Z Y){l:List kS}{ys:List V}{its:List Value}(hl:RVL Γ φ H l ys)(hv:Vals ys its){z:Bool}(h:lN s x l=some z){A:aN}(hr:Room li A) :
  ∃ e:Value->Bool,(∀ y,y∈its.toArray->gO A sh y Y (e y))/\its.toArray.any e=z:=by
 obtain⟨e,h1,h2⟩:=bm1 h
 have len:its.length=l.length:=by rw[<-hv.length];exact hl.length
 have C:∀ j u,its[j]?=some u->∃ d y,l[j]?=some d/\ys[j]?=some y/\RV Γ φ H d y/\RelV y u:=fun j u g=>by
  have hj:j<l.length:=by rw[<-len];exact(ac.mp g).1
  obtain⟨y,g1,g2⟩:=hl.get (ai hj)
  obtain⟨u',F,G⟩:=hv.get g1
  rw[g]at F;cases F
  exact⟨_,y,ai hj,g1,g2,G⟩
 classical
 let f:Value->Bool:=fun u=>decide (∃ j,its[j]?=some u/\e j=true)
 have hf:∀ j u,its[j]?=some u->f u=e j:=fun j u g=>by
  obtain⟨d,y,g1,g2,F,G⟩:=C j u g
  cases q:e j with
  | true=>exact decide_eq_true ⟨j,g,q⟩
  | false =>
   refine decide_eq_false fun⟨k,g',q'⟩=>?_
   obtain⟨d',y',k1,k2,k3,k4⟩:=C k u g'
   have ey:y'=y:=k4.inj G
   subst ey
   have:=aT6 I hK R _ d d' x _ _ _ F k3 (h1 j d g1) (h1 k d' k1)
   rw[q,q']at this;cases this
 refine⟨f,fun u hu=>?_,?_⟩
 ·obtain⟨j,hj,g⟩:=cf.mp (by simpa using hu:u∈its)
  have g':its[j]?=some u:=by rw[ai hj,g]
  obtain⟨d,y,g1,g2,F,G⟩:=C j u g'
  rw[hf j u g']
  exact(aR2 I hK R _ d x y Z u Y A _ (h1 j d g1) F hx G rx hr).1
 ·have e1:its.toArray.any f=true↔z=true:=by
   rw[h2,List.any_toArray,jG]
   constructor
   ·rintro⟨u,hu,q⟩
    obtain⟨j,hj,g⟩:=cf.mp hu
    have g':its[j]?=some u:=by rw[ai hj,g]
    exact⟨j,by omega,by rw[<-hf j u g'];exact q⟩
   ·rintro⟨j,hj,q⟩
    have J:j<its.length:=by omega
    exact⟨its[j],jJ J,by rw[hf j _ (ai J)];exact q⟩
  cases z<;>cases q:its.toArray.any f
  ·rfl
  ·have:=e1.mp q;cases this
  ·rw[q]at e1;have:=e1.mpr rfl;cases this
  ·rfl
variable {Γ:Gm} {X:Cx}
theorem aa0 {α β:Type}{r:kW α}{f:α->kR->kW β}{b:β}{t:kR}(h:r.bind f=.ok b t):∃ a s,r=.ok a s/\f a s=.ok b t:=DV.R.bind_inv h
theorem bl7 (hK:X.K=Γ.K)(hr:Room (li+1) X.A)(h:Bool){F:List (Addr×Obj)}{sh:af}{σ:St}{H:Hp}{x y:V}{v u:Value}{φ:Nat->Addr}{st a0:kR}{a b:kS}{z:Bool}
  (I:Inv X F σ H sh) (G:RelV x v) (ry:RelV y u) (R:Rp Γ φ H st) (ha:RV Γ φ H a x) (hb:RV Γ φ H b y) (hf:mK a b st=.ok z a0) :
  a0=st/\∀ Q:Value->af->Prop,(∀ a1,Inv X F σ H a1->Q (.bool (if h then !z else z)) a1)->wpAny (model X.prog X.w) X.A (di (if h then .NotIn else .In) v u) Q X.xe sh:=by
 unfold mK at hf
 cases b with
 | tup l =>
  simp only at hf
  cases e:lN st a l with
  | none=>rw[e]at hf;cases hf
  | some w =>
   rw[e]at hf
   cases hf
   obtain⟨p,ys,rfl,q,d⟩:=hb.tupE
   cases ry
   rw[<-hK]at q
   obtain⟨its,rv,t,_⟩:=I.tuple q
   obtain⟨f,h1,Y⟩:=bm2 I hK R ha G d rv e (A:=X.A.in1) hr.in1
   refine⟨rfl,fun Q hq=>?_⟩
   cases h with
   | false=>exact SeqAt.in_tupleAt f t h1 (by rw[Y];exact hq _ I)
   | true=>exact SeqAt.notIn_tupleAt f t h1 (by rw[Y];exact hq _ I)
 | str y0 =>
  simp only at hf
  split at hf
  case h_2=>exact fb hf
  rename_i c
  cases hf
  refine⟨rfl,fun Q hq=>?_⟩
  have e1:=ha.strE
  have e2:=hb.strE
  subst e1 e2
  obtain⟨t1,rfl⟩:=G
  obtain⟨t2,rfl⟩:=ry
  have Z:=kq (⟨y0.toArray⟩:Str) c
  cases h with
  | false=>exact in_str (by rw[show(⟨[c].toArray⟩:Str)=⟨#[c]⟩from rfl,Z];simpa using hq _ I)
  | true=>exact notIn_str (by rw[show(⟨[c].toArray⟩:Str)=⟨#[c]⟩from rfl,Z];simpa using hq _ I)
 | ref r =>
  simp only at hf
  cases hs:st[r]? with
  | none=>rw[hs]at hf;cases hf
  | some o =>
   rw[hs]at hf
   cases o with
   | lst l =>
    simp only at hf
    cases e:lN st a l with
    | none=>rw[e]at hf;cases hf
    | some w =>
     rw[e]at hf
     cases hf
     obtain⟨ys,e1,d⟩:=R.addr hs
     have ey:=hb.refE;subst ey
     cases ry
     obtain⟨its,rv,t,_⟩:=I.list (SqL.of e1)
     obtain⟨f,h1,Y⟩:=bm2 I hK R ha G d rv e (A:=X.A.in1) hr.in1
     refine⟨rfl,fun Q hq=>?_⟩
     cases h with
     | false=>exact SeqAt.in_listAt f t.isList h1 (by rw[Y];exact hq _ I)
     | true=>exact SeqAt.notIn_listAt f t.isList h1 (by rw[Y];exact hq _ I)
   | dic l =>
    simp only at hf
    split at hf
    case isFalse=>exact fb hf
    rename_i C
    cases hf
    obtain⟨k,hk⟩:=ai4 C
    obtain⟨J,e1,d⟩:=R.obj r _ hs
    have ey:=hb.refE;subst ey
    cases ry
    have ex:=aH6 hk ha;subst ex
    have ez:(lD a l).isSome=(aA2 J k).isSome:=by
     rcases d.val keyOf_inj hk with⟨q1,q2⟩|⟨_,_,q1,q2,_⟩<;>rw[q1,q2]<;>rfl
    refine⟨rfl,fun Q hq=>?_⟩
    rw[ez]at hq
    cases h with
    | false=>exact bZ1 (ak4 hr) I (aA3.k e1) G hq
    | true=>exact aX5 (ak4 hr) I (aA3.k e1) G hq
   | dit l =>
    simp only at hf
    split at hf
    case isFalse=>exact fb hf
    rename_i C
    cases hf
    obtain⟨k,hk⟩:=af0 C
    obtain⟨J,e1,d⟩:=R.obj r _ hs
    have ey:=hb.refE;subst ey
    cases ry
    obtain⟨kb,ex,a2⟩:=as7 hk ha;subst ex
    have ez:(lD a l).isSome=(aA2 J k).isSome:=by
     rcases d.val keyT_inj hk with⟨q1,q2⟩|⟨_,_,q1,q2,_⟩<;>rw[q1,q2]<;>rfl
    refine⟨rfl,fun Q hq=>?_⟩
    rw[ez]at hq
    cases h with
    | false=>exact bZ1 (ak4 hr) I (aA3.t e1 a2) G hq
    | true=>exact aX5 (ak4 hr) I (aA3.t e1 a2) G hq
   | ro l=>exact fb hf
   | ins c l=>exact fb hf
 | _=>exact fb hf
theorem aq4 {op:mH}{a b d:kS}{st z:kR}(ho:op=.lt\/op=.le\/op=.gt\/op=.ge)(h:DV.zZ op a b st=.ok d z):∃ i j,a=.int i/\b=.int j:=by
 rcases ho with rfl|rfl|rfl|rfl <;>
 (cases a with
 | int i =>
  (cases b with
  | int j=>exact⟨i,j,rfl,rfl⟩
  | _=>cases h)
 | _=>cases h)
theorem bD1 (Z:X.K=Γ.K)(hr:Room (li+1) X.A)(op:mH):OpR X (di (bu9 op)) (rOp Γ (DV.zZ op)):=by
 intro C s σ H x y v u Q I J G h
 obtain⟨φ,st,a,b,d,F,R,ha,hb,na,nb,hf,q⟩:=h
 cases op with
 | eq =>
  have hf:DV.eqM a b st=.ok d F:=hf
  unfold DV.eqM at hf
  cases e:k9 st li a b with
  | none=>rw[e]at hf;cases hf
  | some z =>
   rw[e]at hf;cases hf
   exact(aR2 I Z R _ a b x y v u X.A z e ha hb J G (hr.mono (by omega))).2.rc X.prog X.w X.xe _ ⟨.bl z,H,I,rfl,q.here R rfl RV.blI⟩
 | ne =>
  have hf:(match k9 st li a b with|some r=>.ok (.bl (!r)) st|none=>.bad:kW kS)=.ok d F:=hf
  cases e:k9 st li a b with
  | none=>rw[e]at hf;cases hf
  | some z =>
   rw[e]at hf;cases hf
   exact(aR2 I Z R _ a b x y v u X.A z e ha hb J G (hr.mono (by omega))).2.ne X.prog X.w X.xe _ ⟨.bl (!z),H,I,rfl,q.here R rfl RV.blI⟩
 | lt =>
  obtain⟨i,j,rfl,rfl⟩:=aq4 (.inl rfl) hf
  cases hf
  have ex:=ha.intE;have Y:=hb.intE;subst ex;subst Y
  exact bR6 C s σ H _ _ v u Q I J G ⟨_,_,rfl,rfl,q.here R rfl RV.blI⟩
 | le =>
  obtain⟨i,j,rfl,rfl⟩:=aq4 (.inr (.inl rfl)) hf
  cases hf
  have ex:=ha.intE;have Y:=hb.intE;subst ex;subst Y
  exact bR7 C s σ H _ _ v u Q I J G ⟨_,_,rfl,rfl,q.here R rfl RV.blI⟩
 | gt =>
  obtain⟨i,j,rfl,rfl⟩:=aq4 (.inr (.inr (.inl rfl))) hf
  cases hf
  have ex:=ha.intE;have Y:=hb.intE;subst ex;subst Y
  exact bR9 C s σ H _ _ v u Q I J G ⟨_,_,rfl,rfl,q.here R rfl RV.blI⟩
 | ge =>
  obtain⟨i,j,rfl,rfl⟩:=aq4 (.inr (.inr (.inr rfl))) hf
  cases hf
  have ex:=ha.intE;have Y:=hb.intE;subst ex;subst Y
  exact bS8 C s σ H _ _ v u Q I J G ⟨_,_,rfl,rfl,q.here R rfl RV.blI⟩
 | isin =>
  have hf:(mK a b st).bind (fun r s=>.ok (.bl r) s)=.ok d F:=hf
  obtain⟨z,s1,e1,e2⟩:=aa0 hf
  obtain⟨rfl,w⟩:=bl7 Z hr false I J G R ha hb e1
  cases e2
  exact w _ fun s' I'=>⟨.bl z,H,I',rfl,q.here R rfl RV.blI⟩
 | notin =>
  have hf:(mK a b st).bind (fun r s=>.ok (.bl (!r)) s)=.ok d F:=hf
  obtain⟨z,s1,e1,e2⟩:=aa0 hf
  obtain⟨rfl,w⟩:=bl7 Z hr true I J G R ha hb e1
  cases e2
  exact w _ fun s' I'=>⟨.bl (!z),H,I',rfl,q.here R rfl RV.blI⟩
theorem aT5 {φ:Nat->Addr}{H:Hp}{l:List kS}{z:List V}{i:Int}{d:kS}(h:RVL Γ φ H l z)(e:((lO l.length i).bind fun j=>l[j]?)=some d):∃ v,atI z i=some v/\RV Γ φ H d v:=by
 cases hj:lO l.length i with
 | none=>rw[hj]at e;cases e
 | some j =>
  rw[hj]at e
  obtain⟨v,e1,e2⟩:=h.get (show l[j]?=some d from e)
  refine⟨v,?_,e2⟩
  unfold atI
  have:ixN z.length i=some j:=by rw[h.length];exact hj
  rw[this];exact e1
theorem aD7 {l:List kS}{i:Int}{d:kS}(e:((lO l.length i).bind fun j=>l[j]?)=some d):d∈l:=by
 cases hj:lO l.length i with
 | none=>rw[hj]at e;cases e
 | some j=>rw[hj]at e;exact aS (show l[j]?=some d from e)
theorem bV4 (hK:X.K=Γ.K)(hu:X.A.units+2<cLine):IxR X (rOp Γ DV.ixM):=by
 intro z C F s σ H x y v u Q I rx ry h hs
 obtain⟨φ,st,a,b,d,a2,R,ha,hb,na,nb,hf,q⟩:=h
 unfold DV.ixM at hf
 cases a with
 | tup l =>
  cases b with
  | int i =>
   simp only at hf
   split at hf
   ·rename_i d' e
    cases hf
    obtain⟨p,xs,rfl,h1,d1⟩:=ha.tupE
    have J:=hb.intE;subst J
    obtain⟨w,e1,e2⟩:=aT5 d1 e
    unfold kY at na
    exact bp5 hK z C F s σ H _ _ v u Q I rx ry ⟨p,xs,i,w,rfl,rfl,h1,e1,q.here R (aa3.mp na _ (aD7 e)) e2⟩ hs
   ·exact fb hf
  | _=>exact fb hf
 | str l =>
  cases b with
  | int i =>
   simp only at hf
   split at hf
   ·rename_i c e
    cases hf
    have hl:=ha.strL
    have ex:=ha.strE;have J:=hb.intE;subst ex;subst J
    exact ix_str z C F s σ H _ _ v u Q I rx ry ⟨⟨l.toArray⟩,i,c,rfl,rfl,by show l.toArray.size<=_;rw[aq];exact ak hl zE,e,q.here R rfl (RV.strI (by simp;decide))⟩ hs
   ·exact fb hf
  | _=>exact fb hf
 | ref r =>
  have ex:=ha.refE;subst ex
  simp only at hf
  cases hsr:st[r]? with
  | none=>rw[hsr]at hf;cases hf
  | some o =>
   rw[hsr]at hf
   cases o with
   | lst l =>
    cases b with
    | int i =>
     simp only at hf
     split at hf
     ·rename_i d' e
      cases hf
      have J:=hb.intE;subst J
      obtain⟨xs,e1,d1⟩:=R.addr hsr
      obtain⟨w,e2,e3⟩:=aT5 d1 e
      have wf:=R.wf _ _ hsr
      unfold kZ at wf
      exact aG2 hK z C F s σ H _ _ v u Q I rx ry ⟨φ r,xs,i,w,rfl,rfl,SqL.of e1,e2,q.here R (aa3.mp wf _ (aD7 e)) e3⟩ hs
     ·exact fb hf
    | _=>exact fb hf
   | ro l =>
    cases b with
    | int i =>
     simp only at hf
     split at hf
     ·rename_i d' e
      cases hf
      have J:=hb.intE;subst J
      obtain⟨xs,e1,d1⟩:=R.obj _ _ hsr
      obtain⟨w,e2,e3⟩:=aT5 d1 e
      have wf:=R.wf _ _ hsr
      unfold kZ at wf
      exact aG2 hK z C F s σ H _ _ v u Q I rx ry ⟨φ r,xs,i,w,rfl,rfl,e1.1,e2,q.here R (aa3.mp wf _ (aD7 e)) e3⟩ hs
     ·exact fb hf
    | _=>exact fb hf
   | dic l =>
    simp only at hf
    split at hf
    case isFalse=>exact fb hf
    rename_i G
    obtain⟨k,hk⟩:=ai4 G
    obtain⟨a1,e1,d1⟩:=R.obj r _ hsr
    have J:=aH6 hk hb;subst J
    cases rx
    rcases d1.val keyOf_inj hk with⟨Y,_⟩|⟨e,v',Y,q2,q3,q4⟩
    ·rw[Y]at hf;cases hf
    ·rw[Y]at hf
     cases hf
     have wf:=R.wf _ _ hsr
     unfold kZ at wf
     rw[ah]at wf
     have g:aA3 H (φ r) (kV k) (some v'):=by rw[<-q2];exact aA3.k e1
     exact j1 (al2 I g) fI.lookup (au7 hu I g ry fun w' s' I' Z=>⟨v',H,I',Z,q.here R (aa3.mp wf.2 _ q4) q3⟩) hs
   | dit l =>
    simp only at hf
    split at hf
    case isFalse=>exact fb hf
    rename_i G
    obtain⟨k,hk⟩:=af0 G
    obtain⟨a1,e1,d1⟩:=R.obj r _ hsr
    obtain⟨kb,J,a0⟩:=as7 hk hb;subst J
    cases rx
    rcases d1.val keyT_inj hk with⟨Y,_⟩|⟨e,v',Y,q2,q3,q4⟩
    ·rw[Y]at hf;cases hf
    ·rw[Y]at hf
     cases hf
     have wf:=R.wf _ _ hsr
     unfold kZ at wf
     rw[ah]at wf
     have g:aA3 H (φ r) (.ref kb) (some v'):=by rw[<-q2];exact aA3.t e1 a0
     exact j1 (al2 I g) fI.lookup (au7 hu I g ry fun w' s' I' Z=>⟨v',H,I',Z,q.here R (aa3.mp wf.2 _ q4) q3⟩) hs
   | ins c l=>cases b<;>cases hf
 | _=>cases b<;>cases hf
theorem aT8 (n d:Nat)(i:Int):HT.sIx n d (some i)=lK n i:=by
 show(if i<0 then(i+(n:Int)).toNat else min i.toNat n)=_
 unfold lK
 by_cases h:i<0
 ·rw[if_pos h,if_neg (by omega)]
 ·rw[if_neg h,if_pos (by omega)]
theorem bk2 {φ:Nat->Addr}{H:Hp}{l:List kS}{F:List V}(h:RVL Γ φ H l F)(C z:Option Int):RVL Γ φ H (lz l C z) (aM4 F C z):=by
 unfold lz aM4
 have e1:HT.sIx F.length 0 C=lM l.length C:=by
  cases C with
  | none=>rfl
  | some i=>rw[aT8,h.length];rfl
 have e2:HT.sIx F.length F.length z=mn l.length z:=by
  cases z with
  | none=>exact h.length
  | some i=>rw[aT8,h.length];rfl
 rw[e1,e2]
 exact(h.drop _).take _
theorem aG0 {α:Type}{l:List α}{z h:Option Int}:∀ d∈lz l z h,d∈l:=fun d hd=>List.mem_of_mem_drop (List.mem_of_mem_take hd)
theorem bg8 {α:Type}(l:List α)(h z:Option Int):(lz l h z).length<=l.length:=by
 unfold lz
 rw[bE,eC]
 omega
theorem bW0 (z C:Option Int)(n:Nat):bu z C 1 n=(aR (mn n C - lM n z)).map (lM n z+·):=by
 rw[<-sliceRange_one]
 unfold bu
 have cl:∀ i:Int,max 0 (min (if i<0 then i+(n:Int)else i) (n:Int))=((lK n i:Nat):Int):=fun i=>by
  unfold lK
  by_cases h:i<0
  ·rw[if_pos h,if_neg (by omega)];omega
  ·rw[if_neg h,if_pos (by omega)];omega
 simp only[show((1:Int) > 0)=True by simp,if_true]
 cases z<;>cases C<;>simp only[cl,lM,mn]<;>rfl
theorem aH8 {l:List Nat}:∀(a k:Nat),a+k<=l.length->((aR k).map (a+·)).filterMap (fun x=>l.toArray[x]?)=(l.drop a).take k
 | a,0,_=>by simp
 | a,k+1,h=>by
  rw[List.range_succ,dg,List.filterMap_append,aH8 a k (by omega)]
  have hk:a+k<l.length:=by omega
  rw[List.take_add_one,List.getElem?_drop]
  simp[hk]
theorem aV5 (l:List Nat)(z h:Option Int):eZ ⟨l.toArray⟩ z h=⟨(lz l z h).toArray⟩:=by
 unfold eZ
 have hn:(⟨l.toArray⟩:Str).length=l.length:=by show l.toArray.size=_;simp
 rw[hn,bW0]
 have hb:mn l.length h<=l.length:=by
  cases h with
  | none=>exact aj _
  | some i=>show lK l.length i<=_;unfold lK;split<;>omega
 have ha:lM l.length z<=l.length:=by
  cases z with
  | none=>exact cu _
  | some i=>show lK l.length i<=_;unfold lK;split<;>omega
 unfold lz
 generalize mn l.length h=b at *
 generalize lM l.length z=a at *
 by_cases hc:((1:Int)==1&&((aR (b - a)).map (a+·)).length==l.length)=true
 ·rw[if_pos hc]
  have:b - a=l.length:=by simpa using hc
  have h0:a=0\/l.length=0:=by omega
  rcases h0 with h0|h0
  ·subst h0
   rw[this];simp
  ·have:l=[]:=ci.mp h0
   subst this;simp
 ·rw[if_neg hc]
  by_cases hab:a<=b
  ·have e:=aH8 (l:=l) a (b - a) (by omega)
   show(⟨(iw (fun x=>l.toArray[x]?) _).toArray⟩:Str)=_
   rw[e]
  ·rw[show b - a=0 by omega];simp
def rSl (Γ:Gm):V->Option Int->Option Int->Hp->VK->Prop:=fun x lo hi H Q=>∃ φ s a d s',Rp Γ φ H s/\RV Γ φ H a x/\a.bnd s.length=true/\mq a lo hi s=.ok d s'/\ad4 Γ φ s H d s' Q
theorem bR8 (hK:X.K=Γ.K):SlR X (rSl Γ):=by
 intro C s σ H x v vl vu G F sl Q I Z hs pl pu h
 obtain⟨φ,st,a,d,a0,R,ha,J,hf,q⟩:=h
 unfold mq at hf
 cases a with
 | tup l =>
  cases hf
  obtain⟨p,Y,⟨rfl,z1⟩,h1,d1⟩:=ha.tupZ
  unfold kY at J
  refine by2 hK C s σ H _ v vl vu G F sl Q I Z hs pl pu ⟨p,Y,rfl,h1,fun t H' e ht hn=>?_⟩
  obtain⟨g,r'⟩:=R.same e
  have d2:=bk2 (RVL.mono g _ _ J d1) G F
  refine q _ _ _ g (aj _) (by unfold kY;exact aK1 J aG0) (RV.tupC ht (fun z=>?_) d2) r'
  rcases hn with hn|⟨rfl,ex⟩
  ·exact hn
  ·rw[ex]
   refine e _ _ (z1 ?_)
   have hl:(lz l G F).length=l.length:=by rw[<-d2.length,ex,d1.length]
   rwa [aT7 hl]at z
 | str l =>
  cases hf
  have hl:=ha.strL
  have ex:=ha.strE;subst ex
  refine bD8 C s σ H _ v vl vu G F sl Q I Z hs pl pu ⟨_,rfl,by show l.toArray.size<=_;rw[aq];exact ak hl zE,?_⟩
  rw[aV5]
  exact q.here R rfl (RV.strI (ak (bg8 l G F) hl))
 | ref r =>
  have ex:=ha.refE;subst ex
  simp only at hf
  cases hsr:st[r]? with
  | none=>rw[hsr]at hf;cases hf
  | some o =>
   rw[hsr]at hf
   cases o with
   | lst l =>
    obtain⟨rfl,rfl⟩:=zN hf
    obtain⟨Y,e1,d1⟩:=R.addr hsr
    have wf:=R.wf _ _ hsr
    unfold kZ at wf
    exact bc7 hK C s σ H _ v vl vu G F sl Q I Z hs pl pu ⟨φ r,Y,rfl,SqL.of e1,fun p hp=>q.alloc R (bk2 d1 G F) (aK1 wf aG0) hp⟩
   | _=>exact fb hf
 | _=>exact fb hf
variable {Γ:Gm} {X:Cx}
def rCl (Γ:Gm)(f:List kS->kR->kW kS):List V->Hp->VK->Prop:=fun xs H Q=>∃ φ s l d s',Rp Γ φ H s/\RVL Γ φ H l xs/\kT s.length l=true/\f l s=.ok d s'/\ad4 Γ φ s H d s' Q
theorem RVL.one {φ:Nat->Addr}{H:Hp}{d:kS}{z:List V}(h:RVL Γ φ H [d] z):∃ x,z=[x]/\RV Γ φ H d x:=by
 obtain⟨x,r,rfl,F,C⟩:=h.uncons
 rw[C.unnil];exact⟨x,rfl,F⟩
noncomputable def biN:lF->Option (String×Nat)
 | .len=>some ("len",1)|.abs=>some ("abs",1)|.min2=>some ("min",2)|.max2=>some ("max",2)|_=>none
theorem zR:∀ {l:List kS} {is:List Int},lQ l=some is->l=is.map DV.D.int
 | [],is,h=>by unfold lQ at h;cases h;rfl
 | d::l,is,h=>by
  cases d with
  | int i =>
   have h:(lQ l).map (i::·)=some is:=h
   cases e:lQ l with
   | none=>rw[e]at h;cases h
   | some m=>rw[e]at h;cases h;rw[zR e];rfl
  | _=>cases h
theorem al5:∀ {l:List kS} {is:List Bool},lU l=some is->l=is.map DV.D.bl
 | [],is,h=>by unfold lU at h;cases h;rfl
 | d::l,is,h=>by
  cases d with
  | bl i =>
   have h:(lU l).map (i::·)=some is:=h
   cases e:lU l with
   | none=>rw[e]at h;cases h
   | some m=>rw[e]at h;cases h;rw[al5 e];rfl
  | _=>cases h
theorem RVL.ints {φ:Nat->Addr}{H:Hp}:∀ {is:List Int} {z:List V},RVL Γ φ H (is.map DV.D.int) z->z=is.map V.int
 | [],_,h=>h.unnil
 | i::is,_,h=>by
  obtain⟨x,r,rfl,F,C⟩:=RVL.uncons h
  rw[F.intE,RVL.ints C];rfl
theorem RVL.bls {φ:Nat->Addr}{H:Hp}:∀ {is:List Bool} {z:List V},RVL Γ φ H (is.map DV.D.bl) z->z=is.map V.bl
 | [],_,h=>h.unnil
 | i::is,_,h=>by
  obtain⟨x,r,rfl,F,C⟩:=RVL.uncons h
  rw[F.blE,RVL.bls C];rfl
theorem aT4 {f:kS->lT kS}{l:List kS}{s s':kR}{d:kS}(h:mM f l s=.ok d s'):∃ a,l=[a]/\f a s=.ok d s':=by
 match l,h with
 | [a],h=>exact⟨a,rfl,h⟩
 | [],h=>exact fb h
 | _::_::_,h=>exact fb h
theorem ba0 (F:X.K=Γ.K)(hc:X.calm=true){b:lF}{G:String}{k:Nat}(hn:biN b=some (G,k)):ab8 X (.builtin G) (rCl Γ (mz b)):=by
 intro z s σ H Z us Q I r h
 obtain⟨φ,st,l,d,C,R,hl,nl,hf,q⟩:=h
 cases b with
 | len =>
  cases hn
  have hf:mM DV.bz7 l st=.ok d C:=hf
  obtain⟨a,rfl,hg⟩:=aT4 hf
  clear hf
  obtain⟨x,rfl,hx⟩:=hl.one
  unfold DV.bz7 at hg
  cases a with
  | tup l =>
   cases hg
   obtain⟨p,ys,rfl,Y,d1⟩:=hx.tupE
   refine aj5 F z s σ H _ us Q I r ⟨p,ys,rfl,.inr Y,?_⟩
   rw[d1.length];exact q.here R rfl RV.intI
  | str l =>
   cases hg
   have J:=hx.strL
   have e:=hx.strE;subst e
   refine at8 z s σ H _ us Q I r ⟨_,rfl,by show l.toArray.size<=_;rw[aq];exact ak J zE,?_⟩
   show Q (.int ((l.toArray.size:Nat):Int)) H
   rw[aq]
   exact q.here R rfl RV.intI
  | ref n =>
   have e:=hx.refE;subst e
   simp only at hg
   cases hs:st[n]? with
   | none=>rw[hs]at hg;cases hg
   | some o =>
    rw[hs]at hg
    cases o with
    | lst l =>
     cases hg
     obtain⟨ys,e1,d1⟩:=R.addr hs
     refine aj5 F z s σ H _ us Q I r ⟨φ n,ys,rfl,.inl (SqL.of e1),?_⟩
     rw[d1.length];exact q.here R rfl RV.intI
    | ro l =>
     cases hg
     obtain⟨ys,e1,d1⟩:=R.obj _ _ hs
     refine aj5 F z s σ H _ us Q I r ⟨φ n,ys,rfl,.inl e1.1,?_⟩
     rw[d1.length];exact q.here R rfl RV.intI
    | dic l=>exact fb hg
    | dit l=>exact fb hg
    | ins c l=>exact fb hg
  | _=>exact fb hg
 | abs =>
  cases hn
  have hf:(match lQ l with|some [i]=>.ok (.int (if i<0 then -i else i)) st|_=>.bad:kW kS)=.ok d C:=hf
  split at hf
  ·rename_i i e
   cases hf
   have:=zR e;subst this
   have:=RVL.ints hl;subst this
   exact ba6 z s σ H _ us Q I r ⟨i,rfl,q.here R rfl RV.intI⟩
  ·exact fb hf
 | min2 =>
  cases hn
  have hf:(match lQ l with|some [a,b]=>.ok (.int (if b<a then b else a)) st|_=>.bad:kW kS)=.ok d C:=hf
  split at hf
  ·rename_i a b e
   cases hf
   have:=zR e;subst this
   have:=RVL.ints hl;subst this
   exact aX4 hc z s σ H _ us Q I r ⟨_,_,rfl,q.here R rfl RV.intI⟩
  ·exact fb hf
 | max2 =>
  cases hn
  have hf:(match lQ l with|some [a,b]=>.ok (.int (if b > a then b else a)) st|_=>.bad:kW kS)=.ok d C:=hf
  split at hf
  ·rename_i a b e
   cases hf
   have:=zR e;subst this
   have:=RVL.ints hl;subst this
   exact aW8 hc z s σ H _ us Q I r ⟨_,_,rfl,q.here R rfl RV.intI⟩
  ·exact fb hf
 | _=>cases hn
theorem aK9:∀ j:Nat,j<=9->bA (toString (j:Int))=(⟨[48+j].toArray⟩:Str):=by decide
theorem bL1:ab8 X (.type "int") (rCl Γ (mz .int)):=by
 intro z s σ H G us Q I r h
 obtain⟨φ,st,l,d,C,R,hl,J,hf,q⟩:=h
 have hf:(match lU l with|some [b]=>.ok (.int (if b then 1 else 0)) st|some _=>.bad|none=>DV.aM5 l st:kW kS)=.ok d C:=hf
 split at hf
 ·rename_i b e
  cases hf
  have:=al5 e;subst this
  have:=RVL.bls hl;subst this
  exact aS2 z s σ H _ us Q I r (.inr ⟨b,rfl,q.here R rfl RV.intI⟩)
 ·exact fb hf
 ·unfold DV.aM5 at hf
  split at hf
  ·rename_i c _ _
   split at hf
   ·rename_i hc
    cases hf
    obtain⟨x,F,rfl,r1,r2⟩:=hl.uncons
    cases(show F=[]from r2)
    have:=r1.strE
    subst this
    obtain⟨u,rfl,t,rfl⟩:=qz r
    obtain⟨j,hj,rfl⟩:∃ j:Nat,j<=9/\c=48+j:=⟨c - 48,by omega,by omega⟩
    rw[show(⟨[48+j].toArray⟩:Str)=bA (toString (j:Int))from(aK9 j hj).symm]
    refine PySem.W.KIN.call_num (by omega) (by omega) ⟨.int (j:Int),H,I.tok _,⟨_,rfl⟩,?_⟩
    have:=q.here R rfl (RV.intI (i:=((48+j - 48:Nat):Int)))
    rw[show 48+j - 48=j by omega]at this
    exact this
   ·exact fb hf
  ·exact fb hf
theorem bM7:ab8 X (.type "str") (rCl Γ (mz .str)):=by
 intro F s σ H J us Q I r h
 obtain⟨φ,st,l,d,C,R,hl,G,hf,q⟩:=h
 have hf:DV.aX0 l st=.ok d C:=hf
 unfold DV.aX0 at hf
 split at hf
 ·rename_i i _
  split at hf
  ·rename_i Y
   cases hf
   obtain⟨x,z,rfl,r1,r2⟩:=hl.uncons
   cases(show z=[]from r2)
   have:=r1.intE
   subst this
   obtain⟨u,rfl,t,rfl⟩:=qz r
   obtain⟨j,rfl⟩:∃ j:Nat,i=(j:Int):=⟨i.toNat,by omega⟩
   have hj:j<=9:=by omega
   refine PySem.P.str_of_int ?_ ⟨.str ⟨[48+j].toArray⟩,H,I.tok _,⟨s.toks,?_⟩,?_⟩
   ·have:(j:Int).natAbs.log2<=(j:Int).natAbs:=Nat.log2_le_self _
    omega
   ·rw[<-aK9 j hj]
   ·have:=q.here R rfl (RV.strI (x:=[48+(j:Int).toNat]) (by show 1<=k7;decide))
    rw[bS]at this
    exact this
  ·exact fb hf
 ·rename_i w _
  cases hf
  obtain⟨x,z,rfl,r1,r2⟩:=hl.uncons
  cases(show z=[]from r2)
  have e:=r1.strE
  subst e
  obtain⟨u,rfl,t,rfl⟩:=qz r
  refine PySem.P.str_of_str ⟨.str ⟨w.toArray⟩,H,I,⟨_,rfl⟩,?_⟩
  unfold kT at G
  exact q.here R rfl r1
 ·exact fb hf
noncomputable def an2:Nat->String
 | 1 => "int" | 2 => "bool" | 3 => "str" | 4 => "tuple" | _ => "list"
theorem bp7 {K:ae}(k:Nat)(hk:1<=k/\k<=5):bZ K (.type "NoneType") (.type (an2 k))=some false/\bZ K (.type "bool") (.type (an2 k))=some (k==1||k==2) /\
  bZ K (.type "int") (.type (an2 k))=some (k==1)/\bZ K (.type "str") (.type (an2 k))=some (k==3)/\bZ K (.type "tuple") (.type (an2 k))=some (k==4)/\bZ K (.type "list") (.type (an2 k))=some (k==5):=by
 obtain⟨C,z⟩:=hk
 rcases(by omega:k=1\/k=2\/k=3\/k=4\/k=5)with h|h|h|h|h<;>subst h<;>refine⟨?_,?_,?_,?_,?_,?_⟩<;>with_unfolding_all rfl
theorem aN6 {C:List (Addr×Obj)}{σ:St}{H:Hp}{s:af}{A:aN}{E:Value->af->Prop}{Q:Value->af->Prop}{c:Value}{b:Bool}{a:Addr}{F:List V}(I:Inv X C σ H s)(G:SqT X.K H a F)(e:bZ X.K (.type "tuple") c=some b)
  (h:∀ tk,Q (.bool b) { s with toks:=tk }):wpAny (model X.prog X.w) A (call (.builtin "isinstance") [.ref a,c]) Q E s:=by
 obtain⟨its,_,⟨o,g1,J,_⟩,_⟩:=I.tuple G
 exact bD i7 I.kIn ⟨o,g1,J⟩ e (fun z=>nomatch z) h
theorem bJ8 (hK:X.K=Γ.K){k:Nat}(hk:1<=k/\k<=5):ab8 X (.builtin "isinstance") (fun C H Q=>∃ x,C=[x,.ty (an2 k)]/\rCl Γ (mM (mV k)) [x] H Q):=by
 intro F s σ H C us Q I r h
 obtain⟨x,rfl,φ,st,l,d,z,R,hl,nl,hf,q⟩:=h
 obtain⟨a,rfl,hg⟩:=aT4 hf
 clear hf
 obtain⟨u,w',rfl,r1,r2⟩:=bm9 r
 cases r2
 obtain⟨x',e',hx⟩:=hl.one
 cases e'
 obtain⟨k0,k1,k2,Z,J,Y⟩:=bp7 (K:=X.K) k hk
 unfold mV at hg
 cases a with
 | non=>cases hg;have e:=hx.nonE;subst e;exact qf I r1 .non k0 fun tk=>⟨.bl _,H,I.tok _,rfl,q.here R rfl RV.blI⟩
 | bl b=>cases hg;have e:=hx.blE;subst e;exact qf I r1 (.bl b) k1 fun tk=>⟨.bl _,H,I.tok _,rfl,q.here R rfl RV.blI⟩
 | int b=>cases hg;have e:=hx.intE;subst e;exact qf I r1 (.int b) k2 fun tk=>⟨.bl _,H,I.tok _,rfl,q.here R rfl RV.blI⟩
 | str b=>cases hg;have e:=hx.strE;subst e;exact qf I r1 (.str _) Z fun tk=>⟨.bl _,H,I.tok _,rfl,q.here R rfl RV.blI⟩
 | tup l =>
  cases hg
  obtain⟨p,ys,rfl,G,d1⟩:=hx.tupE
  cases r1
  rw[<-hK]at G
  exact aN6 I G J fun tk=>⟨.bl _,H,I.tok _,rfl,q.here R rfl RV.blI⟩
 | ref n =>
  have e:=hx.refE;subst e
  have hg:(match st[n]? with|some (.lst _)=>.ok (.bl (k==5)) st|_=>.bad:kW kS)=.ok d z:=hg
  cases hs:st[n]? with
  | none=>rw[hs]at hg;cases hg
  | some o =>
   rw[hs]at hg
   cases o with
   | lst l =>
    cases hg
    obtain⟨ys,e1,d1⟩:=R.addr hs
    exact qf I r1 (.lst e1) Y fun tk=>⟨.bl _,H,I.tok _,rfl,q.here R rfl RV.blI⟩
   | _=>exact fb hg
 | _=>exact fb hg
variable {X:Cx}
theorem bw3 {bs:List Bool}{its:List Value}(r:Vals (bs.map V.bl) its){i:Nat}{v:Value}(h:its[i]?=some v):∃ z,bs[i]?=some z/\v=Value.bool z:=by
 induction bs generalizing its i with
 | nil=>rw[bX]at r;cases r;simp at h
 | cons b bs ih =>
  rw[aL]at r
  cases r with
  | cons r1 r2 =>
   cases i with
   | zero =>
    cases r1
    have:_=v:=av h
    exact⟨b,rfl,this.symm⟩
   | succ i=>exact ih r2 h
theorem aW0 {bs:List Bool}:(aR bs.length).all (fun i=>bs.getD i false)=bs.all id:=by
 rw[dM,aU,aU]
 constructor
 ·intro h b hb
  obtain⟨i,z,e⟩:=cf.mp hb
  have:=h i (cz.mpr z)
  rw[aV,ai z]at this
  rw[<-e];exact this
 ·intro h i z
  have z:=cz.mp z
  rw[aV,ai z]
  exact h _ (jJ z)
theorem aY7 {K:ae}(hc:X.calm=true)(hK:X.K=K):ab8 X (.builtin "all") (fun J H Q=>∃(a:Addr) (bs:List Bool),J=[.ref a]/\SqL K H a (bs.map V.bl)/\Q (.bl (bs.all id)) H):=by
 subst hK
 intro Z s σ H J us Q I r h
 obtain⟨a,bs,rfl,hS,q⟩:=h
 obtain⟨u,rfl,ru⟩:=qz r
 cases ru
 obtain⟨its,Y,G,hz⟩:=I.list hS
 have hl:=Y.length
 rw[ay]at hl
 refine call_all_walk (du G.isList ?_)
 have F:a<s.heap.objs.size:=by obtain⟨o,_,e,_⟩:=G;exact aD e
 have W:=j5 (prog:=X.prog) (w:=X.w) (A:=X.A.in1) (I.ok.hd hc) s.heap.objs.size a (az F) its.toArray
 refine⟨_,_,_,_,_,_,fun i=>bs.getD i false,rfl,W,⟨⟨_,aQ _ rfl,rfl,rfl⟩,?_⟩,fun i v s' Q' E' C hQ=>?_,fun h' tk k=>?_⟩
 ·obtain⟨o,e,r⟩:=G.isList
  exact⟨o,am _ e,r⟩
 ·obtain⟨z,e1,e2⟩:=bw3 Y (i:=i) (v:=v) (by have C:its.toArray[i]?=some v:=C;rw[cH]at C;exact C)
  subst e2
  refine bO ?_
  have:bs.getD i false=z:=by rw[aV,e1];rfl
  rw[<-this];exact hQ
 ·have es:its.toArray.size=bs.length:=by rw[aq];omega
  rw[es,aW0]
  refine⟨.bl (bs.all id),H,I.kept (h':=h') (t':=tk) fun b o q=>k b o ?_ (am _ q),rfl,q⟩
  intro z
  have z':b=s.heap.objs.size:=by simpa using z
  exact absurd (aD q) (by rw[z'];exact bp _)
noncomputable def sgV (x:List Nat):List V:=x.map fun c=>.str ⟨#[c]⟩
theorem br1 {vs:List V}{z:List Value}(hl:vs.length=z.length)(h:∀(i:Nat) (x:V) (u:Value),vs[i]?=some x->z[i]?=some u->RelV x u):Vals vs z:=by
 induction vs generalizing z with
 | nil=>cases z with
  | nil=>exact .nil
  | cons _ _=>cases hl
 | cons v vs ih=>cases z with
  | nil=>cases hl
  | cons a z=>exact .cons (h 0 v a rfl rfl) (ih (by simpa using hl) fun i x u e1 e2=>h (i+1) x u e1 e2)
theorem ao3 {x:List Nat}{z:Array Value}(h:ItemsOf (SignAt ⟨x.toArray⟩) z x.length):Vals (sgV x) z.toList:=by
 have hl:(sgV x).length=z.toList.length:=by unfold sgV;rw[ay];simpa using h.1.symm
 refine br1 hl fun i v u e1 e2=>?_
 obtain⟨c,t,C,F⟩:=h.2 i u (by rw[<-Array.getElem?_toList];exact e2)
 unfold sgV at e1
 rw[aA]at e1
 have C:x[i]?=some c:=by simpa using C
 rw[C]at e1
 cases e1
 exact⟨t,F⟩
theorem aB3 (hc:X.calm=true):ab8 X (.type "tuple") (fun G H Q=>∃ x:List Nat,G=[.str ⟨x.toArray⟩]/\x.length<=k7/\∀ l,H l=none->Q (.ref l) (upd H l (.tup (sgV x)))):=by
 intro z s σ H G us Q I r h
 obtain⟨x,rfl,hl,q⟩:=h
 obtain⟨u,rfl,Z⟩:=qz r
 obtain⟨t,rfl⟩:=Z
 have hz:(sgV x).length<=aE:=by unfold sgV;rw[ay];exact ak hl zE
 refine call_tuple_str (I.ok.hd hc) _ t (fun h' tk C kp F=>?_) (by show x.toArray.size<=_;rw[aq];exact ak hl zE)
 have F:ItemsOf (SignAt ⟨x.toArray⟩) C x.length:=by simpa using F
 have Y:=ao3 F
 have J:Inv X z σ H { s with heap:=h',toks:=tk }:=I.kept (t':=tk) kp
 have I2:Inv X z σ (upd H h'.objs.size (.tup (sgV x))) { s with heap:=h'.push { cls:=.type "tuple",data:=.seq C },toks:=tk } :=
  J.laid (t':=tk) (fun b o e=>am _ e) (aj _) (show ab5 X.prog X.w _ _ _ (.tup (sgV x))from⟨hz,C.toList,Y,jD _ _⟩)
 exact⟨.ref h'.objs.size,_,I2,rfl,q _ (J.hok.fresh (aj _))⟩
theorem aN8 (hc:X.calm=true):ab8 X (.type "list") (fun F H Q=>∃ x:List Nat,F=[.str ⟨x.toArray⟩]/\x.length<=k7/\∀ l,H l=none->Q (.ref l) (upd H l (.lst (sgV x)))):=by
 intro G s σ H F us Q I r h
 obtain⟨x,rfl,hl,q⟩:=h
 obtain⟨u,rfl,Z⟩:=qz r
 obtain⟨t,rfl⟩:=Z
 have hz:(sgV x).length<=aE:=by unfold sgV;rw[ay];exact ak hl zE
 refine call_list_str (I.ok.hd hc) _ t (fun h' tk z J kp e C=>?_) (by show x.toArray.size<=_;rw[aq];exact ak hl zE)
 have C:ItemsOf (SignAt ⟨x.toArray⟩) z x.length:=by simpa using C
 have Y:=ao3 C
 exact⟨.ref s.heap.objs.size,_,I.laid (t':=tk) kp (aj _) (show ab5 X.prog X.w _ h' _ (.lst (sgV x))from⟨hz,z.toList,J,Y,e⟩),rfl,q _ (I.hok.fresh (aj _))⟩
section
variable {Γ:Gm} {φ φ':Nat->Addr} {H H' H1 H2 H3:Hp} {clos:List (Str×Addr)} {s s':kR}
theorem zD (hc:Cells clos H){a:Addr}{u:HO}(e:H a=some u)(hu:∀ o,u≠.frz o (.own a)):isC clos a≠true:=fun z=>by
 obtain⟨o,v,q,_⟩:=hc.at z
 rw[e]at q;cases q;exact hu o rfl
theorem SqT.dropC {K:ae}{a:Addr}{C:List V}(hc:Cells clos H)(h:SqT K H a C):SqT K (ab6 clos H) a C:=by
 rcases h with(h|⟨o,h⟩)|h
 ·exact .inl (.inl (by rw[ab6.ne (zD hc h (fun _ z=>by cases z))];exact h))
 ·exact .inl (.inr ⟨o,by rw[ab6.ne (zD hc h (fun _ z=>by cases z))];exact h⟩)
 ·exact .inr h
theorem SqL.dropC {K:ae}{a:Addr}{C:List V}(hc:Cells clos H)(h:SqL K H a C):SqL K (ab6 clos H) a C:=by
 rcases h with(h|⟨o,h⟩)|h
 ·exact .inl (.inl (by rw[ab6.ne (zD hc h (fun _ z=>by cases z))];exact h))
 ·exact .inl (.inr ⟨o,by rw[ab6.ne (zD hc h (fun _ z=>by cases z))];exact h⟩)
 ·exact .inr h
theorem SqF.dropC {K:ae}{a:Addr}{F:List V}(hc:Cells clos H)(h:SqF K H a F):SqF K (ab6 clos H) a F:=by
 refine⟨SqL.dropC hc h.1,fun C k=>?_⟩
 have hk:Kp H (fun b=>if isC clos b=true then H b else C b):=fun b o e f=>by
  by_cases z:isC clos b=true
  ·show(if isC clos b=true then H b else C b)=_;rw[if_pos z];exact e
  ·show(if isC clos b=true then H b else C b)=_
   rw[if_neg z]
   exact k b o (by rw[ab6.ne z];exact e) f
 have q:=h.2 _ hk
 have at_:∀ u,(if isC clos a=true then H a else C a)=some u->(∀ o,u≠.frz o (.own a))->C a=some u:=fun u e hu=>by
  by_cases z:isC clos a=true
  ·rw[if_pos z]at e
   exact absurd z (zD hc e hu)
  ·rw[if_neg z]at e;exact e
 rcases q with(q|⟨o,q⟩)|q
 ·exact .inl (.inl (at_ _ q (fun _ z=>by cases z)))
 ·exact .inl (.inr ⟨o,at_ _ q (fun _ z=>by cases z)⟩)
 ·exact .inr q
mutual
theorem RV.dropC (hc:Cells clos H):∀(d:kS) (v:V),d.ncl=true->RV Γ φ H d v->RV Γ φ (ab6 clos H) d v
 | .non,_,_,h=>by unfold RV at h ⊢;exact h
 | .bl _,_,_,h=>by unfold RV at h ⊢;exact h
 | .int _,_,_,h=>by unfold RV at h ⊢;exact h
 | .str _,_,_,h=>by unfold RV at h ⊢;exact h
 | .tup l,_,n,h=>by
  unfold RV at h ⊢
  unfold mW at n
  obtain⟨a,C,e,q,r⟩:=h
  exact⟨a,C,e,⟨SqT.dropC hc q.1,fun z=>by rw[ab6.ne (zD hc (q.2 z) (fun _ z=>by cases z))];exact q.2 z⟩,RVL.dropC hc l C n r⟩
 | .ref k,_,_,h=>by unfold RV at h ⊢;exact h
 | .fn _,_,_,h=>by unfold RV at h ⊢;exact h
 | .clo id cs,_,n,h=>by unfold mW at n;cases n
theorem RVL.dropC (hc:Cells clos H):∀(l:List kS) (z:List V),lP l=true->RVL Γ φ H l z->RVL Γ φ (ab6 clos H) l z
 | [],_,_,h=>by unfold RVL at h ⊢;exact h
 | d::l,_,n,h=>by
  unfold lP at n
  rw[ah]at n
  obtain⟨x,r,e,F,C⟩:=h.uncons
  subst e
  exact .cons (RV.dropC hc d x n.1 F) (RVL.dropC hc l r n.2 C)
end
theorem RVD.dropC {κ:Type}{C:kS->Option κ}(hc:Cells clos H):∀(l:List (kS×kS)) (z:List (κ×V)),lP (l.map (·.2))=true->RVD C Γ φ H l z->RVD C Γ φ (ab6 clos H) l z
 | [],_,_,h=>h
 | (d,e)::l,_,n,h=>by
  obtain⟨k,v,r,e1,e2,F,G⟩:=h
  rw[aL]at n
  unfold lP at n
  rw[ah]at n
  exact⟨k,v,r,e1,e2,RV.dropC hc e v n.1 F,RVD.dropC hc l r n.2 G⟩
theorem RO.dropC {a:Addr}{o:lC}(hc:Cells clos H)(h:RO Γ φ H a o)(n:o.ncl=true):RO Γ φ (ab6 clos H) a o:=by
 cases o with
 | lst l =>
  obtain⟨C,e,r⟩:=h
  exact⟨C,by rw[ab6.ne (zD hc e (fun _ z=>by cases z))];exact e,RVL.dropC hc l C n r⟩
 | ro l =>
  obtain⟨C,e,r⟩:=h
  exact⟨C,SqF.dropC hc e,RVL.dropC hc l C n r⟩
 | dic l =>
  obtain⟨C,e,r⟩:=h
  exact⟨C,by rw[ab6.ne (zD hc e (fun _ z=>by cases z))];exact e,RVD.dropC hc l C n r⟩
 | dit l =>
  obtain⟨C,e,r⟩:=h
  exact⟨C,by rw[ab6.ne (zD hc e (fun _ z=>by cases z))];exact e,RVD.dropC hc l C n r⟩
 | ins _ _=>exact h.elim
theorem TabsH.dropC {T:List (Addr×Str)}(hc:Cells clos H)(h:TabsH T H):TabsH T (ab6 clos H):=fun y hy=>by
 obtain⟨ps,e,t,c⟩:=h y hy
 refine⟨ps,by rw[ab6.ne (zD hc e (fun _ z=>by cases z))];exact e,t,fun pos C q=>?_⟩
 obtain⟨F,e1,e2⟩:=c pos C q
 exact⟨F,e1,by rw[ab6.ne (zD hc e2 (fun _ z=>by unfold au6 at z;cases z))];exact e2⟩
theorem Rp.dropC (hc:Cells clos H)(r:Rp Γ φ H s)(n:s.all DV.O.ncl=true):Rp Γ φ (ab6 clos H) s :=
 ⟨r.inj,fun i o e=>RO.dropC hc (r.obj i o e) (aU.mp n o (aS e)),r.wf,TabsH.dropC hc r.tab⟩
theorem aS4 (h:∀ b,isC clos b=true->H' b=none):ae3 H' (Put clos H H'):=fun b o e=>by
 rw[Put.ne (fun z=>by rw[h b z]at e;cases e)];exact e
theorem Gr.put (hc:Cells clos H)(C:∀ b,isC clos b=true->H' b=none)(J:∀ b o,Γ.K.lookup b=some o->H b=none)(R':Rp Γ φ' H' s')(g:Gr φ s (ab6 clos H) φ' s' H'):Gr φ s H φ' s' (Put clos H H'):=by
 refine⟨⟨g.w.map,fun b o e f=>?_⟩,g.le,fun i h1 G=>?_,g.kd,fun b e=>?_,fun b o e nt Y=>?_⟩
 ·by_cases z:isC clos b=true
  ·rw[Put.cell z];exact e
  ·rw[Put.ne z];exact g.w.kp b o (by rw[ab6.ne z];exact e) f
 ·have hd:=g.new i h1 G
  by_cases z:isC clos (φ' i)=true
  ·have hg:=C _ z
   obtain⟨o,Z⟩:∃ o,s'[i]?=some o:=⟨s'[i],ai G⟩
   have h:=R'.obj i o Z
   cases o with
   | lst l=>obtain⟨F,e,_⟩:=h;rw[hg]at e;cases e
   | ro l =>
    obtain⟨F,e,_⟩:=h
    rcases e.1 with(e|⟨_,e⟩)|⟨ob,its,n,e,_⟩
    ·rw[hg]at e;cases e
    ·rw[hg]at e;cases e
    ·exact J _ _ e
   | dic l=>obtain⟨F,e,_⟩:=h;rw[hg]at e;cases e
   | dit l=>obtain⟨F,e,_⟩:=h;rw[hg]at e;cases e
   | ins _ _=>exact h.elim
  ·rw[ab6.ne z]at hd;exact hd
 ·by_cases z:isC clos b=true
  ·rw[Put.cell z];exact e
  ·rw[Put.ne z];exact g.st b (by rw[ab6.ne z];exact e)
 ·by_cases z:isC clos b=true
  ·rw[Put.cell z];exact e
  ·rw[Put.ne z];exact g.fr b o (by rw[ab6.ne z];exact e) nt Y
theorem by7 {P:aB}{w:World}{K:ae}{mg:Str->Option Value}{base:Heap}{k:Nat}{f:Addr}{N ps fr:List Str}{name qual:Str}{params:bU}{body:List Stmt}{scope:Scope}{h:List (Str×Addr)}{cap:List V}{sp:Sp}
  (S:LamScope N ps fr scope) (len:∀ vs H Q E,sp vs H Q E->vs.length=ps.length) (a4:cap.length=fr.length)
  (a0:∀(Y pm:Value) (c':Addr) (G:Value) (us:List Value),us.length=ps.length->dZ (fR name qual params body scope h .none .none Y pm none (.ref c') G) ⟨us,[]⟩=pure (ps.zip us))
  (Z:∀(A:aN) (C:List Env) (s:af) (H:Hp) (cd:Value) (vs:List V) (Q:VK),Room k (A.deeper (c5 qual scope s.heap.objs.size f cd (aK (s.heap.objs.size+1) scope.names h)))->an7 H f name qual params body scope fr cap h->(∀ b o,K.lookup b=some o->H b=none)->sp vs H Q E0 ->
   ∃ t,PSs (aC8 P w K mg base N qual scope f cd h A C s H) body t/\t { nx:=fun _ H'=>(∀ b,isC h b=true->H' b=none)->Q .non (Put h H H'),rt:=fun v H'=>(∀ b,isC h b=true->H' b=none)->Q v (Put h H H') } (vs.map some++cap.map some) (ab6 h H)) :
  ClOk P w K mg base (k+1) (fun H=>an7 H f name qual params body scope fr cap h) f sp:=by
 refine⟨fun A C s H us vs Q hr F hR r a2=>?_⟩
 have hl:=len _ _ _ _ a2
 obtain⟨Y,pm,c',G,h1,h2,h3,h4,h5,h6⟩:=id hR
 have a5:s.heap.NoLimit:=F.mod.nolimit.keeps fun b o e=>(F.bs b o e).1
 refine hG hr.depth (at5 F.hok h1) rfl S.co S.gen rfl (aw3 F.hok h2) ?_
 rw[a0 Y pm c' G us (by rw[<-r.length];exact hl)]
 refine ar (ao7 S.kind (fun y hy=>?_) fun env he s1 x=>?_)
 ·rcases S.par y.1 (dL (show(y.1,y.2)∈ps.zip us from hy)).1 with q|q
  ·exact .inl q
  ·exact .inr ⟨q,zM q⟩
 ·subst he
  refine⟨a5.keeps x.toInCall.keep,codeAny_func ?_⟩
  obtain⟨t,ht,hq⟩:=Z A C s H (.ref c') vs Q (hr.deeper _) hR (fun b o e=>(F.bs b o (F.mod.kin b o e)).2) a2
  have I:=aS5 S hr.hd F hl a4 r h3 h4 h5 h6 x
  refine bN (ht [] s1 _ _ _ I hq) (fun fl s' hs=>?_) fun e s' hs=>hs.elim
  have fin:∀ {σ':St} {H':Hp} {v:V} {u:Value},Inv (aC8 P w K mg base N qual scope f (.ref c') h A C s H) [] σ' H' s'->RelV v u->((∀ b,isC h b=true->H' b=none)->Q v (Put h H H'))->CE C P w H s Q u s':=fun {σ' H' v u} J rv q=>by
   obtain⟨un,a3⟩:=aV6 F.hok h3 F.frf J.base J.hok
   have a1:∀ b,isC h b=true->H' b=none:=fun b y=>by
    obtain⟨o,v,z,_⟩:=h3.at y
    exact(show Un (frs C) [] (ab6 h H) H' s.heap s'.heap from J.base).free b o (F.hok b _ z).1 (ab6.cell y) (by simp)
   exact⟨v,_,J.os,J.bare,un,a3,rv,q a1⟩
  cases fl with
  | ret u =>
   obtain⟨v,σ',H',J,rv,q⟩:=hs
   exact fin J rv q
  | next =>
   obtain⟨σ',H',J,q⟩:=hs
   exact fin (v:=V.non) (u:=Value.none) J rfl q
  | brk =>
   obtain⟨_,_,_,q⟩:=hs
   exact cn q
  | cont =>
   obtain⟨_,_,_,q⟩:=hs
   exact cn q
theorem by5 {P:aB}{w:World}{K:ae}{mg:Str->Option Value}{base:Heap}{k:Nat}{f:Addr}{N ps fr:List Str}{qual:Str}{params:bU}{body:Expr}{scope:Scope}{h:List (Str×Addr)}{cap:List V}{sp:Sp}
  (S:LamScope N ps fr scope) (len:∀ vs H Q E,sp vs H Q E->vs.length=ps.length) (a3:cap.length=fr.length)
  (Z:∀(pm:Value) (c':Addr) (G:Value) (us:List Value),us.length=ps.length->dZ (dC "<lambda>" qual params body scope h pm (.ref c') G) ⟨us,[]⟩=pure (ps.zip us))
  (Y:∀(A:aN) (C:List Env) (s:af) (H:Hp) (cd:Value) (vs:List V) (Q:VK),Room k (A.deeper (c5 qual scope s.heap.objs.size f cd (aK (s.heap.objs.size+1) scope.names h)))->aE1 H f qual params body scope fr cap h->(∀ b o,K.lookup b=some o->H b=none)->sp vs H Q E0 ->
   ∃ t,PE (aC8 P w K mg base N qual scope f cd h A C s H) body t/\t (vs.map some++cap.map some) (ab6 h H) fun v H'=>(∀ b,isC h b=true->H' b=none)->Q v (Put h H H')) :
  ClOk P w K mg base (k+1) (fun H=>aE1 H f qual params body scope fr cap h) f sp:=by
 refine⟨fun A C s H us vs Q hr F hR r a1=>?_⟩
 have hl:=len _ _ _ _ a1
 obtain⟨pm,c',G,h1,h2,h3,h4,h5,h6⟩:=id hR
 have a4:s.heap.NoLimit:=F.mod.nolimit.keeps fun b o e=>(F.bs b o e).1
 refine PySem.W.kla_callFunE hr.depth (at5 F.hok h1) rfl S.co S.gen rfl (aw3 F.hok h2) ?_
 rw[Z pm c' G us (by rw[<-r.length];exact hl)]
 refine ar (ao7 S.kind (fun y hy=>?_) fun env he s1 x=>?_)
 ·rcases S.par y.1 (dL (show(y.1,y.2)∈ps.zip us from hy)).1 with q|q
  ·exact .inl q
  ·exact .inr ⟨q,zM q⟩
 ·subst he
  refine⟨a4.keeps x.toInCall.keep,PySem.W.kla_codeExpr ?_⟩
  obtain⟨t,ht,hq⟩:=Y A C s H (.ref c') vs Q (hr.deeper _) hR (fun b o e=>(F.bs b o (F.mod.kin b o e)).2) a1
  have I:=aS5 S hr.hd F hl a3 r h3 h4 h5 h6 x
  refine bN (ht [] s1 _ _ _ I hq) (fun u s' hs=>?_) fun e s' hs=>hs.elim
  obtain⟨v,H',J,rv,q⟩:=hs
  obtain⟨un,a2⟩:=aV6 F.hok h3 F.frf J.base J.hok
  have a0:∀ b,isC h b=true->H' b=none:=fun b y=>by
   obtain⟨o,v,z,_⟩:=h3.at y
   exact(show Un (frs C) [] (ab6 h H) H' s.heap s'.heap from J.base).free b o (F.hok b _ z).1 (ab6.cell y) (by simp)
  exact⟨v,_,J.os,J.bare,un,a2,rv,q a0⟩
theorem Cells.kp {H H':Hp}(h:Cells clos H)(k:Kp H H'):Cells clos H':=fun x c e=>by
 obtain⟨o,v,q,d⟩:=h x c e
 exact⟨o,v,k _ _ q rfl,d⟩
noncomputable def PVp (Γ : Gm) (cells : List (Str × Addr)) (N : List Str) (σ : St) (φ : Nat -> Addr) (H : Hp) (d : DV.D) (v : V) : Prop := RV Γ φ H d v \/ ∃ id cs, d = .clo id cs /\ ∃ f J, v = .ref f /\ Γ.lg id J /\ au3 H f J (an1 cells J.scope.names []) /\
      cs.length = J.fr.length /\ (∀ x, J.scope.names.lookup x = some .free -> ∃ c, cells.lookup x = some c) /\
      ∃ cap, RVL Γ φ H cs cap /\ ∀(i : Nat) (x : Str) (v : V), J.fr[i]? = some x -> cap[i]? = some v -> J.scope.names.lookup x = some .free /\ ∃ j : Nat, N[j]? = some x /\ σ[j]? = some (some v)
inductive PVL (Γ:Gm)(cells:List (Str×Addr))(N:List Str)(σ:St)(φ:Nat->Addr)(H:Hp):List kS->List V->Prop where
 | nil:PVL Γ cells N σ φ H [] []
 | cons {d v l vs} (a:PVp Γ cells N σ φ H d v) (b:PVL Γ cells N σ φ H l vs):PVL Γ cells N σ φ H (d::l) (v::vs)
theorem PVp.mono {cells:List (Str×Addr)}{N:List Str}{σ:St}{φ φ':Nat->Addr}{s s':kR}{H H':Hp}(g:Gr φ s H φ' s' H'){d:kS}{v:V}(b:d.bnd s.length=true)(h:PVp Γ cells N σ φ H d v):PVp Γ cells N σ φ' H' d v:=by
 rcases h with h|⟨id,cs,rfl,h⟩
 ·exact .inl (RV.mono g _ _ b h)
 ·obtain⟨f,J,e,G,z,C,F,cap,Y,h7⟩:=h
  unfold kY at b
  exact .inr ⟨id,cs,rfl,f,J,e,G,z.kp g.w.kp,C,F,cap,RVL.mono g cs cap b Y,h7⟩
end
variable {Γ:Gm} {X:Cx}
def TEv (Γ:Gm)(m:kU->kR->kW kS):TE:=fun σ H Q=>∃ φ ρ s d s',RE Γ φ H s.length ρ σ/\Rp Γ φ H s/\m ρ s=.ok d s'/\ad4 Γ φ s H d s' Q
def bG4 (Γ:Gm)(φ:Nat->Addr)(s:kR)(H:Hp)(l:List kS)(s':kR)(Q:List V->Hp->Prop):Prop :=
 ∀ vs φ' H',Gr φ s H φ' s' H'->s.length<=s'.length->kT s'.length l=true->RVL Γ φ' H' l vs->Rp Γ φ' H' s'->Q vs H'
def TAv (Γ:Gm)(m:kU->kR->kW (List kS)):TA:=fun σ H Q=>∃ φ ρ s l s',RE Γ φ H s.length ρ σ/\Rp Γ φ H s/\m ρ s=.ok l s'/\bG4 Γ φ s H l s' Q
def aK4 (Γ:Gm)(φ:Nat->Addr)(s:kR)(H:Hp)(b:Bool)(s':kR)(Q:Bool->Hp->Prop):Prop :=
 ∀ φ' H',Gr φ s H φ' s' H'->s.length<=s'.length->Rp Γ φ' H' s'->Q b H'
def TTv (Γ:Gm)(m:kU->kR->kW kS):TT:=fun σ H Q=>∃ φ ρ s b s',RE Γ φ H s.length ρ σ/\Rp Γ φ H s/\m ρ s=.ok (.bl b) s'/\aK4 Γ φ s H b s' Q
theorem PE.imp {e:Expr}{t t':TE}(h:PE X e t)(i:∀ σ H Q,t' σ H Q->t σ H Q):PE X e t':=fun z s σ H Q I q=>h z s σ H Q I (i σ H Q q)
theorem PT.imp {e:Expr}{t t':TT}(h:PT X e t)(i:∀ σ H Q,t' σ H Q->t σ H Q):PT X e t':=fun z s σ H Q I q=>h z s σ H Q I (i σ H Q q)
theorem PA.imp {e:List Expr}{t t':TA}(h:PA X e t)(i:∀ σ H Q,t' σ H Q->t σ H Q):PA X e t':=fun pos z s σ H Q I q=>h pos z s σ H Q I (i σ H Q q)
theorem aK4.trans {φ φ1:Nat->Addr}{s s1 s':kR}{H z:Hp}{b:Bool}{Q:Bool->Hp->Prop}(h:aK4 Γ φ s H b s' Q)(g:Gr φ s H φ1 s1 z)(l:s.length<=s1.length):aK4 Γ φ1 s1 z b s' Q :=
 fun φ' H' g' C p=>h φ' H' (g.trans g' l) (ak l C) p
theorem bH0 (i:Nat){σ:St}{H:Hp}{Q:VK}(h:TEv Γ (fun ρ s=>DV.aY3 ρ i s) σ H Q):cb1 i σ H Q:=by
 obtain⟨φ,ρ,s,d,s',E,R,hm,q⟩:=h
 simp only[DV.aY3]at hm
 split at hm
 ·rename_i d' e
  cases hm
  obtain⟨b,v,e1,e2⟩:=E.val i _ e
  exact⟨v,e1,q.here R b e2⟩
 ·exact fb hm
theorem az5 {c:kS}{v:V}(hb:∀ n,c.bnd n=true)(hv:∀ φ H,RV Γ φ H c v){σ:St}{H:Hp}{Q:VK}(h:TEv Γ (fun ρ s=>.ok c s) σ H Q):tC v σ H Q:=by
 obtain⟨φ,ρ,s,d,s',E,R,hm,q⟩:=h
 cases hm
 exact q.here R (hb _) (hv _ _)
theorem aZ9 {C F:kU->kR->kW kS}{f:kS->kS->kR->kW kS}{σ:St}{H:Hp}{Q:VK}(h:TEv Γ (fun ρ s=>(C ρ s).bind fun x s=>(F ρ s).bind fun y s=>f x y s) σ H Q):tOp (rOp Γ f) (TEv Γ C) (TEv Γ F) σ H Q:=by
 obtain⟨φ,ρ,s,d,s',E,R,hm,q⟩:=h
 obtain⟨x,s1,e1,hm⟩:=aa0 hm
 obtain⟨y,s2,e2,hm⟩:=aa0 hm
 refine⟨φ,ρ,s,x,s1,E,R,e1,fun J φ1 H1 g1 l1 b1 r1 R1=>?_⟩
 refine⟨φ1,ρ,s1,y,s2,E.mono g1 l1,R1,e2,fun Z φ2 Y G z b2 r2 R2=>?_⟩
 exact⟨φ2,s2,x,y,d,s',R2,RV.mono G x J b1 r1,r2,zh z x b1,b2,hm,q.trans (g1.trans G l1) (ak l1 z)⟩
theorem zC {α:Type}{r:kW kS}{f:Bool->kR->kW α}{a:α}{t:kR}(h:lh r f=.ok a t):∃ b s,r=.ok (.bl b) s/\f b s=.ok a t:=by
 unfold lh at h
 obtain⟨d,s,e,h⟩:=aa0 h
 cases d with
 | bl b=>exact⟨b,s,e,h⟩
 | _=>exact fb h
theorem aH2 {m:kU->kR->kW kS}{σ:St}{H:Hp}{Q:Bool->Hp->Prop}(h:TTv Γ m σ H Q):tB (TEv Γ m) σ H Q:=by
 obtain⟨φ,ρ,s,b,s',E,R,hm,q⟩:=h
 refine⟨φ,ρ,s,.bl b,s',E,R,hm,fun v φ' H' g l C r z=>?_⟩
 exact⟨b,r.blE,q φ' H' g l z⟩
theorem bq4 {m:kU->kR->kW kS}{σ:St}{H:Hp}{Q:Bool->Hp->Prop}(h:TTv Γ m σ H Q):bB5 (TEv Γ m) σ H Q:=aH2 h
theorem bJ3 {m:kU->kR->kW kS}{σ:St}{H:Hp}{Q:Bool->Hp->Prop}(h:TTv Γ (fun ρ s=>lh (m ρ s) fun b s=>.ok (.bl (!b)) s) σ H Q):bZ7 (TTv Γ m) σ H Q:=by
 obtain⟨φ,ρ,s,b,s',E,R,hm,q⟩:=h
 obtain⟨c,s1,e1,hm⟩:=zC hm
 cases hm
 exact⟨φ,ρ,s,c,_,E,R,e1,q⟩
theorem bj0 {C z:kU->kR->kW kS}{σ:St}{H:Hp}{Q:Bool->Hp->Prop}(h:TTv Γ (fun ρ s=>lh (C ρ s) fun c s=>if c then lh (z ρ s) fun c s=>.ok (.bl c) s else .ok (.bl false) s) σ H Q):cb4 (TTv Γ C) (TTv Γ z) σ H Q:=by
 obtain⟨φ,ρ,s,b,s',E,R,hm,q⟩:=h
 obtain⟨c,s1,e1,hm⟩:=zC hm
 refine⟨φ,ρ,s,c,s1,E,R,e1,fun φ1 F g1 l1 R1=>?_⟩
 cases c with
 | true =>
  rw[if_pos rfl]at hm ⊢
  obtain⟨G,s2,e2,hm⟩:=zC hm
  cases hm
  exact⟨φ1,ρ,s1,_,_,E.mono g1 l1,R1,e2,q.trans g1 l1⟩
 | false =>
  rw[if_neg aO]at hm ⊢
  cases hm
  exact q φ1 F g1 l1 R1
theorem bH6 {C z:kU->kR->kW kS}{σ:St}{H:Hp}{Q:Bool->Hp->Prop}(h:TTv Γ (fun ρ s=>lh (C ρ s) fun c s=>if c then .ok (.bl true) s else lh (z ρ s) fun c s=>.ok (.bl c) s) σ H Q):tOr (TTv Γ C) (TTv Γ z) σ H Q:=by
 obtain⟨φ,ρ,s,b,s',E,R,hm,q⟩:=h
 obtain⟨c,s1,e1,hm⟩:=zC hm
 refine⟨φ,ρ,s,c,s1,E,R,e1,fun φ1 F g1 l1 R1=>?_⟩
 cases c with
 | true =>
  rw[if_pos rfl]at hm ⊢
  cases hm
  exact q φ1 F g1 l1 R1
 | false =>
  rw[if_neg aO]at hm ⊢
  obtain⟨G,s2,e2,hm⟩:=zC hm
  cases hm
  exact⟨φ1,ρ,s1,_,_,E.mono g1 l1,R1,e2,q.trans g1 l1⟩
theorem bK3 {m:kU->kR->kW kS}{σ:St}{H:Hp}{Q:VK}(h:TEv Γ (fun ρ s=>lh (m ρ s) fun b s=>.ok (.bl (!b)) s) σ H Q):bB2 (TEv Γ m) σ H Q:=by
 obtain⟨φ,ρ,s,d,s',E,R,hm,q⟩:=h
 obtain⟨c,s1,e1,hm⟩:=zC hm
 cases hm
 exact⟨φ,ρ,s,.bl c,_,E,R,e1,fun v φ1 z g l b r R1=>⟨c,r.blE,q _ φ1 z g l rfl RV.blI R1⟩⟩
theorem bm4 {C z:kU->kR->kW kS}{σ:St}{H:Hp}{Q:VK}(h:TEv Γ (fun ρ s=>lh (C ρ s) fun c s=>if c then lh (z ρ s) fun c s=>.ok (.bl c) s else .ok (.bl false) s) σ H Q):bK6 (TEv Γ C) (TEv Γ z) σ H Q:=by
 obtain⟨φ,ρ,s,d,s',E,R,hm,q⟩:=h
 obtain⟨c,s1,e1,hm⟩:=zC hm
 refine⟨φ,ρ,s,.bl c,s1,E,R,e1,fun v φ1 F g1 l1 b1 r1 R1=>⟨c,r1.blE,?_⟩⟩
 cases c with
 | true =>
  rw[if_pos rfl]at hm ⊢
  obtain⟨c,s2,e2,hm⟩:=zC hm
  cases hm
  exact⟨φ1,ρ,s1,.bl c,_,E.mono g1 l1,R1,e2,q.trans g1 l1⟩
 | false =>
  rw[if_neg aO]at hm ⊢
  cases hm
  exact q _ φ1 F g1 l1 rfl RV.blI R1
theorem bC7 {C z:kU->kR->kW kS}{σ:St}{H:Hp}{Q:VK}(h:TEv Γ (fun ρ s=>lh (C ρ s) fun c s=>if c then .ok (.bl true) s else lh (z ρ s) fun c s=>.ok (.bl c) s) σ H Q):ca1 (TEv Γ C) (TEv Γ z) σ H Q:=by
 obtain⟨φ,ρ,s,d,s',E,R,hm,q⟩:=h
 obtain⟨c,s1,e1,hm⟩:=zC hm
 refine⟨φ,ρ,s,.bl c,s1,E,R,e1,fun v φ1 F g1 l1 b1 r1 R1=>⟨c,r1.blE,?_⟩⟩
 cases c with
 | true =>
  rw[if_pos rfl]at hm ⊢
  cases hm
  exact q _ φ1 F g1 l1 rfl RV.blI R1
 | false =>
  rw[if_neg aO]at hm ⊢
  obtain⟨c,s2,e2,hm⟩:=zC hm
  cases hm
  exact⟨φ1,ρ,s1,.bl c,_,E.mono g1 l1,R1,e2,q.trans g1 l1⟩
theorem bA9 {mc C z:kU->kR->kW kS}{σ:St}{H:Hp}{Q:VK}(h:TEv Γ (fun ρ s=>lh (mc ρ s) fun k s=>if k then C ρ s else z ρ s) σ H Q):tIf (TTv Γ mc) (TEv Γ C) (TEv Γ z) σ H Q:=by
 obtain⟨φ,ρ,s,d,s',E,R,hm,q⟩:=h
 obtain⟨c,s1,e1,hm⟩:=zC hm
 refine⟨φ,ρ,s,c,s1,E,R,e1,fun φ1 F g1 l1 R1=>?_⟩
 cases c with
 | true =>
  rw[if_pos rfl]at hm ⊢
  exact⟨φ1,ρ,s1,d,s',E.mono g1 l1,R1,hm,q.trans g1 l1⟩
 | false =>
  rw[if_neg aO]at hm ⊢
  exact⟨φ1,ρ,s1,d,s',E.mono g1 l1,R1,hm,q.trans g1 l1⟩
theorem aL1 {σ:St}{H:Hp}{Q:List V->Hp->Prop}(h:TAv Γ (fun ρ s=>.ok [] s) σ H Q):bg2 σ H Q:=by
 obtain⟨φ,ρ,s,d,s',E,R,hm,q⟩:=h
 cases hm
 exact q [] φ H (Gr.refl _ _ _) (aj _) rfl .nil R
theorem bp8 {m:kU->kR->kW kS}{C:kU->kR->kW (List kS)}{σ:St}{H:Hp}{Q:List V->Hp->Prop}(h:TAv Γ (fun ρ s=>(m ρ s).bind fun d s=>(C ρ s).bind fun l s=>.ok (d::l) s) σ H Q):an5 (TEv Γ m) (TAv Γ C) σ H Q:=by
 obtain⟨φ,ρ,s,l,s',E,R,hm,q⟩:=h
 obtain⟨x,s1,e1,hm⟩:=aa0 hm
 obtain⟨y,s2,e2,hm⟩:=aa0 hm
 cases hm
 refine⟨φ,ρ,s,x,s1,E,R,e1,fun G φ1 Z g1 l1 b1 r1 R1=>?_⟩
 refine⟨φ1,ρ,s1,y,_,E.mono g1 l1,R1,e2,fun Y φ2 J F z b2 r2 R2=>?_⟩
 refine q (G::Y) φ2 J (g1.trans F l1) (ak l1 z) ?_ (.cons (RV.mono F x G b1 r1) r2) R2
 unfold kT
 rw[zh z x b1,b2];rfl
theorem aD4 {z:kU->kR->kW (List kS)}{f:List kS->kR->kW kS}{σ:St}{H:Hp}{Q:VK}(h:TEv Γ (fun ρ s=>(z ρ s).bind fun l s=>f l s) σ H Q):tCB (rCl Γ f) (TAv Γ z) σ H Q:=by
 obtain⟨φ,ρ,s,d,s',E,R,hm,q⟩:=h
 obtain⟨l,s1,e1,hm⟩:=aa0 hm
 exact⟨φ,ρ,s,l,s1,E,R,e1,fun vs φ1 C g1 l1 b1 r1 R1=>⟨φ1,s1,l,d,s',R1,r1,b1,hm,q.trans g1 l1⟩⟩
theorem bR5 {m:kU->kR->kW kS}{ml J:kU->kR->kW kS}{σ:St}{H:Hp}{Q:VK} :
  (TEv Γ (fun ρ s=>(m ρ s).bind fun x s=>(ml ρ s).bind fun y s=>match y with|.int i=>mq x (some i) none s|_=>.bad) σ H Q->tSl (rSl Γ) (TEv Γ m) (aX3 (TEv Γ ml)) aD1 σ H Q) /\
  (TEv Γ (fun ρ s=>(m ρ s).bind fun x s=>(J ρ s).bind fun y s=>match y with|.int i=>mq x none (some i) s|_=>.bad) σ H Q->tSl (rSl Γ) (TEv Γ m) aD1 (aX3 (TEv Γ J)) σ H Q) /\
  (TEv Γ (fun ρ s=>(m ρ s).bind fun x s=>(ml ρ s).bind fun y s=>match y with|.int i=>(J ρ s).bind (fun z s=>match z with|.int j=>mq x (some i) (some j) s|_=>.bad)|_=>.bad) σ H Q->tSl (rSl Γ) (TEv Γ m) (aX3 (TEv Γ ml)) (aX3 (TEv Γ J)) σ H Q):=by
 refine⟨fun h=>?_,fun h=>?_,fun h=>?_⟩
 ·obtain⟨φ,ρ,s,d,s',E,R,hm,q⟩:=h
  obtain⟨x,s1,e1,hm⟩:=aa0 hm
  obtain⟨y,s2,e2,hm⟩:=aa0 hm
  refine⟨φ,ρ,s,x,s1,E,R,e1,fun G φ1 H1 g1 l1 b1 r1 R1=>?_⟩
  refine⟨φ1,ρ,s1,y,s2,E.mono g1 l1,R1,e2,fun Z φ2 Y F C b2 r2 R2=>?_⟩
  cases y with
  | int i=>exact⟨i,r2.intE,φ2,s2,x,d,s',R2,RV.mono F x G b1 r1,zh C x b1,hm,q.trans (g1.trans F l1) (ak l1 C)⟩
  | _=>exact fb hm
 ·obtain⟨φ,ρ,s,d,s',E,R,hm,q⟩:=h
  obtain⟨x,s1,e1,hm⟩:=aa0 hm
  obtain⟨y,s2,e2,hm⟩:=aa0 hm
  refine⟨φ,ρ,s,x,s1,E,R,e1,fun G φ1 H1 g1 l1 b1 r1 R1=>?_⟩
  refine⟨φ1,ρ,s1,y,s2,E.mono g1 l1,R1,e2,fun Z φ2 Y F C b2 r2 R2=>?_⟩
  cases y with
  | int i=>exact⟨i,r2.intE,φ2,s2,x,d,s',R2,RV.mono F x G b1 r1,zh C x b1,hm,q.trans (g1.trans F l1) (ak l1 C)⟩
  | _=>exact fb hm
 ·obtain⟨φ,ρ,s,d,s',E,R,hm,q⟩:=h
  obtain⟨x,s1,e1,hm⟩:=aa0 hm
  obtain⟨y,s2,e2,hm⟩:=aa0 hm
  refine⟨φ,ρ,s,x,s1,E,R,e1,fun G φ1 H1 g1 l1 b1 r1 R1=>?_⟩
  refine⟨φ1,ρ,s1,y,s2,E.mono g1 l1,R1,e2,fun Z φ2 Y F C b2 r2 R2=>?_⟩
  cases y with
  | int i =>
   obtain⟨z,s3,e3,hm⟩:=aa0 hm
   refine⟨i,r2.intE,φ2,ρ,s2,z,s3,E.mono (g1.trans F l1) (ak l1 C),R2,e3,fun v3 φ3 H3 g3 l3 b3 r3 R3=>?_⟩
   cases z with
   | int j=>exact⟨j,r3.intE,φ3,s3,x,d,s',R3,RV.mono (F.trans g3 C) x G b1 r1,zh (ak C l3) x b1,hm,q.trans ((g1.trans F l1).trans g3 (ak l1 C)) (ak (ak l1 C) l3)⟩
   | _=>exact fb hm
  | _=>exact fb hm
variable {Γ:Gm} {X:Cx}
def ak2 (Γ:Gm)(J:It)(φ0:Nat->Addr)(H0:Hp)(s0:kR)(q:l7):Prop :=
 ∀ φ H s,Gr φ0 s0 H0 φ s H->s0.length<=s.length->Rp Γ φ H s->lL s0 s q.src=true->∀ i:Nat,
  (i<q.its.length->J.go i H/\∀ x H',J.yld i H x H'->ae3 H H'/\∀ d,q.its[i]?=some d->RV Γ φ H' d x)/\(q.its.length<=i->J.stop i H)
def TIv (Γ:Gm)(m:kU->kR->kW l7):TI:=fun σ H R=>∃ φ ρ s q s',RE Γ φ H s.length ρ σ/\Rp Γ φ H s/\m ρ s=.ok q s' /\
 ∀ J φ' H',Gr φ s H φ' s' H'->s.length<=s'.length->kT s'.length q.its=true->Rp Γ φ' H' s'->ak2 Γ J φ' H' s' q->R J H'
theorem PI.imp {tg e:Expr}{t t':TI}(h:PI X tg e t)(i:∀ σ H R,t' σ H R->t σ H R):PI X tg e t':=fun z s σ H R I q=>h z s σ H R I (i σ H R q)
theorem PI.or {tg e:Expr}{t t':TI}(h:PI X tg e t)(h':PI X tg e t'):PI X tg e (fun σ H R=>t σ H R\/t' σ H R):=fun z s σ H R I q=>q.elim (h z s σ H R I) (h' z s σ H R I)
theorem be7 {φ0:Nat->Addr}{H0:Hp}{s0:kR}{a:Addr}{z:List V}{l:List kS}(h:SqT Γ.K H0 a z)(hl:RVL Γ φ0 H0 l z)(hb:kT s0.length l=true):ak2 Γ (Itt Γ.K a) φ0 H0 s0 ⟨l,[]⟩:=by
 intro φ H s g _ R _ i
 have h':=g.w.kp.sqT h
 have C:=RVL.mono g l z hb hl
 refine⟨fun hlt=>⟨⟨z,z[i]'(by rw[C.length];exact hlt),h',ai _⟩,fun x H' y=>?_⟩,fun F=>⟨z,h',by rw[C.length];exact F⟩⟩
 obtain⟨e,y⟩:=y
 subst e
 refine⟨ae3.refl _,fun d hd=>?_⟩
 obtain⟨v,e1,e2⟩:=C.get hd
 rw[y z h']at e1;cases e1
 exact e2
theorem bp0 {φ0:Nat->Addr}{H0:Hp}{s0:kR}{a:Addr}{z:List V}{l:List kS}(h:SqF Γ.K H0 a z)(hl:RVL Γ φ0 H0 l z)(hb:kT s0.length l=true):ak2 Γ (Itl Γ.K a) φ0 H0 s0 ⟨l,[]⟩:=by
 intro φ H s g _ R _ i
 have h':=h.2 _ g.w.kp
 have C:=RVL.mono g l z hb hl
 refine⟨fun hlt=>⟨⟨z,z[i]'(by rw[C.length];exact hlt),h',ai _⟩,fun x H' y=>?_⟩,fun F=>⟨z,h',by rw[C.length];exact F⟩⟩
 obtain⟨e,y⟩:=y
 subst e
 refine⟨ae3.refl _,fun d hd=>?_⟩
 obtain⟨v,e1,e2⟩:=C.get hd
 rw[y z h']at e1;cases e1
 exact e2
theorem bg5 {φ0:Nat->Addr}{H0:Hp}{s0:kR}{r:Nat}{l:List kS}(hr:s0[r]?=some (.lst l)):ak2 Γ (Itl Γ.K (φ0 r)) φ0 H0 s0 ⟨l,[r]⟩:=by
 intro φ H s g _ R G i
 have C:r<s0.length:=(ac.mp hr).1
 have hs:s[r]?=some (.lst l):=by
  unfold lL at G
  simp only[bW,ju,eO,decide_eq_true_eq]at G
  rw[G];exact hr
 obtain⟨z,e,h⟩:=R.addr hs
 rw[g.w.map r C]at e
 have h':SqL Γ.K H (φ0 r) z:=SqL.of e
 refine⟨fun hlt=>⟨⟨z,z[i]'(by rw[h.length];exact hlt),h',ai _⟩,fun x H' y=>?_⟩,fun F=>⟨z,h',by rw[h.length];exact F⟩⟩
 obtain⟨e,y⟩:=y
 subst e
 refine⟨ae3.refl _,fun d hd=>?_⟩
 obtain⟨v,e1,e2⟩:=h.get hd
 rw[y z h']at e1;cases e1
 exact e2
theorem bh1 {φ0:Nat->Addr}{H0:Hp}{s0:kR}{l:List Nat}:ak2 Γ (Its ⟨l.toArray⟩) φ0 H0 s0 ⟨l.map fun c=>.str [c],[]⟩:=by
 intro φ H s g _ R _ i
 have hsz:(⟨l.toArray⟩:Str).cps.size=l.length:=by simp
 refine⟨fun hlt=>?_,fun h=>?_⟩
 ·simp only[ay]at hlt
  refine⟨show i<(⟨l.toArray⟩:Str).cps.size by rw[hsz];exact hlt,fun x H' y=>?_⟩
  obtain⟨e,c,hc,rfl⟩:=y
  subst e
  refine⟨ae3.refl _,fun d hd=>?_⟩
  have z:l[i]?=some c:=by simpa using hc
  rw[aA,z]at hd
  cases hd
  exact RV.strI (by simp;decide)
 ·simp only[ay]at h
  show(⟨l.toArray⟩:Str).cps.size<=i
  rw[hsz];exact h
theorem ba4 {φ0:Nat->Addr}{H0:Hp}{s0:kR}{a b:Int}:ak2 Γ (Itr a (b - a).toNat) φ0 H0 s0 ⟨lV a b,[]⟩:=by
 intro φ H s g _ R _ i
 have hn:(lV a b).length=(b - a).toNat:=by simp[lV]
 refine⟨fun hlt=>⟨show i<(b - a).toNat by rw[<-hn];exact hlt,fun x H' y=>?_⟩,fun h=>show(b - a).toNat<=i by rw[<-hn];exact h⟩
 obtain⟨e,rfl⟩:=y
 subst e
 refine⟨ae3.refl _,fun d hd=>?_⟩
 simp only[lV]at hd hlt
 rw[aA,cq (by simpa using hlt)]at hd
 cases hd
 exact RV.intI
theorem aU2 {φ0:Nat->Addr}{H0:Hp}{s0:kR}{a:Int}:ak2 Γ (bU0 a (a+1).toNat) φ0 H0 s0 ⟨lW a,[]⟩:=by
 intro φ H s g _ R _ i
 have hn:(lW a).length=(a+1).toNat:=by unfold lW;simp
 refine⟨fun hlt=>⟨show i<(a+1).toNat by rw[<-hn];exact hlt,fun x H' y=>?_⟩,fun z=>show(a+1).toNat<=i by rw[<-hn];exact z⟩
 obtain⟨e,rfl⟩:=y
 subst e
 refine⟨ae3.refl _,fun d hd=>?_⟩
 have h:i<(a+1).toNat:=by rw[<-hn];exact hlt
 simp only[lW]at hd
 rw[aA,cq h]at hd
 cases hd
 exact RV.intI
theorem bn7 {z:kU->kR->kW kS}{σ:St}{H:Hp}{R:It->Hp->Prop}(h:TIv Γ (fun ρ s=>(z ρ s).bind fun x s=>match x with|.int i=>if 0<=i/\i<1048576 then .ok ⟨lW i,[]⟩ s else .bad|_=>.bad) σ H R) :
  bC3 (an5 (TEv Γ z) (an5 (tC (.int (-1))) (an5 (tC (.int (-1))) bg2))) σ H R:=by
 obtain⟨φ,ρ,s,q,s',E,P,hm,k⟩:=h
 obtain⟨x,s1,e1,hm⟩:=aa0 hm
 refine⟨φ,ρ,s,x,s1,E,P,e1,fun v φ1 F g l b r G=>?_⟩
 cases x with
 | int i =>
  simp only at hm
  split at hm
  ·rename_i C
   cases hm
   refine⟨i,by rw[r.intE],⟨C.1,C.2⟩,k _ φ1 F g l ?_ G aU2⟩
   refine aa3.mpr fun d hd=>?_
   unfold lW at hd
   rw[aM]at hd
   obtain⟨_,_,rfl⟩:=hd
   rfl
  ·exact fb hm
 | _=>exact fb hm
theorem bt5 {m:kU->kR->kW kS}{σ:St}{H:Hp}{R:It->Hp->Prop}(h:TIv Γ (fun ρ s=>(m ρ s).bind fun x s=>match x with|.int i=>if -mY<=i/\i<mY then .ok ⟨lV 0 i,[]⟩ s else .bad|_=>.bad) σ H R) :
  bI1 (an5 (TEv Γ m) bg2) σ H R:=by
 obtain⟨φ,ρ,s,q,s',E,P,hm,k⟩:=h
 obtain⟨x,s1,e1,hm⟩:=aa0 hm
 refine⟨φ,ρ,s,x,s1,E,P,e1,fun v φ1 C g l b r F=>?_⟩
 cases x with
 | int i =>
  simp only at hm
  split at hm
  ·rename_i z
   cases hm
   have hw:mY=2^62:=by decide
   rw[hw]at z
   refine⟨i,by rw[r.intE],z.1,z.2,k _ φ1 C g l ?_ F ?_⟩
   ·refine aa3.mpr fun d hd=>?_
    simp only[lV,aM]at hd
    obtain⟨_,_,rfl⟩:=hd
    rfl
   ·have:=ba4 (Γ:=Γ) (φ0:=φ1) (H0:=C) (s0:=s') (a:=0) (b:=i)
    rwa [kC]at this
  ·exact fb hm
 | _=>exact fb hm
theorem bC1 {m:kU->kR->kW kS}{σ:St}{H:Hp}{R:It->Hp->Prop}(h:TIv Γ (fun ρ s=>(m ρ s).bind fun d s=>DV.at7 d s) σ H R) :
  bS7 Γ.K (TEv Γ m) σ H R\/bn6 Γ.K (TEv Γ m) σ H R\/cb5 (TEv Γ m) σ H R:=by
 obtain⟨φ,ρ,s,q,s',E,P,hm,k⟩:=h
 obtain⟨x,s1,e1,hm⟩:=aa0 hm
 unfold DV.at7 at hm
 cases x with
 | tup l =>
  cases hm
  refine .inl ⟨φ,ρ,s,_,_,E,P,e1,fun v φ1 C g l b r z=>?_⟩
  obtain⟨a,F,rfl,Y,d1⟩:=r.tupE
  unfold kY at b
  exact⟨a,rfl,⟨F,Y⟩,k _ φ1 C g l b z (be7 Y d1 b)⟩
 | str l =>
  cases hm
  refine .inr (.inr ⟨φ,ρ,s,_,_,E,P,e1,fun v φ1 C g G b r z=>?_⟩)
  refine⟨_,r.strE,k _ φ1 C g G ?_ z bh1⟩
  refine aa3.mpr fun d hd=>?_
  simp only[aM]at hd
  obtain⟨_,_,rfl⟩:=hd
  rfl
 | ref r =>
  simp only at hm
  cases hs:s1[r]? with
  | none=>rw[hs]at hm;cases hm
  | some o =>
   rw[hs]at hm
   cases o with
   | lst l =>
    cases hm
    refine .inr (.inl ⟨φ,ρ,s,_,_,E,P,e1,fun v φ1 C g G b J z=>?_⟩)
    have e:=J.refE;subst e
    obtain⟨F,e2,d1⟩:=z.addr hs
    have wf:=z.wf _ _ hs
    unfold kZ at wf
    exact⟨φ1 r,rfl,⟨F,SqL.of e2⟩,k _ φ1 C g G wf z (bg5 hs)⟩
   | ro l =>
    cases hm
    refine .inr (.inl ⟨φ,ρ,s,_,_,E,P,e1,fun v φ1 C g G b J z=>?_⟩)
    have e:=J.refE;subst e
    obtain⟨F,e2,d1⟩:=z.obj _ _ hs
    have wf:=z.wf _ _ hs
    unfold kZ at wf
    exact⟨φ1 r,rfl,⟨F,e2.1⟩,k _ φ1 C g G wf z (bp0 e2 d1 wf)⟩
   | dic l=>exact fb hm
   | dit l=>exact fb hm
   | ins c l=>exact fb hm
 | _=>exact fb hm
variable {Γ:Gm} {X:Cx}
noncomputable def bQ4:List Nat->TGs
 | []=>ca6
 | i::is=>bB6 (au8 i) (bQ4 is)
noncomputable def gOf (K:ae):lG->TG
 | .one i=>au8 i
 | .tup is=>bU1 K is.length (bQ4 is)
theorem bk1 {φ:Nat->Addr}{H:Hp}{n:Nat}{ρ ρ':kU}{σ:St}{i:Nat}{d:kS}{v:V}(E:RE Γ φ H n ρ σ)(r:RV Γ φ H d v)(b:d.bnd n=true)(h:lX ρ i d=some ρ'):RE Γ φ H n ρ' (σ.set i (some v)):=by
 unfold lX at h
 split at h
 ·rename_i z
  cases h
  refine⟨by rw[aP,aP];exact E.len,fun j e hj=>?_⟩
  by_cases hij:j=i
  ·subst hij
   rw[bj z]at hj
   cases hj
   exact⟨b,v,by rw[bj (by rw[<-E.len];exact z)],r⟩
  ·rw[aW (cM hij)]at hj
   obtain⟨F,w,C,h3⟩:=E.val j e hj
   exact⟨F,w,by rw[aW (cM hij)];exact C,h3⟩
 ·cases h
theorem bJ0 {φ:Nat->Addr}{H:Hp}{n:Nat}{Q:St->Hp->Prop}:∀(is:List Nat) (l:List kS) (z:List V) (ρ ρ':kU) (σ:St),RE Γ φ H n ρ σ->RVL Γ φ H l z->kT n l=true->mr ρ is l=some ρ'->(∀ σ',RE Γ φ H n ρ' σ'->Q σ' H)->bQ4 is z σ H Q
 | [],[],z,ρ,ρ',σ,E,r,_,h,k=>by
  cases h
  exact⟨r.unnil,k σ E⟩
 | [],d::l,_,_,_,_,_,_,_,h,_=>by cases h
 | i::is,[],_,_,_,_,_,_,_,h,_=>by cases h
 | i::is,d::l,z,ρ,ρ',σ,E,r,b,h,k=>by
  have h:(lX ρ i d).bind (fun ρ=>mr ρ is l)=some ρ':=h
  obtain⟨x,C,rfl,G,F⟩:=r.uncons
  unfold kT at b
  rw[ah]at b
  cases e:lX ρ i d with
  | none=>rw[e]at h;cases h
  | some ρ1 =>
   rw[e]at h
   exact⟨x,C,rfl,bJ0 is l C ρ1 ρ' _ (bk1 E G b.1 e) F b.2 h k⟩
theorem aT3 {l:List kS}:∀ {is:List Nat} {ρ ρ':kU},mr ρ is l=some ρ'->is.length=l.length:=by
 induction l with
 | nil=>intro is ρ ρ' h;cases is with
  | nil=>rfl
  | cons i is=>cases h
 | cons d l ih=>intro is ρ ρ' h;cases is with
  | nil=>cases h
  | cons i is =>
   have h:(lX ρ i d).bind (fun ρ=>mr ρ is l)=some ρ':=h
   cases e:lX ρ i d with
   | none=>rw[e]at h;cases h
   | some ρ1=>rw[e]at h;rw[aI,aI,ih h]
theorem bs6 {φ:Nat->Addr}{H:Hp}{n:Nat}{Q:St->Hp->Prop}{tg:lG}{d:kS}{v:V}{ρ ρ':kU}{σ:St}(E:RE Γ φ H n ρ σ)(r:RV Γ φ H d v)(b:d.bnd n=true)(h:lx ρ tg d=some ρ')(k:∀ σ',RE Γ φ H n ρ' σ'->Q σ' H):gOf Γ.K tg v σ H Q:=by
 cases tg with
 | one i=>exact k _ (bk1 E r b h)
 | tup is =>
  cases d with
  | tup l =>
   have h:mr ρ is l=some ρ':=h
   obtain⟨a,z,rfl,C,d1⟩:=r.tupE
   unfold kY at b
   exact⟨a,z,rfl,C,by rw[d1.length,aT3 h],bJ0 is l z ρ ρ' σ E d1 b h k⟩
  | _=>cases h
def Off (φ:Nat->Addr)(s:kR)(b:Addr):Prop:=∀(i:Nat) (ob:lC),s[i]?=some ob->isMut ob=true->φ i≠b
theorem Off.mono {φ φ':Nat->Addr}{s s':kR}{H H':Hp}{b:Addr}{o:HO}(h:Off φ s b)(g:Gr φ s H φ' s' H')(hb:H b=some o):Off φ' s' b:=fun i ob e m z=>by
 by_cases F:i<s.length
 ·obtain⟨C,G⟩:∃ C,s[i]?=some C:=⟨s[i],ai F⟩
  exact h i C G (g.mu i C ob G e m) (by rw[<-g.w.map i F];exact z)
 ·have:=g.new i (by omega) (ac.mp e).1
  rw[z,hb]at this;cases this
theorem Off.new {φ:Nat->Addr}{s:kR}{H:Hp}{b:Addr}(r:Rp Γ φ H s)(h:H b=none):Off φ s b:=fun i ob e m z=>by
 obtain⟨u,hu,_⟩:=(r.obj i ob e).there m
 rw[z,h]at hu;cases hu
theorem Rp.foreign {φ:Nat->Addr}{s:kR}{H:Hp}{b:Addr}{ys h:List V}(r:Rp Γ φ H s)(hb:H b=some (.lst ys))(ho:Off φ s b):Rp Γ φ (upd H b (.lst h)) s:=by
 have g:Gw φ s.length H φ (upd H b (.lst h)):=⟨fun _ _=>rfl,(Kp.refl H).put hb rfl⟩
 exact⟨r.inj,fun i o e=>(r.obj i o e).mono g (r.wf i o e) fun m u hu=>by rw[zm (ho i o e m)];exact hu,r.wf,r.tab.put hb⟩
theorem Gr.foreign {φ φ':Nat->Addr}{s s':kR}{H H':Hp}{b:Addr}{ys h:List V}(g:Gr φ s H φ' s' H')(h0:H b=none)(hb:H' b=some (.lst ys)):Gr φ s H φ' s' (upd H' b (.lst h)):=by
 have ne:∀ c o,H c=some o->c≠b:=fun c o e=>zr e h0
 refine⟨⟨g.w.map,fun c o e f=>?_⟩,g.le,g.new,g.kd,fun c hc=>?_,fun c o e C z=>?_⟩
 ·rw[zm (ne c o e)];exact g.w.kp c o e f
 ·unfold upd;split
  ·simp
  ·exact g.st c hc
 ·rw[zm (ne c o e)];exact g.fr c o e C z
def bG2 (Γ:Gm)(φ:Nat->Addr)(s:kR)(H:Hp)(l:List kS)(s':kR)(Q:VK):Prop :=
 ∀ p ys φ' H',Gr φ s H φ' s' H'->s.length<=s'.length->kT s'.length l=true->H' p=some (.lst ys)->H p=none->Off φ' s' p->RVL Γ φ' H' l ys->Rp Γ φ' H' s'->Q (.ref p) H'
def TFv (Γ:Gm)(m:kU->kR->kW (List kS)):TE:=fun σ H Q=>∃ φ ρ s l s',RE Γ φ H s.length ρ σ/\Rp Γ φ H s/\m ρ s=.ok l s'/\bG2 Γ φ s H l s' Q
theorem aX8 {m:kU->kR->kW (List kS)}{σ:St}{H:Hp}{Q:VK}(h:TEv Γ (fun ρ s=>(m ρ s).bind fun l s=>lJ (.lst l) s) σ H Q):TFv Γ m σ H Q:=by
 obtain⟨φ,ρ,s,d,s',E,R,hm,q⟩:=h
 obtain⟨l,s1,e1,hm⟩:=aa0 hm
 obtain⟨rfl,rfl⟩:=zN hm
 refine⟨φ,ρ,s,l,s1,E,R,e1,fun p ys φ' H' g hl hb hp h0 ho r F=>?_⟩
 have gw:Gw φ' s1.length H' (fun i=>if i=s1.length then p else φ' i) H':=⟨fun i z=>if_neg (az z),Kp.refl _⟩
 have key:∀(i:Nat) (C:lC),(s1++[DV.O.lst l])[i]?=some C->(i<s1.length/\s1[i]?=some C)\/(i=s1.length/\C=.lst l):=fun i C e=>by
  rcases d8 i s1.length with h|h|h
  ·rw[aJ h]at e;exact .inl ⟨h,e⟩
  ·subst h;simp at e;exact .inr ⟨rfl,e.symm⟩
  ·rw[bG (by simp;omega)]at e;cases e
 have G:Gr φ s H (fun i=>if i=s1.length then p else φ' i) (s1++[.lst l]) H':=by
  refine⟨⟨fun i z=>by show(if i=s1.length then p else φ' i)=_;rw[if_neg (by omega)];exact g.w.map i z,g.w.kp⟩,by simp;omega,fun i h1 h2=>?_,fun i o C e e'=>?_,g.st,g.fr⟩
  ·by_cases z:i=s1.length
   ·show H (if i=s1.length then p else φ' i)=none
    rw[if_pos z];exact h0
   ·show H (if i=s1.length then p else φ' i)=none
    rw[if_neg z];exact g.new i h1 (by simp at h2;omega)
  ·rcases key i C e' with⟨_,e2⟩|⟨z,_⟩
   ·exact g.kd i o C e e2
   ·have:=(ac.mp e).1;omega
 have P:Rp Γ (fun i=>if i=s1.length then p else φ' i) H' (s1++[.lst l]):=by
  refine⟨fun i j J Y ei ej mi Z e=>?_,fun i o e=>?_,fun i o e=>?_,F.tab⟩
  ·rcases key i J ei with⟨z,ei⟩|⟨z,_⟩<;>rcases key j Y ej with⟨hj,ej⟩|⟨hj,_⟩
   ·rw[if_neg (az z),if_neg (az hj)]at e
    exact F.inj i j J Y ei ej mi Z e
   ·rw[if_neg (az z),if_pos hj]at e
    exact absurd e (ho i J ei mi)
   ·rw[if_neg (az hj),if_pos z]at e
    exact absurd e.symm (ho j Y ej Z)
   ·rw[z,hj]
  ·rcases key i o e with⟨z,e⟩|⟨z,rfl⟩
   ·show RO Γ _ _ (if i=s1.length then p else φ' i) o
    rw[if_neg (az z)]
    exact(F.obj i o e).mono gw (F.wf i o e) fun _ u hu=>hu
   ·show RO Γ _ _ (if i=s1.length then p else φ' i) _
    rw[if_pos z]
    exact⟨ys,hp,RVL.monoW gw l ys hb r⟩
  ·rw[aG,dt]
   rcases key i o e with⟨_,e⟩|⟨_,rfl⟩
   ·exact zS (dB _) _ (F.wf i o e)
   ·exact zS (dB _) _ (by unfold kZ;exact hb)
 exact q (.ref p) _ H' G (by simp;omega) (by unfold kY;simp) (by unfold RV;simp) P
theorem bE1 {φ:Nat->Addr}{H:Hp}{n:Nat}{ρ:kU}{σ:St}(E:RE Γ φ H n ρ σ)(h:List (Option Nat)):RE Γ φ H n (l8 ρ h) (aA1 h σ):=by
 refine⟨by unfold l8 aA1;simp,fun i d e=>?_⟩
 unfold l8 at e
 rw[aA]at e
 cases q:h[i]? with
 | none=>rw[q]at e;cases e
 | some o =>
  rw[q]at e
  cases o with
  | none=>cases e
  | some j =>
   have e':(ρ[j]?).join=some d:=av e
   have ej:ρ[j]?=some (some d):=by
    cases q2:ρ[j]? with
    | none=>rw[q2]at e';cases e'
    | some o2=>rw[q2]at e';exact congrArg some e'
   obtain⟨b,v,C,z⟩:=E.val j d ej
   refine⟨b,v,?_,z⟩
   unfold aA1
   rw[aA,q]
   show some ((σ[j]?).join)=_
   rw[C];rfl
theorem aU8 {mI:kU->kR->kW l7}{mc me:kU->kR->kW kS}{tg:lG}{G:List (Option Nat)}{σ:St}{H:Hp}{Q:VK}
  (h:TFv Γ (fun ρ s=>(mI ρ s).bind fun q s0=>if q.its.length<=k7 then lY (fun s=>lL s0 s q.src) (fun d ρ s=>match lx ρ tg d with
   | some ρ=>lh (mc ρ s) fun k s=>if k then(me ρ s).bind fun v s=>.ok (some v,ρ) s else .ok (none,ρ) s
   | none=>.bad) q.its (l8 ρ G) s0 else .bad) σ H Q):tComp G (TIv Γ mI) (gOf Γ.K tg) (TTv Γ mc) (TEv Γ me) σ H Q:=by
 obtain⟨φ,ρ,s,l,s',E,R,hm,k⟩:=h
 obtain⟨q,s0,e1,hm⟩:=aa0 hm
 split at hm
 case isFalse=>exact fb hm
 rename_i b2
 refine⟨φ,ρ,s,q,s0,E,R,e1,fun J φ1 H1 g1 l1 b1 R1 wk D hD=>?_⟩
 have h0:H D=none:=by
  cases e:H D with
  | none=>rfl
  | some o=>exact absurd hD (g1.st D (by rw[e];simp))
 refine⟨fun i m σ' H'=>∃ φ' ρ' t C ys rest,Gr φ1 s0 H1 φ' t H'/\Rp Γ φ' H' t/\RE Γ φ' H' t.length ρ' σ'/\H' D=some (.lst ys)/\Off φ' t D/\RVL Γ φ' H' C ys/\kT t.length C=true/\C.length<=i/\i<=q.its.length/\m=q.its.length - i /\
  lY (fun s=>lL s0 s q.src) (fun d ρ s=>match lx ρ tg d with
   | some ρ=>lh (mc ρ s) fun k s=>if k then(me ρ s).bind fun v s=>.ok (some v,ρ) s else .ok (none,ρ) s
   | none=>.bad) (q.its.drop i) ρ' t=.ok rest s'/\l=C++rest,⟨q.its.length,?_⟩,?_⟩
 ·obtain⟨g2,R2⟩:=R1.same (H':=upd H1 D (.lst [])) ((ae3.refl H1).new hD)
  exact⟨φ1,l8 ρ G,s0,[],[],l,g2,R2,bE1 ((E.mono g1 l1).mono g2 (aj _)) G,zv,Off.new R1 hD,.nil,rfl,aj _,cu _,by simp,by rw[fF];exact hm,rfl⟩
 ·rintro i m σ' H' ⟨φ',ρ',t,C,ys,rest,g,R',E',hy,a3,ra,ba,b4,b3,rfl,hc,hl⟩
  have F:=g.le
  rcases gP i q.its.length with hlt|hge
  ·have hd:q.its[i]?=some q.its[i]:=ai hlt
   rw[fJ hlt]at hc
   unfold lY at hc
   split at hc
   case isFalse=>exact fb hc
   rename_i a2
   obtain⟨a7,b0⟩:=(wk φ' H' t g F R' a2 i).1 hlt
   refine .inr ⟨a7,_,fun σ2 H2 n=>⟨q.its.length - (i+1),by omega,n⟩,fun x H2 a8=>?_⟩
   obtain⟨sm,rv⟩:=b0 x H2 a8
   obtain⟨g2,R2⟩:=R'.same sm
   have rd:=rv _ hd
   have bd:(q.its[i]).bnd t.length=true:=zh F _ (aj1 b1 hd)
   obtain⟨p,t3,hs,hc⟩:=aa0 hc
   obtain⟨r2,t4,a5,hc⟩:=aa0 hc
   cases hb:lx ρ' tg q.its[i]with
   | none=>rw[hb]at hs;cases hs
   | some ρ3 =>
    rw[hb]at hs
    refine bs6 (E'.mono g2 (aj _)) rd bd hb fun σ3 E3=>?_
    obtain⟨c,t1,ec,hs⟩:=zC hs
    refine⟨φ',ρ3,t,c,t1,E3,R2,ec,fun φ2 H4 g4 l4 R4=>?_⟩
    have a4:H2 D=some (.lst ys):=sm _ _ hy
    have a1:H4 D=some (.lst ys):=g4.fr D _ a4 (by nofun) a3
    have Y:Off φ2 t1 D:=a3.mono g4 a4
    have G4:=(g.trans g2 F).trans g4 F
    cases c with
    | true =>
     rw[if_pos rfl]at hs
     refine iteT ?_
     obtain⟨v,t2,ev,hs⟩:=aa0 hs
     cases hs
     refine⟨φ2,ρ3,t1,v,t3,E3.mono g4 l4,R4,ev,fun w φ3 H5 g5 l5 b5 r5 R5=>?_⟩
     have Z:H5 D=some (.lst ys):=g5.fr D _ a1 (by nofun) Y
     have a0:Off φ3 t3 D:=Y.mono g5 a1
     refine⟨ys,Z,?_,?_⟩
     ·rw[ra.length]
      have:=zE
      omega
     ·have gw:Gw φ3 t3.length H5 φ3 (upd H5 D (.lst (ys++[w]))):=⟨fun _ _=>rfl,(Kp.refl H5).put Z rfl⟩
      have G5:=G4.trans g5 (ak F l4)
      have GG:=g2.trans (g4.trans g5 l4) (aj _)
      have a6:RVL Γ φ3 H5 C ys:=RVL.mono GG _ _ ba ra
      have bb:kT t3.length (C++[v])=true:=zJ (aa5 GG.le _ ba) (by unfold kT;rw[b5];rfl)
      refine⟨φ3,ρ3,t3,C++[v],ys++[w],r2,G5.foreign hD Z,R5.foreign Z a0,?_,zv,a0,RVL.monoW gw _ _ bb (a6.append (.cons r5 .nil)),bb,by simp;omega,hlt,rfl,?_,?_⟩
      ·have E5:=(E3.mono g4 l4).mono g5 l5
       exact⟨E5.len,fun j e hj=>by
        obtain⟨h1,z,h2,h3⟩:=E5.val j e hj
        exact⟨h1,z,h2,RV.monoW gw _ _ h1 h3⟩⟩
      ·cases hc;exact a5
      ·cases hc;rw[hl];simp
    | false =>
     rw[if_neg aO]at hs
     refine cc3 ?_
     cases hs
     have GG:=g2.trans g4 (aj _)
     exact⟨φ2,ρ3,t3,C,ys,r2,G4,R4,E3.mono g4 l4,a1,Y,RVL.mono GG _ _ ba ra,aa5 l4 _ ba,by omega,hlt,rfl,by cases hc;exact a5,by cases hc;exact hl⟩
  ·have hi:i=q.its.length:=by omega
   rw[gQ hge]at hc
   unfold lY at hc
   split at hc
   case isFalse=>exact fb hc
   rename_i a2
   cases hc
   refine .inl ⟨(wk φ' H' s' g F R' a2 i).2 hge,?_⟩
   rw[aZ]at hl
   subst hl
   exact k D ys φ' H' (g1.trans g l1) (ak l1 F) ba hy h0 a3 ra R'
variable {Γ:Gm} {X:Cx}
noncomputable def cb3 (Γ:Gm)(φ:Nat->Addr)(H:Hp)(n:Nat)(D:Ends):lH->Prop
 | .next ρ=>∀ σ,RE Γ φ H n ρ σ->D.nx σ H
 | .ret d=>∀ v,d.bnd n=true->RV Γ φ H d v->D.rt v H
 | .cont ρ=>∀ σ,RE Γ φ H n ρ σ->D.ct σ H
 | .brk ρ=>∀ σ,RE Γ φ H n ρ σ->D.bk σ H
def ak0 (Γ:Gm)(φ:Nat->Addr)(s:kR)(H:Hp)(c:lH)(s':kR)(D:Ends):Prop :=
 ∀ φ' H',Gr φ s H φ' s' H'->s.length<=s'.length->Rp Γ φ' H' s'->cb3 Γ φ' H' s'.length D c
def TSv (Γ:Gm)(m:kU->kR->kW lH):TS:=fun D σ H=>∃ φ ρ s c s',RE Γ φ H s.length ρ σ/\Rp Γ φ H s/\m ρ s=.ok c s'/\ak0 Γ φ s H c s' D
theorem PS.imp {e:Stmt}{t t':TS}(h:PS X e t)(i:∀ D σ H,t' D σ H->t D σ H):PS X e t':=fun z s σ H Q I q=>h z s σ H Q I (i Q σ H q)
theorem PSs.imp {e:List Stmt}{t t':TS}(h:PSs X e t)(i:∀ D σ H,t' D σ H->t D σ H):PSs X e t':=fun z s σ H Q I q=>h z s σ H Q I (i Q σ H q)
theorem ak0.trans {φ φ1:Nat->Addr}{s s1 s':kR}{H z:Hp}{c:lH}{D:Ends}(h:ak0 Γ φ s H c s' D)(g:Gr φ s H φ1 s1 z)(l:s.length<=s1.length):ak0 Γ φ1 s1 z c s' D :=
 fun φ' H' g' C p=>h φ' H' (g.trans g' l) (ak l C) p
theorem ak0.here {φ:Nat->Addr}{s:kR}{H:Hp}{c:lH}{D:Ends}(h:ak0 Γ φ s H c s D)(p:Rp Γ φ H s):cb3 Γ φ H s.length D c:=h φ H (Gr.refl φ s H) (aj _) p
variable {D:Ends} {σ:St} {H:Hp}
theorem bq2 {m:kU->kR->kW lH}(hm:∀ ρ s,m ρ s=.ok (.next ρ) s)(h:TSv Γ m D σ H):bA2 D σ H:=by
 obtain⟨φ,ρ,s,c,s',E,R,e,q⟩:=h
 rw[hm]at e;cases e
 exact q.here R σ E
theorem bO7 {m:kU->kR->kW kS}(h:TSv Γ (fun ρ s=>(m ρ s).bind fun d s=>.ok (.ret d) s) D σ H):bZ5 (TEv Γ m) D σ H:=by
 obtain⟨φ,ρ,s,c,s',E,R,e,q⟩:=h
 obtain⟨x,s1,e1,e⟩:=aa0 e
 cases e
 exact⟨φ,ρ,s,x,_,E,R,e1,fun v φ1 z g1 l1 b1 r1 R1=>q φ1 z g1 l1 R1 v b1 r1⟩
theorem bu5 {m:kU->kR->kW kS}(h:TSv Γ (fun ρ s=>(m ρ s).bind fun _ s=>.ok (.next ρ) s) D σ H):bO5 (TEv Γ m) D σ H:=by
 obtain⟨φ,ρ,s,c,s',E,R,e,q⟩:=h
 obtain⟨x,s1,e1,e⟩:=aa0 e
 cases e
 exact⟨φ,ρ,s,x,_,E,R,e1,fun v φ1 z g1 l1 b1 r1 R1=>q φ1 z g1 l1 R1 σ (E.mono g1 l1)⟩
theorem aP9 {m:kU->kR->kW kS}{tg:lG}(h:TSv Γ (fun ρ s=>(m ρ s).bind fun d s=>match lx ρ tg d with|some ρ=>.ok (.next ρ) s|none=>.bad) D σ H):bf1 (TEv Γ m) (gOf Γ.K tg) D σ H:=by
 obtain⟨φ,ρ,s,c,s',E,R,e,q⟩:=h
 obtain⟨x,s1,e1,e⟩:=aa0 e
 refine⟨φ,ρ,s,x,s1,E,R,e1,fun v φ1 z g1 l1 b1 r1 R1=>?_⟩
 cases hb:lx ρ tg x with
 | none=>rw[hb]at e;cases e
 | some ρ1 =>
  rw[hb]at e
  cases e
  exact bs6 (E.mono g1 l1) r1 b1 hb fun σ' C=>q φ1 z g1 l1 R1 σ' C
theorem bf2 {m:kU->kR->kW (List kS)}(h:TSv Γ (fun ρ s=>((m ρ s).bind fun l s=>lJ (.lst l) s).bind fun d s=>match lx ρ tg d with|some ρ=>.ok (.next ρ) s|none=>.bad) D σ H):bf1 (TFv Γ m) (gOf Γ.K tg) D σ H :=
 aX8 (aP9 h)
def bJ5 (Γ:Gm):bP9:=fun o i v H Q=>∃ φ s x y d s',Rp Γ φ H s/\RV Γ φ H x o/\RV Γ φ H y i/\RV Γ φ H d v/\x.bnd s.length=true/\y.bnd s.length=true/\d.bnd s.length=true/\DV.setIx x y d s=.ok () s' /\
 ∀ φ' H',Gr φ s H φ' s' H'->s.length<=s'.length->Rp Γ φ' H' s'->Q H'
theorem bb2 {me Y mi:kU->kR->kW kS}(h:TSv Γ (fun ρ s=>(me ρ s).bind fun d s=>(Y ρ s).bind fun x s=>(mi ρ s).bind fun y s=>(DV.setIx x y d s).bind fun _ s=>.ok (.next ρ) s) D σ H) :
  bf1 (TEv Γ me) (bZ4 (TEv Γ Y) (TEv Γ mi) (bJ5 Γ)) D σ H:=by
 obtain⟨φ,ρ,s,c,s',E,R,e,q⟩:=h
 obtain⟨d,s1,e1,e⟩:=aa0 e
 obtain⟨x,s2,e2,e⟩:=aa0 e
 obtain⟨y,s3,e3,e⟩:=aa0 e
 obtain⟨u,s4,e4,e⟩:=aa0 e
 cases e
 refine⟨φ,ρ,s,d,s1,E,R,e1,fun v1 φ1 H1 g1 l1 b1 r1 R1=>?_⟩
 refine⟨φ1,ρ,s1,x,s2,E.mono g1 l1,R1,e2,fun v2 φ2 H2 g2 z b2 r2 R2=>?_⟩
 have G2:=g1.trans g2 l1
 have L2:=ak l1 z
 refine⟨φ2,ρ,s2,y,s3,E.mono G2 L2,R2,e3,fun v3 φ3 H3 C F b3 r3 R3=>?_⟩
 refine⟨φ3,s3,x,y,d,_,R3,RV.mono C x v2 b2 r2,r3,RV.mono (g2.trans C z) d v1 b1 r1,zh F x b2,b3,zh (ak z F) d b1,e4,fun φ4 H4 Z J R4=>?_⟩
 have G:=G2.trans C L2
 have L3:=ak L2 F
 exact q φ4 H4 (G.trans Z L3) (ak L3 J) R4 σ (E.mono (G.trans Z L3) (ak L3 J))
theorem bI4 (hu:X.A.units+2<cLine):bT1 X (bJ5 Γ):=by
 intro J sh σ H o i v ov iv u Q I ro ri rv h
 obtain⟨φ,s,x,y,d,s',R,rx,ry,rd,bx,Z,bd,hm,q⟩:=h
 cases x with
 | ref r =>
  have hm:(match s[r]? with
   | some (.lst l)=>(match y with
    | .int i=>(match lO l.length i with|some j=>DV.R.ok () (s.set r (.lst (l.set j d)))|none=>.bad)
    | _=>.bad)
   | some (.dic l)=>if y.key&&decide (l.length<k7)then .ok () (s.set r (.dic (lj y d l)))else .bad
   | some (.dit l)=>if y.keyT&&decide (l.length<k7)then .ok () (s.set r (.dit (lj y d l)))else .bad
   | _=>.bad)=.ok () s':=hm
  cases e:s[r]? with
  | none=>rw[e]at hm;cases hm
  | some ob =>
   rw[e]at hm
   cases ob with
   | lst l =>
    cases y with
    | int k =>
     have hm:(match lO l.length k with|some j=>DV.R.ok () (s.set r (.lst (l.set j d)))|none=>.bad)=.ok () s':=hm
     cases ej:lO l.length k with
     | none=>rw[ej]at hm;cases hm
     | some j =>
      rw[ej]at hm
      cases hm
      obtain⟨xs,h1,C⟩:=R.addr e
      have hb:kT s.length (l.set j d)=true:=aa3.mpr fun z hz=>by
       rcases List.mem_or_eq_of_mem_set hz with h|h
       ·exact aa3.mp (by have:=R.wf r _ e;unfold kZ at this;exact this) z h
       ·subst h;exact bd
      refine bb1 J sh σ H o i v ov iv u Q I ro ri rv ⟨φ r,xs,k,j,rx.refE,ry.intE,h1,?_,?_⟩
      ·rw[C.length];exact ej
      ·obtain⟨g,Y⟩:=R.set (o:=.lst (l.set j d)) (u:=.lst (xs.set j v)) e rfl hb fun H' g e=>⟨_,e,RVL.monoW g _ _ hb (C.set j rd)⟩
       exact q _ _ g (by simp) Y
    | _=>exact fb hm
   | dic l =>
    have hm:(if y.key&&decide (l.length<k7)then DV.R.ok () (s.set r (.dic (lj y d l)))else .bad)=.ok () s':=hm
    split at hm
    case isFalse=>exact fb hm
    rename_i hc
    cases hm
    rw[ah]at hc
    obtain⟨k,hk⟩:=ai4 hc.1
    have hlt:=of_decide_eq_true hc.2
    obtain⟨G,h1,C⟩:=R.obj r _ e
    have ex:=rx.refE;subst ex
    cases ro
    have ey:=aH6 hk ry;subst ey
    have hb:(DV.O.dic (lj y d l)).bnd s.length=true:=aE7 (R.wf r _ e) Z bd
    have F:kT s.length ((lj y d l).map (·.2))=true:=by
     unfold kZ at hb
     rw[ah]at hb
     exact hb.2
    obtain⟨g,Y⟩:=R.set (o:=.dic (lj y d l)) (u:=.dK (aq0 G k v)) e rfl hb fun H' g e=>⟨_,e,RVD.monoW g _ _ F (C.put keyOf_inj hk rd)⟩
    exact az6 hu I (bv5.k h1 (by rw[C.length];exact ax hlt zE)) ri rv fun s4 I4=>⟨_,I4,q _ _ g (by simp) Y⟩
   | dit l =>
    have hm:(if y.keyT&&decide (l.length<k7)then DV.R.ok () (s.set r (.dit (lj y d l)))else .bad)=.ok () s':=hm
    split at hm
    case isFalse=>exact fb hm
    rename_i hc
    cases hm
    rw[ah]at hc
    obtain⟨k,hk⟩:=af0 hc.1
    have hlt:=of_decide_eq_true hc.2
    obtain⟨G,h1,C⟩:=R.obj r _ e
    have ex:=rx.refE;subst ex
    cases ro
    obtain⟨kb,ey,a0⟩:=as7 hk ry;subst ey
    have hb:(DV.O.dit (lj y d l)).bnd s.length=true:=bf0 (R.wf r _ e) Z bd
    have F:kT s.length ((lj y d l).map (·.2))=true:=by
     unfold kZ at hb
     rw[ah]at hb
     exact hb.2
    obtain⟨g,Y⟩:=R.set (o:=.dit (lj y d l)) (u:=.dT (aq0 G k v)) e rfl hb fun H' g e=>⟨_,e,RVD.monoW g _ _ F (C.put keyT_inj hk rd)⟩
    exact az6 hu I (bv5.t h1 a0 (by rw[C.length];exact ax hlt zE)) ri rv fun s4 I4=>⟨_,I4,q _ _ g (by simp) Y⟩
   | _=>exact fb hm
 | _=>exact fb hm
theorem bY0 {mc:kU->kR->kW kS}{C z:kU->kR->kW lH}(h:TSv Γ (fun ρ s=>lh (mc ρ s) fun k s=>if k then C ρ s else z ρ s) D σ H):ca3 (TTv Γ mc) (TSv Γ C) (TSv Γ z) D σ H:=by
 obtain⟨φ,ρ,s,d,s',E,R,hm,q⟩:=h
 obtain⟨c,s1,e1,hm⟩:=zC hm
 refine⟨φ,ρ,s,c,s1,E,R,e1,fun φ1 F g1 l1 R1=>?_⟩
 cases c with
 | true =>
  rw[if_pos rfl]at hm ⊢
  exact⟨φ1,ρ,s1,d,s',E.mono g1 l1,R1,hm,q.trans g1 l1⟩
 | false =>
  rw[if_neg aO]at hm ⊢
  exact⟨φ1,ρ,s1,d,s',E.mono g1 l1,R1,hm,q.trans g1 l1⟩
theorem bF7 {G C:kU->kR->kW lH}(h:TSv Γ (fun ρ s=>(G ρ s).bind fun c s=>match c with|.next ρ=>C ρ s|c=>.ok c s) D σ H):bY7 (TSv Γ G) (TSv Γ C) D σ H:=by
 obtain⟨φ,ρ,s,c,s',E,R,hm,q⟩:=h
 obtain⟨F,s1,e1,hm⟩:=aa0 hm
 refine⟨φ,ρ,s,F,s1,E,R,e1,fun φ1 z g1 l1 R1=>?_⟩
 cases F with
 | next ρ1=>exact fun σ1 J=>⟨φ1,ρ1,s1,c,s',J,R1,hm,q.trans g1 l1⟩
 | ret d=>cases hm;exact q φ1 z g1 l1 R1
 | cont ρ=>cases hm;exact q φ1 z g1 l1 R1
 | brk ρ=>cases hm;exact q φ1 z g1 l1 R1
theorem bd6 {mc:kU->kR->kW kS}{C:kU->kR->kW lH}(h:TSv Γ (DV.whl mc C) D σ H):bj7 (TTv Γ mc) (TSv Γ C) D σ H:=by
 obtain⟨φ,ρ,s,c,s',E,R,hm,q⟩:=h
 unfold DV.whl at hm
 split at hm
 case isFalse=>exact fb hm
 rename_i hn
 generalize hn.choose=n at hm
 refine⟨fun n σ H=>∃ φ ρ s,RE Γ φ H s.length ρ σ/\Rp Γ φ H s/\DV.qC mc C n ρ s=.ok c s'/\ak0 Γ φ s H c s' D,⟨n,φ,ρ,s,E,R,hm,q⟩,?_⟩
 clear E R hm q hn
 rintro n σ H ⟨φ,ρ,s,E,R,hm,q⟩
 cases n with
 | zero=>exact fb hm
 | succ n =>
  unfold DV.qC at hm
  obtain⟨b,s1,e1,hm⟩:=zC hm
  refine⟨φ,ρ,s,b,s1,E,R,e1,fun φ1 Z g1 l1 R1=>?_⟩
  cases b with
  | false =>
   rw[if_neg aO]at hm ⊢
   cases hm
   exact q φ1 Z g1 l1 R1 σ (E.mono g1 l1)
  | true =>
   rw[if_pos rfl]at hm ⊢
   obtain⟨J,s2,e2,hm⟩:=aa0 hm
   refine⟨_,fun σ' H' w=>⟨n,eI n,w⟩,φ1,ρ,s1,J,s2,E.mono g1 l1,R1,e2,fun φ2 F g2 Y R2=>?_⟩
   have G:=g1.trans g2 l1
   have L:=ak l1 Y
   cases J with
   | next ρ1=>exact fun σ1 z=>⟨φ2,ρ1,s2,z,R2,hm,q.trans G L⟩
   | cont ρ1=>exact fun σ1 z=>⟨φ2,ρ1,s2,z,R2,hm,q.trans G L⟩
   | ret d=>cases hm;exact q φ2 F G L R2
   | brk ρ=>cases hm;exact q φ2 F G L R2
theorem bG8 {mI : DV.Env -> DV.Sto -> DV.R DV.Sq} {mb : DV.Env -> DV.Sto -> DV.R DV.Ct} {tg : DV.Tg} (h : TSv Γ (fun ρ s => (mI ρ s).bind fun q s0 => DV.ag8 (fun s => DV.chk s0 s q.src) (fun d ρ s => match DV.ac5 ρ tg d with
      | some ρ => mb ρ s
      | none => .bad) q.its ρ s0) D σ H) : cb7 (TIv Γ mI) (gOf Γ.K tg) (TSv Γ mb) D σ H := by
  obtain⟨φ, ρ, s, c, s', E, R, hm, k⟩ := h
  obtain⟨q, s0, e1, hm⟩ := aa0 hm
  refine⟨φ, ρ, s, q, s0, E, R, e1, fun J φ1 H1 g1 l1 b1 R1 wk => ?_⟩
  refine⟨fun i m σ' H' => ∃ φ' ρ' t, Gr φ1 s0 H1 φ' t H' /\ Rp Γ φ' H' t /\ RE Γ φ' H' t.length ρ' σ' /\ i <= q.its.length /\ m = q.its.length - i /\
    mO (fun s => lL s0 s q.src) (fun d ρ s => match lx ρ tg d with
      | some ρ => mb ρ s
      | none => .bad) (q.its.drop i) ρ' t = .ok c s', ⟨q.its.length, ?_⟩, ?_⟩
  · exact⟨φ1, ρ, s0, Gr.refl _ _ _, R1, E.mono g1 l1, cu _, by simp, by rw[fF]; exact hm⟩
  · rintro i m σ' H' ⟨φ', ρ', t, g, R', E', hil, rfl, hc⟩
    have hle := g.le
    rcases gP i q.its.length with hlt|hge
    · have hd : q.its[i]? = some q.its[i] := ai hlt
      rw[fJ hlt]at hc
      unfold mO at hc
      split at hc
      case isFalse => exact fb hc
      rename_i hck
      obtain⟨hgo, hy2⟩ := (wk φ' H' t g hle R' hck i).1 hlt
      refine .inr ⟨hgo, _, fun σ2 H2 n => ⟨q.its.length - (i + 1), by omega, n⟩, fun x H2 hyl => ?_⟩
      obtain⟨sm, rv⟩ := hy2 x H2 hyl
      obtain⟨g2, R2⟩ := R'.same sm
      have rd := rv _ hd
      have bd : (q.its[i]).bnd t.length = true := zh hle _ (aj1 b1 hd)
      obtain⟨c1, t3, hs, hc⟩ := aa0 hc
      cases hb : lx ρ' tg q.its[i]with
      | none => rw[hb]at hs; cases hs
      | some ρ3 =>
        rw[hb]at hs
        refine bs6 (E'.mono g2 (aj _)) rd bd hb fun σ3 E3 => ?_
        refine⟨φ', ρ3, t, c1, t3, E3, R2, hs, fun φ2 H4 g4 l4 R4 => ?_⟩
        have G4 := (g.trans g2 hle).trans g4 hle
        have L4 := ak hle l4
        have GG := g1.trans G4 l1
        cases c1 with
        | next ρ1 => exact fun σ1 E1 => ⟨φ2, ρ1, t3, G4, R4, E1, hlt, rfl, hc⟩
        | cont ρ1 => exact fun σ1 E1 => ⟨φ2, ρ1, t3, G4, R4, E1, hlt, rfl, hc⟩
        | ret d => cases hc; exact k φ2 H4 GG (ak l1 L4) R4
        | brk ρ => cases hc; exact k φ2 H4 GG (ak l1 L4) R4
    · rw[gQ hge]at hc
      unfold mO at hc
      split at hc
      case isFalse => exact fb hc
      rename_i hck
      cases hc
      exact .inl ⟨(wk φ' H' s' g hle R' hck i).2 hge, k φ' H' (g1.trans g l1) (ak l1 hle) R' σ' E'⟩
structure Ck where
 N:List Str
 sc:Scope
 lk:String->List Nat->Expr->Bool
noncomputable abbrev ck0 (N:List Str)(sc:Scope):Ck:=⟨N,sc,fun _ _ _=>false⟩
noncomputable def Ck.vis (c:Ck)(x:Str):Bool:=match c.sc.names.lookup x with|some .local=>true|some .cell=>true|some .free=>true|_=>false
noncomputable def Ck.loc (c:Ck)(x:Str):Bool:=match c.sc.names.lookup x with|some .local=>true|some .cell=>true|_=>false
noncomputable def Ck.gl (c:Ck)(x:Str):Bool:=(match c.sc.names.lookup x with|some .globalImplicit=>true|_=>false)&&!(x==("__debug__":Str))&&!decide (x=("__name__":Str))
noncomputable def Ck.var (c:Ck)(i:Nat)(x:Str):Bool:=decide (c.N[i]?=some x)&&c.vis x&&!(x==("__debug__":Str))&&!(x==("__classdict__":Str))
noncomputable def shp:Expr->Bool
 | .Starred ..=>false
 | .Set ..=>false
 | .SetComp ..=>false
 | .DictComp ..=>false
 | .GeneratorExp ..=>false
 | .Slice ..=>false
 | .NamedExpr ..=>false
 | _=>true
noncomputable def av6:Expr->Bool
 | .ListComp ..=>false
 | .SetComp ..=>false
 | .DictComp ..=>false
 | _=>true
noncomputable def bP5:Expr->Bool
 | .Tuple ..=>false
 | _=>true
noncomputable def bN9:Expr->Bool
 | .Call _ [] [] _=>false
 | _=>true
noncomputable def mC:DV.Cn->Const->Bool
 | .non,.none=>true
 | .bl b,.bool c=>b==c
 | .int i,.int j=>decide (i=j)
 | .str x,.str y=>decide (y=⟨x.toArray⟩)&&decide (x.length<=1000)
 | _,_=>false
noncomputable def bQ6 (ck:Ck):List Nat->List Expr->Bool
 | [],[]=>true
 | i::is,.Name x _::es=>decide (ck.N[i]?=some x)&&ck.loc x&&bQ6 ck is es
 | _,_=>false
noncomputable def mTg (ck:Ck):lG->Expr->Bool
 | .one i,.Name x _=>decide (ck.N[i]?=some x)&&ck.loc x
 | .tup is,.Tuple es _ _=>bQ6 ck is es
 | _,_=>false
noncomputable def tgN:Expr->List Str
 | .Name x _=>[x]
 | .Tuple es _ _=>es.filterMap fun e=>match e with|.Name x _=>some x|_=>none
 | _=>[]
structure ItT where
 x:Str
 y:Str
 ob:Expr
 sc:Scope
 p1:Pos
 p2:Pos
 p3:Pos
 p4:Pos
 p5:Pos
 p6:Pos
 p7:Pos
 k1:Nat
 k2:Nat
 ap:Pos
 cp:Pos
 pos:Pos
noncomputable def ItT.tg (q:ItT):Expr:=.Tuple [.Name q.x q.p5,.Name q.y q.p6] q.k2 q.p7
noncomputable def ItT.it (q:ItT):Expr:=.Call (.Attribute q.ob "items" q.ap) [] [] q.cp
noncomputable def ItT.text (q:ItT):Expr:=.ListComp (.BinOp (.Name q.x q.p1) .Add (.Tuple [.Name q.y q.p2] q.k1 q.p3) q.p4) [⟨q.tg,q.it,[],0⟩] q.sc q.pos
noncomputable def ckC (ck:Ck)(tgt:Expr)(caps:List (Option Nat))(scope:Scope):Ck:=⟨tgN tgt++(caps.filterMap id).map fun j=>ck.N.getD j "",scope,fun _ _ _=>false⟩
noncomputable def aM9 (ck:Ck)(tg:lG)(tgt iter:Expr)(caps:List (Option Nat))(scope:Scope):Bool :=
 zO (ckC ck tgt caps scope).N caps scope ck.N ck.sc&&decide ((ckC ck tgt caps scope).N.Nodup)&&mTg (ckC ck tgt caps scope) tg tgt&&shp iter
noncomputable def biT:lF->Option Str
 | .len=>some "len" | .abs=>some "abs" | .min2=>some "min" | .max2=>some "max" | .int=>some "int" | .str=>some "str" | _=>none
noncomputable def biK:lF->Option (Nat×Str)
 | .isInt=>some (1, "int")|.isBool=>some (2, "bool")|.isStr=>some (3, "str")|.isTup=>some (4, "tuple")|.isList=>some (5, "list")|_=>none
noncomputable def mkT:mB->Option Str
 | .tuple=>some "tuple" | .list=>some "list" | _=>none
noncomputable def mkF:mB->Option Str
 | .all=>some "all" | .min=>some "min" | _=>none
noncomputable def mtT:mD->Option (Str×Nat)
 | .append=>some ("append",1)|_=>none
noncomputable def bQ7 (ck:Ck)(b:lF)(x:Str)(xs:List Expr)(m1 m2:Bool):Bool:=match biK b with
 | some p=>(match xs with|[_,.Name y _]=>decide (x=("isinstance":Str))&&ck.gl x&&decide (y=p.2)&&ck.gl y&&m2|_=>false)
 | none=>(match xs with|_::_=>decide (biT b=some x)&&ck.gl x&&m1|[]=>false)
noncomputable def lamArgs:bU->Option (List Str)
 | ⟨[],args,none,[],[],none,[]⟩=>some (args.map (·.arg))
 | _=>none
mutual
noncomputable def mE (ck:Ck):l6->Expr->Bool
 | .var i,E=>match E with|.Name x _=>ck.var i x|_=>false
 | .cst c,E=>match E with|.Constant v _ _=>mC c v|_=>false
 | .glob g,E=>match E with|.Name x _=>decide (x=(g:Str))&&ck.gl x|_=>false
 | .bin op a b,E=>match E with|.BinOp l o r _=>decide (o=bW5 op)&&mE ck a l&&mE ck b r|_=>false
 | .neg _,_=>false
 | .not a,E=>match E with|.UnaryOp .Not l _=>mE ck a l|_=>false
 | .cmp op a b,E=>match E with|.Compare l [o] [r] _=>decide (o=bu9 op)&&mE ck a l&&mE ck b r|_=>false
 | .chain _ _ _ _ _,_=>false
 | .isN a,E=>match E with|.Compare l [.Is] [.Constant .none _ _] _=>mE ck a l|_=>false
 | .notN a,E=>match E with|.Compare l [.IsNot] [.Constant .none _ _] _=>mE ck a l|_=>false
 | .isB _ _,_=>false
 | .notB _ _,_=>false
 | .and a b,E=>match E with
  | .BoolOp .And [l,r] _=>mE ck a l&&mE ck b r
  | .BoolOp .And (l::m::r::es) p=>mE ck a l&&mE ck b (.BoolOp .And (m::r::es) p)
  | _=>false
 | .or a b,E=>match E with
  | .BoolOp .Or [l,r] _=>mE ck a l&&mE ck b r
  | .BoolOp .Or (l::m::r::es) p=>mE ck a l&&mE ck b (.BoolOp .Or (m::r::es) p)
  | _=>false
 | .ite c a b,E=>match E with|.IfExp t l r _=>mE ck c t&&mE ck a l&&mE ck b r|_=>false
 | .tup es,E=>match E with|.Tuple xs _ _=>mEs ck es xs&&decide (xs.length<=1000)|_=>false
 | .lst es,E=>match E with|.List xs _=>mEs ck es xs&&decide (xs.length<=1000)|_=>false
 | .dic ks vs,E=>match E with|.Dict a b _=>(match a,b with|[],[]=>mEs ck ks []&&mEs ck vs []|[some x],[y]=>mEs ck ks [x]&&mEs ck vs [y]|_,_=>false)|_=>false
 | .slL _ _,_=>false
 | .slU a hi,E=>match E with|.Subscript o (.Slice none (some h) none _) _=>mE ck a o&&mE ck hi h|_=>false
 | .slLU _ _ _,_=>false
 | .rev _,_=>false
 | .fstr _,_=>false
 | .inC _ _,_=>false
 | .getC _ _,_=>false
 | .bitl _,_=>false
 | .lrng _,_=>false
 | .dicT,_=>false
 | .dicU k v,E=>match E with|.Dict a b _=>(match a,b with|[some x],[y]=>mE ck k x&&mE ck v y|_,_=>false)|_=>false
 | .get2 _ _ _,_=>false
 | .ix a b,E=>match E with|.Subscript o i _=>mE ck a o&&mE ck b i|_=>false
 | .call f as,E=>match E with|.Call (.Name x _) xs [] _=>decide (x=(f:Str))&&ck.gl x&&mAs ck as xs|_=>false
 | .callC _ _,_=>false
 | .callV _ _,_=>false
 | .bi b es,E=>match E with|.Call (.Name x _) xs [] _=>bQ7 ck b x xs (mEs ck es xs) (mEs ck es (xs.take 1))|_=>false
 | .mk k l,E=>match E with
  | .Call (.Name x _) [a] [] _=>ck.gl x&&shp a&&((decide (mkT k=some x)&&mL ck 2 l a)||(decide (mkF k=some x)&&mL ck 1 l a))
  | .ListComp e gs sc p=>decide (k=.list)&&mL ck 0 l (.ListComp e gs sc p)
  | _=>false
 | .mkD k l d,E=>match E with
  | .Call (.Name x _) [a] [⟨some y,de,_⟩] _=>(decide (k=.min)&&decide (x=("min":Str)))&&decide (y=("default":Str))&&ck.gl x&&shp a&&mL ck 1 l a&&mE ck d de
  | _=>false
 | .meth m o es,E=>match E with
  | .Call (.Attribute ob x ap) xs [] cp=>decide (mtT m=some (x,xs.length))&&bN9 ob&&(ap.endLine==cp.line)&&mE ck o ob&&mEs ck es xs
  | _=>false
 | .ext _ _,_=>false
 | .extS _ _,_=>false
 | .mks _ _,_=>false
 | .mkDs _ _ _,_=>false
 | .minK _ _ _,_=>false
 | .spl o c,E=>match E with
  | .Call (.Attribute ob x ap) [a] [] cp=>(match a with|.Constant v _ _=>decide (v=.str ⟨#[c]⟩)|_=>false)&&decide (x=("split":Str))&&bN9 ob&&(ap.endLine==cp.line)&&mE ck o ob
  | _=>false
 | .join _ _,_=>false
noncomputable def mEs (ck:Ck):ly->List Expr->Bool
 | .nil,xs=>match xs with|[]=>true|_=>false
 | .cons e es,xs=>match xs with|x::xs=>mE ck e x&&shp x&&mEs ck es xs|_=>false
noncomputable def mFs (ck:Ck):ly->List Expr->Bool
 | .nil,xs=>match xs with|[]=>true|_=>false
 | .cons e es,xs=>match xs with
  | .FormattedValue v c none _::xs=>decide (c=-1)&&mE ck e v&&mFs ck es xs
  | .Constant v j p::xs=>mE ck e (.Constant v j p)&&mFs ck es xs
  | _=>false
noncomputable def mAs (ck:Ck):mF->List Expr->Bool
 | .nil,xs=>match xs with|[]=>true|_=>false
 | .ex e es,xs=>match xs with|x::xs=>mE ck e x&&shp x&&mAs ck es xs|_=>false
 | .lam _ _ _,_=>false
 | .fn _ _,_=>false
noncomputable def bZ0 (ck:Ck):mF->List Expr->Bool
 | .nil,xs=>match xs with|[]=>true|_=>false
 | .ex e es,xs=>match xs with|x::xs=>mE ck e x&&shp x&&bZ0 ck es xs|_=>false
 | .lam _ _ _,_=>false
 | .fn _ _,_=>false
noncomputable def mI (ck:Ck)(tgt:Expr):DV.I->Expr->Bool
 | .rng1 a,E=>match E with|.Call (.Name x _) [l] [] _=>decide (x=("range":Str))&&ck.gl x&&mE ck a l&&shp l|_=>false
 | .rng2 _ _,_=>false
 | .seq e,x=>mE ck e x&&shp x
 | .rng3 _ _ _,_=>false
 | .rngD a,E=>match E with|.Call (.Name x _) [l,.UnaryOp .USub (.Constant v _ _) _,.UnaryOp .USub (.Constant u _ _) _] [] _=>decide (x=("range":Str))&&ck.gl x&&mE ck a l&&shp l&&decide (v=.int 1)&&decide (u=.int 1)|_=>false
 | .enum (.seq _),_=>false
 | .zip (.seq _) (.seq _),_=>false
 | .enum _,_=>false
 | .zip _ _,_=>false
 | .items _,_=>false
noncomputable def mL (ck:Ck)(k:Nat):DV.L->Expr->Bool
 | .comp tg it e caps,E=>match E with|.ListComp elt [⟨tgt,iter,[],z⟩] scope _=>decide (z=0)&&aM9 ck tg tgt iter caps scope&&mI ck tgt it iter&&mE (ckC ck tgt caps scope) e elt|_=>false
 | .compIf tg it c e caps,E=>match E with|.ListComp elt [⟨tgt,iter,[i],z⟩] scope _=>decide (z=0)&&aM9 ck tg tgt iter caps scope&&mI ck tgt it iter&&mE (ckC ck tgt caps scope) c i&&mE (ckC ck tgt caps scope) e elt|_=>false
 | .disp es,E=>match E with|.List xs _=>decide (1<=k)&&mEs ck es xs&&decide (xs.length<=1000)|_=>false
 | .seq e,x=>decide (k=2)&&mE ck e x
 | .itm _,_=>false
end
theorem ff {p:Prop}(h:false=true):p:=Bool.noConfusion h
mutual
noncomputable def mS (ck:Ck):DV.S->Stmt->Bool
 | .asg tg e,S=>match S with
  | .Assign [t] v _=>mTg ck tg t&&mE ck e v&&(match tg with|.one _=>true|.tup _=>bP5 v&&av6 v)
  | _=>false
 | .setIx o i e,S=>match S with|.Assign [.Subscript ob ix _] v _=>mE ck o ob&&mE ck i ix&&mE ck e v&&av6 v|_=>false
 | .aug _ _,_=>false
 | .ex e,S=>match S with|.Expr v _=>mE ck e v&&av6 v|_=>false
 | .ret e,S=>match S with|.Return (some v) _=>mE ck e v|_=>false
 | .retN,_=>false
 | .ite c a b,S=>match S with|.If t l r _=>mE ck c t&&mSs ck a l&&mSs ck b r|_=>false
 | .whl c b,S=>match S with|.While t l [] _=>mE ck c t&&mSs ck b l|_=>false
 | .for_ tg it b,S=>match S with|.For tgt iter l [] _=>mTg ck tg tgt&&mI ck tgt it iter&&mSs ck b l|_=>false
 | .pass,_=>false
 | .cont,_=>false
 | .brk,_=>false
 | .raise,_=>true
 | .und _,_=>false
noncomputable def mSs (ck:Ck):DV.Ss->List Stmt->Bool
 | .nil,xs=>match xs with|[]=>true|_=>false
 | .cons s ss,xs=>match xs with|x::xs=>(mS ck s x&&mSs ck ss xs)|_=>false
end
theorem aI9 {z:Ck}{e:l6}{E:Expr}(h:mE z e E=true):shp E=true:=by
 cases E<;>first|rfl|(exfalso;cases e<;>exact ff h)
theorem bI8 {C:Ck}{z:Expr}{e:DV.I}{E:Expr}(h:mI C z e E=true):shp E=true:=by
 cases e with
 | seq e=>have h:(mE C e E&&shp E)=true:=h;rw[ah]at h;exact h.2
 | enum a=>cases E<;>first|rfl|(exfalso;cases a<;>exact ff h)
 | zip a b=>cases E<;>first|rfl|(exfalso;cases a<;>first|exact ff h|(cases b<;>exact ff h))
 | _=>cases E<;>first|rfl|exact ff h
theorem zg {e:Expr}{es:List Expr}{env:Env}(h:shp e=true):bq (e::es) env=(false,eval e env)::bq es env:=by
 cases e<;>first|rfl|cases h
theorem zQ {env:Env}{pos:Pos}:∀ {es:List Expr},(∀ e∈es,shp e=true)->(eW pos (bq es env)).any (·.1)=false/\(eW pos (bq es env)).all (fun x=>!x.1)=true
 | [],_=>⟨rfl,rfl⟩
 | e::es,h=>by
  have C:=zg (es:=es) (env:=env) (h e (aw ..))
  obtain⟨z,h3⟩:=zQ (env:=env) (pos:=pos) (es:=es) fun x hx=>h x (ao _ hx)
  rw[C]
  unfold eW at z h3 ⊢
  simp only[aL,f8,bW,z,h3]
  exact⟨rfl,rfl⟩
theorem aD0 {e:Expr}{env:Env}(h:shp e=true)(x:Value):dw e env x=pure x:=by
 cases e<;>first|rfl|cases h
theorem au4 {e:Expr}{op:CmpOp}(h:shp e=true):dj op e=false:=by
 cases e<;>first|rfl|cases h
theorem at1 {e:Expr}{t:Option Expr}{l:Nat}{env:Env}(h:av6 e=true):fq e t l env=pure false:=by
 cases e<;>first|rfl|cases h
theorem aD2 {e:Expr}{f:Str}{env:Env}(h:bN9 e=true):fZ e f env (eval e env)=eval e env:=by
 cases e with
 | Call g a k p =>
  cases g with
  | Name x p' =>
   cases a with
   | nil=>cases k with
    | nil=>cases h
    | cons _ _=>rfl
   | cons _ _=>rfl
  | _=>rfl
 | _=>rfl
theorem aN7 {es:List Expr}{k:Nat}{p:Pos}{e:Expr}{env:Env}(h:bP5 e=true):iW [.Tuple es k p] e env=pure none:=by
 cases e<;>first|rfl|cases h
theorem aM6 {o i:Expr}{p:Pos}{e:Expr}{env:Env}:iW [.Subscript o i p] e env=pure none:=by
 cases e<;>rfl
theorem aN1 {e:Expr}(h:shp e=true):aW1 e:=by
 intro o i
 cases e<;>first|rfl|cases h
def spV (Γ:Gm)(c:List kS->kR->kW kS):Sp:=fun vs H Q _=>rCl Γ c vs H Q
noncomputable def bNames:List Str:=["len", "abs", "min", "max", "int", "isinstance", "bool", "str", "tuple", "list", "range", "sum", "all", "any", "sorted", "zip", "enumerate", "ord"]
def spL (Γ:Gm)(c:List kS->List kS->kR->kW kS)(cap:List V):Sp:=fun vs H Q _=>∃ φ s cs l d s',Rp Γ φ H s/\RVL Γ φ H l vs/\RVL Γ φ H cs cap/\kT s.length l=true/\kT s.length cs=true/\c cs l s=.ok d s'/\ad4 Γ φ s H d s' Q
noncomputable def LamI.own (J:LamI):Str:=match J.nm with|none => "<lambda>" | some p=>p.1
noncomputable def lamText (J:LamI)(params:bU)(body:Expr)(scope:Scope)(pos:Pos):Expr:=match J.nm with
 | none=>.Lambda params body scope pos
 | some p=>.NamedExpr (.Name p.1 p.2) (.Lambda params body scope pos) pos
structure LamHere (Γ:Gm)(X:Cx)(N:List Str)(id:String)(caps:List Nat)(params:bU)(body:Expr)(scope:Scope)(c P:Addr)(J:LamI):Prop where
 code:X.env.code=.ref c
 hd:cF X.base c P
 bm:BM X.mg X.base
 ck:lamCheck scope X.env.scope=true
 df:defaultsOf params X.env=([],[])
 lg:Γ.lg id J
 q:J.qual=X.env.qual++J.own
 p:J.params=params
 b:J.body=body
 s:J.scope=scope
 len:J.fr.length=caps.length
 at_:∀(i j:Nat) (x:Str),caps[i]?=some j->J.fr[i]?=some x->N[j]?=some x
 fr:∀ x∈J.fr,scope.names.lookup x=some .free
 cl:∀ x,scope.names.lookup x=some .free->∃ c,X.env.cells.lookup x=some c
 tab:(P,J.qual)∈Γ.T
 nd:(Γ.T.map (·.1)).Nodup
 fn:∀ x,X.fn x=true
 kd:∀ x c,X.env.cells.lookup x=some c->X.env.kindOf x=some .cell\/X.env.kindOf x=some .free
 gs:LamScope (J.ps++J.fr) J.ps J.fr J.scope
 gp:lamArgs J.params=some J.ps
 gb:∀(clos:List (Str×Addr)) (pm:Value) (c':Addr) (ctv:Value) (us:List Value),us.length=J.ps.length->dZ (dC "<lambda>" J.qual J.params J.body J.scope clos pm (.ref c') ctv) ⟨us,[]⟩=pure (J.ps.zip us)
noncomputable def strD (kvs:List (List Nat×List Nat)):List (PyData×PyData):=kvs.map fun p=>(.str ⟨p.1.toArray⟩,.str ⟨p.2.toArray⟩)
structure CG (Γ:Gm)(F:ln)(n:Nat)(X:Cx)(ck:Ck):Prop where
 K:X.K=Γ.K
 N:X.N=ck.N
 nd:ck.N.Nodup
 xe:X.xe=fun _ _=>False
 calm:X.calm=true
 deep:li+1<=n
 room:Room n X.A
 sc:∀ x k,ck.sc.names.lookup x=some k->X.env.scope.names.lookup x=some k\/(k=.free/\X.env.scope.names.lookup x=some .cell)
 fn:∀ x,ck.sc.names.lookup x=some .cell->X.fn x=true
 bi:∀ x∈bNames,X.mg x=none
 call:∀ f:String,(∀ l s,F.call f l s=.bad)\/∃ a fd ps,FnOk X.prog X.w X.K X.mg X.base CX0 n a fd ps (spV Γ (F.call f))/\X.mg (f:Str)=some (.ref a)/\cE X.K (.ref a)=true/\Binds X.K fd ps []
 con:∀ x d,F.con x=some d->∃ v u,X.mg (x:Str)=some u/\RelV v u/\(∀ m,d.bnd m=true)/\∀ φ H,RV Γ φ H d v
 lam:∀ id caps E,ck.lk id caps E=true->∃ c P params body scope pos J,E=lamText J params body scope pos/\LamHere Γ X ck.N id caps params body scope c P J
 cl:∀(id:String) (J:LamI) (f:Addr) (cap:List V) (clos:List (Str×Addr)),Γ.lg id J->cap.length=J.fr.length->ClOk X.prog X.w X.K X.mg X.base n (fun H=>CloAt H f J cap clos) f (spL Γ (F.lam id) cap)
 fa:∀(f:String) (a:Addr),Γ.fa f=some a->X.mg (f:Str)=some (.ref a)/\∃ oc od fd sl,X.K.lookup a=some ⟨oc,od,.func fd,sl⟩
 fk:DV.FK F
 cdc:∀ c kvs,F.cdc c=some kvs->∃ a,X.mg (c:Str)=some (.ref a)/\∀ h:Heap,X.K.In h->StrTab X.prog X.w h a (strD kvs)
section
variable {Γ:Gm} {F:ln} {n:Nat} {X:Cx} {ck:Ck}
theorem CG.vis (G:CG Γ F n X ck){x:Str}(h:ck.vis x=true):Vis X.env.scope x:=by
 unfold Ck.vis at h
 split at h
 ·rename_i e;rcases G.sc _ _ e with z|⟨z,_⟩
  ·exact .inl z
  ·cases z
 ·rename_i e;rcases G.sc _ _ e with z|⟨z,_⟩
  ·exact .inr (.inl z)
  ·cases z
 ·rename_i e;rcases G.sc _ _ e with z|⟨_,z⟩
  ·exact .inr (.inr z)
  ·exact .inr (.inl z)
 ·cases h
theorem CG.loc (G:CG Γ F n X ck){x:Str}(h:ck.loc x=true):Loc X.env.scope x/\(X.fn x=true\/X.env.scope.names.lookup x=some .local):=by
 unfold Ck.loc at h
 split at h
 ·rename_i e;rcases G.sc _ _ e with z|⟨z,_⟩
  ·exact⟨.inl z,.inr z⟩
  ·cases z
 ·rename_i e;rcases G.sc _ _ e with z|⟨z,_⟩
  ·exact⟨.inr z,.inl (G.fn _ e)⟩
  ·cases z
 ·cases h
theorem CG.gl (G:CG Γ F n X ck){x:Str}(h:ck.gl x=true):Gl X x/\(x==("__debug__":Str))=false/\x ≠ "__name__":=by
 unfold Ck.gl at h
 simp only[ah,fT]at h
 obtain⟨⟨C,J⟩,h3⟩:=h
 refine⟨?_,J,of_decide_eq_false h3⟩
 split at C
 ·rename_i e;rcases G.sc _ _ e with z|⟨z,_⟩
  ·exact z
  ·cases z
 ·cases C
theorem bj4 (G:CG Γ F n X ck):∀ {is:List Nat} {es:List Expr},bQ6 ck is es=true->PGs X es (bQ4 is)/\(cC es X.env).length=is.length/\(cC es X.env).findIdx? (·.1)=none
 | [],[],_=>⟨bu7,rfl,rfl⟩
 | [],_::_,h=>by cases h
 | i::is,[],h=>by cases h
 | i::is,e::es,h=>by
  cases e with
  | Name x p =>
   unfold bQ6 at h
   simp only[ah,decide_eq_true_eq]at h
   obtain⟨⟨J,C⟩,h3⟩:=h
   obtain⟨l1,z⟩:=G.loc C
   obtain⟨a,b,c⟩:=bj4 G h3
   have hs:cC (.Name x p::es) X.env=(false,gz (.Name x p) X.env)::cC es X.env:=rfl
   refine⟨bf8 (aU1 (by rw[G.N];exact G.nd) (by rw[G.N];exact J) l1 z) a (by rw[hs];rfl),by rw[hs,aI,aI,b],?_⟩
   rw[hs,List.findIdx?_cons]
   simp[c]
  | _=>cases h
theorem bz1 (G:CG Γ F n X ck){tg:lG}{e:Expr}(h:mTg ck tg e=true):PG X e (gOf Γ.K tg):=by
 unfold mTg at h
 split at h
 ·simp only[ah,decide_eq_true_eq]at h
  obtain⟨l1,z⟩:=G.loc h.2
  exact aU1 (by rw[G.N];exact G.nd) (by rw[G.N];exact h.1) l1 z
 ·obtain⟨a,b,c⟩:=bj4 G h
  exact bu4 G.K G.calm a b c
 ·cases h
theorem CG.comp (G:CG Γ F n X ck){tg:lG}{Y iter:Expr}{J:List (Option Nat)}{scope:Scope}(h:aM9 ck tg Y iter J scope=true) :
  zO (ckC ck Y J scope).N J scope X.N X.env.scope=true/\shp iter=true /\
  ∀(C:Addr) (cells:List (Str×Addr)) (s:af) (H:Hp) (ex:List Addr),CG Γ F n (zz X (ckC ck Y J scope).N scope C cells s H ex) (ckC ck Y J scope)/\PG (zz X (ckC ck Y J scope).N scope C cells s H ex) Y (gOf Γ.K tg):=by
 unfold aM9 at h
 simp only[ah,decide_eq_true_eq]at h
 obtain⟨⟨⟨Z,h2⟩,h3⟩,h4⟩:=h
 refine⟨?_,h4,fun C cells s H ex=>?_⟩
 ·rw[G.N]
  unfold zO at Z ⊢
  simp only[ah]at Z ⊢
  obtain⟨⟨⟨⟨⟨a1,a2⟩,a3⟩,a4⟩,a5⟩,a6⟩:=Z
  refine⟨⟨⟨⟨⟨a1,?_⟩,a3⟩,a4⟩,a5⟩,a6⟩
  rw[aU]at a2 ⊢
  intro y hy
  have:=a2 y hy
  rw[bH]at this ⊢
  rcases this with q|q
  ·exact .inl q
  ·right
   rw[bH]at q ⊢
   rcases q with q|q
   ·rcases G.sc _ _ (eq_of_beq q)with z|⟨z,_⟩
    ·left;rw[z];exact beq_self_eq_true _
    ·cases z
   ·rcases G.sc _ _ (eq_of_beq q)with z|⟨_,z⟩
    ·right;rw[z];exact beq_self_eq_true _
    ·left;rw[z];exact beq_self_eq_true _
 ·have G':CG Γ F n (zz X (ckC ck Y J scope).N scope C cells s H ex) (ckC ck Y J scope):=by
   refine⟨G.K,rfl,h2,rfl,G.calm,G.deep,G.room,fun x k e=>?_,fun x e=>?_,G.bi,G.call,G.con,fun _ _ _ h=>(by cases h),G.cl,G.fa,G.fk,G.cdc⟩
   ·have q:=zY (env:=X.env) e
    have q':(eN scope X.env).names.lookup x=some (if(k==NameKind.free&&X.env.scope.kind==.function&&X.env.kindOf x==some .cell)then NameKind.cell else k):=q
    show(eN scope X.env).names.lookup x=some k\/_
    rw[q']
    split
    ·rename_i hc
     simp only[ah]at hc
     exact .inr ⟨eq_of_beq hc.1.1,rfl⟩
    ·exact .inl rfl
   ·show(scope.names.lookup x==some .cell)=true
    rw[show scope.names.lookup x=some .cell from e];rfl
  exact⟨G',bz1 G' h3⟩
end
section
variable {Γ:Gm} {F:ln} {n:Nat} {X:Cx} {ck:Ck} {σ:St} {H:Hp} {Q:VK}
theorem TEv.eq {m m':kU->kR->kW kS}(e:∀ ρ s,m ρ s=m' ρ s)(q:TEv Γ m σ H Q):TEv Γ m' σ H Q:=by
 have:m=m':=funext fun ρ=>funext fun s=>e ρ s
 subst this;exact q
theorem TTv.eq {m m':kU->kR->kW kS}{Q:Bool->Hp->Prop}(e:∀ ρ s,m ρ s=m' ρ s)(q:TTv Γ m σ H Q):TTv Γ m' σ H Q:=by
 have:m=m':=funext fun ρ=>funext fun s=>e ρ s
 subst this;exact q
theorem TAv.eq {m m':kU->kR->kW (List kS)}{Q:List V->Hp->Prop}(e:∀ ρ s,m ρ s=m' ρ s)(q:TAv Γ m σ H Q):TAv Γ m' σ H Q:=by
 have:m=m':=funext fun ρ=>funext fun s=>e ρ s
 subst this;exact q
theorem TFv.eq {m m':kU->kR->kW (List kS)}(e:∀ ρ s,m ρ s=m' ρ s)(q:TFv Γ m σ H Q):TFv Γ m' σ H Q:=by
 have:m=m':=funext fun ρ=>funext fun s=>e ρ s
 subst this;exact q
theorem TIv.eq {m m':kU->kR->kW l7}{R:It->Hp->Prop}(e:∀ ρ s,m ρ s=m' ρ s)(q:TIv Γ m σ H R):TIv Γ m' σ H R:=by
 have:m=m':=funext fun ρ=>funext fun s=>e ρ s
 subst this;exact q
theorem TSv.eq {m m':kU->kR->kW lH}{D:Ends}(e:∀ ρ s,m ρ s=m' ρ s)(q:TSv Γ m D σ H):TSv Γ m' D σ H:=by
 have:m=m':=funext fun ρ=>funext fun s=>e ρ s
 subst this;exact q
def EvT (Γ:Gm)(X:Cx)(E:Expr)(m:kU->kR->kW kS):Prop:=PE X E (TEv Γ m)/\PT X E (TTv Γ m)
theorem EvT.val {E:Expr}{m:kU->kR->kW kS}(h:PE X E (TEv Γ m))(C:∀ z,dP E X.env z=(do let v <- z;standAt E.pos;jg [v] (truthy v)):=by intro _;rfl):EvT Γ X E m :=
 ⟨h,(bG6 h C).imp fun σ H Q q=>aH2 q⟩
theorem bc6 {c a b:Expr}{pos:Pos}{Y tb F:TT}(hc:PT X c Y)(ha:PT X a tb)(hb:PT X b F):PT X (.IfExp c a b pos) (fun σ H Q=>Y σ H fun k C=>if k=true then tb σ C Q else F σ C Q):=by
 intro z s σ H Q I h
 have e:dP (.IfExp c a b pos) X.env (eval (.IfExp c a b pos) X.env)=(do if <- dP c X.env (eval c X.env)then dP a X.env (eval a X.env)else dP b X.env (eval b X.env)):=by rw[dP]
 rw[e]
 refine ag (thn (hc z s σ H _ I h) fun k s1 ⟨C,J,G⟩=>?_)
 cases k with
 | true=>exact ha z s1 σ C Q J G
 | false=>exact hb z s1 σ C Q J G
theorem bC9 {mc F C:kU->kR->kW kS}{Q:Bool->Hp->Prop}(h:TTv Γ (fun ρ s=>lh (mc ρ s) fun k s=>if k then F ρ s else C ρ s) σ H Q):TTv Γ mc σ H fun k z=>if k=true then TTv Γ F σ z Q else TTv Γ C σ z Q:=by
 obtain⟨φ,ρ,s,d,s',E,R,hm,q⟩:=h
 obtain⟨c,s1,e1,hm⟩:=zC hm
 refine⟨φ,ρ,s,c,s1,E,R,e1,fun φ1 z g1 l1 R1=>?_⟩
 cases c with
 | true =>
  rw[if_pos rfl]at hm ⊢
  exact⟨φ1,ρ,s1,d,s',E.mono g1 l1,R1,hm,q.trans g1 l1⟩
 | false =>
  rw[if_neg aO]at hm ⊢
  exact⟨φ1,ρ,s1,d,s',E.mono g1 l1,R1,hm,q.trans g1 l1⟩
section
variable {a b c:l6} {l r t:Expr} {pos:Pos}
theorem bn5 (G:CG Γ F n X ck)(op:mU)(ha:EvT Γ X l (kX F a))(hb:EvT Γ X r (kX F b)):EvT Γ X (.BinOp l (bW5 op) r pos) (kX F (.bin op a b)) :=
 .val ((bV6 (bG3 G.K op) ha.1 hb.1).imp fun σ H Q q=>aZ9 (TEv.eq (fun ρ s=>rfl) q))
theorem by4 (ha:EvT Γ X l (kX F a)):EvT Γ X (.UnaryOp .Not l pos) (kX F (.not a)) :=
 ⟨(bA4 ha.1).imp fun σ H Q q=>bK3 (TEv.eq (fun ρ s=>rfl) q),(bJ4 ha.2).imp fun σ H Q q=>bJ3 (TTv.eq (fun ρ s=>rfl) q)⟩
theorem bx7 (G:CG Γ F n X ck)(op:mH)(hs:shp r=true)(ha:EvT Γ X l (kX F a))(hb:EvT Γ X r (kX F b)):EvT Γ X (.Compare l [bu9 op] [r] pos) (kX F (.cmp op a b)):=by
 have ho:=bD1 (Γ:=Γ) G.K (G.room.mono G.deep) op
 refine⟨(bw9 ho ha.1 hb.1 (au4 hs)).imp fun σ H Q q=>aZ9 (TEv.eq (fun ρ s=>rfl) q),(bs8 ho ha.1 hb.1 (au4 hs)).imp fun σ H Q q=>?_⟩
 have q:=bq4 q
 exact aZ9 (TEv.eq (fun ρ s=>rfl) q)
theorem RV.nonIff {φ:Nat->Addr}{x:kS}{v:V}(r:RV Γ φ H x v):decide (v=.non)=decide (x=.non):=by
 cases x with
 | non=>rw[r.nonE];rfl
 | bl b=>rw[r.blE];rfl
 | int i=>rw[r.intE];rfl
 | str z=>rw[r.strE];rfl
 | tup l=>obtain⟨a,h,rfl,_⟩:=r.tupE;rfl
 | ref k=>rw[r.refE];rfl
 | fn f=>unfold RV at r;obtain⟨a,_,rfl⟩:=r;rfl
 | clo f cs=>unfold RV at r;obtain⟨f,_,_,_,rfl,_⟩:=r;rfl
theorem bo3 {j pos'}(ha:EvT Γ X l (kX F a)):EvT Γ X (.Compare l [.Is] [.Constant .none j pos'] pos) (kX F (.isN a)):=by
 have key:∀ σ H Q,TEv Γ (kX F (.isN a)) σ H Q->cb2 (TEv Γ (kX F a)) σ H Q:=fun σ H Q q=>by
  obtain⟨φ,ρ,s,d,s',E,R,hm,k⟩:=q
  obtain⟨x,s1,e1,hm⟩:=aa0 hm
  cases hm
  refine⟨φ,ρ,s,x,_,E,R,e1,fun v φ1 h g1 l1 b1 r1 R1=>?_⟩
  show Q (.bl (decide (v=.non))) h
  rw[r1.nonIff]
  exact k _ φ1 h g1 l1 rfl RV.blI R1
 exact⟨(bh9 (bj9 ha.1)).imp key,(bl0 (bj9 ha.1)).imp fun σ H Q q=>key _ _ _ (aH2 q)⟩
theorem be1 {j pos'}(ha:EvT Γ X l (kX F a)):EvT Γ X (.Compare l [.IsNot] [.Constant .none j pos'] pos) (kX F (.notN a)):=by
 have key:∀ σ H Q,TEv Γ (kX F (.notN a)) σ H Q->bP0 (TEv Γ (kX F a)) σ H Q:=fun σ H Q q=>by
  obtain⟨φ,ρ,s,d,s',E,R,hm,k⟩:=q
  obtain⟨x,s1,e1,hm⟩:=aa0 hm
  cases hm
  refine⟨φ,ρ,s,x,_,E,R,e1,fun v φ1 h g1 l1 b1 r1 R1=>?_⟩
  show Q (.bl (!decide (v=.non))) h
  rw[r1.nonIff]
  exact k _ φ1 h g1 l1 rfl RV.blI R1
 exact⟨(bh9 (aP6 ha.1)).imp key,(bl0 (aP6 ha.1)).imp fun σ H Q q=>key _ _ _ (aH2 q)⟩
theorem aR9 {op:BoolOp}{es:List Expr}{t:TT}(h:PT X (.BoolOp op es pos) t):PW X (.BoolOp op es pos) t:=by
 intro C z s σ H Q I q
 have:=h z s σ H Q I q
 have e:∀ w,dP (.BoolOp op es pos) X.env w=allTrue op es X.env:=fun w=>by rw[dP]
 rw[e]at this ⊢
 exact this
theorem bq0 (ha:EvT Γ X l (kX F a))(hb:EvT Γ X r (kX F b)):EvT Γ X (.BoolOp .And [l,r] pos) (kX F (.and a b)) :=
 ⟨(bk3 ha.1 (bi7 hb.1)).imp fun σ H Q q=>bm4 (TEv.eq (fun ρ s=>rfl) q),(bl4 ha.2 (bn4 hb.2)).pt.imp fun σ H Q q=>bj0 (TTv.eq (fun ρ s=>rfl) q)⟩
theorem bu2 {es:List Expr}(ha:EvT Γ X l (kX F a))(hb:EvT Γ X (.BoolOp .And (r::es) pos) (kX F b)):EvT Γ X (.BoolOp .And (l::r::es) pos) (kX F (.and a b)) :=
 ⟨(bk3 ha.1 hb.1).imp fun σ H Q q=>bm4 (TEv.eq (fun ρ s=>rfl) q),(bl4 ha.2 (aR9 hb.2)).pt.imp fun σ H Q q=>bj0 (TTv.eq (fun ρ s=>rfl) q)⟩
theorem bJ6 (ha:EvT Γ X l (kX F a))(hb:EvT Γ X r (kX F b)):EvT Γ X (.BoolOp .Or [l,r] pos) (kX F (.or a b)) :=
 ⟨(bL8 ha.1 (bi7 hb.1)).imp fun σ H Q q=>bC7 (TEv.eq (fun ρ s=>rfl) q),(bG1 ha.2 (bO0 hb.2)).pt.imp fun σ H Q q=>bH6 (TTv.eq (fun ρ s=>rfl) q)⟩
theorem bL4 {es:List Expr}(ha:EvT Γ X l (kX F a))(hb:EvT Γ X (.BoolOp .Or (r::es) pos) (kX F b)):EvT Γ X (.BoolOp .Or (l::r::es) pos) (kX F (.or a b)) :=
 ⟨(bL8 ha.1 hb.1).imp fun σ H Q q=>bC7 (TEv.eq (fun ρ s=>rfl) q),(bG1 ha.2 (aR9 hb.2)).pt.imp fun σ H Q q=>bH6 (TTv.eq (fun ρ s=>rfl) q)⟩
theorem br0 (hc:EvT Γ X t (kX F c))(ha:EvT Γ X l (kX F a))(hb:EvT Γ X r (kX F b)):EvT Γ X (.IfExp t l r pos) (kX F (.ite c a b)) :=
 ⟨(bh0 hc.2 ha.1 hb.1).imp fun σ H Q q=>bA9 (TEv.eq (fun ρ s=>rfl) q),(bc6 hc.2 ha.2 hb.2).imp fun σ H Q q=>bC9 (TTv.eq (fun ρ s=>rfl) q)⟩
theorem bH3 (G:CG Γ F n X ck)(hs:shp r=true)(ha:EvT Γ X l (kX F a))(hb:EvT Γ X r (kX F b)):EvT Γ X (.Subscript l r pos) (kX F (.ix a b)) :=
 .val ((bW9 (bV4 G.K (ak4 G.room)) ha.1 hb.1 (aN1 hs)).imp fun σ H Q q=>aZ9 (TEv.eq (fun ρ s=>rfl) q))
theorem bw6 {h:Pos}(G:CG Γ F n X ck)(ha:EvT Γ X l (kX F a))(hb:EvT Γ X r (kX F b)):EvT Γ X (.Subscript l (.Slice none (some r) none h) pos) (kX F (.slU a b)) :=
 .val ((bf9 (bR8 G.K) ha.1 bw8 (bs2 hb.1)).imp fun σ H Q q=>(bR5 (ml:=kX F b)).2.1 (TEv.eq (fun ρ s=>rfl) q))
end
end
section
variable {Γ:Gm} {F:ln} {n:Nat} {X:Cx} {ck:Ck} {σ:St} {H:Hp} {Q:VK}
theorem aq7:∀ {es:ly} {ρ:kU} {s s':kR} {l:List kS} {z:List Expr} {C:Ck},lE F es ρ s=.ok l s'->mEs C es z=true->l.length=z.length
 | .nil,ρ,s,s',l,z,C,h,m=>by
  cases h
  cases z with
  | nil=>rfl
  | cons _ _=>rw[mEs]at m<;>first|cases m|(intros;simp_all)
 | .cons e es,ρ,s,s',l,z,C,h,m=>by
  obtain⟨d,s1,e1,h⟩:=aa0 h
  obtain⟨r,s2,e2,h⟩:=aa0 h
  cases h
  cases z with
  | nil=>rw[mEs]at m<;>first|cases m|(intros;simp_all)
  | cons x z =>
   rw[mEs,ah]at m
   rw[aI,aI,aq7 e2 m.2]
theorem aC9:∀ {es:ly} {z:List Expr},mEs ck es z=true->∀ x∈z,shp x=true
 | .nil,[],_,x,hx=>by cases hx
 | .nil,_::_,m,_,_=>by rw[mEs]at m<;>first|cases m|(intros;simp_all)
 | .cons e es,[],m,x,hx=>by cases hx
 | .cons e es,y::z,m,x,hx=>by
  rw[mEs,ah,ah]at m
  rcases aH.mp hx with h|h
  ·rw[h];exact m.1.2
  ·exact aC9 m.2 x h
theorem aT2:∀ {es:mF} {z:List Expr},mAs ck es z=true->∀ x∈z,shp x=true
 | .nil,[],_,x,hx=>by cases hx
 | .nil,_::_,m,_,_=>by rw[mAs]at m<;>first|cases m|(intros;simp_all)
 | .ex e es,[],m,x,hx=>by cases hx
 | .lam _ _ _,_,m,_,_=>by rw[mAs]at m<;>first|cases m|(intros;simp_all)
 | .fn _ _,_,m,_,_=>by rw[mAs]at m<;>first|cases m|(intros;simp_all)
 | .ex e es,y::z,m,x,hx=>by
  rw[mAs,ah,ah]at m
  rcases aH.mp hx with h|h
  ·rw[h];exact m.1.2
  ·exact aT2 m.2 x h
theorem aH7 {e:l6}{x:Expr}{h:List Expr}{z:kU->kR->kW (List kS)}(hs:shp x=true)(G:PE X x (TEv Γ (kX F e)))(C:PA X h (TAv Γ z)) :
  PA X (x::h) (TAv Γ (fun ρ s=>(kX F e ρ s).bind fun d s=>(z ρ s).bind fun l s=>.ok (d::l) s)) :=
 (zI G C (zg hs)).imp fun σ H Q q=>bp8 q
theorem aH5 {k:Nat}(h:k<=1000):k<=aE:=by rw[eQ];omega
theorem bs0 {es:ly}{z:List Expr}{k:Nat}{pos:Pos}(m:mEs ck es z=true)(hz:z.length<=1000)(h:PA X z (TAv Γ (lE F es))):EvT Γ X (.Tuple z k pos) (kX F (.tup es)) :=
 .val ((bP1 h).imp fun σ H Q q=>tv_tup' hz m q)
where
 tv_tup' {es:ly} {z:List Expr} {σ:St} {H:Hp} {Q:VK} (hz:z.length<=1000) (m:mEs ck es z=true) (q:TEv Γ (kX F (.tup es)) σ H Q):cb6 (TAv Γ (lE F es)) σ H Q:=by
  obtain⟨φ,ρ,s,d,s',E,R,hm,q⟩:=q
  obtain⟨l,s1,e1,hm⟩:=aa0 hm
  cases hm
  refine⟨φ,ρ,s,l,_,E,R,e1,fun vs φ1 C g1 l1 b1 r1 R1=>⟨by rw[r1.length,aq7 e1 m];exact aH5 hz,fun p hp=>?_⟩⟩
  exact(q.trans g1 l1).tup R1 r1 b1 hp
theorem bq9 {es:ly}{z:List Expr}{pos:Pos}(m:mEs ck es z=true)(hz:z.length<=1000)(h:PA X z (TAv Γ (lE F es))):EvT Γ X (.List z pos) (kX F (.lst es)):=by
 refine .val ((bl5 h).imp fun σ H Q q=>?_)
 obtain⟨φ,ρ,s,d,s',E,R,hm,q⟩:=q
 obtain⟨l,s1,e1,hm⟩:=aa0 hm
 obtain⟨rfl,rfl⟩:=zN hm
 refine⟨φ,ρ,s,l,_,E,R,e1,fun vs φ1 C g1 l1 b1 r1 R1=>⟨by rw[r1.length,aq7 e1 m];exact aH5 hz,fun p hp=>?_⟩⟩
 exact(q.trans g1 l1).alloc R1 r1 b1 hp
theorem bg9 {f:String}{z:mF}{C:List Expr}{p pos:Pos}(G:CG Γ F n X ck)(hg:ck.gl (f:Str)=true)(m:mAs ck z C=true)(h:PA X C (TAv Γ (mw F z))):EvT Γ X (.Call (.Name (f:Str) p) C [] pos) (kX F (.call f z)):=by
 refine .val ?_
 obtain⟨g1,g2,g3⟩:=G.gl hg
 rcases G.call f with hbad|⟨a,fd,ps,hF,J,hk,hb⟩
 ·intro Z s σ H Q I q
  obtain⟨φ,ρ,s,d,s',E,R,hm,q⟩:=q
  obtain⟨l,s1,e1,hm⟩:=aa0 hm
  rw[hbad]at hm
  cases hm
 have key:∀ σ H Q,TEv Γ (kX F (.call f z)) σ H Q->aM1 (spV Γ (F.call f)) [] E0 (TAv Γ (mw F z)) σ H Q:=fun σ H Q q=>by
  have:=aD4 (TEv.eq (m':=fun ρ s=>(mw F z ρ s).bind fun l s=>F.call f l s) (fun ρ s=>rfl) q)
  unfold tCB at this
  unfold aM1 spV
  simpa only[aZ]using this
 cases C with
 | nil =>
  have h0:PE X (.Call (.Name (f:Str) p) [] [] pos) (aM1 (spV Γ (F.call f)) [] E0 bg2):=bc1 hF G.room g1 J hk hb .nil bO6 g2
  cases z with
  | nil =>
   refine h0.imp fun σ H Q q=>?_
   have Y:=key σ H Q q
   unfold aM1 at Y ⊢
   exact aL1 (TAv.eq (fun ρ s=>rfl) Y)
  | _=>rw[mAs]at m<;>first|cases m|(intros;simp_all)
 | cons x C =>
  have hs:=aT2 m
  exact(bt9 hF G.room g1 J hk hb .nil bO6 h g2 (zg (hs x (aw ..))) (zQ fun e he=>hs e (ao _ he)).1).imp key
def BiC (Γ:Gm)(X:Cx)(b:lF)(x:Str):Prop:=(∃ id,bf x=some (.builtin id)/\ab8 X (.builtin id) (rCl Γ (mz b)))\/∃ T,bf x=some (.type T)/\ab8 X (.type T) (rCl Γ (mz b))
theorem bI5 (G:CG Γ F n X ck){b:lF}{x:Str}(h:biT b=some x):x∈bNames/\BiC Γ X b x:=by
 cases b<;>first|cases h|skip
 ·exact⟨by decide,.inl ⟨_,bX6,ba0 G.K G.calm (k:=1) rfl⟩⟩
 ·exact⟨by decide,.inl ⟨_,bS9,ba0 G.K G.calm (k:=1) rfl⟩⟩
 ·exact⟨by decide,.inr ⟨_,bO9,bL1⟩⟩
 ·exact⟨by decide,.inr ⟨_,bD4,bM7⟩⟩
 ·exact⟨by decide,.inl ⟨_,br3,ba0 G.K G.calm (k:=2) rfl⟩⟩
 ·exact⟨by decide,.inl ⟨_,bX8,ba0 G.K G.calm (k:=2) rfl⟩⟩
theorem bN7 {b:lF}{es:ly}{x:Str}{y:Expr}{z:List Expr}{p pos:Pos}(G:CG Γ F n X ck)(hb:biT b=some x)(hg:ck.gl x=true)(m:mEs ck es (y::z)=true)(h:PA X (y::z) (TAv Γ (lE F es))) :
  EvT Γ X (.Call (.Name x p) (y::z) [] pos) (kX F (.bi b es)):=by
 refine .val ?_
 obtain⟨g1,Z,Y⟩:=G.gl hg
 obtain⟨hm,hc⟩:=bI5 G hb
 have hs:=aC9 m
 have s1:=zg (es:=z) (env:=X.env) (hs y (aw ..))
 have s2:=(zQ (env:=X.env) (pos:=pos) fun e he=>hs e (ao _ he)).1
 rcases hc with⟨id,J,C⟩|⟨T,J,C⟩
 ·exact(ar0 C g1 (G.bi _ hm) J h Y Z s1 s2).imp fun σ H Q q=>aD4 (TEv.eq (fun ρ s=>rfl) q)
 ·exact(am6 C g1 (G.bi _ hm) J h Y Z s1 s2).imp fun σ H Q q=>aD4 (TEv.eq (fun ρ s=>rfl) q)
theorem bK0 {b:lF}{k:Nat}{t:Str}(h:biK b=some (k,t)):(1<=k/\k<=5)/\t∈bNames/\bf t=some (.type (an2 k))/\mz b=mM (mV k):=by
 cases b<;>cases h
 ·exact⟨by omega,by decide,bO9,rfl⟩
 ·exact⟨by omega,by decide,bH5,rfl⟩
 ·exact⟨by omega,by decide,bD4,rfl⟩
 ·exact⟨by omega,by decide,aV3,rfl⟩
 ·exact⟨by omega,by decide,bm8,rfl⟩
noncomputable def PEs (Γ:Gm)(F:ln)(X:Cx):ly->List Expr->Prop
 | .nil,[]=>True
 | .cons e es,x::xs=>(shp x=true/\EvT Γ X x (kX F e))/\PEs Γ F X es xs
 | _,_=>False
theorem ao8:∀ {es:ly} {z:List Expr},PEs Γ F X es z->PA X z (TAv Γ (lE F es))
 | .nil,[],_=>ad7.imp fun σ H Q q=>aL1 (TAv.eq (fun ρ s=>rfl) q)
 | .nil,_::_,h=>h.elim
 | .cons _ _,[],h=>h.elim
 | .cons e es,x::z,h=>(aH7 h.1.1 h.1.2.1 (ao8 h.2)).imp fun σ H Q q=>TAv.eq (fun ρ s=>rfl) q
theorem bx8 {b:lF}{es:ly}{k:Nat}{t:Str}{a:Expr}{p Y pos:Pos}(G:CG Γ F n X ck)(hb:biK b=some (k,t))(hg:ck.gl "isinstance"=true)(C:ck.gl t=true)(h:PEs Γ F X es [a]) :
  EvT Γ X (.Call (.Name "isinstance" p) [a,.Name t Y] [] pos) (kX F (.bi b es)):=by
 refine .val ?_
 obtain⟨g1,g2,g3⟩:=G.gl hg
 obtain⟨t1,Z,t3⟩:=G.gl C
 obtain⟨hk,hm,hv,z⟩:=bK0 hb
 have J:PE X (.Name t Y) (tC (.ty (an2 k))):=bv4 t1 (G.bi _ hm) hv rfl t3 Z
 cases es with
 | nil=>exact h.elim
 | cons e es =>
  cases es with
  | cons _ _=>exact h.2.elim
  | nil =>
   obtain⟨⟨hs,ha,_⟩,_⟩:=h
   have hA:PA X [a,.Name t Y] (an5 (TEv Γ (kX F e)) (an5 (tC (.ty (an2 k))) bg2)):=zI ha (zI J ad7 (zg rfl)) (zg hs)
   refine(ar0 (bJ8 G.K hk) g1 (G.bi _ (by decide)) ax3 hA g3 g2 (zg hs) (zQ fun e he=>by rw[aY.mp he];rfl).1).imp fun σ H Q q=>?_
   obtain⟨φ,ρ,s,d,s',E,R,hm,q⟩:=q
   obtain⟨l,s1,e1,hm⟩:=aa0 hm
   obtain⟨x,s2,e2,e1⟩:=aa0 e1
   obtain⟨l2,s3,e3,e1⟩:=aa0 e1
   cases e3
   cases e1
   rw[z]at hm
   refine⟨φ,ρ,s,x,_,E,R,e2,fun v φ1 H1 g1 l1 b1 r1 R1=>?_⟩
   exact⟨v,rfl,φ1,_,[x],d,s',R1,.cons r1 .nil,by unfold kT;rw[b1];rfl,hm,q.trans g1 l1⟩
end
section
variable {Γ:Gm} {F:ln} {n:Nat} {X:Cx} {ck:Ck} {σ:St} {H:Hp}
def TAp (Γ:Gm)(cells:List (Str×Addr))(N:List Str)(m:kU->kR->kW (List kS)):TA:=fun σ H Q=>∃ φ ρ s l s',RE Γ φ H s.length ρ σ/\Rp Γ φ H s/\m ρ s=.ok l s' /\
 ∀ vs φ' H',Gr φ s H φ' s' H'->s.length<=s'.length->kT s'.length l=true->PVL Γ cells N σ φ' H' l vs->Rp Γ φ' H' s'->Q vs H'
theorem TAp.eq {cells:List (Str×Addr)}{N:List Str}{m m':kU->kR->kW (List kS)}{Q:List V->Hp->Prop}(e:∀ ρ s,m ρ s=m' ρ s)(q:TAp Γ cells N m σ H Q):TAp Γ cells N m' σ H Q:=by
 obtain⟨φ,ρ,s,l,s',E,R,hm,q⟩:=q
 exact⟨φ,ρ,s,l,s',E,R,by rw[<-e];exact hm,q⟩
theorem bw7 {cells:List (Str×Addr)}{N:List Str}{Q:List V->Hp->Prop}(h:TAp Γ cells N (fun ρ s=>.ok [] s) σ H Q):bg2 σ H Q:=by
 obtain⟨φ,ρ,s,l,s',E,R,hm,q⟩:=h
 cases hm
 exact q [] φ H (Gr.refl _ _ _) (aj _) rfl .nil R
theorem bM0 {cells:List (Str×Addr)}{N:List Str}{m:kU->kR->kW kS}{C:kU->kR->kW (List kS)}{Q:List V->Hp->Prop}(h:TAp Γ cells N (fun ρ s=>(m ρ s).bind fun d s=>(C ρ s).bind fun l s=>.ok (d::l) s) σ H Q):an5 (TEv Γ m) (TAp Γ cells N C) σ H Q:=by
 obtain⟨φ,ρ,s,l,s',E,R,hm,q⟩:=h
 obtain⟨x,s1,e1,hm⟩:=aa0 hm
 obtain⟨y,s2,e2,hm⟩:=aa0 hm
 cases hm
 refine⟨φ,ρ,s,x,s1,E,R,e1,fun v φ1 J g1 l1 b1 r1 R1=>?_⟩
 refine⟨φ1,ρ,s1,y,s',E.mono g1 l1,R1,e2,fun vs φ2 G F z b2 r2 R2=>?_⟩
 exact q (v::vs) φ2 G (g1.trans F l1) (ak l1 z) (by unfold kT;rw[zh z x b1,b2];rfl) (.cons (PVp.mono F b1 (.inl r1)) r2) R2
end
section
variable {Γ:Gm} {F:ln} {n:Nat} {X:Cx} {ck:Ck} {σ:St} {H:Hp} {Q:VK}
def cd4 (K:ae)(H:Hp)(v:V)(ys:List V)(z:Bool):Prop:=(∃ a,v=.ref a/\(SqL K H a ys\/(SqT K H a ys/\(z=true->H a=some (.tup ys)))))\/∃ x:List Nat,v=.str ⟨x.toArray⟩/\x.length<=k7/\ys=sgV x
def TLv (Γ:Gm)(m:kU->kR->kW (List kS)):TE:=fun σ H Q=>∃ φ ρ s l s',RE Γ φ H s.length ρ σ/\Rp Γ φ H s/\m ρ s=.ok l s' /\
 ∀ v ys φ' H',Gr φ s H φ' s' H'->s.length<=s'.length->kT s'.length l=true->cd4 Γ.K H' v ys (k8 l)->RVL Γ φ' H' l ys->Rp Γ φ' H' s'->Q v H'
theorem aF6 {m:kU->kR->kW (List kS)}(h:TLv Γ m σ H Q):TFv Γ m σ H Q:=by
 obtain⟨φ,ρ,s,l,s',E,R,hm,q⟩:=h
 exact⟨φ,ρ,s,l,s',E,R,hm,fun p ys φ' H' g hl hb hp h0 ho r z=>q (.ref p) ys φ' H' g hl hb (.inl ⟨p,rfl,.inl (SqL.of hp)⟩) r z⟩
theorem au1 {φ:Nat->Addr}:∀ x:List Nat,RVL Γ φ H (x.map fun c=>.str [c]) (sgV x)
 | []=>.nil
 | c::x=>.cons (RV.strI (by unfold k7;simp)) (au1 x)
theorem ao0 {k:Nat}:∀ x:List Nat,kT k (x.map fun c=>.str [c])=true
 | []=>rfl
 | c::x=>by rw[aL];unfold kT;rw[ao0 x];rfl
theorem bB8 {m:kU->kR->kW kS}(h:TLv Γ (fun ρ s=>(m ρ s).bind fun d s=>DV.bA1 d s) σ H Q):TEv Γ m σ H Q:=by
 obtain⟨φ,ρ,s,l,s',E,R,hm,q⟩:=h
 obtain⟨d,s1,e1,hm⟩:=aa0 hm
 refine⟨φ,ρ,s,d,s1,E,R,e1,fun v φ1 G g1 l1 b1 r1 R1=>?_⟩
 cases d with
 | tup l' =>
  cases hm
  obtain⟨a,C,⟨rfl,z1⟩,F,z⟩:=r1.tupZ
  unfold kY at b1
  exact q _ C φ1 G g1 l1 b1 (.inl ⟨a,rfl,.inr ⟨F,z1⟩⟩) z R1
 | str x =>
  cases hm
  exact q v (sgV x) φ1 G g1 l1 (ao0 x) (.inr ⟨x,r1.strE,r1.strL,rfl⟩) (au1 x) R1
 | ref k =>
  have hm:(match s1[k]? with
   | some (.lst l)=>DV.R.ok l s1
   | some (.ro l)=>.ok l s1
   | _=>.bad)=.ok l s':=hm
  rw[r1.refE]
  cases e:s1[k]? with
  | none=>rw[e]at hm;exact fb hm
  | some ob =>
   rw[e]at hm
   cases ob with
   | lst l' =>
    cases hm
    obtain⟨C,F,z⟩:=R1.addr e
    have:=R1.wf k _ e
    unfold kZ at this
    exact q _ C φ1 G g1 l1 this (.inl ⟨_,rfl,.inl (SqL.of F)⟩) z R1
   | ro l' =>
    cases hm
    obtain⟨C,F,z⟩:=R1.obj k _ e
    have:=R1.wf k _ e
    unfold kZ at this
    exact q _ C φ1 G g1 l1 this (.inl ⟨_,rfl,.inl F.1⟩) z R1
   | _=>exact fb hm
 | _=>exact fb hm
theorem TLv.eq {m m':kU->kR->kW (List kS)}(e:∀ ρ s,m ρ s=m' ρ s)(q:TLv Γ m σ H Q):TLv Γ m' σ H Q:=by
 have:m=m':=funext fun ρ=>funext fun s=>e ρ s
 subst this;exact q
theorem aL3 {m:kU->kR->kW (List kS)}{a:Expr}{p pos:Pos}(G:CG Γ F n X ck)(hg:ck.gl "tuple"=true)(hs:shp a=true)(h:PE X a (TLv Γ m)) :
  PE X (.Call (.Name "tuple" p) [a] [] pos) (TEv Γ (fun ρ s=>(m ρ s).bind fun l s=>l9 .tuple l s)):=by
 obtain⟨g1,J,z⟩:=G.gl hg
 refine(am6 ((aC3 G.K).or (aB3 G.calm)) g1 (G.bi _ (by decide)) aV3 (zI h ad7 (zg hs)) z J (zg hs) rfl).imp fun σ H Q q=>?_
 obtain⟨φ,ρ,s,d,s',E,R,hm,q⟩:=q
 obtain⟨l,s1,e1,hm⟩:=aa0 hm
 cases hm
 refine⟨φ,ρ,s,l,_,E,R,e1,fun v ys φ1 C g1 l1 b1 hq r1 R1=>?_⟩
 rcases hq with⟨a,rfl,hq|hq⟩|⟨x,rfl,hx,rfl⟩
 ·exact .inl ⟨a,ys,rfl,.inl ⟨hq,fun p hp=>(q.trans g1 l1).tup R1 r1 b1 hp⟩⟩
 ·exact .inl ⟨a,ys,rfl,.inr ⟨hq.1,q _ φ1 C g1 l1 (by unfold kY;exact b1) (RV.tupC hq.1 hq.2 r1) R1⟩⟩
 ·exact .inr ⟨x,rfl,hx,fun p hp=>(q.trans g1 l1).tup R1 r1 b1 hp⟩
theorem aV0 {m:kU->kR->kW (List kS)}{a:Expr}{p pos:Pos}(G:CG Γ F n X ck)(hg:ck.gl "list"=true)(hs:shp a=true)(h:PE X a (TLv Γ m)) :
  PE X (.Call (.Name "list" p) [a] [] pos) (TEv Γ (fun ρ s=>(m ρ s).bind fun l s=>l9 .list l s)):=by
 obtain⟨g1,C,z⟩:=G.gl hg
 refine(am6 ((aO1 G.K).or (aN8 G.calm)) g1 (G.bi _ (by decide)) bm8 (zI h ad7 (zg hs)) z C (zg hs) rfl).imp fun σ H Q q=>?_
 obtain⟨φ,ρ,s,d,s',E,R,hm,q⟩:=q
 obtain⟨l,s1,e1,hm⟩:=aa0 hm
 obtain⟨rfl,rfl⟩:=zN hm
 refine⟨φ,ρ,s,l,_,E,R,e1,fun v ys φ1 J g1 l1 b1 hq r1 R1=>?_⟩
 rcases hq with⟨a,rfl,hq⟩|⟨x,rfl,hx,rfl⟩
 ·exact .inl ⟨a,ys,rfl,hq.imp id (·.1),fun p hp=>(q.trans g1 l1).alloc R1 r1 b1 hp⟩
 ·exact .inr ⟨x,rfl,hx,fun p hp=>(q.trans g1 l1).alloc R1 r1 b1 hp⟩
theorem bK8 {m:kU->kR->kW (List kS)}{k:mB}{x:Str}{a:Expr}{p pos:Pos}(G:CG Γ F n X ck)(hk:mkT k=some x)(hg:ck.gl x=true)(hs:shp a=true)(h:PE X a (TLv Γ m)) :
  PE X (.Call (.Name x p) [a] [] pos) (TEv Γ (fun ρ s=>(m ρ s).bind fun l s=>l9 k l s)):=by
 cases k<;>cases hk
 ·exact aL3 G hg hs h
 ·exact aV0 G hg hs h
def FrC (Γ:Gm)(X:Cx)(x:Str)(k:mB):Prop:=∃ id r,bf x=some (.builtin id)/\x∈bNames/\ab8 X (.builtin id) r/\∀ φ H s l ys p d s' Q,Rp Γ φ H s->RVL Γ φ H l ys->H p=some (.lst ys)->l9 k l s=.ok d s'->ad4 Γ φ s H d s' Q->r [.ref p] H Q
theorem aG6:∀(l:List Int) (a:Int),(l.foldl min a=a\/l.foldl min a∈l)/\l.foldl min a<=a/\∀ y∈l,l.foldl min a<=y
 | [],a=>⟨.inl rfl,fQ _,fun y hy=>by cases hy⟩
 | b::l,a=>by
  obtain⟨C,F,h3⟩:=aG6 l (min a b)
  rw[da]
  refine⟨?_,by omega,fun y hy=>?_⟩
  ·rcases C with h|h
   ·rw[h]
    rcases kD a b with z|z
    ·left;omega
    ·right;rw[show min a b=b by omega];exact aw ..
   ·exact .inr (ao _ h)
  ·rcases aH.mp hy with z|z
   ·rw[z];omega
   ·exact h3 y z
theorem aJ3 {l:List Int}{m:Int}(h:lR l=some m):m∈l/\∀ y∈l,m<=y:=by
 cases l with
 | nil=>cases h
 | cons a l =>
  cases h
  obtain⟨F,C,h3⟩:=aG6 l a
  refine⟨?_,fun y hy=>?_⟩
  ·rcases F with h|h
   ·rw[h];exact aw ..
   ·exact ao _ h
  ·rcases aH.mp hy with z|z
   ·rw[z];exact C
   ·exact h3 y z
theorem bx0 (G:CG Γ F n X ck){k:mB}{x:Str}(hk:mkF k=some x):FrC Γ X x k:=by
 cases k<;>cases hk
 ·refine⟨_,_,bV5,by decide,aY7 G.calm G.K,fun φ H s l ys p d s' Q R r hp hm q=>?_⟩
  unfold l9 at hm
  dsimp only at hm
  cases e:lU l with
  | none=>rw[e]at hm;exact fb hm
  | some bs =>
   rw[e]at hm
   cases hm
   have:=al5 e
   subst this
   exact⟨p,bs,rfl,SqL.of (by rw[<-r.bls];exact hp),q.here R rfl RV.blI⟩
 ·refine⟨_,_,br3,by decide,aP4 G.calm G.K,fun φ H s l ys p d s' Q R r hp hm q=>?_⟩
  unfold l9 at hm
  dsimp only at hm
  cases e:lQ l with
  | none=>rw[e]at hm;exact fb hm
  | some is =>
   rw[e]at hm
   have hm:(match lR is with|some m=>DV.R.ok (DV.D.int m) s|none=>.bad)=.ok d s':=hm
   cases e2:lR is with
   | none=>rw[e2]at hm;exact fb hm
   | some mm =>
    rw[e2]at hm
    cases hm
    have:=zR e
    subst this
    refine⟨p,is,rfl,SqL.of (by rw[<-r.ints];exact hp),(fun(z:is=[])=>by rw[z]at e2;cases e2),fun m hm h=>?_⟩
    obtain⟨a,b⟩:=aJ3 e2
    have:m=mm:=jR (h mm a) (b m hm)
    rw[this]
    exact q.here R rfl RV.intI
theorem bA6 {m:kU->kR->kW (List kS)}{k:mB}{x:Str}{a:Expr}{p pos:Pos}(G:CG Γ F n X ck)(hk:mkF k=some x)(hg:ck.gl x=true)(hs:shp a=true)(h:PE X a (TFv Γ m)) :
  PE X (.Call (.Name x p) [a] [] pos) (TEv Γ (fun ρ s=>(m ρ s).bind fun l s=>l9 k l s)):=by
 obtain⟨g1,J,z⟩:=G.gl hg
 obtain⟨id,r,hb,hx,hc,hr⟩:=bx0 (Γ:=Γ) G hk
 refine(ar0 hc g1 (G.bi _ hx) hb (zI h ad7 (zg hs)) z J (zg hs) rfl).imp fun σ H Q q=>?_
 obtain⟨φ,ρ,s,d,s',E,R,hm,q⟩:=q
 obtain⟨l,s1,e1,hm⟩:=aa0 hm
 exact⟨φ,ρ,s,l,_,E,R,e1,fun p ys φ1 C g1 l1 b1 hp h0 ho r1 R1=>hr φ1 C s1 l ys p d s' Q R1 r1 hp hm (q.trans g1 l1)⟩
theorem bC0 {md:kU->kR->kW (kS)}{ml:kU->kR->kW (List kS)}{a de:Expr}{p pos kp:Pos}(G:CG Γ F n X ck)(hg:ck.gl "min"=true)(hs:shp a=true)(h:PE X a (TFv Γ ml))(hd:PE X de (TEv Γ md)) :
  PE X (.Call (.Name "min" p) [a] [⟨some "default",de,kp⟩] pos) (TEv Γ (fun ρ s=>(ml ρ s).bind fun l s=>(md ρ s).bind fun d s=>DV.mkD .min l d s)):=by
 obtain⟨g1,g2,g3⟩:=G.gl hg
 refine(bz6 rfl G.calm g1 (G.bi _ (by decide)) h hd (zg hs)).imp fun σ H Q q=>?_
 obtain⟨φ,ρ,s,d,s',E,R,hm,q⟩:=q
 obtain⟨l,s1,e1,hm⟩:=aa0 hm
 obtain⟨d0,s2,e2,hm⟩:=aa0 hm
 refine⟨φ,ρ,s,l,s1,E,R,e1,fun p ys φ1 H1 g1 l1 b1 hp h0 ho r1 R1=>?_⟩
 refine⟨φ1,ρ,s1,d0,s2,E.mono g1 l1,R1,e2,fun v φ2 H2 g2 l2 b2 r2 R2=>?_⟩
 have Z:H2 p=some (.lst ys):=g2.fr p _ hp (by nofun) (fun i ob e mu=>ho i ob e mu)
 unfold DV.mkD at hm
 dsimp only at hm
 cases e:lQ l with
 | none=>rw[e]at hm;exact fb hm
 | some is =>
  rw[e]at hm
  have C:(match lR is with|some m=>DV.R.ok (DV.D.int m) s2|none=>DV.R.ok d0 s2)=.ok d s':=hm
  have:=zR e
  subst this
  have hq:=q.trans (g1.trans g2 l1) (ak l1 l2)
  refine⟨p,is,rfl,SqL.of (by rw[<-r1.ints];exact Z),fun z=>?_,fun m J Y=>?_⟩
  ·subst z
   cases C
   exact hq.here R2 b2 r2
  ·clear e2
   cases e2:lR is with
   | none =>
    cases is with
    | nil=>cases J
    | cons _ _=>cases e2
   | some mm =>
    rw[e2]at C
    cases C
    obtain⟨x,y⟩:=aJ3 e2
    have:m=mm:=jR (Y mm x) (y m J)
    rw[this]
    exact hq.here R2 rfl RV.intI
theorem bc3 {φ φ':Nat->Addr}{s s':kR}{H':Hp}{r:Nat}{l:List kS}(R:Rp Γ φ H s)(g:Gr φ s H φ' s' H')(hb:r<s.length)(e:s'[r]?=some (.lst l)):tyV Γ.K "list" (.ref (φ r)) H:=by
 obtain⟨h,z⟩:∃ h,s[r]?=some h:=⟨s[r],ai hb⟩
 have hm:=g.mu r h _ z e rfl
 have ho:=R.obj r h z
 cases h with
 | lst l0 =>
  obtain⟨C,F,_⟩:=ho
  exact .inl ⟨rfl,C,SqL.of F⟩
 | ro _=>cases hm
 | dic _=>have:=g.kd r _ _ z e;cases this
 | dit _=>have:=g.kd r _ _ z e;cases this
 | ins _ _=>exact ho.elim
def mtR (Γ:Gm)(m:mD):V->List V->Hp->VK->Prop:=fun x vs H Q=>∃ φ s a l d s',Rp Γ φ H s/\RV Γ φ H a x/\RVL Γ φ H l vs/\a.bnd s.length=true/\kT s.length l=true/\mQ m a l s=.ok d s'/\ad4 Γ φ s H d s' Q
theorem bH2:k7<aE:=by rw[eQ];decide
theorem aI2 {m:mD}{x:Str}{k:Nat}(hm:mtT m=some (x,k)){a:kS}{l:List kS}{s s':kR}{d:kS}(h:mQ m a l s=.ok d s'):∃ r l0,a=.ref r/\s[r]?=some (.lst l0):=by
 have go:∀ {r:Nat} {f:List kS->kW kS},(match s[r]? with|some (.lst l)=>f l|_=>.bad)=.ok d s'->∃ l0,s[r]?=some (.lst l0):=fun {r f} h=>by
  cases e:s[r]? with
  | none=>rw[e]at h;exact fb h
  | some ob =>
   cases ob with
   | lst l0=>exact⟨l0,rfl⟩
   | _=>rw[e]at h;exact fb h
 cases a with
 | ref r =>
  have z:∀ {f:List kS->kW kS},(match s[r]? with|some (.lst l)=>f l|_=>.bad)=.ok d s'->∃ C l0,DV.D.ref r=.ref C/\s[C]?=some (.lst l0):=fun h=>by obtain⟨l0,e⟩:=go h;exact⟨_,l0,rfl,e⟩
  cases m with
  | append=>match l with
   | [d]=>exact z h
   | []=>exact fb h
   | _::_::_=>exact fb h
  | pop=>match l with
   | []=>exact z h
   | _::_=>exact fb h
  | reverse=>match l with
   | []=>exact z h
   | _::_=>exact fb h
  | clear=>match l with
   | []=>exact z h
   | _::_=>exact fb h
  | index=>match l with
   | [d]=>exact z h
   | []=>exact fb h
   | _::_::_=>exact fb h
  | _=>exact fb h
 | _=>cases m<;>exact fb h
theorem be3:MtR X "list.append" (mtR Γ .append):=by
 intro C sh σ H x vs v us Q I rx Y h
 obtain⟨φ,s,a,l,d,s',R,ra,rl,ba,Z,hm,q⟩:=h
 obtain⟨r,l0,rfl,e⟩:=aI2 (m:=.append) rfl hm
 cases l with
 | nil=>exact fb hm
 | cons y t =>
  cases t with
  | cons _ _=>exact fb hm
  | nil =>
   simp only[mQ,e]at hm
   split at hm
   case isFalse=>exact fb hm
   rename_i hlt
   cases hm
   obtain⟨z,rfl,rz⟩:=rl.one
   obtain⟨J,h1,G⟩:=R.addr e
   have F:kT s.length l0=true:=by have:=R.wf r _ e;unfold kZ at this;exact this
   refine az1 C sh σ H x [z] v us Q I rx Y ⟨φ r,J,z,ra.refE,rfl,h1,by rw[G.length];have:=bH2;omega,?_⟩
   exact q.put R e (G.append (.cons rz .nil)) (zJ F Z) rfl RV.nonI
structure MtOk (Γ:Gm)(X:Cx)(m:mD)(x:Str):Prop where
 ex:∃ id,PySem.Slot "list" x id/\typeOf (.builtin id)=pure (.type "method_descriptor")/\MtR X id (mtR Γ m)
theorem bM3 (C:X.K=Γ.K)(z:Room (li+1) X.A){m:mD}{x:Str}{k:Nat}(h:mtT m=some (x,k)):MtOk Γ X m x:=by
 cases m<;>cases h
 ·exact⟨_,hJ,PySem.F.type_list_append,be3⟩
theorem bc5 {m:mD}{o:l6}{es:ly}{ob:Expr}{C:List Expr}{x:Str}{ap cp:Pos}(G:CG Γ F n X ck)(hm:mtT m=some (x,C.length))(hab:bN9 ob=true)(hl:(ap.endLine==cp.line)=true)(ho:PE X ob (TEv Γ (kX F o)))
  (a1:mEs ck es C=true) (h:PEs Γ F X es C):EvT Γ X (.Call (.Attribute ob x ap) C [] cp) (kX F (.meth m o es)):=by
 refine .val ?_
 obtain⟨id,slot,a0,hr⟩:=(bM3 (Γ:=Γ) (X:=X) G.K (G.room.mono G.deep) hm).ex
 have hs:=aC9 a1
 have key:∀ σ H Q,TEv Γ (kX F (.meth m o es)) σ H Q->tBM Γ.K "list" (mtR Γ m) (TEv Γ (kX F o)) (TAv Γ (lE F es)) σ H Q:=fun σ H Q q=>by
  obtain⟨φ,ρ,s,d,s',E,R,z,q⟩:=q
  obtain⟨a,s1,e1,z⟩:=aa0 z
  obtain⟨l,s2,e2,z⟩:=aa0 z
  refine⟨φ,ρ,s,a,s1,E,R,e1,fun v φ1 H1 g1 l1 b1 r1 R1=>?_⟩
  obtain⟨r,l0,rfl,er⟩:=aI2 hm z
  rw[r1.refE]
  have hk:∀ φ2 Z,Gr φ1 s1 H1 φ2 s2 Z->tyV Γ.K "list" (.ref (φ1 r)) H1:=fun φ2 Z g2=>bc3 R1 g2 (by unfold kY at b1;exact of_decide_eq_true b1) er
  have J:TAv Γ (lE F es) σ H1 fun C Z=>mtR Γ m (.ref (φ1 r)) C Z Q:=by
   refine⟨φ1,ρ,s1,l,s2,E.mono g1 l1,R1,e2,fun vs φ2 Z g2 l2 b2 r2 R2=>?_⟩
   refine⟨φ2,s2,.ref r,l,d,s',R2,?_,r2,zh l2 _ b1,b2,z,q.trans (g1.trans g2 l1) (ak l1 l2)⟩
   have:=RV.mono g2 _ _ b1 r1
   rw[r1.refE]at this
   exact this
  refine⟨?_,J⟩
  have hlt:r<s1.length:=by unfold kY at b1;exact of_decide_eq_true b1
  obtain⟨o0,e0⟩:∃ o0,s1[r]?=some o0:=⟨s1[r],ai hlt⟩
  have Y:=R1.obj r o0 e0
  cases o0 with
  | lst l0 =>
   obtain⟨C,h1,_⟩:=Y
   exact .inl ⟨rfl,C,SqL.of h1⟩
  | ro l0 =>
   obtain⟨C,h1,_⟩:=Y
   exact .inl ⟨rfl,C,h1.1⟩
  | dic _ =>
   obtain⟨o',eo,ek⟩:=DV.ae2 G.fk es ρ s1 _ _ e2 r _ e0
   rw[er]at eo;cases eo;cases ek
  | dit _ =>
   obtain⟨o',eo,ek⟩:=DV.ae2 G.fk es ρ s1 _ _ e2 r _ e0
   rw[er]at eo;cases eo;cases ek
  | ins _ _=>exact Y.elim
 cases C with
 | nil =>
  have p0:PE X (.Call (.Attribute ob x ap) [] [] cp) (bZ8 X.K "list" (mtR Γ m) (TEv Γ (kX F o))):=bO8 gk slot a0 hr ho (aD2 hab) hl
  rw[G.K]at p0
  refine p0.imp fun σ H Q q=>?_
  cases es with
  | cons _ _=>exact h.elim
  | nil =>
   obtain⟨φ,ρ,s,d,s',E,R,z,k⟩:=key σ H Q q
   refine⟨φ,ρ,s,d,s',E,R,z,fun v φ1 H1 g1 l1 b1 r1 R1=>?_⟩
   obtain⟨h1,h2⟩:=k v φ1 H1 g1 l1 b1 r1 R1
   exact⟨h1,aL1 (TAv.eq (fun ρ s=>rfl) h2)⟩
 | cons y ys =>
  refine(bl3 G.K gk slot a0 hr ho (ao8 h) (aD2 hab) ?_ hl (zg (hs y (aw ..))) (zQ fun e he=>hs e (ao _ he)).1).imp key
  rw[(zQ hs).2]
  have:(y::ys).length<=1:=by
   unfold mtT at hm
   split at hm<;>first|(have:=av hm;have:=congrArg Prod.snd this;simp at this;simp;omega)|cases hm
  simp only[iZ,fe,kE]
  show(true&&decide ((y::ys).length+0+0<30))=true
  rw[iZ]
  exact decide_eq_true (by omega)
end
noncomputable abbrev mkS (x:List Nat):Str:=⟨x.toArray⟩
theorem aV1 (h:List Nat):∀ z:List (List Nat),Str.join (mkS h) (z.map mkS)=mkS (lZ h z)
 | []=>rfl
 | [x]=>rfl
 | x::y::r=>by
  show mkS x++mkS h++Str.join (mkS h) ((y::r).map mkS)=mkS (x++(h++lZ h (y::r)))
  rw[aV1 h (y::r),ar2,ar2,br]
theorem am2 {c:Nat}:∀ {p:List Nat},c ∉ p->lb c p=[p]
 | [],_=>rfl
 | x::p,h=>by
  have C:x≠c:=fun z=>h (by rw[z];exact aw ..)
  show(if x=c then _ else _)=_
  rw[if_neg C,am2 (fun z=>h (ao _ z))]
theorem aJ2 {c:Nat}{l:List Nat}:∀ {p:List Nat},c ∉ p->lb c (p++c::l)=p::lb c l
 | [],_=>by show(if c=c then _ else _)=_;rw[if_pos rfl]
 | x::p,h=>by
  have C:x≠c:=fun z=>h (by rw[z];exact aw ..)
  rw[bV]
  show(if x=c then _ else(match lb c (p++c::l)with|p::ps=>(x::p)::ps|[]=>[[x]]))=_
  rw[if_neg C,aJ2 (fun z=>h (ao _ z))]
theorem aq1 {c:Nat}:∀ {ps:List (List Nat)},ps≠[]->(∀ p∈ps,c ∉ p)->lb c (lZ [c] ps)=ps
 | [],h,_=>absurd rfl h
 | [p],_,h=>am2 (h p (aw ..))
 | p::q::ps,_,h=>by
  show lb c (p++([c]++lZ [c] (q::ps)))=_
  rw[List.singleton_append,aJ2 (h p (aw ..)),aq1 (by simp) fun x hx=>h x (ao _ hx)]
theorem aU0 (w:List Nat)(c:Nat):eJ (mkS w) ⟨#[c]⟩=(lb c w).map mkS:=by
 let C:=(eJ (mkS w) ⟨#[c]⟩).map fun p=>p.cps.toList
 have e1:C.map mkS=eJ (mkS w) ⟨#[c]⟩:=by
  show cr _ (cr _ _)=_
  rw[bT]
  conv=>rhs;rw[<-kN (eJ (mkS w) ⟨#[c]⟩)]
  refine fh fun p _=>?_
  simp
 have G:C≠[]:=by
  intro z
  have:=split_pos (mkS w) ⟨#[c]⟩
  rw[<-e1,z]at this
  simp at this
 have h:∀ p∈C,c ∉ p:=fun p hp=>by
  obtain⟨q,hq,rfl⟩:=aM.mp hp
  exact StrLaws.split_free (mkS w) c q hq
 have hj:mkS (lZ [c] C)=mkS w:=by
  rw[<-aV1,e1]
  exact StrLaws.join_split (mkS w) ⟨#[c]⟩
 have F:lZ [c] C=w:=by
  have:=congrArg (fun x:Str=>x.cps.toList) hj
  simpa using this
 rw[<-e1,<-aq1 G h,F]
theorem aw2:∀(h:List (List Nat)) (tk:Nat),Vals (h.map bo8) (strsFrom tk (h.map mkS))
 | [],_=>.nil
 | x::h,tk=>.cons ⟨tk,rfl⟩ (aw2 h (tk+1))
theorem bg3 {X:Cx}:MtR X "str.split" (fun x vs H Q=>∃(w:List Nat) (c:Nat),x=bo8 w/\vs=[.str ⟨#[c]⟩]/\w.length+2<=aE/\∀ p,H p=none->Q (.ref p) (upd H p (.lst ((lb c w).map bo8)))):=by
 intro C s σ H x vs v us Q I rx rv h
 obtain⟨w,c,rfl,rfl,hz,q⟩:=h
 obtain⟨t,rfl⟩:=(show ∃ t,v=Value.str (mkS w) t from rx)
 obtain⟨u,rfl,ru⟩:=rv.one
 obtain⟨Y,rfl⟩:=(show ∃ t,u=Value.str ⟨#[c]⟩ t from ru)
 have Z:(mkS w).length=w.length:=by simp[j2]
 have F:=aU0 w c
 have G:=split_le (mkS w) ⟨#[c]⟩
 have z:((lb c w).map bo8).length<=aE:=by
  rw[F,ay,Z]at G
  rw[ay];omega
 have one:eJ (mkS w) ⟨#[c]⟩=[mkS w]->∀ sh:af,Inv X C σ H sh->EP X C σ Q (.ref sh.heap.objs.size) { sh with heap:=sh.heap.push { cls:=.type "list",data:=.seq [Value.str (mkS w) t].toArray } }:=fun e1 sh J=>by
  have e2:(lb c w).map mkS=[mkS w]:=by rw[<-F,e1]
  have e3:lb c w=[w]:=by
   cases hd:lb c w with
   | nil=>rw[hd]at e2;cases e2
   | cons a r =>
    rw[hd,aL]at e2
    cases r with
    | nil =>
     have:=congrArg (fun x:Str=>x.cps.toList) (List.head_eq_of_cons_eq e2)
     have:a=w:=by simpa using this
     rw[this]
    | cons b r=>cases List.tail_eq_of_cons_eq e2
  refine⟨.ref _,_,J.lnew (t':=sh.toks) (ys:=(lb c w).map bo8) (its:=[Value.str (mkS w) t]) ?_ z,rfl,q _ J.fresh⟩
  rw[e3]
  exact .cons ⟨t,rfl⟩ .nil
 cases h1:(decide ((mkS w).length<(⟨#[c]⟩:Str).length)||decide (iT (mkS w)<iT ⟨#[c]⟩))with
 | true =>
  refine eF c6 (fA s _ t) dW (dI _ _) (meets_str_split_cannot_occur (mkS w) ⟨#[c]⟩ t Y h1) ?_
  exact one (by unfold eJ;rw[if_pos h1]) s I
 | false =>
  cases hf:(gm (mkS w) ⟨#[c]⟩ 0 (mkS w).length ((mkS w).length+1)).isEmpty with
  | true =>
   refine eF c6 (fA s _ t) dW (dI _ _) (meets_str_split_not_found (mkS w) ⟨#[c]⟩ t Y h1 rfl hf) ?_
   exact one (by unfold eJ;rw[if_neg (by rw[h1];decide),if_pos hf]) s I
  | false =>
   have hp:Builtin.Str.partsBetween (mkS w) (gm (mkS w) ⟨#[c]⟩ 0 (mkS w).length ((mkS w).length+1)) (⟨#[c]⟩:Str).length=(lb c w).map mkS:=by
    rw[<-F]
    unfold eJ
    rw[if_neg (by rw[h1];decide),if_neg (by rw[hf];decide)]
   refine eF c6 (fA s _ t) dW (dI _ _) (meets_str_split_sep (mkS w) ⟨#[c]⟩ t Y h1 rfl hf (by omega) (by rw[hp,ay];rw[ay]at z;exact z)) ?_
   rw[hp]
   exact⟨.ref _,_,I.lnew (t':=_) (ys:=(lb c w).map bo8) (aw2 _ _) z,rfl,q _ I.fresh⟩
section
variable {Γ:Gm} {F:ln} {n:Nat} {X:Cx} {ck:Ck} {σ:St} {H:Hp} {Q:VK}
theorem aI1 {φ:Nat->Addr}{H:Hp}:∀ {z:List (List Nat)},(∀ w∈z,w.length<=k7)->RVL Γ φ H (z.map DV.D.str) (z.map bo8)
 | [],_=>.nil
 | w::z,h=>.cons (RV.strI (h w (aw ..))) (aI1 fun x hx=>h x (ao _ hx))
theorem ax0 {m:Nat}:∀ h:List (List Nat),kT m (h.map DV.D.str)=true
 | []=>rfl
 | w::h=>by rw[aL];unfold kT;rw[ax0 h];rfl
theorem ae9 {c:Nat}:∀ {l:List Nat} (w:List Nat),w∈lb c l->w.length<=l.length
 | [],w,h=>by rw[aY.mp h];exact aj _
 | x::l,w,h=>by
  have h:w∈(if x=c then[]::lb c l else match lb c l with|p::ps=>(x::p)::ps|[]=>[[x]]):=h
  split at h
  ·rcases aH.mp h with rfl|h
   ·exact cu _
   ·exact jv (ae9 w h)
  ·split at h
   ·rename_i p ps e
    rcases aH.mp h with rfl|h
    ·have:=ae9 (c:=c) (l:=l) p (by rw[e];exact aw ..)
     simp only[aI];omega
    ·exact jv (ae9 w (by rw[e];exact ao _ h))
   ·rw[aY.mp h];simp
theorem bM9 {o:l6}{ob:Expr}{c k:Nat}{p ap cp:Pos}(G:CG Γ F n X ck)(hab:bN9 ob=true)(hl:(ap.endLine==cp.line)=true)(ho:PE X ob (TEv Γ (kX F o))) :
  PE X (.Call (.Attribute ob "split" ap) [.Constant (.str ⟨#[c]⟩) k p] [] cp) (TEv Γ (fun ρ s=>(kX F o ρ s).bind fun x s=>DV.bN3 c x s)):=by
 refine(bl3 G.K PySem.F.plainAttrs_str c6 PySem.F.type_str_split bg3 ho (zI bl2 ad7 rfl) (aD2 hab) rfl hl rfl rfl).imp fun σ H Q q=>?_
 obtain⟨φ,ρ,s,d,s',E,R,h,q⟩:=q
 obtain⟨x,s1,e1,h⟩:=aa0 h
 unfold DV.bN3 at h
 cases x with
 | str w =>
  have h:(if w.length+2<=k7 then lJ (.lst ((lb c w).map DV.D.str)) s1 else .bad)=.ok d s':=h
  split at h
  case isFalse=>exact fb h
  rename_i hz
  obtain⟨rfl,rfl⟩:=zN h
  refine⟨φ,ρ,s,_,s1,E,R,e1,fun v φ1 z g1 l1 b1 r1 R1=>?_⟩
  have ev:=r1.strE
  subst ev
  refine⟨rfl,w,c,rfl,rfl,by have:=zE;omega,fun p hp=>?_⟩
  exact(q.trans g1 l1).alloc R1 (aI1 fun x hx=>by have:=ae9 x hx;omega) (ax0 _) hp
 | _=>exact fb h
theorem PIf.imp {e:List Expr}{t t':TT}(h:PIf X e t)(i:∀ σ H Q,t' σ H Q->t σ H Q):PIf X e t':=fun z s σ H Q I q=>h z s σ H Q I (i σ H Q q)
structure CompF (Γ:Gm)(X:Cx)(m:kU->kR->kW (List kS))(E:Expr):Prop where
 ex:∃ elt tgt iter ifs scope pos N' caps wi g tc te,E=.ListComp elt [⟨tgt,iter,ifs,0⟩] scope pos/\zO N' caps scope X.N X.env.scope=true/\PI X tgt iter wi /\
  (∀(C:Addr) (cells:List (Str×Addr)) (s:af) (H:Hp) (ex:List Addr),PG (zz X N' scope C cells s H ex) tgt g/\PIf (zz X N' scope C cells s H ex) ifs tc/\PE (zz X N' scope C cells s H ex) elt te) /\
  (∀ x,dw iter X.env x=pure x)/\∀ σ H Q,TFv Γ m σ H Q->tComp caps wi g tc te σ H Q
theorem CompF.pe {m:kU->kR->kW (List kS)}{E:Expr}(h:CompF Γ X m E)(hc:X.calm=true):PE X E (TFv Γ m):=by
 obtain⟨Z,Y,iter,F,scope,pos,N',z,wi,g,tc,te,rfl,h1,C,h3,G,J⟩:=h.ex
 exact(aQ0 N' z h1 C hc h3 G).imp J
theorem bw2 {tg:lG}{mI:kU->kR->kW l7}{mc Y:kU->kR->kW kS}{h:List (Option Nat)}{J z iter i:Expr}{scope:Scope}{pos:Pos}(G:CG Γ F n X ck)(hm:aM9 ck tg z iter h scope=true)
  (hi:PI X z iter (TIv Γ mI)) (hc:∀ C cells s H ex,PT (zz X (ckC ck z h scope).N scope C cells s H ex) i (TTv Γ mc)) (he:∀ C cells s H ex,PE (zz X (ckC ck z h scope).N scope C cells s H ex) J (TEv Γ Y)) :
  CompF Γ X (fun ρ s=>(mI ρ s).bind fun q s0=>if q.its.length<=k7 then lY (fun s=>lL s0 s q.src) (fun d ρ s=>match lx ρ tg d with
   | some ρ=>lh (mc ρ s) fun k s=>if k then(Y ρ s).bind fun v s=>.ok (some v,ρ) s else .ok (none,ρ) s
   | none=>.bad) q.its (l8 ρ h) s0 else .bad) (.ListComp J [⟨z,iter,[i],0⟩] scope pos):=by
 obtain⟨Z,c2,c3⟩:=G.comp hm
 exact⟨J,z,iter,[i],scope,pos,_,h,_,_,_,_,rfl,Z,hi,fun C cells s H ex=>⟨(c3 C cells s H ex).2,bn3 (hc C cells s H ex),he C cells s H ex⟩,aD0 c2,fun σ H Q q=>aU8 q⟩
theorem be0 {tg:lG}{mI:kU->kR->kW l7}{Y:kU->kR->kW kS}{h:List (Option Nat)}{J z iter:Expr}{scope:Scope}{pos:Pos}(G:CG Γ F n X ck)(hm:aM9 ck tg z iter h scope=true)
  (hi:PI X z iter (TIv Γ mI)) (he:∀ C cells s H ex,PE (zz X (ckC ck z h scope).N scope C cells s H ex) J (TEv Γ Y)) :
  CompF Γ X (fun ρ s=>(mI ρ s).bind fun q s0=>if q.its.length<=k7 then lY (fun s=>lL s0 s q.src) (fun d ρ s=>match lx ρ tg d with
   | some ρ=>(Y ρ s).bind fun v s=>.ok (some v,ρ) s
   | none=>.bad) q.its (l8 ρ h) s0 else .bad) (.ListComp J [⟨z,iter,[],0⟩] scope pos):=by
 obtain⟨Z,c2,c3⟩:=G.comp hm
 refine⟨J,z,iter,[],scope,pos,_,h,_,_,TTv Γ (fun ρ s=>.ok (.bl true) s),_,rfl,Z,hi,fun C cells s H ex=>⟨(c3 C cells s H ex).2,bt3.imp fun σ H Q q=>?_,he C cells s H ex⟩,aD0 c2,fun σ H Q q=>aU8 (TFv.eq (fun ρ s=>?_) q)⟩
 ·obtain⟨φ,ρ,s,b,s',E,R,hm,q⟩:=q
  cases hm
  exact q φ H (Gr.refl _ _ _) (aj _) R
 ·congr 1
theorem bz5 {tg:Expr}{e:l6}{E:Expr}(G:CG Γ F n X ck)(h:PE X E (TEv Γ (kX F e))):PI X tg E (TIv Γ (mP F (.seq e))):=by
 refine(PI.or (bq5 G.K h) (PI.or (bb3 G.K h) (bK7 h))).imp fun σ H R q=>bC1 (TIv.eq (fun ρ s=>rfl) q)
theorem bb4 {tg:Expr}{a:l6}{l:Expr}{p pos:Pos}(G:CG Γ F n X ck)(hg:ck.gl "range"=true)(hs:shp l=true)(h:PE X l (TEv Γ (kX F a))):PI X tg (.Call (.Name "range" p) [l] [] pos) (TIv Γ (mP F (.rng1 a))) :=
 (aX1 (G.gl hg).1 (G.bi _ (by decide)) (zI h ad7 (zg hs)) (zg hs)).imp fun σ H R q=>bt5 (TIv.eq (fun ρ s=>rfl) q)
theorem bh7 {tg:Expr}{a:l6}{l:Expr}{p pos cp Y C J:Pos}{ck0 z:Nat}(G:CG Γ F n X ck)(hg:ck.gl "range"=true)(hs:shp l=true)(h:PE X l (TEv Γ (kX F a))):PI X tg (.Call (.Name "range" p) [l,.UnaryOp .USub (.Constant (.int 1) ck0 cp) Y,.UnaryOp .USub (.Constant (.int 1) z C) J] [] pos) (TIv Γ (mP F (.rngD a))) :=
 (aU4 (G.gl hg).1 (G.bi _ (by decide)) (zI h (zI az7 (zI az7 ad7 rfl) rfl) (zg hs)) (zg hs) rfl).imp fun σ H R q=>bn7 (TIv.eq (fun ρ s=>rfl) q)
theorem bB4 (h:TEv Γ (fun ρ s=>lJ (.dic []) s) σ H Q):bl6 σ H Q:=by
 obtain⟨φ,ρ,s,d,s',E,R,hm,q⟩:=h
 obtain⟨rfl,rfl⟩:=zN hm
 intro p hp
 obtain⟨g,z⟩:=R.new (o:=.dic []) (u:=.dK []) hp rfl fun φ' H' g e=>⟨[],e,rfl⟩
 exact q (.ref p) _ _ g (by simp) (by unfold kY;simp) (by unfold RV;simp) z
theorem bF8 {mk mv:kU->kR->kW kS}(h:TEv Γ (fun ρ s=>(mk ρ (s++[.dic []])).bind fun kd s1=>(mv ρ s1).bind fun C s2=>if kd.key=true/\s2[s.length]?=some (.dic [])then .ok (.ref s.length) (s2.set s.length (.dic [(kd,C)]))else .bad) σ H Q):bH4 [(TEv Γ mk,TEv Γ mv)] σ H Q:=by
 obtain⟨φ,ρ,s,d,s',E,R,hm,q⟩:=h
 obtain⟨kd,s1,e1,hm⟩:=aa0 hm
 obtain⟨C,s2,e2,hm⟩:=aa0 hm
 split at hm
 case isFalse=>exact fb hm
 rename_i hc
 cases hm
 intro p hp
 obtain⟨g0,R0⟩:=R.new (o:=.dic []) (u:=.dK []) hp rfl fun φ' H' g e=>⟨[],e,rfl⟩
 have l0:s.length<=(s++[DV.O.dic []]).length:=by simp
 refine⟨_,ρ,s++[DV.O.dic []],kd,s1,E.mono g0 l0,R0,e1,fun v1 φ1 H1 g1 l1 b1 r1 R1=>?_⟩
 refine⟨φ1,ρ,s1,C,s2,(E.mono g0 l0).mono g1 l1,R1,e2,fun G φ2 H2 J F b2 r2 R2=>?_⟩
 have z:φ2 s.length=p:=by
  rw[J.w.map s.length (ax (by simp) l1),g1.w.map s.length (by simp)];simp
 obtain⟨k,hk⟩:=ai4 hc.1
 have ek:=aH6 hk (RV.mono J kd v1 b1 r1)
 obtain⟨Y,z1,z2⟩:=R2.obj s.length _ hc.2
 have z2:Y=[]:=z2
 subst z2
 rw[z]at z1
 refine⟨z1,[(k,G)],by rw[ek];rfl,by simp,?_⟩
 have hb:(DV.O.dic [(kd,C)]).bnd s2.length=true:=by
  unfold kZ
  simp only[aL,bX,kT,eO,ah]
  exact⟨zh F _ b1,b2⟩
 obtain⟨g3,Z⟩:=R2.set (o:=.dic [(kd,C)]) (u:=.dK [(k,G)]) hc.2 rfl hb fun H' g e=>⟨_,e,k,G,[],rfl,hk,RV.monoW g _ _ b2 r2,rfl⟩
 rw[z]at g3 Z
 have L:s.length<=s2.length:=ak l0 (ak l1 F)
 have lt:s.length<s2.length:=ax (by simp) (ak l1 F)
 exact q (.ref p) _ _ (((g0.trans g1 l0).trans J (ak l0 l1)).trans g3 L) (by rw[aP];exact L) (by unfold kY;rw[aP];exact decide_eq_true lt) (by unfold RV;rw[z]) Z
theorem br2 {mk mv:kU->kR->kW kS}(h:TEv Γ (fun ρ s=>(mk ρ (s++[.dit []])).bind fun kd s1=>(mv ρ s1).bind fun C s2=>if kd.keyT=true/\s2[s.length]?=some (.dit [])then .ok (.ref s.length) (s2.set s.length (.dit [(kd,C)]))else .bad) σ H Q):bk6 (TEv Γ mk) (TEv Γ mv) σ H Q:=by
 obtain⟨φ,ρ,s,d,s',E,R,hm,q⟩:=h
 obtain⟨kd,s1,e1,hm⟩:=aa0 hm
 obtain⟨C,s2,e2,hm⟩:=aa0 hm
 split at hm
 case isFalse=>exact fb hm
 rename_i hc
 cases hm
 intro p hp
 obtain⟨g0,R0⟩:=R.new (o:=.dit []) (u:=.dT []) hp rfl fun φ' H' g e=>⟨[],e,rfl⟩
 have l0:s.length<=(s++[DV.O.dit []]).length:=by simp
 refine⟨_,ρ,s++[DV.O.dit []],kd,s1,E.mono g0 l0,R0,e1,fun v1 φ1 H1 g1 l1 b1 r1 R1=>?_⟩
 refine⟨φ1,ρ,s1,C,s2,(E.mono g0 l0).mono g1 l1,R1,e2,fun Y φ2 H2 G F b2 r2 R2=>?_⟩
 have z:φ2 s.length=p:=by
  rw[G.w.map s.length (ax (by simp) l1),g1.w.map s.length (by simp)];simp
 obtain⟨k,hk⟩:=af0 hc.1
 obtain⟨kb,ek,nk⟩:=as7 hk (RV.mono G kd v1 b1 r1)
 obtain⟨J,z1,z2⟩:=R2.obj s.length _ hc.2
 have z2:J=[]:=z2
 subst z2
 rw[z]at z1
 refine⟨z1,kb,k,ek,nk,?_⟩
 have hb:(DV.O.dit [(kd,C)]).bnd s2.length=true:=by
  unfold kZ
  simp only[aL,bX,kT,eO,ah]
  exact⟨zh F _ b1,b2⟩
 obtain⟨g3,Z⟩:=R2.set (o:=.dit [(kd,C)]) (u:=.dT [(k,Y)]) hc.2 rfl hb fun H' g e=>⟨_,e,k,Y,[],rfl,hk,RV.monoW g _ _ b2 r2,rfl⟩
 rw[z]at g3 Z
 have L:s.length<=s2.length:=ak l0 (ak l1 F)
 have lt:s.length<s2.length:=ax (by simp) (ak l1 F)
 exact q (.ref p) _ _ (((g0.trans g1 l0).trans G (ak l0 l1)).trans g3 L) (by rw[aP];exact L) (by unfold kY;rw[aP];exact decide_eq_true lt) (by unfold RV;rw[z]) Z
section
variable {c:String} {kvs:List (List Nat×List Nat)} {a:Addr}
end
end
section
variable {Γ:Gm} {F:ln} {n:Nat} {X:Cx} {ck:Ck}
end
section
variable {Γ:Gm} {F:ln} {n:Nat} {X:Cx} {ck:Ck}
def TJv (Γ:Gm)(m:kU->kR->kW (List kS))(out:List Nat):TE:=fun σ H Q=>∃ φ ρ s l s' ws,RE Γ φ H s.length ρ σ/\Rp Γ φ H s/\m ρ s=.ok l s'/\my l=some ws/\(out++ws.flatten).length<=k7 /\
 ∀ φ' H',Gr φ s H φ' s' H'->s.length<=s'.length->Rp Γ φ' H' s'->Q (.str ⟨(out++ws.flatten).toArray⟩) H'
def PF (Γ:Gm)(X:Cx)(vs:List Expr)(m:kU->kR->kW (List kS)):Prop :=
 ∀(out:List Nat) (pins:List (Addr×Obj)) (s:af) (σ:St) (H:Hp) (Q:VK),Inv X pins σ H s->TJv Γ m out σ H Q->wpAny (model X.prog X.w) X.A (joinParts ⟨out.toArray⟩ (evalEach vs X.env)) (EP X pins σ Q) X.xe s
theorem PF.eq {vs:List Expr}{m m':kU->kR->kW (List kS)}(e:∀ ρ s,m ρ s=m' ρ s)(h:PF Γ X vs m):PF Γ X vs m':=fun out z s σ H Q I q=>by
 obtain⟨φ,ρ,s0,l,s',ws,E,R,hm,q⟩:=q
 exact h out z s σ H Q I ⟨φ,ρ,s0,l,s',ws,E,R,by rw[e];exact hm,q⟩
theorem aC7 (w:List Nat):(⟨w.toArray⟩:Str).length=w.length:=by simp[j2]
theorem bM6:PF Γ X [] (fun _ s=>.ok [] s):=fun out h s σ H Q I q=>by
 obtain⟨φ,ρ,s0,l,s',ws,E,R,hm,hw,hl,q⟩:=q
 cases hm
 cases hw
 rw[List.flatten_nil,aZ]at q hl
 exact joinParts_nilE (joinParts_nil ⟨.str ⟨out.toArray⟩,H,I.tok _,⟨_,rfl⟩,q φ H (Gr.refl _ _ _) (aj _) R⟩ (by rw[aC7];exact ak hl zE))
theorem aS0 {d:kS}{l:List kS}{ws:List (List Nat)}(h:my (d::l)=some ws):∃ w z,d=.str w/\my l=some z/\ws=w::z:=by
 cases d with
 | str w =>
  have h:(my l).map (w::·)=some ws:=h
  cases e:my l with
  | none=>rw[e]at h;cases h
  | some z=>rw[e]at h;cases h;exact⟨w,z,rfl,rfl,rfl⟩
 | _=>cases h
theorem aR8 {v:Expr}{vs:List Expr}{m1:kU->kR->kW kS}{m2:kU->kR->kW (List kS)}(h2:PF Γ X vs m2)
  (h1:∀(h:List (Addr×Obj)) (s:af) (σ:St) (H:Hp) (w:List Nat) (Q:VK),w.length<=k7->Inv X h σ H s->TEv Γ m1 σ H (fun x z=>x=.str ⟨w.toArray⟩/\Q x z) ->
   wpAny (model X.prog X.w) X.A (eval v X.env) (fun u s1=>∃ t z,u=.str ⟨w.toArray⟩ t/\Inv X h σ z s1/\Q (.str ⟨w.toArray⟩) z) X.xe s) :
  PF Γ X (v::vs) (fun ρ s=>(m1 ρ s).bind fun d s=>(m2 ρ s).bind fun l s=>.ok (d::l) s):=fun out h s σ H Q I q=>by
 obtain⟨φ,ρ,s0,l,s',ws,E,R,hm,hw,hl,q⟩:=q
 obtain⟨d,s1,e1,hm⟩:=aa0 hm
 obtain⟨G,s2,e2,hm⟩:=aa0 hm
 cases hm
 obtain⟨w,Z,rfl,Y,rfl⟩:=aS0 hw
 rw[cN,<-br]at hl q
 have F:(out++w).length<=k7:=by rw[aG]at hl;omega
 have C:w.length<=k7:=by rw[aG]at F;omega
 refine joinParts_consE (joinParts_cons (bN (h1 h s σ H w (fun x z=>∃ φ1,Gr φ s0 H φ1 s1 z/\s0.length<=s1.length/\Rp Γ φ1 z s1) C I ⟨φ,ρ,s0,.str w,s1,E,R,e1,fun v φ1 z g1 l1 b1 r1 R1=>⟨r1.strE,φ1,g1,l1,R1⟩⟩) (fun u J hu=>?_) fun _ _ x=>x))
 obtain⟨t,z,rfl,I1,φ1,g1,l1,R1⟩:=hu
 show(_++_:Str).length<=aE/\_
 rw[ar2]
 refine⟨by rw[aC7];exact ak F zE,h2 (out++w) h J σ z Q I1 ⟨φ1,ρ,s1,G,s',Z,E.mono g1 l1,R1,e2,Y,hl,fun φ2 H2 g2 G R2=>q φ2 H2 (g1.trans g2 l1) (ak l1 G) R2⟩⟩
theorem bm7 {v:Expr}{C:kU->kR->kW kS}(hv:PE X v (TEv Γ C))(h:List (Addr×Obj))(s:af)(σ:St)(H:Hp)(w:List Nat)(Q:VK)(I:Inv X h σ H s)(q:TEv Γ C σ H (fun x z=>x=.str ⟨w.toArray⟩/\Q x z)) :
  wpAny (model X.prog X.w) X.A (eval v X.env) (fun u s1=>∃ t z,u=.str ⟨w.toArray⟩ t/\Inv X h σ z s1/\Q (.str ⟨w.toArray⟩) z) X.xe s :=
 bN (hv h s σ H _ I q) (fun u s1 hu=>by
  obtain⟨x,z,G,F,ex,J⟩:=hu
  subst ex
  obtain⟨t,rfl⟩:=(show ∃ t,u=Value.str ⟨w.toArray⟩ t from F)
  exact⟨t,z,rfl,G,J⟩) fun _ _ x=>x
theorem bE3 {v:Expr}{p:Pos}{vs:List Expr}{z:kU->kR->kW kS}{C:kU->kR->kW (List kS)}(hv:PE X v (TEv Γ z))(F:PF Γ X vs C) :
  PF Γ X (.FormattedValue v (-1) none p::vs) (fun ρ s=>(z ρ s).bind fun d s=>(C ρ s).bind fun l s=>.ok (d::l) s) :=
 aR8 F fun h s σ H w Q hw I q=>FormattedValue_plain (bN (bm7 hv h s σ H w Q I q) (fun u s1 hu=>by
  obtain⟨t,J,rfl,G,Y⟩:=hu
  exact formatField_str (fun t' tk=>⟨t',J,rfl,G.tok tk,Y⟩) (by rw[aC7];exact ak hw zE)) fun _ _ x=>x)
theorem bJ7 {v:Expr}{vs:List Expr}{C:kU->kR->kW kS}{z:kU->kR->kW (List kS)}(hv:PE X v (TEv Γ C))(F:PF Γ X vs z) :
  PF Γ X (v::vs) (fun ρ s=>(C ρ s).bind fun d s=>(z ρ s).bind fun l s=>.ok (d::l) s) :=
 aR8 F fun h s σ H w Q hw I q=>bm7 hv h s σ H w Q I q
end
section
variable {Γ:Gm} {F:ln} {n:Nat}
theorem bH1 {X:Cx}{c:DV.Cn}{v:Const}{k:Nat}{pos:Pos}(h:mC c v=true):EvT Γ X (.Constant v k pos) (kX F (.cst c)):=by
 refine .val ?_
 unfold mC at h
 split at h
 ·exact bD9.imp fun σ H Q q=>az5 (c:=.non) (fun _=>rfl) (fun _ _=>RV.nonI) (TEv.eq (fun ρ s=>rfl) q)
 ·rename_i b c
  have e:=eq_of_beq h
  subst e
  exact bU8.imp fun σ H Q q=>az5 (c:=.bl b) (fun _=>rfl) (fun _ _=>RV.blI) (TEv.eq (fun ρ s=>rfl) q)
 ·rename_i i j
  have e:=of_decide_eq_true h
  subst e
  exact bi2.imp fun σ H Q q=>az5 (c:=.int i) (fun _=>rfl) (fun _ _=>RV.intI) (TEv.eq (fun ρ s=>rfl) q)
 ·rename_i x y
  rw[ah]at h
  have e:=of_decide_eq_true h.1
  have e2:=of_decide_eq_true h.2
  subst e
  exact bl2.imp fun σ H Q q=>az5 (c:=.str x) (fun _=>rfl) (fun _ _=>RV.strI (by unfold k7;omega)) (TEv.eq (fun ρ s=>rfl) q)
 ·cases h
theorem bu1 {X:Cx}{J:Ck}{es:ly}{z:List Expr}{pos:Pos}(m:mEs J es z=true)(hz:z.length<=1000)(h:PA X z (TAv Γ (lE F es))):PE X (.List z pos) (TFv Γ (DV.evL F (.disp es))):=by
 refine(bl5 h).imp fun σ H Q q=>?_
 obtain⟨φ,ρ,s,l,s',E,R,hm,q⟩:=q
 refine⟨φ,ρ,s,l,s',E,R,hm,fun vs φ1 C g1 l1 b1 r1 R1=>⟨by rw[r1.length,aq7 hm m];exact aH5 hz,fun p hp=>?_⟩⟩
 obtain⟨G,R2⟩:=R1.same (H':=upd C p (.lst vs)) ((ae3.refl C).new hp)
 refine q p vs φ1 _ (g1.trans G l1) l1 b1 zv ?_ (Off.new R1 hp) (RVL.mono G _ _ b1 r1) R2
 cases e:H p with
 | none=>rfl
 | some o=>exact absurd hp (g1.st p (by rw[e];simp))
theorem CompF.eq {X:Cx}{m m':kU->kR->kW (List kS)}{E:Expr}(c:CompF Γ X m E)(e:∀ ρ s,m' ρ s=m ρ s):CompF Γ X m' E:=by
 have:m'=m:=funext fun ρ=>funext fun s=>e ρ s
 subst this;exact c
theorem zl {a b:Bool}(h:(a&&b)=true):a=true/\b=true:=by rw[ah]at h;exact h
theorem bw4 {X:Cx}{C:Ck}{g:String}{p:Pos}(G:CG Γ F n X C)(h:C.gl (g:Str)=true):EvT Γ X (.Name (g:Str) p) (kX F (.glob g)):=by
 refine .val ?_
 obtain⟨g1,g2,g3⟩:=G.gl h
 cases e:F.con g with
 | none =>
  intro z s σ H Q I q
  obtain⟨φ,ρ,s,d,s',E,R,hm,q⟩:=q
  have hm:(match F.con g with|some d=>DV.R.ok d s|none=>.bad)=.ok d s':=hm
  rw[e]at hm
  cases hm
 | some d =>
  obtain⟨v,u,Z,J,h3,Y⟩:=G.con g d e
  exact(bu6 g1 Z J g2).imp fun σ H Q q=>az5 (c:=d) h3 Y (TEv.eq (fun ρ s=>by show(match F.con g with|some d=>DV.R.ok d s|none=>.bad)=DV.R.ok d s;rw[e]) q)
theorem bC4 {X:Cx}{z:Ck}{i:Nat}{x:Str}{p:Pos}(G:CG Γ F n X z)(h:z.var i x=true):EvT Γ X (.Name x p) (kX F (.var i)):=by
 refine .val ?_
 unfold Ck.var at h
 obtain⟨h,J⟩:=zl h
 obtain⟨h,h3⟩:=zl h
 obtain⟨Y,C⟩:=zl h
 have e1:(x==("__debug__":Str))=false:=by simpa using h3
 have e2:(x==("__classdict__":Str))=false:=by simpa using J
 exact(bI0 (by rw[G.N];exact of_decide_eq_true Y) (G.vis C) e1 e2).imp fun σ H Q q=>bH0 i (TEv.eq (fun ρ s=>rfl) q)
theorem aE6 {X:Cx}{E:Expr}{m:kU->kR->kW kS}(h:∀ ρ s,m ρ s=.bad):EvT Γ X E m:=by
 refine⟨fun z s σ H Q I q=>?_,fun z s σ H Q I q=>?_⟩
 ·obtain⟨φ,ρ,s,d,s',E,R,hm,q⟩:=q
  rw[h]at hm;exact fb hm
 ·obtain⟨φ,ρ,s,d,s',E,R,hm,q⟩:=q
  rw[h]at hm;exact fb hm
inductive LK (Γ:Gm)(X:Cx)(m:kU->kR->kW (List kS))(E:Expr)(k:Nat):Prop where
 | c (h:CompF Γ X m E):LK Γ X m E k
 | f (hk:1<=k) (h:PE X E (TFv Γ m)):LK Γ X m E k
 | s (hk:k=2) (h:PE X E (TLv Γ m)):LK Γ X m E k
theorem bD7 {X:Cx}{m:kU->kR->kW (List kS)}{E:Expr}(h:LK Γ X m E 0):CompF Γ X m E:=by
 cases h with
 | c h=>exact h
 | f hk h=>omega
 | s hk h=>omega
theorem bL9 {X:Cx}{z:Ck}{m:kU->kR->kW (List kS)}{E:Expr}(G:CG Γ F n X z)(h:LK Γ X m E 1):PE X E (TFv Γ m):=by
 cases h with
 | c h=>exact h.pe G.calm
 | f hk h=>exact h
 | s hk h=>omega
theorem bS0 {X:Cx}{z:Ck}{m:kU->kR->kW (List kS)}{E:Expr}(G:CG Γ F n X z)(h:LK Γ X m E 2):PE X E (TLv Γ m):=by
 cases h with
 | c h=>exact(h.pe G.calm).imp fun σ H Q q=>aF6 q
 | f hk h=>exact h.imp fun σ H Q q=>aF6 q
 | s hk h=>exact h
theorem biOk_inv {z:Ck}{b:lF}{x:Str}{C:List Expr}{es:ly}(h:bQ7 z b x C (mEs z es C) (mEs z es (C.take 1))=true) :
  (∃ k t a y G,biK b=some (k,t)/\C=[a,.Name y G]/\x=("isinstance":Str)/\y=t/\z.gl x=true/\z.gl y=true/\mEs z es [a]=true)\/∃ a ys,C=a::ys/\biT b=some x/\z.gl x=true/\mEs z es (a::ys)=true:=by
 unfold bQ7 at h
 cases hk:biK b with
 | none =>
  rw[hk]at h
  cases C with
  | nil=>exact ff h
  | cons a ys =>
   obtain⟨h,h3⟩:=zl h
   obtain⟨J,F⟩:=zl h
   exact .inr ⟨a,ys,rfl,of_decide_eq_true J,F,h3⟩
 | some p =>
  rw[hk]at h
  cases C with
  | nil=>exact ff h
  | cons a ys=>cases ys with
   | nil=>exact ff h
   | cons b ys=>cases b with
    | Name y G=>cases ys with
     | nil =>
      obtain⟨h,Y⟩:=zl h
      obtain⟨h,Z⟩:=zl h
      obtain⟨h,h3⟩:=zl h
      obtain⟨J,F⟩:=zl h
      exact .inl ⟨p.1,p.2,a,y,G,rfl,rfl,of_decide_eq_true J,of_decide_eq_true h3,F,Z,Y⟩
     | cons _ _=>exact ff h
    | _=>exact ff h
mutual
theorem sE:∀(e:l6) (E:Expr) (X:Cx) (z:Ck),CG Γ F n X z->mE z e E=true->EvT Γ X E (kX F e)
 | .var i,E,X,z,G,h=>by
  cases E with
  | Name x p =>
   exact bC4 G h
  | _=>exact ff h
 | .cst c,E,X,z,G,h=>by
  cases E with
  | Constant v k p =>
   exact bH1 h
  | _=>exact ff h
 | .glob g,E,X,z,G,h=>by
  cases E with
  | Name x p =>
   obtain⟨J,C⟩:=zl h
   have e:=of_decide_eq_true J
   subst e
   exact bw4 G C
  | _=>exact ff h
 | .bin op a b,E,X,z,G,h=>by
  cases E with
  | BinOp l o r pE =>
   obtain⟨h,h3⟩:=zl h
   obtain⟨J,C⟩:=zl h
   have e:=of_decide_eq_true J
   subst e
   exact bn5 G op (sE a _ X z G C) (sE b _ X z G h3)
  | _=>exact ff h
 | .neg _,E,X,z,G,h=>ff h
 | .not a,E,X,z,G,h=>by
  cases E with
  | UnaryOp o l p =>
   cases o with
   | Not =>
    exact by4 (sE a _ X z G h)
   | _=>exact ff h
  | _=>exact ff h
 | .cmp op a b,E,X,z,G,h=>by
  cases E with
  | Compare l os rs pE =>
   cases os with
   | cons o os_0 =>
    cases os_0 with
    | nil =>
     cases rs with
     | cons r rs_0 =>
      cases rs_0 with
      | nil =>
       obtain⟨h,h3⟩:=zl h
       obtain⟨J,C⟩:=zl h
       have e:=of_decide_eq_true J
       subst e
       exact bx7 G op (aI9 h3) (sE a _ X z G C) (sE b _ X z G h3)
      | _=>exact ff h
     | _=>exact ff h
    | _=>exact ff h
   | _=>exact ff h
  | _=>exact ff h
 | .chain _ _ _ _ _,E,X,z,G,h=>ff h
 | .isN a,E,X,z,G,h=>by
  cases E with
  | Compare l os rs pE =>
   cases os with
   | cons o os1 =>
    cases o with
    | Is =>
     cases os1 with
     | nil =>
      cases rs with
      | cons r rs1 =>
       cases r with
       | Constant v k p1 =>
        cases v with
        | none =>
         cases rs1 with
         | nil =>
          exact bo3 (sE a _ X z G h)
         | _=>exact ff h
        | _=>exact ff h
       | _=>exact ff h
      | _=>exact ff h
     | _=>exact ff h
    | _=>exact ff h
   | _=>exact ff h
  | _=>exact ff h
 | .notN a,E,X,z,G,h=>by
  cases E with
  | Compare l os rs pE =>
   cases os with
   | cons o os1 =>
    cases o with
    | IsNot =>
     cases os1 with
     | nil =>
      cases rs with
      | cons r rs1 =>
       cases r with
       | Constant v k p1 =>
        cases v with
        | none =>
         cases rs1 with
         | nil =>
          exact be1 (sE a _ X z G h)
         | _=>exact ff h
        | _=>exact ff h
       | _=>exact ff h
      | _=>exact ff h
     | _=>exact ff h
    | _=>exact ff h
   | _=>exact ff h
  | _=>exact ff h
 | .isB _ _,E,X,z,G,h=>ff h
 | .notB _ _,E,X,z,G,h=>ff h
 | .and a b,E,X,z,G,h=>by
  cases E with
  | BoolOp op vs p=>cases op with
   | And =>
    cases vs with
    | nil=>exact ff h
    | cons l vs=>cases vs with
     | nil=>exact ff h
     | cons r vs=>cases vs with
      | nil =>
       obtain⟨J,C⟩:=zl h
       exact bq0 (sE a _ X z G J) (sE b _ X z G C)
      | cons r2 vs =>
       obtain⟨J,C⟩:=zl h
       exact bu2 (sE a _ X z G J) (sE b _ X z G C)
   | _=>exact ff h
  | _=>exact ff h
 | .or a b,E,X,z,G,h=>by
  cases E with
  | BoolOp op vs p=>cases op with
   | Or =>
    cases vs with
    | nil=>exact ff h
    | cons l vs=>cases vs with
     | nil=>exact ff h
     | cons r vs=>cases vs with
      | nil =>
       obtain⟨J,C⟩:=zl h
       exact bJ6 (sE a _ X z G J) (sE b _ X z G C)
      | cons r2 vs =>
       obtain⟨J,C⟩:=zl h
       exact bL4 (sE a _ X z G J) (sE b _ X z G C)
   | _=>exact ff h
  | _=>exact ff h
 | .ite c a b,E,X,z,G,h=>by
  cases E with
  | IfExp tE l r pE =>
   obtain⟨h,h3⟩:=zl h
   obtain⟨J,C⟩:=zl h
   exact br0 (sE c _ X z G J) (sE a _ X z G C) (sE b _ X z G h3)
  | _=>exact ff h
 | .tup es,E,X,z,G,h=>by
  cases E with
  | Tuple xs k p =>
   obtain⟨J,C⟩:=zl h
   exact bs0 J (of_decide_eq_true C) (ao8 (sEs es _ X z G J))
  | _=>exact ff h
 | .lst es,E,X,z,G,h=>by
  cases E with
  | List xs p =>
   obtain⟨J,C⟩:=zl h
   exact bq9 J (of_decide_eq_true C) (ao8 (sEs es _ X z G J))
  | _=>exact ff h
 | .dic .nil .nil,E,X,z,G,h=>by
  cases E with
  | Dict a b p=>cases a with
   | nil=>cases b with
    | nil=>exact .val (aZ5.imp fun σ H Q q=>bB4 (TEv.eq (fun ρ s=>rfl) q))
    | _=>exact ff h
   | cons x a=>cases x with
    | none=>exact ff h
    | some x=>cases a with
     | nil=>cases b with
      | nil=>exact ff h
      | cons y b=>cases b with
       | nil=>exact ff h
       | _=>exact ff h
     | _=>exact ff h
  | _=>exact ff h
 | .dic (.cons k .nil) (.cons v .nil),E,X,z,G,h=>by
  cases E with
  | Dict a b p=>cases a with
   | nil=>cases b with
    | nil=>exact ff h
    | _=>exact ff h
   | cons x a=>cases x with
    | none=>exact ff h
    | some x=>cases a with
     | nil=>cases b with
      | nil=>exact ff h
      | cons y b=>cases b with
       | nil =>
        obtain⟨J,C⟩:=zl h
        obtain⟨J,_⟩:=zl J
        obtain⟨J,_⟩:=zl J
        obtain⟨C,_⟩:=zl C
        obtain⟨C,_⟩:=zl C
        exact .val ((br9 (aH0 (sE k _ X z G J).1 (sE v _ X z G C).1 aS8) rfl rfl (by nofun) (by show 1<=15;decide)).imp fun σ H Q q=>bF8 (TEv.eq (fun ρ s=>rfl) q))
       | _=>exact ff h
     | _=>exact ff h
  | _=>exact ff h
 | .dic .nil (.cons _ _),E,X,z,G,h=>aE6 fun _ _=>rfl
 | .dic (.cons _ .nil) .nil,E,X,z,G,h=>aE6 fun _ _=>rfl
 | .dic (.cons _ .nil) (.cons _ (.cons _ _)),E,X,z,G,h=>aE6 fun _ _=>rfl
 | .dic (.cons _ (.cons _ _)) _,E,X,z,G,h=>aE6 fun _ _=>rfl
 | .bitl _,E,X,z,G,h=>ff h
 | .fstr _,E,X,z,G,h=>ff h
 | .inC _ _,E,X,z,G,h=>ff h
 | .getC _ _,E,X,z,G,h=>ff h
 | .lrng _,E,X,z,G,h=>ff h
 | .dicU k v,E,X,z,G,h=>by
  cases E with
  | Dict a b p=>cases a with
   | nil=>exact ff h
   | cons x a=>cases x with
    | none=>cases a with|nil=>exact ff h|_=>exact ff h
    | some x=>cases a with
     | nil=>cases b with
      | nil=>exact ff h
      | cons y b=>cases b with
       | nil =>
        obtain⟨J,C⟩:=zl h
        exact .val ((be9 (Nat.lt_of_succ_lt (ak4 G.room)) (sE k _ X z G J).1 (sE v _ X z G C).1).imp fun σ H Q q=>br2 (TEv.eq (fun ρ s=>rfl) q))
       | _=>exact ff h
     | _=>exact ff h
  | _=>exact ff h
 | .dicT,E,X,z,G,h=>ff h
 | .get2 _ _ _,E,X,z,G,h=>ff h
 | .ix a b,E,X,z,G,h=>by
  cases E with
  | Subscript o i p =>
   obtain⟨J,C⟩:=zl h
   exact bH3 G (aI9 C) (sE a _ X z G J) (sE b _ X z G C)
  | _=>exact ff h
 | .slL _ _,E,X,z,G,h=>ff h
 | .slU a hi,E,X,z,G,h=>by
  cases E with
  | Subscript o i p =>
   cases i with
   | Slice lo hi st p2 =>
    cases lo with
    | none =>
     cases hi with
     | some l =>
      cases st with
      | none =>
       obtain⟨J,C⟩:=zl h
       exact bw6 G (sE a _ X z G J) (sE hi _ X z G C)
      | _=>exact ff h
     | _=>exact ff h
    | _=>exact ff h
   | _=>exact ff h
  | _=>exact ff h
 | .slLU _ _ _,E,X,z,G,h=>ff h
 | .rev _,E,X,z,G,h=>ff h
 | .call f as,E,X,z,G,h=>by
  cases E with
  | Call fE xs kw p =>
   cases fE with
   | Name x pN =>
    cases kw with
    | nil =>
     obtain⟨h,h3⟩:=zl h
     obtain⟨J,C⟩:=zl h
     have e:=of_decide_eq_true J
     subst e
     exact bg9 G C h3 (sAs as _ X z G h3)
    | _=>exact ff h
   | _=>exact ff h
  | _=>exact ff h
 | .callC _ _,E,X,z,G,h=>ff h
 | .callV _ _,E,X,z,G,h=>ff h
 | .bi b es,E,X,z,G,h=>by
  cases E with
  | Call fE xs kw p =>
   cases fE with
   | Name x pN =>
    cases kw with
    | nil =>
     have h:bQ7 z b x xs (mEs z es xs) (mEs z es (xs.take 1))=true:=h
     rcases biOk_inv h with⟨k,t,a,y,py,hk,rfl,rfl,rfl,C,Y,Z⟩|⟨a,ys,rfl,J,C,h3⟩
     ·exact bx8 G hk C Y (sEs es _ X z G Z)
     ·exact bN7 G J C h3 (ao8 (sEs es _ X z G h3))
    | _=>exact ff h
   | _=>exact ff h
  | _=>exact ff h
 | .mk k l,E,X,z,G,h=>by
  cases E with
  | ListComp e gs sc p =>
   obtain⟨J,C⟩:=zl h
   have e:=of_decide_eq_true J
   subst e
   exact .val (((bD7 (sL l _ X z G 0 C)).pe G.calm).imp fun σ H Q q=>aX8 (TEv.eq (fun ρ s=>rfl) q))
  | Call fE xs kw p =>
   cases fE with
   | Name x pN =>
    cases xs with
    | cons a xs_0 =>
     cases xs_0 with
     | nil =>
      cases kw with
      | nil =>
       obtain⟨h,Y⟩:=zl h
       obtain⟨C,h3⟩:=zl h
       rw[bH]at Y
       rcases Y with Y|Y
       ·obtain⟨Z,h6⟩:=zl Y
        exact .val ((bK8 G (of_decide_eq_true Z) C h3 (bS0 G (sL l _ X z G 2 h6))).imp fun σ H Q q=>TEv.eq (fun ρ s=>rfl) q)
       ·obtain⟨Z,h6⟩:=zl Y
        exact .val ((bA6 G (of_decide_eq_true Z) C h3 (bL9 G (sL l _ X z G 1 h6))).imp fun σ H Q q=>TEv.eq (fun ρ s=>rfl) q)
      | _=>exact ff h
     | _=>exact ff h
    | _=>exact ff h
   | _=>exact ff h
  | _=>exact ff h
 | .mks _ _,E,X,z,G,h=>ff h
 | .mkDs _ _ _,E,X,z,G,h=>ff h
 | .minK _ _ _,E,X,z,G,h=>ff h
 | .mkD k l d,E,X,z,G,h=>by
  cases E with
  | Call fE xs kw p =>
   cases fE with
   | Name x pN =>
    cases xs with
    | cons a xs_0 =>
     cases xs_0 with
     | nil =>
      cases kw with
      | cons kk kw1 =>
       cases kk with
       | mk ky de kp =>
        cases ky with
        | some y =>
         cases kw1 with
         | nil =>
          obtain⟨h,h7⟩:=zl h
          obtain⟨h,h6⟩:=zl h
          obtain⟨h,Z⟩:=zl h
          obtain⟨h,h3⟩:=zl h
          obtain⟨J,C⟩:=zl h
          have e3:=of_decide_eq_true C
          subst e3
          obtain⟨e,e2⟩:=zl J
          have e:=of_decide_eq_true e
          have e2:=of_decide_eq_true e2
          subst e e2
          exact .val ((bC0 G h3 Z (bL9 G (sL l _ X z G 1 h6)) (sE d _ X z G h7).1).imp fun σ H Q q=>TEv.eq (fun ρ s=>rfl) q)
         | _=>exact ff h
        | _=>exact ff h
      | _=>exact ff h
     | _=>exact ff h
    | _=>exact ff h
   | _=>exact ff h
  | _=>exact ff h
 | .meth m o es,E,X,z,G,h=>by
  cases E with
  | Call fE xs kw p =>
   cases fE with
   | Attribute ob x ap =>
    cases kw with
    | nil =>
     obtain⟨h,Z⟩:=zl h
     obtain⟨h,Y⟩:=zl h
     obtain⟨h,h3⟩:=zl h
     obtain⟨J,C⟩:=zl h
     exact bc5 G (of_decide_eq_true J) C h3 (sE o _ X z G Y).1 Z (sEs es _ X z G Z)
    | _=>exact ff h
   | _=>exact ff h
  | _=>exact ff h
 | .ext _ _,E,X,z,G,h=>ff h
 | .extS _ _,E,X,z,G,h=>ff h
 | .spl o c,E,X,z,G,h=>by
  cases E with
  | Call fE xs kw p =>
   cases fE with
   | Attribute ob x ap =>
    cases xs with
    | cons a xs_0 =>
     cases xs_0 with
     | nil =>
      cases kw with
      | nil =>
       obtain⟨h,Z⟩:=zl h
       obtain⟨h,Y⟩:=zl h
       obtain⟨h,h3⟩:=zl h
       obtain⟨J,C⟩:=zl h
       have e:=of_decide_eq_true C
       subst e
       cases a with
       | Constant v k pc =>
        have ev:=of_decide_eq_true J
        subst ev
        exact .val ((bM9 G h3 Y (sE o _ X z G Z).1).imp fun σ H Q q=>TEv.eq (fun ρ s=>rfl) q)
       | _=>exact ff J
      | _=>exact ff h
     | _=>exact ff h
    | _=>exact ff h
   | _=>exact ff h
  | _=>exact ff h
 | .join _ _,E,X,z,G,h=>ff h
theorem sEs:∀(es:ly) (z:List Expr) (X:Cx) (C:Ck),CG Γ F n X C->mEs C es z=true->PEs Γ F X es z
 | .nil,z,X,C,G,h=>by
  cases z with
  | nil =>
   exact trivial
  | _=>exact ff h
 | .cons e es,z,X,C,G,h=>by
  cases z with
  | cons x z =>
   obtain⟨h,h3⟩:=zl h
   obtain⟨Y,J⟩:=zl h
   exact⟨⟨J,sE e _ X C G Y⟩,sEs es _ X C G h3⟩
  | _=>exact ff h
theorem sFs:∀(es:ly) (C:List Expr) (X:Cx) (z:Ck),CG Γ F n X z->mFs z es C=true->PF Γ X C (lE F es)
 | .nil,C,X,z,G,h=>by
  cases C with
  | nil=>exact(bM6).eq fun _ _=>rfl
  | _=>exact ff h
 | .cons e es,C,X,z,G,h=>by
  cases C with
  | cons x C =>
   cases x with
   | FormattedValue v c sp p =>
    cases sp with
    | none =>
     obtain⟨h,h3⟩:=zl h
     obtain⟨Y,J⟩:=zl h
     have e1:=of_decide_eq_true Y
     subst e1
     exact(bE3 (sE e _ X z G J).1 (sFs es _ X z G h3)).eq fun _ _=>rfl
    | _=>exact ff h
   | Constant v j p =>
    obtain⟨Y,J⟩:=zl h
    exact(bJ7 (sE e _ X z G Y).1 (sFs es _ X z G J)).eq fun _ _=>rfl
   | _=>exact ff h
  | _=>exact ff h
theorem sAs:∀(es:mF) (z:List Expr) (X:Cx) (C:Ck),CG Γ F n X C->mAs C es z=true->PA X z (TAv Γ (mw F es))
 | .nil,z,X,C,G,h=>by
  cases z with
  | nil =>
   exact ad7.imp fun σ H Q q=>aL1 (TAv.eq (fun ρ s=>rfl) q)
  | _=>exact ff h
 | .ex e es,z,X,C,G,h=>by
  cases z with
  | cons x z =>
   obtain⟨h,h3⟩:=zl h
   obtain⟨Y,J⟩:=zl h
   exact(aH7 J (sE e _ X C G Y).1 (sAs es _ X C G h3)).imp fun σ H Q q=>TAv.eq (fun ρ s=>rfl) q
  | _=>exact ff h
 | .lam _ _ _,z,X,C,G,h=>ff h
 | .fn _ _,z,X,C,G,h=>ff h
theorem cc5:∀(es:mF) (z:List Expr) (X:Cx) (C:Ck),CG Γ F n X C->bZ0 C es z=true->PA X z (TAp Γ X.env.cells X.N (mw F es))
 | .nil,z,X,C,G,h=>by
  cases z with
  | nil =>
   exact ad7.imp fun σ H Q q=>bw7 (TAp.eq (fun ρ s=>rfl) q)
  | _=>exact ff h
 | .ex e es,z,X,C,G,h=>by
  cases z with
  | cons x z =>
   obtain⟨h,h3⟩:=zl h
   obtain⟨Y,J⟩:=zl h
   exact(zI (sE e _ X C G Y).1 (cc5 es _ X C G h3) (zg J)).imp fun σ H Q q=>bM0 (TAp.eq (fun ρ s=>rfl) q)
  | _=>exact ff h
 | .lam id caps es,z,X,C,G,h=>ff h
 | .fn _ _,z,X,C,G,h=>ff h
theorem sI:∀(i:DV.I) (E tg:Expr) (X:Cx) (z:Ck),CG Γ F n X z->mI z tg i E=true->PI X tg E (TIv Γ (mP F i))
 | .seq e,E,tg,X,z,G,h=>by
  obtain⟨C,J⟩:=zl h
  exact bz5 G (sE e _ X z G C).1
 | .rng1 a,E,tg,X,z,G,h=>by
  cases E with
  | Call fE xs kw p =>
   cases fE with
   | Name x pN =>
    cases xs with
    | cons l xs_0 =>
     cases xs_0 with
     | nil =>
      cases kw with
      | nil =>
       obtain⟨h,Y⟩:=zl h
       obtain⟨h,h3⟩:=zl h
       obtain⟨C,J⟩:=zl h
       have e:=of_decide_eq_true C
       subst e
       exact bb4 G J Y (sE a _ X z G h3).1
      | _=>exact ff h
     | _=>exact ff h
    | _=>exact ff h
   | _=>exact ff h
  | _=>exact ff h
 | .rng2 _ _,E,tg,X,z,G,h=>ff h
 | .rngD a,E,tg,X,z,G,h=>by
  cases E with
  | Call fE xs kw p =>
   cases fE with
   | Name x pN =>
    cases xs with
    | cons l xs1 =>
     cases xs1 with
     | cons r xs2 =>
      cases r with
      | UnaryOp o1 c1 p1 =>
       cases o1 with
       | USub =>
        cases c1 with
        | Constant v k1 p2 =>
         cases xs2 with
         | cons cc xs3 =>
          cases cc with
          | UnaryOp o2 c2 p3 =>
           cases o2 with
           | USub =>
            cases c2 with
            | Constant u k2 p4 =>
             cases xs3 with
             | nil =>
              cases kw with
              | nil =>
               obtain⟨h,h6⟩:=zl h
               obtain⟨h,Z⟩:=zl h
               obtain⟨h,Y⟩:=zl h
               obtain⟨h,h3⟩:=zl h
               obtain⟨C,J⟩:=zl h
               have e:=of_decide_eq_true C
               have e2:=of_decide_eq_true Z
               have e3:=of_decide_eq_true h6
               subst e e2 e3
               exact bh7 G J Y (sE a _ X z G h3).1
              | _=>exact ff h
             | _=>exact ff h
            | _=>exact ff h
           | _=>exact ff h
          | _=>exact ff h
         | _=>exact ff h
        | _=>exact ff h
       | _=>exact ff h
      | _=>exact ff h
     | _=>exact ff h
    | _=>exact ff h
   | _=>exact ff h
  | _=>exact ff h
 | .rng3 _ _ _,E,tg,X,z,G,h=>ff h
 | .enum (.seq _),E,tg,X,z,G,h=>ff h
 | .enum (.rng1 _),E,tg,X,z,G,h=>ff h
 | .enum (.rng2 _ _),E,tg,X,z,G,h=>ff h
 | .enum (.rng3 _ _ _),E,tg,X,z,G,h=>ff h
 | .enum (.rngD _),E,tg,X,z,G,h=>ff h
 | .enum (.enum _),E,tg,X,z,G,h=>ff h
 | .enum (.zip _ _),E,tg,X,z,G,h=>ff h
 | .enum (.items _),E,tg,X,z,G,h=>ff h
 | .zip (.seq _) (.seq _),E,tg,X,z,G,h=>ff h
 | .zip (.seq _) (.rng1 _),E,tg,X,z,G,h=>ff h
 | .zip (.seq _) (.rng2 _ _),E,tg,X,z,G,h=>ff h
 | .zip (.seq _) (.rng3 _ _ _),E,tg,X,z,G,h=>ff h
 | .zip (.seq _) (.rngD _),E,tg,X,z,G,h=>ff h
 | .zip (.seq _) (.enum _),E,tg,X,z,G,h=>ff h
 | .zip (.seq _) (.zip _ _),E,tg,X,z,G,h=>ff h
 | .zip (.seq _) (.items _),E,tg,X,z,G,h=>ff h
 | .zip (.rng1 _) _,E,tg,X,z,G,h=>ff h
 | .zip (.rng2 _ _) _,E,tg,X,z,G,h=>ff h
 | .zip (.rng3 _ _ _) _,E,tg,X,z,G,h=>ff h
 | .zip (.rngD _) _,E,tg,X,z,G,h=>ff h
 | .zip (.enum _) _,E,tg,X,z,G,h=>ff h
 | .zip (.zip _ _) _,E,tg,X,z,G,h=>ff h
 | .zip (.items _) _,E,tg,X,z,G,h=>ff h
 | .items _,E,tg,X,z,G,h=>ff h
theorem sL:∀(l:DV.L) (E:Expr) (X:Cx) (J:Ck),CG Γ F n X J->∀ k,mL J k l E=true->LK Γ X (DV.evL F l) E k
 | .comp tg it e caps,E,X,J,G,k,h=>by
  cases E with
  | ListComp elt gs scope p =>
   cases gs with
   | cons g gs1 =>
    cases g with
    | mk tgt iter ifs z =>
     cases ifs with
     | nil =>
      cases gs1 with
      | nil =>
       obtain⟨h,h3⟩:=zl h
       obtain⟨h,Z⟩:=zl h
       obtain⟨h0,Y⟩:=zl h
       have e0:=of_decide_eq_true h0
       subst e0
       have c:=be0 (pos:=p) G Y (sI it _ _ X J G Z) fun C cells s H ex=>(sE e _ _ _ ((G.comp Y).2.2 C cells s H ex).1 h3).1
       exact .c (c.eq fun ρ s=>rfl)
      | _=>exact ff h
     | _=>exact ff h
   | _=>exact ff h
  | _=>exact ff h
 | .compIf tg it i e caps,E,X,J,G,k,h=>by
  cases E with
  | ListComp elt gs scope p =>
   cases gs with
   | cons g gs1 =>
    cases g with
    | mk tgt iter ifs z =>
     cases ifs with
     | cons i1 ifs1 =>
      cases ifs1 with
      | nil =>
       cases gs1 with
       | nil =>
        obtain⟨h,h4⟩:=zl h
        obtain⟨h,h3⟩:=zl h
        obtain⟨h,Z⟩:=zl h
        obtain⟨h0,Y⟩:=zl h
        have e0:=of_decide_eq_true h0
        subst e0
        have c:=bw2 (pos:=p) G Y (sI it _ _ X J G Z) (fun C cells s H ex=>(sE i _ _ _ ((G.comp Y).2.2 C cells s H ex).1 h3).2) fun C cells s H ex=>(sE e _ _ _ ((G.comp Y).2.2 C cells s H ex).1 h4).1
        exact .c (c.eq fun ρ s=>rfl)
       | _=>exact ff h
      | _=>exact ff h
     | _=>exact ff h
   | _=>exact ff h
  | _=>exact ff h
 | .disp es,E,X,J,G,k,h=>by
  cases E with
  | List xs p =>
   obtain⟨h,Z⟩:=zl h
   obtain⟨h0,Y⟩:=zl h
   exact .f (of_decide_eq_true h0) (bu1 Y (of_decide_eq_true Z) (ao8 (sEs es _ X J G Y)))
  | _=>exact ff h
 | .seq e,E,X,J,G,k,h=>by
  obtain⟨h0,Y⟩:=zl h
  exact .s (of_decide_eq_true h0) ((sE e _ X J G Y).1.imp fun σ H Q q=>bB8 (TLv.eq (fun ρ s=>rfl) q))
 | .itm _,E,X,J,G,k,h=>ff h
end
end
section
variable {Γ:Gm} {F:ln} {n:Nat}
theorem aZ6 {X:Cx}{ck:Ck}{m:kU->kR->kW (List kS)}{E:Expr}{x:Str}{i:Nat}{px pos:Pos}(G:CG Γ F n X ck)(c:CompF Γ X m E)(hi:ck.N[i]?=some x)(hl:ck.loc x=true) :
  PS X (.Assign [.Name x px] E pos) (bf1 (TFv Γ m) (au8 i)):=by
 obtain⟨Y,Z,iter,C,scope,p2,N',h,wi,g,tc,te,rfl,h1,h2,h3,h4,h5⟩:=c.ex
 obtain⟨l1,l2⟩:=G.loc hl
 have nd:X.N.Nodup:=by rw[G.N];exact G.nd
 have z:X.N[i]?=some x:=by rw[G.N];exact hi
 generalize hb:((X.env.blockKind==.function&&X.env.kindOf x==some .local&&px.line==(Expr.ListComp Y [⟨Z,iter,C,0⟩] scope p2).pos.line&&!(scope.names.any fun(n,k)=>n==x&&(k==.local||k==.cell))))=b
 have a0:fq (.ListComp Y [⟨Z,iter,C,0⟩] scope p2) (some (.Name x px)) pos.line X.env=pure b:=by rw[<-hb];rfl
 have imp:∀ D σ H,bf1 (TFv Γ m) (au8 i) D σ H->bf1 (tComp h wi g tc te) (au8 i) D σ H:=fun D σ H q=>h5 _ _ _ q
 cases b with
 | true =>
  have J:X.env.scope.names.lookup x=some .local:=by
   simp only[ah]at hb
   exact eq_of_beq hb.1.1.2
  exact(aO5 N' h nd z J h1 h2 G.calm h3 h4 a0).imp imp
 | false=>exact(bj6 nd z l1 (aQ0 N' h h1 h2 G.calm h3 h4) a0 l2).imp imp
theorem bv1 {X:Cx}{z:Ck}{e:l6}{v:Expr}{x:Str}{i:Nat}{px pos:Pos}(G:CG Γ F n X z)(J:z.N[i]?=some x)(hl:z.loc x=true)(h:mE z e v=true) :
  PS X (.Assign [.Name x px] v pos) (TSv Γ (DV.ex F (.asg (.one i) e))):=by
 obtain⟨l1,Y⟩:=G.loc hl
 have nd:X.N.Nodup:=by rw[G.N];exact G.nd
 have C:X.N[i]?=some x:=by rw[G.N];exact J
 by_cases hc:av6 v=true
 ·exact(bj6 nd C l1 (sE e v X z G h).1 (at1 hc) Y).imp fun D σ H q=>aP9 (tg:=.one i) (TSv.eq (fun ρ s=>rfl) q)
 ·have hs:=aI9 h
  cases v with
  | ListComp elt gs sc p =>
   cases e with
   | mk k l =>
    obtain⟨h1,Z⟩:=zl h
    have e:=of_decide_eq_true h1
    subst e
    exact(aZ6 G (bD7 (sL l _ X z G 0 Z)) J hl).imp fun D σ H q=>bf2 (tg:=.one i) (TSv.eq (fun ρ s=>rfl) q)
   | _=>exact ff h
  | SetComp _ _ _ _=>cases hs
  | DictComp _ _ _ _ _=>cases hs
  | _=>exact absurd rfl hc
mutual
theorem sS:∀(st:DV.S) (S:Stmt) (X:Cx) (z:Ck),CG Γ F n X z->mS z st S=true->PS X S (TSv Γ (DV.ex F st))
 | .asg tg e,S,X,z,G,h=>by
  cases S with
  | Assign ts v p =>
   cases ts with
   | cons t ts1 =>
    cases ts1 with
    | nil =>
     obtain⟨h,h3⟩:=zl h
     obtain⟨J,C⟩:=zl h
     cases tg with
     | one i =>
      have h:=J
      cases t with
      | Name x px =>
       obtain⟨a1,Y⟩:=zl h
       exact bv1 G (of_decide_eq_true a1) Y C
      | _=>exact ff h
     | tup is =>
      obtain⟨a1,Y⟩:=zl h3
      have h:=J
      cases t with
      | Tuple te tk tp=>exact(bk8 (sE e _ X z G C).1 (bz1 G J) (show fq v (some (.Tuple te tk tp)) p.line X.env=pure false from at1 Y) (aN7 a1) rfl).imp fun D σ H q=>aP9 (TSv.eq (fun ρ s=>rfl) q)
      | _=>exact ff h
    | _=>exact ff h
   | _=>exact ff h
  | _=>exact ff h
 | .setIx o i e,S,X,z,G,h=>by
  cases S with
  | Assign ts v p2 =>
   cases ts with
   | cons tt ts1 =>
    cases tt with
    | Subscript ob ix p1 =>
     cases ts1 with
     | nil =>
      obtain⟨h,h4⟩:=zl h
      obtain⟨h,h3⟩:=zl h
      obtain⟨J,C⟩:=zl h
      have Z:=aI9 C
      refine(bk8 (sE e _ X z G h3).1 (bH8 (sE o _ X z G J).1 (sE i _ X z G C).1 (bI4 (ak4 G.room)) ?_) (show fq v (some (.Subscript ob ix p1)) p2.line X.env=pure false from at1 h4) aM6 ?_).imp fun D σ H q=>bb2 (TSv.eq (fun ρ s=>rfl) q)
      ·intro w
       cases ix<;>first|rfl|cases Z
      ·rfl
     | _=>exact ff h
    | _=>exact ff h
   | _=>exact ff h
  | _=>exact ff h
 | .aug _ _,S,X,z,G,h=>ff h
 | .ex e,S,X,z,G,h=>by
  cases S with
  | Expr v p =>
   obtain⟨J,C⟩:=zl h
   exact(by8 (sE e _ X z G J).1 (at1 C)).imp fun D σ H q=>bu5 (TSv.eq (fun ρ s=>rfl) q)
  | _=>exact ff h
 | .ret e,S,X,z,G,h=>by
  cases S with
  | Return vo p =>
   cases vo with
   | some v =>
    exact(bj3 (sE e _ X z G h).1).imp fun D σ H q=>bO7 (TSv.eq (fun ρ s=>rfl) q)
   | _=>exact ff h
  | _=>exact ff h
 | .retN,S,X,z,G,h=>ff h
 | .ite c a b,S,X,z,G,h=>by
  cases S with
  | If t l r p =>
   obtain⟨h,h3⟩:=zl h
   obtain⟨J,C⟩:=zl h
   exact(bX9 (sE c _ X z G J).2 (sSs a _ X z G C) (sSs b _ X z G h3)).imp fun D σ H q=>bY0 (TSv.eq (fun ρ s=>rfl) q)
  | _=>exact ff h
 | .whl c b,S,X,z,G,h=>by
  cases S with
  | While t l o p =>
   cases o with
   | nil =>
    obtain⟨J,C⟩:=zl h
    exact(ba3 (by rw[G.xe];exact jS) (sE c _ X z G J).2 (sSs b _ X z G C)).imp fun D σ H q=>bd6 (TSv.eq (fun ρ s=>rfl) q)
   | _=>exact ff h
  | _=>exact ff h
 | .for_ tg it b,S,X,z,G,h=>by
  cases S with
  | For tgt iter l o p =>
   cases o with
   | nil =>
    obtain⟨h,h3⟩:=zl h
    obtain⟨J,C⟩:=zl h
    exact(bF6 (by rw[G.xe];exact jS) G.calm (sI it _ _ X z G C) (bz1 G J) (sSs b _ X z G h3) (aD0 (bI8 C))).imp fun D σ H q=>bG8 (TSv.eq (fun ρ s=>rfl) q)
   | _=>exact ff h
  | _=>exact ff h
 | .pass,S,X,z,G,h=>ff h
 | .cont,S,X,z,G,h=>ff h
 | .brk,S,X,z,G,h=>ff h
 | .und _,S,X,z,G,h=>ff h
 | .raise,S,X,z,G,h=>be8.imp fun D σ H q=>by
  obtain⟨φ,ρ,s,c,s',E,R,hm,q⟩:=q
  cases hm
theorem sSs:∀(st:DV.Ss) (S:List Stmt) (X:Cx) (z:Ck),CG Γ F n X z->mSs z st S=true->PSs X S (TSv Γ (DV.exs F st))
 | .nil,S,X,z,G,h=>by
  cases S with
  | nil =>
   exact aQ3.imp fun D σ H q=>bq2 (m:=DV.exs F .nil) (fun ρ s=>rfl) q
  | _=>exact ff h
 | .cons s ss,S,X,z,G,h=>by
  cases S with
  | cons x xs =>
   obtain⟨J,C⟩:=zl h
   exact(aI4 (sS s _ X z G J) (sSs ss _ X z G C)).imp fun D σ H q=>bF7 (TSv.eq (fun ρ s=>rfl) q)
  | _=>exact ff h
end
end
noncomputable def ca4 (ck:Ck):List String->List Expr->Bool
 | [],xs=>match xs with|[]=>true|_=>false
 | c::cs,xs=>match xs with|.Name x _::es=>decide (x=(c:Str))&&ck.gl x&&ca4 ck cs es|_=>false
noncomputable def mHT (ck:Ck)(n:Str):DV.HT->Expr->Bool
 | .isi cs,E=>match E with|.Call (.Name g _) [.Name x _,.Tuple es _ _] [] _=>decide (g=("isinstance":Str))&&ck.gl g&&decide (x=n)&&ca4 ck cs es&&decide (cs.length<=1000)|_=>false
 | .one c,E=>match E with|.Call (.Name g _) [.Name x _,.Name d _] [] _=>decide (g=("isinstance":Str))&&ck.gl g&&decide (x=n)&&decide (d=(c:Str))&&ck.gl d|_=>false
 | .not t,E=>match E with|.UnaryOp .Not e _=>mHT ck n t e|_=>false
 | .or a b,E=>match E with|.BoolOp .Or [x,y] _=>mHT ck n a x&&mHT ck n b y|_=>false
noncomputable def mHd (ck:Ck)(n:Str):DV.Hd->List Stmt->Bool
 | .ret t,S=>match S with|[.Return (some e) _]=>mHT ck n t e|_=>false
 | .iff t b h,S=>match S with|.If e [.Return (some (.Constant (.bool b') _ _)) _] [] _::rest=>mHT ck n t e&&decide (b'=b)&&mHd ck n h rest|_=>false
section
variable {Γ:Gm} {F:ln} {n:Nat} {X:Cx} {ck:Ck} {a C:Addr} {oe:Obj}
end
noncomputable def mX (ck:Ck):DV.XB->List Stmt->Bool
 | .no,_=>true
 | .rais c,S=>match S with|.Raise (some (.Call (.Name x _) [.Constant (.str _) _ _] [] _)) none _::_=>decide (x=(c:Str))&&ck.gl x|_=>false
 | .call f as,S=>match S with
  | .Return (some (.Call (.Name x _) (e::es) [] _)) _::_=>decide (x=(f:Str))&&ck.gl x&&mAs ck as (e::es)
  | .Expr (.Call (.Name x _) (e::es) [] _) _::_=>decide (x=(f:Str))&&ck.gl x&&mAs ck as (e::es)
  | _=>false
 | .iteT c a r,S=>match S with|.If t l [] _::rest=>mE ck c t&&mX ck a l&&mX ck r rest|_=>false
 | .seq s b,S=>match S with|x::rest=>mS ck s x&&mX ck b rest|_=>false
noncomputable def noR:DV.XB->Bool
 | .rais _=>false
 | .iteT _ a r=>noR a&&noR r
 | .seq _ b=>noR b
 | _=>true
section
variable {Γ:Gm} {F:ln} {n:Nat} {X:Cx} {ck:Ck} {a C:Addr} {oe:Obj}
end
section
variable {Γ:Gm}
theorem aD3 {φ φ1:Nat->Addr}{H z:Hp}{s s1:kR}(R:Rp Γ φ H s)(g:Gr φ s H φ1 s1 z)(ho:mZ s s1=true){i:Nat}{o:lC}(C:i<s.length)(e:s1[i]?=some o):o.bnd s.length=true:=by
 unfold mZ at ho
 have:=aU.mp ho i (cz.mpr C)
 rw[e,bH]at this
 rcases this with h|h
 ·exact R.wf i o (of_decide_eq_true h).symm
 ·exact h
theorem qb {s1:kR}{k i:Nat}{o:lC}(e:(s1.take k)[i]?=some o):i<k/\s1[i]?=some o:=by
 rw[jc]at e
 split at e
 ·exact⟨‹_›,e⟩
 ·cases e
theorem aN0 {φ φ1:Nat->Addr}{H h:Hp}{s s1:kR}(R:Rp Γ φ H s)(g:Gr φ s H φ1 s1 h)(R1:Rp Γ φ1 h s1)(ho:mZ s s1=true):Gr φ s H φ1 (s1.take s.length) h/\Rp Γ φ1 h (s1.take s.length):=by
 have hl:(s1.take s.length).length=s.length:=by rw[bE];have:=g.le;omega
 refine⟨⟨g.w,by rw[hl];exact aj _,fun i G F=>by rw[hl]at F;omega,fun i o C e e'=>g.kd i o C e (qb e').2,g.st,g.fr⟩,fun i j o C e e' m m' z=>R1.inj i j o C (qb e).2 (qb e').2 m m' z,fun i o e=>R1.obj i o (qb e).2,fun i o e=>?_,R1.tab⟩
 rw[hl]
 exact aD3 R g ho (qb e).1 (qb e).2
theorem ar3 {φ φ1:Nat->Addr}{H G:Hp}{s s1 s':kR}{v0 d:kS}{v:V}(R:Rp Γ φ H s)(g:Gr φ s H φ1 s1 G)(R1:Rp Γ φ1 G s1)(hb:v0.bnd s1.length=true)(r:RV Γ φ1 G v0 v)(h:DV.zy s v0 s1=.ok d s') :
  ∃ φ',Gr φ s H φ' s' G/\s.length<=s'.length/\d.bnd s'.length=true/\RV Γ φ' G d v/\Rp Γ φ' G s':=by
 have all:d=v0->s'=s1->∃ φ',Gr φ s H φ' s' G/\s.length<=s'.length/\d.bnd s'.length=true/\RV Γ φ' G d v/\Rp Γ φ' G s':=fun e1 e2=>by
  subst e1;subst e2
  exact⟨φ1,g,g.le,hb,r,R1⟩
 unfold DV.zy at h
 split at h
 case isFalse=>cases h;exact all rfl rfl
 rename_i ho
 obtain⟨gt,Rt⟩:=aN0 R g R1 ho
 have hl:(s1.take s.length).length=s.length:=by rw[bE];have:=g.le;omega
 have tk:d=v0->s'=s1.take s.length->v0.bnd s.length=true->∃ φ',Gr φ s H φ' s' G/\s.length<=s'.length/\d.bnd s'.length=true/\RV Γ φ' G d v/\Rp Γ φ' G s':=fun e1 e2 b=>by
  subst e1;subst e2
  exact⟨φ1,gt,by rw[hl];exact aj _,by rw[hl];exact b,r,Rt⟩
 split at h
 ·rename_i k
  split at h
  ·cases h
   exact tk rfl rfl (by unfold kY;exact decide_eq_true ‹_›)
  ·rename_i hk
   split at h
   ·rename_i o Y
    split at h
    ·rename_i J
     cases h
     have gw:Gw φ1 s.length G (fun i=>if i=s.length then φ1 k else φ1 i) G:=⟨fun i z=>if_neg (az z),Kp.refl _⟩
     have key:∀(i:Nat) (F:lC),(s1.take s.length++[o])[i]?=some F->(i<s.length/\s1[i]?=some F)\/(i=s.length/\F=o):=fun i F e=>by
      rcases d8 i s.length with h|h|h
      ·rw[aJ (by rw[hl];exact h)]at e;exact .inl (qb e)
      ·subst h
       rw[aF (by rw[hl];exact aj _),hl,c7]at e
       exact .inr ⟨rfl,(av e).symm⟩
      ·rw[bG (by rw[aG,hl];simp;omega)]at e;cases e
     have C:(s1.take s.length++[o]).length=s.length+1:=by rw[aG,hl];rfl
     refine⟨fun i=>if i=s.length then φ1 k else φ1 i,⟨⟨fun i z=>?_,g.w.kp⟩,by rw[C];omega,fun i h1 h2=>?_,fun i oo F e e'=>?_,g.st,g.fr⟩,by rw[C];omega,by unfold kY;rw[C];exact decide_eq_true (eI _),?_,⟨fun i j oi oj Z a0 mi mj e=>?_,fun i F e=>?_,fun i F e=>?_,R1.tab⟩⟩
     ·show(if i=s.length then φ1 k else φ1 i)=φ i
      rw[if_neg (az z)];exact g.w.map i z
     ·rw[C]at h2
      show H (if i=s.length then φ1 k else φ1 i)=none
      rw[if_pos (by omega)]
      exact g.new k (by omega) (ac.mp Y).1
     ·rcases key i F e' with⟨_,e2⟩|⟨z,_⟩
      ·exact g.kd i oo F e e2
      ·have:=(ac.mp e).1;omega
     ·rw[r.refE]
      unfold RV
      show V.ref (φ1 k)=V.ref (if s.length=s.length then φ1 k else φ1 s.length)
      rw[if_pos rfl]
     ·rcases key i oi Z with⟨z,ei⟩|⟨z,zi⟩<;>rcases key j oj a0 with⟨hj,ej⟩|⟨hj,zj⟩
      ·rw[if_neg (az z),if_neg (az hj)]at e
       exact R1.inj i j oi oj ei ej mi mj e
      ·rw[if_neg (az z),if_pos hj]at e
       subst zj
       have:=R1.inj i k oi _ ei Y mi mj e
       omega
      ·rw[if_neg (az hj),if_pos z]at e
       subst zi
       have:=R1.inj k j _ oj Y ej mi mj e
       omega
      ·rw[z,hj]
     ·rcases key i F e with⟨z,e⟩|⟨z,rfl⟩
      ·show RO Γ _ _ (if i=s.length then φ1 k else φ1 i) F
       rw[if_neg (az z)]
       exact(R1.obj i F e).mono gw (aD3 R g ho z e) fun _ u hu=>hu
      ·show RO Γ _ _ (if i=s.length then φ1 k else φ1 i) F
       rw[if_pos z]
       exact(R1.obj k _ Y).mono gw J fun _ u hu=>hu
     ·rw[C]
      rcases key i F e with⟨z,e⟩|⟨_,rfl⟩
      ·exact zS (dB _) _ (aD3 R g ho z e)
      ·exact zS (dB _) _ J
    ·cases h;exact all rfl rfl
   ·exact fb h
 ·split at h
  ·cases h;exact tk rfl rfl ‹_›
  ·cases h;exact all rfl rfl
structure LamGood (J:LamI)(L:ma):Prop where
 sc:LamScope (J.ps++J.fr) J.ps J.fr J.scope
 ps:J.ps.length=L.ps
 fr:J.fr.length=L.cs
 m:mE (ck0 (J.ps++J.fr) J.scope) L.body J.body=true
 pa:lamArgs J.params=some J.ps
 bind:∀(clos:List (Str×Addr)) (doc pm:Value) (c':Addr) (ctv:Value) (us:List Value),us.length=J.ps.length->dZ (dC "<lambda>" J.qual J.params J.body J.scope clos pm (.ref c') ctv) ⟨us,[]⟩=pure (J.ps.zip us) /\
  ∀(nm:Str) (rp:Pos),dZ (fR nm J.qual J.params [.Return (some J.body) rp] J.scope clos .none .none doc pm none (.ref c') ctv) ⟨us,[]⟩=pure (J.ps.zip us)
structure LkAt (Γ:Gm)(cds:List (Addr×Addr))(f:Str)(sc:Scope)(N:List Str)(fd:bL)(id:String)(caps:List Nat)(params:bU)(body:Expr)(scope:Scope)(c P:Addr)(J:LamI):Prop where
 code:fd.code=.ref c
 cd:(c,P)∈cds
 ck:lamCheck scope sc=true
 fre:∀ x,scope.names.lookup x=some .free->sc.names.lookup x=some .cell
 cel:∀ y∈sc.names,y.2=.cell->sc.names.lookup y.1=some .cell
 df:∀ env,defaultsOf params env=([],[])
 lg:Γ.lg id J
 q:J.qual=f ++ ".<locals>."++J.own
 p:J.params=params
 b:J.body=body
 s:J.scope=scope
 len:J.fr.length=caps.length
 at_:∀(i j:Nat) (x:Str),caps[i]?=some j->J.fr[i]?=some x->N[j]?=some x
 fr:∀ x∈J.fr,scope.names.lookup x=some .free
 tab:(P,J.qual)∈Γ.T
def bP2 (Γ:Gm)(cds:List (Addr×Addr))(f:Str)(sc:Scope)(N:List Str)(fd:bL)(lk:String->List Nat->Expr->Bool):Prop :=
 ∀ id caps E,lk id caps E=true->∃ c P params body scope pos J,E=lamText J params body scope pos/\LkAt Γ cds f sc N fd id caps params body scope c P J
def GoodB (Γ:Gm)(cds:List (Addr×Addr))(mg:Str->Option Value)(f:String)(pc vc:Nat)(m:Ck->List Stmt->Bool):Prop:=∃ st N ps a fd lk,DefAt Γ.K mg (f:Str) st ps a fd/\FnScope N ps (defScope st)/\ps.length=pc/\N.length=pc+vc/\m ⟨N,defScope st,lk⟩ (zB st)=true/\bP2 Γ cds (f:Str) (defScope st) N fd lk
def Good (Γ:Gm)(cds:List (Addr×Addr))(mg:Str->Option Value)(f:String)(d:mf):Prop:=GoodB Γ cds mg f d.ps d.vs fun ck S=>mSs ck d.body S
noncomputable def mT (ck:Ck)(d:DV.Tf)(S:List Stmt):Bool:=match S with
 | st::rest=>(match st with|.Try tb hs [] [] _=>(match hs with|[eh]=>(match eh with|.ExceptHandler (some en) (some nm) hb _=>(match en,hb with|.Name x _,b::su=>mSs ck d.body tb&&(mX ck d.xb tb&&(noR d.xb&&(decide (x=(d.c:Str))&&(ck.gl x&&(decide (ck.N[d.i]?=some nm)&&((ck.sc.names.lookup nm==some .local)&&(!(nm==("__debug__":Str))&&(!(nm==("__classdict__":Str))&&(mHd ck nm d.h (b::su)&&mSs ck d.tl rest)))))))))|_,_=>false)|_=>false)|_=>false)|_=>false)
 | _=>false
structure PrOk (Γ:Gm)(cds:List (Addr×Addr))(P:lp)(mg:Str->Option Value)(w:World):Prop where
 df:∀ f d,P.df f=some d->Good Γ cds mg f d
 con:∀ x d,P.con x=some d->∃ v u,mg (x:Str)=some u/\RelV v u/\(∀ m,d.bnd m=true)/\∀ φ H,RV Γ φ H d v
 bi:∀ x∈bNames,mg x=none
 fa:∀(f:String) (a:Addr),Γ.fa f=some a->mg (f:Str)=some (.ref a)/\∃ oc od fd sl,Γ.K.lookup a=some ⟨oc,od,.func fd,sl⟩
 lg:∀ id J,Γ.lg id J->∃ L,P.lm id=some L/\LamGood J L
 nd:(Γ.T.map (·.1)).Nodup
 xf:∀ f d,P.xf f=some d->GoodB Γ cds mg f d.ps d.vs fun ck S=>mX ck d.body S
 tf:∀ f d,P.tf f=some d->GoodB Γ cds mg f d.ps d.vs fun ck S=>mT ck d S
 xc:∀ c:String,P.xc c=true->∃ C,mg (c:Str)=some (.ref C)/\ExcCls Γ.K C/\excI Γ.K C=true
 xt:∀ c:String,P.xt c=true->∃ C,mg (c:Str)=some (.ref C)
 xs:∀(c d:String) (C D:Addr),P.xc c=true->P.xt d=true->mg (c:Str)=some (.ref C)->mg (d:Str)=some (.ref D)->bZ Γ.K (.ref C) (.ref D)=some (DV.subC c d)
 cdc:∀(c:String) kvs,P.cdc c=some kvs->∃ a,mg (c:Str)=some (.ref a)/\∀(prog:aB) (h:Heap),Γ.K.In h->StrTab prog w h a (strD kvs)
noncomputable def aG9 (Γ : Gm) (prog : Program) (w : World) (mg : Str -> Option Value) (base : Heap) (F : DV.Fns) (n : Nat) : Prop := (∀ f : String, (∀ l s, F.call f l s = .bad) \/
      ∃ a fd ps, FnOk prog w Γ.K mg base CX0 n a fd ps (spV Γ (F.call f)) /\ mg (f : Str) = some (.ref a) /\ cE Γ.K (.ref a) = true /\ Binds Γ.K fd ps []) /\
  ∀(id : String) (J : LamI) (f : Addr) (cap : List V) (clos : List (Str × Addr)), Γ.lg id J -> cap.length = J.fr.length -> ClOk prog w Γ.K mg base n (fun H => CloAt H f J cap clos) f (spL Γ (F.lam id) cap)
theorem bf6 {φ:Nat->Addr}{H:Hp}{n k:Nat}{N:List Str}{l:List kS}{vs:List V}(r:RVL Γ φ H l vs)(b:kT n l=true)(hN:N.length=l.length+k):RE Γ φ H n (l.map some++au k none) (ag5 N vs):=by
 have hl:=r.length
 refine⟨?_,fun i d e=>?_⟩
 ·unfold ag5;simp[hl,hN]
 ·by_cases hi:i<l.length
  ·rw[aJ (by simpa using hi),aA]at e
   have e':l[i]?=some d:=by
    rw[ai hi]at e ⊢
    exact av e
   obtain⟨v,e1,e2⟩:=r.get e'
   refine⟨aj1 b e',v,?_,e2⟩
   unfold ag5
   rw[aJ (by rw[ay,hl];exact hi),aA,e1];rfl
  ·rw[aF (by simpa using jF hi)]at e
   rw[gf]at e
   split at e<;>cases e
theorem bl9 {C:List (Addr×Addr)}{P:lp}{prog:aB}{w:World}{F:Str->Option Value}(J:PrOk Γ C P F w)(n:Nat):∀(c:String) z,(la P n).cdc c=some z->∃ a,F (c:Str)=some (.ref a)/\∀ h:Heap,Γ.K.In h->StrTab prog w h a (strD z):=by
 have:(la P n).cdc=P.cdc:=by cases n<;>rfl
 rw[this]
 intro c z e
 obtain⟨a,Y,G⟩:=J.cdc c z e
 exact⟨a,Y,G prog⟩
theorem bJ9 {G:List (Addr×Addr)}{P:lp}{prog:aB}{w:World}{mg:Str->Option Value}{base:Heap}(Z:PrOk Γ G P mg w)(hb:∀ y∈G,cF base y.1 y.2/\BM mg base)(n:Nat)(C:aG9 Γ prog w mg base (la P n) (n+31))
  {f:String} {st:Stmt} {N ps:List Str} {a:Addr} {fd:bL} {lk:String->List Nat->Expr->Bool} (hS:FnScope N ps (defScope st)) (hL:bP2 Γ G (f:Str) (defScope st) N fd lk) (F:Value) (a6:∀ id h E,lk id h E=true->fd.code=F) (A:aN) (Y:List Env) (sh:af) (H:Hp) (E:XK) (hr:Room (n+31) (A.deeper (fx (f:Str) (defScope st) sh.heap.objs.size a F))) :
  CG Γ (la P n) (n+31) (bd8 CX0 prog w Γ.K mg base N (f:Str) (defScope st) a F A Y sh H E).nox ⟨N,defScope st,lk⟩:=by
 refine⟨rfl,rfl,hS.nd,rfl,rfl,?_,hr,fun x k e=>.inl e,fun _ _=>rfl,Z.bi,C.1,?_,fun id h E' a1=>?_,C.2,Z.fa,DV.ad9 P n,bl9 Z n⟩
 ·show li+1<=n+31
  unfold li;omega
 ·have:(la P n).con=P.con:=by cases n<;>rfl
  rw[this];exact Z.con
 ·obtain⟨c,Pa,params,body,scope,pos,J,eE,L⟩:=hL id h E' a1
  obtain⟨a5,a2⟩:=hb _ L.cd
  obtain⟨L',_,lg⟩:=Z.lg id J L.lg
  refine⟨c,Pa,params,body,scope,pos,J,eE,⟨?_,a5,a2,L.ck,L.df _,L.lg,L.q,L.p,L.b,L.s,L.len,L.at_,L.fr,fun x hx=>?_,L.tab,Z.nd,fun _=>rfl,fun x c hx=>?_,lg.sc,lg.pa,fun a0 pm c' a4 us a3=>(lg.bind a0 .none pm c' a4 us a3).1⟩⟩
  ·show F=.ref c
   rw[<-a6 id h E' a1];exact L.code
  ·exact zM (L.fre x hx)
  ·rcases zq (aC hx)with z|z
   ·exact .inl (L.cel (x,.cell) z rfl)
   ·exact absurd z (by simp)
theorem bK1 {Z:List (Addr×Addr)}{P:lp}{prog:aB}{w:World}{mg:Str->Option Value}{base:Heap}(hP:PrOk Γ Z P mg w)(hb:∀ y∈Z,cF base y.1 y.2/\BM mg base)(n:Nat)(a0:aG9 Γ prog w mg base (la P n) (n+31))
  {f:String} {d:mf} (e:P.df f=some d) {st:Stmt} {N ps:List Str} {a:Addr} {fd:bL} {lk:String->List Nat->Expr->Bool} (hD:DefAt Γ.K mg (f:Str) st ps a fd) (hS:FnScope N ps (defScope st)) (h1:ps.length=d.ps) (h2:N.length=d.ps+d.vs) (hm:mSs ⟨N,defScope st,lk⟩ d.body (zB st)=true) (hL:bP2 Γ Z (f:Str) (defScope st) N fd lk) :
  FnOk prog w Γ.K mg base CX0 (n+1+31) a fd ps (spV Γ ((la P (n+1)).call f)):=by
 have Y:∀ vs H Q E,spV Γ ((la P (n+1)).call f) vs H Q E->vs.length=ps.length:=fun vs H Q E q=>by
  obtain⟨φ,s,l,d',s',R,r,b,hc,k⟩:=q
  simp only[la,e]at hc
  split at hc
  ·rw[r.length,h1];assumption
  ·exact fb hc
 have body:∀(C:Value),(∀ id z E,lk id z E=true->fd.code=C)->∀(A:aN) (F:List Env) (sh:af) (H:Hp) (vs:List V) (Q:VK) (E:XK),Room (n+31) (A.deeper (fx (f:Str) (defScope st) sh.heap.objs.size a C))->spV Γ ((la P (n+1)).call f) vs H Q E ->
   ∃ t,PSs (bd8 CX0 prog w Γ.K mg base N (f:Str) (defScope st) a C A F sh H E).nox (zB st) t/\t { nx:=fun _ H'=>Q .non H',rt:=Q } (ag5 N vs) H:=by
  intro C a3 A F sh H vs Q E hr q
  have G:=bJ9 hP hb n a0 hS hL (a:=a) C a3 A F sh H E hr
  refine⟨_,sSs d.body (zB st) _ ⟨N,defScope st,lk⟩ G hm,?_⟩
  obtain⟨φ,s,l,d',s',R,r,b,hc,k⟩:=q
  simp only[la,e]at hc
  split at hc
  case isFalse=>exact fb hc
  rename_i Y
  obtain⟨c,s1,e1,hc⟩:=aa0 hc
  refine⟨φ,l.map some++au d.vs none,s,c,s1,bf6 r b (by rw[h2,Y]),R,e1,fun φ1 H1 g1 l1 R1=>?_⟩
  cases c with
  | ret v0 =>
   intro v hb rv
   obtain⟨φ',g',l',b',r',R'⟩:=ar3 R g1 R1 hb rv hc
   exact k v φ' H1 g' l' b' r' R'
  | next ρ =>
   intro σ' _
   obtain⟨φ',g',l',b',r',R'⟩:=ar3 (v0:=.non) R g1 R1 rfl RV.nonI hc
   exact k .non φ' H1 g' l' b' r' R'
  | cont ρ=>exact fb hc
  | brk ρ=>exact fb hc
 by_cases hl:∃ id z E,lk id z E=true
 ·obtain⟨id,z,E,a2⟩:=hl
  obtain⟨c,Pa,params,a1,scope,pos,J,eE,L⟩:=hL id z E a2
  exact hD.fn.okC L.code hS Y (body _ fun _ _ _ _=>L.code)
 ·exact hD.fn.ok hS Y (fun C=>body C fun id z E h=>absurd ⟨id,z,E,h⟩ hl)
theorem bv9 {a8:List (Addr×Addr)}{P:lp}{prog:aB}{w:World}{mg:Str->Option Value}{base:Heap}(hP:PrOk Γ a8 P mg w)(n:Nat)(Z:aG9 Γ prog w mg base (la P n) (n+31))
  (id:String) (J:LamI) (f:Addr) (cap:List V) (C:List (Str×Addr)) (b0:Γ.lg id J) (a0:cap.length=J.fr.length) :
  ClOk prog w Γ.K mg base (n+1+31) (fun H=>CloAt H f J cap C) f (spL Γ ((la P (n+1)).lam id) cap):=by
 obtain⟨L,eL,LG⟩:=hP.lg id J b0
 have a2:∀ vs H Q E,spL Γ ((la P (n+1)).lam id) cap vs H Q E->vs.length=J.ps.length:=fun vs H Q E q=>by
  obtain⟨φ,s,cs,l,d,s',R,r,rc,b,bc,hc,k⟩:=q
  simp only[la,eL]at hc
  split at hc
  ·rename_i hh;rw[r.length,LG.ps];exact hh.1
  ·exact fb hc
 have main:∀(A:aN) (F:List Env) (sh:af) (H:Hp) (cd:Value) (vs:List V) (Q:VK),Room (n+31) (A.deeper (c5 J.qual J.scope sh.heap.objs.size f cd (aK (sh.heap.objs.size+1) J.scope.names C)))->Cells C H->(∀ b o,Γ.K.lookup b=some o->H b=none)->spL Γ ((la P (n+1)).lam id) cap vs H Q E0 ->
   ∃ t,PE (aC8 prog w Γ.K mg base (J.ps++J.fr) J.qual J.scope f cd C A F sh H) J.body t/\t (vs.map some++cap.map some) (ab6 C H) fun v H'=>(∀ b,isC C b=true->H' b=none)->Q v (Put C H H'):=by
  intro A F sh H cd vs Q hr z hK q
  have G:CG Γ (la P n) (n+31) (aC8 prog w Γ.K mg base (J.ps++J.fr) J.qual J.scope f cd C A F sh H) (ck0 (J.ps++J.fr) J.scope):=by
   refine⟨rfl,rfl,LG.sc.nd,rfl,rfl,?_,hr,fun x k e=>.inl e,fun x e=>?_,hP.bi,Z.1,?_,fun _ _ _ h=>(by cases h),Z.2,hP.fa,DV.ad9 P n,bl9 hP n⟩
   ·show li+1<=n+31
    unfold li;omega
   ·show(J.scope.names.lookup x==some .cell)=true
    rw[show J.scope.names.lookup x=some .cell from e];rfl
   ·have:(la P n).con=P.con:=by cases n<;>rfl
    rw[this];exact hP.con
  refine⟨_,(sE L.body J.body _ (ck0 (J.ps++J.fr) J.scope) G LG.m).1,?_⟩
  obtain⟨φ,s,cs,l,d,s',R,r,rc,b,bc,hc,k⟩:=q
  simp only[la,eL]at hc
  split at hc
  case isFalse=>exact fb hc
  rename_i hh
  obtain⟨h1,h2,h3⟩:=hh
  rw[ah,ah]at h3
  obtain⟨⟨b3,b2⟩,a7⟩:=h3
  obtain⟨v0,s1,e1,hc⟩:=aa0 hc
  have RD:Rp Γ φ (ab6 C H) s:=R.dropC z a7
  have a6:RVL Γ φ (ab6 C H) (l++cs) (vs++cap):=(RVL.dropC z l vs b3 r).append (RVL.dropC z cs cap b2 rc)
  refine⟨φ,l.map some++cs.map some,s,v0,s1,⟨by simp[r.length,rc.length],fun i x ei=>?_⟩,RD,e1,fun v φ1 H1 g1 l1 b1 r1 R1 a1=>?_⟩
  ·rw[<-dg,aA]at ei
   have a4:(l++cs)[i]?=some x:=by
    cases q:(l++cs)[i]? with
    | none=>rw[q]at ei;cases ei
    | some y=>rw[q]at ei;cases ei;rfl
   obtain⟨u,e3,e4⟩:=a6.get a4
   refine⟨aj1 (zJ b bc) a4,u,?_,e4⟩
   rw[<-dg,aA,e3];rfl
  ·obtain⟨φ',g',l',b',r',R'⟩:=ar3 RD g1 R1 b1 r1 hc
   have gp:=Gr.put z a1 hK R' g'
   obtain⟨gs,Rs⟩:=R'.same (aS4 (H:=H) a1)
   exact k v φ' _ gp l' b' (RV.mono gs d v b' r') Rs
 unfold CloAt
 cases q:J.nm with
 | none=>exact by5 LG.sc a2 a0 (fun pm c' Y us a3=>(LG.bind C .none pm c' Y us a3).1) (fun A F sh H cd vs Q hr hat hK q=>by
   obtain⟨pm,c',Y,_,_,z,_⟩:=hat
   exact main A F sh H cd vs Q hr z hK q)
 | some p=>exact by7 LG.sc a2 a0 (fun a5 pm c' Y us a3=>(LG.bind C a5 pm c' Y us a3).2 _ _) (fun A F sh H cd vs Q hr hat hK q=>by
   obtain⟨a5,pm,c',Y,_,_,z,_⟩:=hat
   obtain⟨t,h1,h2⟩:=main A F sh H cd vs Q hr z hK q
   exact⟨_,aI4 (bj3 h1) aQ3,h2⟩)
theorem aF5 {z:List (Addr×Addr)}{P:lp}{prog:aB}{w:World}{mg:Str->Option Value}{base:Heap}(C:PrOk Γ z P mg w)(hb:∀ y∈z,cF base y.1 y.2/\BM mg base)(Z:∀ f,P.tf f=none):∀ n:Nat,aG9 Γ prog w mg base (la P n) (n+31)
 | 0=>⟨fun f=>.inl fun l s=>rfl,fun id J f cap h _ _=>⟨fun A G s H us vs Q _ _ _ _ q=>by
   obtain⟨φ,s,cs,l,d,s',R,r,rc,b,bc,hc,k⟩:=q
   cases hc⟩⟩
 | n+1=>by
  have ih:=aF5 (prog:=prog) (w:=w) (base:=base) C hb Z n
  refine⟨fun f=>?_,fun id J f cap h Y F=>bv9 C n ih id J f cap h Y F⟩
  cases e:P.df f with
  | none=>exact .inl fun l s=>by simp only[la,e,Z f]
  | some d =>
   obtain⟨st,N,ps,a,fd,lk,hD,hS,Y,F,hm,hL⟩:=C.df f d e
   exact .inr ⟨a,fd,ps,bK1 C hb n ih e hD hS Y F hm hL,hD.mg,hD.fn.kp,hD.bi⟩
def spT (Γ:Gm):Sp:=fun vs H Q _=>∃(a:Addr) (ns:List Int),vs=[.ref a]/\SqF Γ.K H a (ns.map V.int)/\ns.length<=63/\TabsH Γ.T H/\∀ H',Q (.bl true) H'
theorem aF0 {φ:Nat->Addr}{H:Hp}:∀ ns:List Int,RVL Γ φ H (ns.map DV.D.int) (ns.map V.int)
 | []=>.nil
 | n::ns=>.cons RV.intI (aF0 ns)
theorem aw4 {m:Nat}:∀ ns:List Int,kT m (ns.map DV.D.int)=true
 | []=>rfl
 | n::ns=>by rw[aL];unfold kT;rw[aw4 ns];rfl
theorem bL3 {P:lp}{k:Nat}(h:∀ ns:List Int,ns.length<=63->∃ s',(la P k).call "law" [.ref 0] [.ro (ns.map DV.D.int)]=.ok (.bl true) s')(vs:List V)(H:Hp)(Q:VK)(E:XK)(q:spT Γ vs H Q E):spV Γ ((la P k).call "law") vs H Q E:=by
 obtain⟨a,ns,rfl,C,hl,hT,z⟩:=q
 obtain⟨s',hs⟩:=h ns hl
 refine⟨fun _=>a,[.ro (ns.map DV.D.int)],[.ref 0],.bl true,s',⟨fun i j o F e e' m m' _=>?_,fun i o e=>?_,fun i o e=>?_,hT⟩,.cons RV.refI .nil,?_,hs,fun v φ' H' g l b r R=>?_⟩
 ·cases i with
  | zero=>cases e;cases m
  | succ i=>cases e
 ·cases i with
  | zero=>cases e;exact⟨_,C,aF0 ns⟩
  | succ i=>cases e
 ·cases i with
  | zero=>cases e;unfold kZ;exact aw4 ns
  | succ i=>cases e
 ·unfold kT kY kT;rfl
 ·rw[r.blE];exact z H'
theorem aI7 {z:List (Addr×Addr)}{C:Str->Option Value}:∀ {tbl:List (String×mf)},(∀ p∈tbl,Good Γ z C p.1 p.2)->∀ f d,tbl.lookup f=some d->Good Γ z C f d
 | [],_,f,d,h=>by cases h
 | (g,e)::tbl,H,f,d,h=>by
  rw[aX]at h
  cases q:f==g with
  | true =>
   rw[q]at h
   cases h
   rw[eq_of_beq q]
   exact H (g,_) (aw ..)
  | false =>
   rw[q]at h
   exact aI7 (fun p hp=>H p (ao _ hp)) f d h
def bb6 (Γ:Gm)(mg:Str->Option Value)(x:String)(d:kS):Prop:=∃ v u,mg (x:Str)=some u/\RelV v u/\(∀ m,d.bnd m=true)/\∀ φ H,RV Γ φ H d v
theorem aV8 {z:Str->Option Value}:∀ {tbl:List (String×kS)},(∀ p∈tbl,bb6 Γ z p.1 p.2)->∀ f d,tbl.lookup f=some d->bb6 Γ z f d
 | [],_,f,d,h=>by cases h
 | (g,e)::tbl,H,f,d,h=>by
  rw[aX]at h
  cases q:f==g with
  | true =>
   rw[q]at h
   cases h
   rw[eq_of_beq q]
   exact H (g,_) (aw ..)
  | false =>
   rw[q]at h
   exact aV8 (fun p hp=>H p (ao _ hp)) f d h
theorem bp3 {z:Str->Option Value}{x:String}{i:Int}{t:Tok}(h:z (x:Str)=some (.int i t)):bb6 Γ z x (.int i):=⟨.int i,_,h,⟨t,rfl⟩,fun _=>rfl,fun _ _=>RV.intI⟩
inductive ConV (Γ:Gm):kS->Value->Prop where
 | int (i:Int) (t:Tok):ConV Γ (.int i) (.int i t)
 | str (x:List Nat) (t:Tok) (h:x.length<=1000):ConV Γ (.str x) (.str ⟨x.toArray⟩ t)
inductive ConL (Γ:Gm):List kS->List Value->Prop where
 | nil:ConL Γ [] []
 | cons {d v l vs} (a:ConV Γ d v) (b:ConL Γ l vs):ConL Γ (d::l) (v::vs)
theorem br8 {Y:Str->Option Value}{x:String}{a:Addr}{o:Obj}{its:List Value}{n:Nat}{l:List kS}(h:Y (x:Str)=some (.ref a))(hk:Γ.K.lookup a=some o)(hc:o.cls=.type "tuple")(hd:o.data=.seq its.toArray n)(hz:its.length<=1000)
  (hl:ConL Γ l its) (J:k8 l=false:=by rfl):bb6 Γ Y x (.tup l):=by
 have key:∃ C,Vals C its/\(∀ m,kT m l=true)/\∀ φ H,RVL Γ φ H l C:=by
  clear hd hz J
  induction hl with
  | nil=>exact⟨[],.nil,fun _=>rfl,fun _ _=>.nil⟩
  | cons a b ih =>
   obtain⟨C,G,F,h3⟩:=ih
   cases a with
   | int i t=>exact⟨.int i::C,.cons ⟨t,rfl⟩ G,fun m=>by unfold kT;rw[F];rfl,fun φ H=>.cons RV.intI (h3 φ H)⟩
   | str x t h=>exact⟨.str ⟨x.toArray⟩::C,.cons ⟨t,rfl⟩ G,fun m=>by unfold kT;rw[F];rfl,fun φ H=>.cons (RV.strI (by unfold k7;omega)) (h3 φ H)⟩
 obtain⟨C,G,F,h3⟩:=key
 refine⟨.ref a,_,h,rfl,fun m=>by unfold kY;exact F m,fun φ H=>RV.tupC (.inr ⟨o,its.toArray,n,hk,hc,hd,?_,G⟩) (fun z=>by rw[J]at z;cases z) (h3 φ H)⟩
 rw[aq];exact aH5 hz
end
theorem aO7 {P:aB}{w:World}{K:ae}{mg mb:Str->Option Value}{k:Nat}{fa a:Addr}{fd:bL}{x:Str}{sp:Sp}{C:af}{vs:List Value}{ns:List Int}{tabs:List (Addr×Addr)}
  (KX:K.In C.heap) (a8:C.heap.Ns bz mg) (hb:C.heap.Ns gy mb) (c2:∀ x:Str,x ≠ "__name__"->mb x=bf x) (a6:C.heap.NoLimit) (hg:C.gens=#[]) (b9:BM mg C.heap) (hT:j8 tabs C.heap) (d0:j9 K=true)
  (ha:C.heap.get? a=some { cls:=.type "list",data:=.seq vs.toArray }) (hi:jV vs ns) (hl:ns.length<=aE) (hr:Room k iC)
  (F:∀ base:Heap,K.In base->base.Ns bz mg->BM mg base->(∀ q∈tabs,cF base q.1 q.2)->FnOk P w K mg base CX0 k fa fd [x] sp) (a4:∀(s:af) (u:Value),jT s fd ⟨[u],[]⟩ [(x,u)])
  (c3:∀ H:Hp,(∀ q∈tabs,H q.2=some (.tbl #[]))->SqL K H a (ns.map V.int)->(∀ u,H a=some u->(∃ o xs,u=.frz o (.lst xs))\/∃ ps,u=.tbl ps)->sp [.ref a] H (fun v _=>v=.bl true) E0) :
  fM (model P w) iC (.call (.ref fa) ⟨[.ref a],[]⟩) (fun r s'=>r=.ok (.ret (.bool true))/\OldK C.heap s'.heap/\s'.os=C.os/\fL s'.gens) C:=by
 have rv:=av4 hi
 have b0:=hi.length
 have G:∀ b,b∈tabs.map (·.2)->C.heap.get? b=some (iz #[]):=fun b h=>by
  obtain⟨q,hq,rfl⟩:=aM.mp h
  exact(hT q hq).2
 have a1:∀ H:Hp,(∀ b u,H b=some u->(b=a/\∃ o xs,u=.frz o (.lst xs))\/(b∈tabs.map (·.2)/\u=.tbl #[]))->(∀ q∈tabs,H q.2=some (.tbl #[]))->SqL K H a (ns.map V.int)->HOk P w H C.heap->(H a≠none->K.lookup a=none) ->
   fM (model P w) iC (.call (.ref fa) ⟨[.ref a],[]⟩) (fun r s'=>r=.ok (.ret (.bool true))/\OldK C.heap s'.heap/\s'.os=C.os/\fL s'.gens) C:=by
  intro H hO b7 hS hok hK
  have un:∀ b o,C.heap.get? b=some o->o.cls≠.type "list"->(∀ vs,o.data≠.fields vs)->H b=none:=fun b o e n1 n2=>by
   cases q:H b with
   | none=>rfl
   | some u =>
    rcases hO b u q with⟨z,_⟩|⟨z,_⟩
    ·rw[z,ha]at e;cases e;exact absurd rfl n1
    ·rw[G b z]at e;cases e;exact absurd rfl (n2 #[])
  have Y:∀ {b:Addr} {m:Str->Option Value},C.heap.Ns b m->(aZ3 C.heap H).Ns b m:=fun {b m} ⟨o,es,ep,e,d,r⟩=>by
   refine⟨o,es,ep,ai3 e ?_,d,r⟩
   cases q:H b with
   | none=>rfl
   | some u =>
    rcases hO b u q with⟨z,_⟩|⟨z,_⟩
    ·rw[z,ha]at e;cases e;cases d
    ·rw[G b z]at e;cases e;cases d
  have a5:K.In (aZ3 C.heap H):=fun b o e=>ai3 (KX b o e) (by
   cases q:H b with
   | none=>rfl
   | some u =>
    rcases hO b u q with⟨z,_⟩|⟨z,_⟩
    ·subst z
     rw[hK (by rw[q];simp)]at e;cases e
    ·have e2:=KX b o e
     rw[G b z]at e2
     have h2:=aU.mp d0 (b,o) (PySem.W.mem_of_lookupK e)
     have e3:o=iz #[]:=(av e2).symm
     subst e3
     exact absurd (show false=true from h2) aO)
  have hM:Mod K mg (aZ3 C.heap H):=⟨a5,Y a8,⟨mb,Y hb,c2⟩,let⟨mc,h1,h2⟩:=a6;⟨mc,Y h1,h2⟩⟩
  have d1:BM mg (aZ3 C.heap H):=by
   obtain⟨bm,ob,b1,b2,b3,b4,b5,b6⟩:=b9
   exact⟨bm,ob,b1,b2,ai3 b3 (un bm ob b3 (by rw[b4];nofun) (by rw[b6];nofun)),b4,b5,b6⟩
  have c1:∀ q∈tabs,cF (aZ3 C.heap H) q.1 q.2:=fun q hq=>by
   obtain⟨o,b8,a7,tf,a2,tg,c4,text,tt,e1,r1,r2⟩:=(hT q hq).1
   refine⟨o,b8,a7,tf,a2,tg,c4,text,tt,ai3 e1 ?_,r1,r2⟩
   cases q2:H q.1 with
   | none=>rfl
   | some u =>
    rcases hO _ u q2 with⟨z,_⟩|⟨z,_⟩
    ·rw[z,ha]at e1;cases e1;exact absurd r1 (by simp)
    ·rw[G _ z]at e1;cases e1;exact absurd r1 (by simp)
  have e0:Env0 P w K mg (aZ3 C.heap H) iC [] C H:=⟨rfl,hM,fun b o e=>bw0 e,Nat.le_of_eq (aW2 _ _),trivial,fun b hb=>absurd (show b∈([]:List Addr)from hb) (by simp),hok,.of_eq hg⟩
  refine jn ((F _ a5 (Y a8) d1 c1).run iC [] C H ⟨[.ref a],[]⟩ [.ref a] [.ref a] _ _ hr e0 (a4 C (.ref a)) (.cons rfl .nil) (c3 H b7 hS (fun u e=>(hO a u e).elim (fun z=>.inl z.2) (fun z=>.inr ⟨_,z.2⟩)))) fun r s' h=>?_
  cases r with
  | error e=>exact cn h
  | ok fl =>
   cases fl with
   | next=>exact cn h
   | brk=>exact cn h
   | cont=>exact cn h
   | ret u =>
    obtain⟨v,H',os,bare,a3,Z,r',q⟩:=h
    have q':v=.bl true:=q
    subst q'
    obtain rfl:u=Value.bool true:=r'
    have key:∀ b o,C.heap.get? b=some o->asItWas C.heap s'.heap b o/\∃ o',s'.heap.get? b=some o':=fun b o e=>by
     cases q:H b with
     | none =>
      have z:=a3.keep b o e q (by intro z;exact absurd (show b∈([]:List Addr)from z) (by simp)) (by simp)
      exact⟨.inl z,o,z⟩
     | some u =>
      rcases hO b u q with⟨_,ob,xs,z⟩|⟨z,z2⟩
      ·subst z
       have z2:=a3.frzs b ob _ q
       obtain⟨e1,_⟩:=hok b _ q
       obtain⟨e2,_⟩:=Z b _ z2
       rw[e]at e1;cases e1
       exact⟨.inl e2,_,e2⟩
      ·subst z2
       obtain⟨a0,z3⟩:=a3.tbls b _ q
       have g:s'.heap.get? b=some { cls:=.none,data:=.fields (#[]++a0) }:=Z b _ z3
       have e1:=G b z
       rw[e]at e1;cases e1
       obtain⟨p,hp,ep⟩:=aM.mp z
       refine⟨.inr (.inl ⟨?_,rfl,#[],a0,rfl,g⟩),_,g⟩
       have t:=((hT p hp).1.tab (hT p hp).2).isCodeTable
       rw[ep]at t
       exact t
    exact⟨rfl,⟨fun b o e=>(key b o e).1,fun b o e=>(key b o e).2⟩,os,bare⟩
 have tbl:∀ b,b∈tabs.map (·.2)->b≠a:=fun b h z=>by
  have e:=G b h
  rw[z,ha]at e;cases e
 cases hk:K.lookup a with
 | some o =>
  have e:=KX a o hk
  rw[ha]at e
  cases e
  refine a1 (fun b=>if b∈tabs.map (·.2)then some (.tbl #[])else none) (fun b u z=>?_) (fun q hq=>if_pos (bK hq)) (.inr ⟨_,vs.toArray,_,hk,rfl,rfl,rfl,by rw[aq,b0];exact hl,by simpa using rv⟩) (fun b u z=>?_) fun z=>?_
  ·by_cases hb:b∈tabs.map (·.2)
   ·have J:=(if_pos hb).symm.trans z
    cases J
    exact .inr ⟨hb,rfl⟩
   ·have J:=(if_neg hb).symm.trans z
    cases J
  ·by_cases hb:b∈tabs.map (·.2)
   ·have J:=(if_pos hb).symm.trans z
    cases J
    exact G b hb
   ·have J:=(if_neg hb).symm.trans z
    cases J
  ·exact absurd (if_neg fun y=>tbl a y rfl) z
 | none =>
  refine a1 (fun b=>if b=a then some (.frz { cls:=.type "list",data:=.seq vs.toArray } (.lst (ns.map V.int)))else if b∈tabs.map (·.2)then some (.tbl #[])else none) (fun b u z=>?_) (fun q hq=>?_) (.inl (.inr ⟨{ cls:=.type "list",data:=.seq vs.toArray },if_pos rfl⟩)) (fun b u z=>?_) fun _=>hk
  ·by_cases hb:b=a
   ·have J:=(if_pos hb).symm.trans z
    cases J
    exact .inl ⟨hb,_,_,rfl⟩
   ·have J:=(if_neg hb).symm.trans z
    by_cases hc:b∈tabs.map (·.2)
    ·rw[if_pos hc]at J;cases J;exact .inr ⟨hc,rfl⟩
    ·rw[if_neg hc]at J;cases J
  ·have hm:q.2∈tabs.map (·.2):=bK hq
   show(if _ then _ else if _ then _ else _)=_
   rw[if_neg (tbl _ hm),if_pos hm]
  ·by_cases hb:b=a
   ·have J:=(if_pos hb).symm.trans z
    cases J
    subst hb
    exact⟨ha,by rw[ay];exact hl,vs,_,rv,ha⟩
   ·have J:=(if_neg hb).symm.trans z
    by_cases hc:b∈tabs.map (·.2)
    ·rw[if_pos hc]at J;cases J;exact G b hc
    ·rw[if_neg hc]at J;cases J
theorem aS6 {ts:List Addr}{l:c8}{n k:Nat}{q:aB}{loose:List Str}{XP:(Str->Option Value)->Heap->Prop}{YP:World->Heap->Prop}{d:DefRec}{K:Params->ae}{sp:ae->Sp}{x:Str}(names:List Str)
  (hn:l.most=some n) (a2:n<=aE) (a4:d.params.defaults=[]) (hr:Room k iC)
  (hY:∀(w:World) (h:Heap),YP w h->(K w.params).In h/\∀ P∈ts,h.get? P=some (iz #[])) (a1:∀ w:World,bG9 (K w.params) names ts=true) (a7:∀ w:World,j9 (K w.params)=true)
  (F:∀(w:World) (Z:Str->Option Value) (fa:Addr) (h:Heap),(K w.params).In h->h.Ns bz Z->Z d.name=some (.ref fa) ->
   ∃ fd:bL,(∀(s:af) (u:Value),jT s fd ⟨[u],[]⟩ [(x,u)]) /\
    ∀ base:Heap,(K w.params).In base->base.Ns bz Z->BM Z base->bo2 (K w.params) names base->FnOk l.prog w (K w.params) Z base CX0 k fa fd [x] (sp (K w.params)))
  (a6:∀(K:ae) (H:Hp) (a:Addr) (ns:List Int),ns.length<=n->bq7 K names H->SqL K H a (ns.map V.int)->(∀ u,H a=some u->(∃ o xs,u=.frz o (.lst xs))\/∃ ps,u=.tbl ps)->sp K [.ref a] H (fun v _=>v=.bl true) E0) :
  kg q loose XP YP l.row.toRowW d [] (fun f vs=>jX f vs):=by
 refine Att.attach_call hn a4 fun w s₀ s₁ Z mb fa o pm cd a8 a vs ns G Y ho hd b0 a3 a0 J C hg=>?_
 obtain⟨KX,a5⟩:=hY w _ Y
 obtain⟨fd,hb,hF⟩:=F w Z fa _ KX G.T.g a3
 have hT:j8 ((az3 (K w.params) names).map (·.2)) s₁.heap:=fun p hp=>by
  obtain⟨y,hy,rfl⟩:=aM.mp hp
  obtain⟨h1,h2⟩:=ao6.mp hy
  have z:=aU.mp (a1 w) y.1 h1
  rw[h2]at z
  have z':(jH (K w.params) y.2.1 y.2.2&&ts.contains y.2.2)=true:=z
  rw[ah]at z'
  exact⟨PySem.W.codeHd_of_K KX z'.1,a5 _ (by simpa using z'.2)⟩
 have hm:∀ x∈names,∀ c P,be (K w.params) x=some (c,P)->(c,P)∈(az3 (K w.params) names).map (·.2):=fun x hx c P e=>aM.mpr ⟨(x,c,P),ao6.mpr ⟨hx,e⟩,rfl⟩
 refine aO7 (tabs:=(az3 (K w.params) names).map (·.2)) KX G.T.g G.T.b G.T.builtins G.T.nolimit hg ?_ hT (a7 w) a0 J (ak C a2) hr (fun base k1 k2 k3 k4=>hF base k1 k2 k3 fun x hx c P e=>k4 _ (hm x hx c P e)) hb fun H hO hS hF=>a6 (K w.params) H a ns C (fun x hx c P e=>hO _ (hm x hx c P e)) hS hF
 obtain⟨bm,ob,h1,h2,h3,h4,h5,h6⟩:=G.T.bmain
 exact⟨bm,ob,h1,h2,h3,h4,h5,h6⟩
def spB (names:List Str)(K:ae):Sp:=fun vs H Q _=>∃(a:Addr) (ns:List Int),vs=[.ref a]/\SqF K H a (ns.map V.int)/\ns.length<=63/\bq7 K names H/\∀ H',Q (.bl true) H'
theorem bE9 {names:List Str}{K:ae}{H:Hp}{a:Addr}{ns:List Int}(hl:ns.length<=63)(F:bq7 K names H)(C:SqL K H a (ns.map V.int))(G:∀ u,H a=some u->(∃ o J,u=.frz o (.lst J))\/∃ ps,u=.tbl ps):spB names K [.ref a] H (fun v _=>v=.bl true) E0:=by
 refine⟨a,ns,rfl,⟨C,fun H' k=>?_⟩,hl,F,fun _=>rfl⟩
 rcases C with(h|⟨o,h⟩)|h
 ·rcases G _ h with⟨_,_,z⟩|⟨_,z⟩<;>cases z
 ·exact .inl (.inr ⟨o,k _ _ h rfl⟩)
 ·exact .inr h
def cc1 (P:lp):String->LamI->Prop:=fun id J=>∃ L,P.lm id=some L/\LamGood J L
noncomputable def sfx (x:Str):Str:=if x = "letter_table" then "least_fee" else "<lambda>"
noncomputable def bs4 (names:List Str)(K:ae):List (Addr×Str):=names.map fun x=>(((be K x).getD (0,0)).2,x ++ ".<locals>."++sfx x)
noncomputable def bo0 (names:List Str)(K:ae):List (Addr×Addr):=names.map fun x=>(be K x).getD (0,0)
noncomputable def bW2 (K:ae)(f:String):Option Addr:=match d9 K bz (f:Str)with
 | some (some (.ref a))=>(match K.lookup a with
  | some ⟨_,_,.func _,_⟩=>some a
  | _=>none)
 | _=>none
theorem aJ4 {K:ae}{f:String}{a:Addr}(h:bW2 K f=some a):d9 K bz (f:Str)=some (some (.ref a))/\∃ oc od z sl,K.lookup a=some ⟨oc,od,.func z,sl⟩:=by
 unfold bW2 at h
 split at h
 ·rename_i C e
  split at h
  ·rename_i oc od z sl e2
   cases h
   exact⟨e,_,_,_,_,e2⟩
  ·cases h
 ·cases h
noncomputable abbrev aZ4 (names:List Str)(P:lp)(K:ae):Gm:=⟨K,bW2 K,cc1 P,bs4 names K⟩
theorem bU3 {names:List Str}{P:lp}{K:ae}{h:Heap}{z:Str->Option Value}(X:K.In h)(G:h.Ns bz z):∀(f:String) (a:Addr),(aZ4 names P K).fa f=some a->z (f:Str)=some (.ref a)/\∃ oc od C sl,(aZ4 names P K).K.lookup a=some ⟨oc,od,.func C,sl⟩:=fun f a e=>⟨dm X G (aJ4 e).1,(aJ4 e).2⟩
theorem ba8 {names:List Str}{P:lp}{K:ae}(z:∀ x∈names,(be K x).isSome=true){vs:List V}{H:Hp}{Q:VK}{E:XK}(q:spB names K vs H Q E):spT (aZ4 names P K) vs H Q E:=by
 obtain⟨a,ns,e,F,hl,h,C⟩:=q
 refine⟨a,ns,e,F,hl,TabsH.init fun p hp=>?_,C⟩
 simp only[bs4,bT]at hp
 obtain⟨x,hx,rfl⟩:=aM.mp hp
 exact h x hx _ _ (as9 (z x hx))
theorem bi0 {names:List Str}{K:ae}{h:Str->Option Value}{base:Heap}(z:∀ x∈names,(be K x).isSome=true)(bm:BM h base)(hc:bo2 K names base):∀ y∈bo0 names K,cF base y.1 y.2/\BM h base:=fun y hy=>by
 obtain⟨x,hx,rfl⟩:=aM.mp hy
 exact⟨hc x hx _ _ (as9 (z x hx)),bm⟩
theorem aE5 {p:bU}{ps:List Str}(h:lamArgs p=some ps):∃ args,p=⟨[],args,none,[],[],none,[]⟩/\args.map (·.arg)=ps:=by
 unfold lamArgs at h
 split at h
 ·exact⟨_,rfl,av h⟩
 ·cases h
def bb9 (ps:List Str):Prop:=∀ params,lamArgs params=some ps->∀(qual:Str) (body:Expr) (scope:Scope) (clos:List (Str×Addr)) (doc pm:Value) (c':Addr) (ctv:Value) (us:List Value),us.length=ps.length->dZ (dC "<lambda>" qual params body scope clos pm (.ref c') ctv) ⟨us,[]⟩=pure (ps.zip us) /\
 ∀(nm:Str) (rp:Pos),dZ (fR nm qual params [.Return (some body) rp] scope clos .none .none doc pm none (.ref c') ctv) ⟨us,[]⟩=pure (ps.zip us)
noncomputable def aU5 (ps fr:List Str)(sc:Scope):Bool:=decide (sc.kind=.function)&&!sc.isCoroutine&&!sc.isGenerator&&decide ((ps++fr).Nodup)&&(ps.all fun x=>decide (sc.names.lookup x=some .local)||decide (sc.names.lookup x=some .cell))&&(fr.all fun x=>decide (sc.names.lookup x=some .free))&&(sc.names.all fun y=>!decide (y.2=.cell)||decide (sc.names.lookup y.1=some .cell))
theorem aW7 {ps fr:List Str}{sc:Scope}(h:aU5 ps fr sc=true):LamScope (ps++fr) ps fr sc:=by
 unfold aU5 at h
 simp only[ah,decide_eq_true_eq,fT,aU,bH]at h
 obtain⟨⟨⟨⟨⟨⟨Y,F⟩,h3⟩,J⟩,C⟩,G⟩,h7⟩:=h
 exact⟨Y,F,h3,J,rfl,C,G,fun y hy e=>by
  rcases h7 y hy with z|z
  ·rw[e]at z;simp at z
  ·exact z⟩
noncomputable def bD3 (scope sc:Scope):Bool:=scope.names.all fun y=>!decide (scope.names.lookup y.1=some .free)||decide (sc.names.lookup y.1=some .cell)
theorem bg1 {scope sc:Scope}(h:bD3 scope sc=true):∀ x,scope.names.lookup x=some .free->sc.names.lookup x=some .cell:=fun x hx=>by
 have:=aU.mp h (x,.free) (aC hx)
 simp only[bH,fT,decide_eq_false_iff_not,decide_eq_true_eq]at this
 rcases this with z|z
 ·exact absurd hx z
 ·exact z
noncomputable def lkB (sc:Scope)(N:List Str)(caps:List Nat)(params:bU)(body:Expr)(scope:Scope)(t:ma×List Str×List Str):Bool :=
 decide (lamArgs params=some t.2.1)&&decide (caps.map (fun j=>N[j]?)=t.2.2.map some)&&lamCheck scope sc&&bD3 scope sc&&aU5 t.2.1 t.2.2 scope&&decide (t.2.1.length=t.1.ps)&&decide (t.2.2.length=t.1.cs)&&mE (ck0 (t.2.1++t.2.2) scope) t.1.body body
noncomputable def lkG (f:Str)(sc:Scope)(N:List Str)(tab:List (String×ma×List Str×List Str))(id:String)(caps:List Nat)(E:Expr):Bool:=match tab.lookup id,E with
 | some t,.Lambda params body scope _=>decide (sfx f = "<lambda>")&&lkB sc N caps params body scope t
 | some t,.NamedExpr (.Name nm _) (.Lambda params body scope p1) p2=>decide (sfx f=nm)&&decide (p1=p2)&&lkB sc N caps params body scope t
 | _,_=>false
theorem bt1 {names:List Str}{P:lp}{K:ae}{f:Str}{sc:Scope}{N:List Str}{fd:bL}{tab:List (String×ma×List Str×List Str)}(hf:f∈names)(F:fd.code=.ref ((be K f).getD (0,0)).1)(G:∀ y∈sc.names,y.2=.cell->sc.names.lookup y.1=some .cell)
  (Y:∀ id t,tab.lookup id=some t->P.lm id=some t.1/\bb9 t.2.1):bP2 (aZ4 names P K) (bo0 names K) f sc N fd (lkG f sc N tab):=by
 intro id z E h
 have C:∀(t:ma×List Str×List Str) (params:bU) (body:Expr) (scope:Scope) (J:Option (Str×Pos)),tab.lookup id=some t->lkB sc N z params body scope t=true->(match J with|none => "<lambda>" | some p=>p.1)=sfx f ->
   LkAt (aZ4 names P K) (bo0 names K) f sc N fd id z params body scope ((be K f).getD (0,0)).1 ((be K f).getD (0,0)).2 ⟨f ++ ".<locals>."++sfx f,params,body,scope,t.2.1,t.2.2,J⟩:=fun t params body scope J e h hs=>by
  obtain⟨L,ps,fr⟩:=t
  unfold lkB at h
  simp only[ah,decide_eq_true_eq]at h
  obtain⟨⟨⟨⟨⟨⟨⟨h1,h2⟩,h3⟩,h4⟩,h5⟩,h6⟩,h7⟩,h8⟩:=h
  obtain⟨hL,hB⟩:=Y id _ e
  obtain⟨args,rfl,a1⟩:=aE5 h1
  have Z:fr.length=z.length:=by have:=congrArg kJ h2;simpa using this.symm
  have S:=aW7 h5
  refine⟨F,aM.mpr ⟨f,hf,rfl⟩,h3,bg1 h4,G,fun env=>rfl,⟨L,hL,⟨S,h6,h7,h8,h1,fun a2 a4 pm c' a3 us a0=>hB _ h1 _ _ _ _ _ _ _ _ _ a0⟩⟩,?_,rfl,rfl,rfl,Z,fun i j x e1 e2=>?_,S.frs,aM.mpr ⟨f,hf,rfl⟩⟩
  ·show f ++ ".<locals>."++sfx f=f ++ ".<locals>."++LamI.own _
   unfold LamI.own
   rw[<-hs]<;>rfl
  ·have e3:(z.map (fun j=>N[j]?))[i]?=some (N[j]?):=by rw[aA,e1];rfl
   rw[h2,aA,e2]at e3
   exact(av e3).symm
 unfold lkG at h
 split at h
 case h_3=>cases h
 ·rename_i t params body scope pos e
  rw[ah]at h
  exact⟨_,_,params,body,scope,pos,_,rfl,C t params body scope none e h.2 (of_decide_eq_true h.1).symm⟩
 ·rename_i t J rp params body scope p1 p2 e
  rw[ah,ah]at h
  have ep:=of_decide_eq_true h.1.2
  subst ep
  exact⟨_,_,params,body,scope,p1,_,rfl,C t params body scope (some (J,rp)) e h.2 (of_decide_eq_true h.1.1).symm⟩
theorem aQ5 {names:List Str}{P:lp}{K:ae}{f:Str}{sc:Scope}{N:List Str}{z:bL}:bP2 (aZ4 names P K) (bo0 names K) f sc N z (fun _ _ _=>false):=fun _ _ _ h=>by cases h
theorem bS3 {names:List Str}{P:lp}{K:ae}:∀ id J,(aZ4 names P K).lg id J->∃ L,P.lm id=some L/\LamGood J L:=fun _ _ h=>h
theorem bU2 {P:lp}{tab:List (String×ma×List Str×List Str)}(h:∀ p∈tab,P.lm p.1=some p.2.1/\bb9 p.2.2.1):∀ id t,tab.lookup id=some t->P.lm id=some t.1/\bb9 t.2.1:=by
 induction tab with
 | nil=>intro id t e;cases e
 | cons y l ih =>
  intro id t e
  rw[aX]at e
  cases q:id==y.1 with
  | true =>
   rw[q]at e
   cases e
   rw[eq_of_beq q]
   exact h y (aw ..)
  | false =>
   rw[q]at e
   exact ih (fun p hp=>h p (ao _ hp)) id t e
def bV0 (K:ae)(n:Str)(st:Stmt):Prop:=∃(f:Addr) (od an:Option Addr) (sl:Array (Option Value)) (oc kV dc pm cd ct:Value),d9 K bz n=some (some (.ref f)) /\
 K.lookup f=some ⟨oc,od,.func (cZ n n (defArgs st) (zB st) (defScope st) .none kV dc pm an cd ct),sl⟩/\fy K cd n=true/\cE K (.ref f)=true
def ca5 (n:Str)(st:Stmt)(ps:List Str):Prop:=∀(kV doc pm:Value) (an:Option Addr) (cdv ct:Value) (us:List Value),us.length=ps.length->dZ (cZ n n (defArgs st) (zB st) (defScope st) .none kV doc pm an cdv ct) ⟨us,[]⟩=pure (ps.zip us)
theorem bd0 {Q:List Value->Prop}(h:Q [])(us:List Value)(hl:us.length=0):Q us:=by
 cases us with
 | nil=>exact h
 | cons _ _=>cases hl
theorem bdS {k:Nat}{Q:List Value->Prop}(h:∀ a us,us.length=k->Q (a::us))(us:List Value)(hl:us.length=k+1):Q us:=by
 cases us with
 | nil=>cases hl
 | cons a us=>exact h a us (Nat.succ.inj hl)
theorem bd1 {Q:List Value->Prop}(h:∀ a,Q [a]):∀ us:List Value,us.length=1->Q us:=bdS fun a=>bd0 (h a)
theorem bd2 {Q:List Value->Prop}(h:∀ a b,Q [a,b]):∀ us:List Value,us.length=2->Q us:=bdS fun a=>bd1 (h a)
theorem bd3 {Q:List Value->Prop}(h:∀ a b c,Q [a,b,c]):∀ us:List Value,us.length=3->Q us:=bdS fun a=>bd2 (h a)
theorem bd4 {Q:List Value->Prop}(h:∀ a b c d,Q [a,b,c,d]):∀ us:List Value,us.length=4->Q us:=bdS fun a=>bd3 (h a)
theorem bd5 {Q:List Value->Prop}(h:∀ a b c d e,Q [a,b,c,d,e]):∀ us:List Value,us.length=5->Q us:=bdS fun a=>bd4 (h a)
def DTB (names:List Str)(P:lp)(n:String)(pc vc:Nat)(m:Ck->List Stmt->Bool)(st:Stmt):Prop:=∃ N ps,FnScope N ps (defScope st)/\ps.length=pc/\N.length=pc+vc/\ca5 n st ps/\(m ⟨N,defScope st,fun _ _ _=>false⟩ (zB st)=true \/
 ((n:Str)∈names/\∃ tab,m ⟨N,defScope st,lkG n (defScope st) N tab⟩ (zB st)=true/\(∀ y∈(defScope st).names,y.2=.cell->(defScope st).names.lookup y.1=some .cell)/\∀ p∈tab,P.lm p.1=some p.2.1/\bb9 p.2.2.1))
def DT (names:List Str)(P:lp)(n:String)(d:mf)(st:Stmt):Prop:=DTB names P n d.ps d.vs (fun ck S=>mSs ck d.body S) st
theorem ba1 {names:List Str}{P:lp}{K:ae}{h:Heap}{C:Str->Option Value}{n:String}{pc Y:Nat}{m:Ck->List Stmt->Bool}{st:Stmt}(X:K.In h)(G:h.Ns bz C)(hT:∀ x∈names,(be K x).isSome=true)(hD:bV0 K n st)(hd:DTB names P n pc Y m st):GoodB (aZ4 names P K) (bo0 names K) C n pc Y m:=by
 obtain⟨f,od,an,sl,oc,kV,dc,pm,cd,ct,a,l,c,k⟩:=hD
 obtain⟨N,ps,Z,J,h3,h4,z⟩:=hd
 have F:=bi9 (st:=st) l c k
 have D:DefAt K C n st ps f _:=⟨F,dm X G a,F.binds h4⟩
 rcases z with z|⟨hn,tab,z,h6,h7⟩
 ·exact⟨_,_,_,_,_,_,D,Z,J,h3,z,aQ5⟩
 ·exact⟨_,_,_,_,_,_,D,Z,J,h3,z,bt1 hn (PySem.W.law_code X G (as9 (hT _ hn)) (dm X G a) (X _ _ l) rfl) h6 (bU2 h7)⟩
theorem good_of {names:List Str}{P:lp}{K:ae}{h:Heap}{z:Str->Option Value}{n:String}{d:mf}{st:Stmt}(X:K.In h)(G:h.Ns bz z)(hT:∀ x∈names,(be K x).isSome=true)(hD:bV0 K n st)(hd:DT names P n d st):Good (aZ4 names P K) (bo0 names K) z n d:=ba1 X G hT hD hd
end L2
end
noncomputable section
namespace DV
noncomputable def av2:Df:=⟨"_law_bag",2,3,(.cons (.asg (.one 2) (.cst (.int 0))) (.cons (.ite (.cmp .lt (.var 1) (.bi .len (.cons (.var 0) .nil))) (.cons (.asg (.one 2) (.bi .abs (.cons (.ix (.var 0) (.var 1)) .nil))) .nil) .nil) (.cons (.asg (.one 3) (.bin .add (.bin .mul (.cst (.int 7919)) (.var 1)) (.cst (.int 17)))) (.cons (.for_ (.one 4) (.rng1 (.bi .min2 (.cons (.bi .len (.cons (.var 0) .nil)) (.cons (.cst (.int 60)) .nil)))) (.cons (.asg (.one 3) (.bin .mod (.bin .add (.bin .add (.bin .mul (.var 3) (.cst (.int 48271))) (.bin .mod (.ix (.var 0) (.var 4)) (.cst (.int 2147483647)))) (.var 4)) (.cst (.int 2147483629)))) .nil)) (.cons (.ite (.cmp .lt (.var 2) (.bin .pow (.cst (.int 10)) (.cst (.int 18)))) (.cons (.asg (.one 2) (.cst (.int 0))) .nil) .nil) (.cons (.ret (.lst (.cons (.var 2) (.cons (.var 3) .nil)))) .nil))))))⟩
noncomputable def ac6:Df:=⟨"_law_take",2,3,(.cons (.ite (.cmp .gt (.ix (.var 0) (.cst (.int 0))) (.cst (.int 0))) (.cons (.asg (.one 2) (.bin .mod (.ix (.var 0) (.cst (.int 0))) (.var 1))) (.cons (.setIx (.var 0) (.cst (.int 0)) (.bin .fdiv (.ix (.var 0) (.cst (.int 0))) (.var 1))) (.cons (.ret (.var 2)) .nil))) .nil) (.cons (.asg (.one 3) (.cst (.int 0))) (.cons (.asg (.one 4) (.cst (.int 1))) (.cons (.whl (.cmp .lt (.var 4) (.var 1)) (.cons (.setIx (.var 0) (.cst (.int 1)) (.bin .mod (.bin .add (.bin .mul (.ix (.var 0) (.cst (.int 1))) (.cst (.int 48271))) (.cst (.int 7919))) (.cst (.int 2147483647)))) (.cons (.asg (.one 3) (.bin .add (.bin .mul (.var 3) (.cst (.int 1073741789))) (.bin .mod (.bin .mul (.bin .fdiv (.ix (.var 0) (.cst (.int 1))) (.cst (.int 8))) (.cst (.int 69621))) (.cst (.int 1073741789))))) (.cons (.asg (.one 4) (.bin .mul (.var 4) (.cst (.int 1073741789)))) .nil)))) (.cons (.ret (.bin .mod (.var 3) (.var 1))) .nil)))))⟩
noncomputable def ad1:Df:=⟨"_law_rooms",2,1,(.cons (.asg (.one 2) (.call "_law_take" (.ex (.var 0) (.ex (.bin .shl (.cst (.int 1)) (.var 1)) .nil)))) (.cons (.ret (.mk .tuple (.compIf (.one 0) (.rng1 (.var 1)) (.cmp .eq (.bin .mod (.bin .fdiv (.var 1) (.bin .shl (.cst (.int 1)) (.var 0))) (.cst (.int 2))) (.cst (.int 1))) (.var 0) [none,some 2]))) .nil))⟩
noncomputable def aa6:Df:=⟨"letters_of",1,0,(.cons (.ret (.slU (.glob "LETTERS") (.ix (.var 0) (.cst (.int 0))))) .nil)⟩
noncomputable def aa8:Df:=⟨"rooms_of",1,0,(.cons (.ret (.ix (.var 0) (.cst (.int 1)))) .nil)⟩
noncomputable def ab1:Df:=⟨"begins_of",1,0,(.cons (.ret (.ix (.var 0) (.cst (.int 2)))) .nil)⟩
noncomputable def ab7:Df:=⟨"ends_of",1,0,(.cons (.ret (.ix (.var 0) (.cst (.int 3)))) .nil)⟩
noncomputable def aa7:Df:=⟨"doors_of",1,0,(.cons (.ret (.ix (.var 0) (.cst (.int 4)))) .nil)⟩
noncomputable def bl8:Df:=⟨"grid",2,2,(.cons (.asg (.one 2) (.lst .nil)) (.cons (.for_ (.one 3) (.rng1 (.var 0)) (.cons (.ex (.meth .append (.var 2) (.cons (.mk .tuple (.comp (.one 0) (.rng1 (.var 0)) (.callV 1 (.cons (.var 2) (.cons (.var 0) .nil))) [none,some 1,some 3])) .nil))) .nil)) (.cons (.ret (.mk .tuple (.seq (.var 2)))) .nil)))⟩
noncomputable def ab9:Df:=⟨"least",1,0,(.cons (.ret (.mkD .min (.compIf (.one 0) (.seq (.var 0)) (.notN (.var 0)) (.var 0) [none]) (.cst .non))) .nil)⟩
noncomputable def ac1:Df:=⟨"added",2,0,(.cons (.ite (.or (.isN (.var 0)) (.isN (.var 1))) (.cons (.ret (.cst .non)) .nil) .nil) (.cons (.ret (.bin .add (.var 0) (.var 1))) .nil))⟩
noncomputable def am4:Df:=⟨"cut",2,0,(.cons (.ite (.or (.isN (.var 0)) (.cmp .le (.var 0) (.var 1))) (.cons (.ret (.var 0)) .nil) .nil) (.cons (.ret (.bin .add (.var 1) (.cst (.int 1)))) .nil))⟩
noncomputable def ab2:Df:=⟨"first_row",1,1,(.cons (.asg (.one 1) (.call "begins_of" (.ex (.var 0) .nil))) (.cons (.ret (.mk .tuple (.comp (.one 0) (.rng1 (.call "rooms_of" (.ex (.var 0) .nil))) (.ite (.cmp .isin (.var 0) (.var 1)) (.cst (.int 0)) (.cst .non)) [none,some 1]))) .nil))⟩
noncomputable def aa4:Df:=⟨"least_into",4,0,(.cons (.ret (.call "least" (.ex (.mk .list (.compIf (.tup [0,1,2,3]) (.seq (.call "doors_of" (.ex (.var 0) .nil))) (.and (.cmp .eq (.var 1) (.var 4)) (.cmp .eq (.var 2) (.var 5))) (.call "added" (.ex (.ix (.var 6) (.var 0)) (.ex (.var 3) .nil))) [none,none,none,none,some 2,some 3,some 1])) .nil))) .nil)⟩
noncomputable def an4:Df:=⟨"led",4,0,(.cons (.ret (.mk .tuple (.comp (.one 0) (.rng1 (.call "rooms_of" (.ex (.var 0) .nil))) (.call "cut" (.ex (.call "least_into" (.ex (.var 1) (.ex (.var 2) (.ex (.var 3) (.ex (.var 0) .nil))))) (.ex (.var 4) .nil))) [none,some 0,some 2,some 3,some 1]))) .nil)⟩
noncomputable def ac3:Df:=⟨"end_of",2,0,(.cons (.ret (.call "least" (.ex (.mk .list (.comp (.one 0) (.seq (.call "ends_of" (.ex (.var 0) .nil))) (.ix (.var 1) (.var 0)) [none,some 1])) .nil))) .nil)⟩
noncomputable def an8:Df:=⟨"sign_product",2,1,(.cons (.asg (.one 2) (.bi .len (.cons (.var 0) .nil))) (.cons (.ret (.callC "grid" (.ex (.var 2) (.lam "sign_product.0" [2,0,1] .nil)))) .nil))⟩
noncomputable def af8:Lm:=⟨"sign_product.0",2,3,(.mk .min (.comp (.one 0) (.rng1 (.var 2)) (.bi .max2 (.cons (.ix (.ix (.var 1) (.var 2)) (.var 0)) (.cons (.ix (.ix (.var 3) (.var 0)) (.var 4)) .nil))) [none,some 3,some 0,some 4,some 1]))⟩
noncomputable def aa9:Df:=⟨"check_pair",2,0,(.cons (.ite (.cmp .ne (.call "letters_of" (.ex (.var 0) .nil)) (.call "letters_of" (.ex (.var 1) .nil))) (.cons .raise .nil) .nil) .nil)⟩
noncomputable def ae4:Df:=⟨"_law_sized",4,5,(.cons (.asg (.one 4) (.call "_law_take" (.ex (.var 0) (.ex (.cst (.int 13)) .nil)))) (.cons (.ite (.cmp .eq (.call "_law_take" (.ex (.var 0) (.ex (.cst (.int 8)) .nil))) (.cst (.int 7))) (.cons (.asg (.one 4) (.call "_law_take" (.ex (.var 0) (.ex (.cst (.int 76)) .nil)))) .nil) .nil) (.cons (.asg (.one 5) (.lst .nil)) (.cons (.for_ (.one 6) (.rng1 (.var 4)) (.cons (.asg (.one 7) (.call "_law_take" (.ex (.var 0) (.ex (.var 2) .nil)))) (.cons (.asg (.one 8) (.ix (.cst (.str [97,98,99])) (.call "_law_take" (.ex (.var 0) (.ex (.var 1) .nil))))) (.cons (.ex (.meth .append (.var 5) (.cons (.tup (.cons (.var 7) (.cons (.var 8) (.cons (.call "_law_take" (.ex (.var 0) (.ex (.var 2) .nil))) (.cons (.call "_law_take" (.ex (.var 0) (.ex (.bin .add (.var 3) (.cst (.int 1))) .nil))) .nil))))) .nil))) .nil)))) (.cons (.ret (.tup (.cons (.var 1) (.cons (.var 2) (.cons (.call "_law_rooms" (.ex (.var 0) (.ex (.var 2) .nil))) (.cons (.call "_law_rooms" (.ex (.var 0) (.ex (.var 2) .nil))) (.cons (.mk .tuple (.seq (.var 5))) .nil))))))) .nil)))))⟩
noncomputable def ac8:Df:=⟨"dearer",4,7,(.cons (.ex (.call "check_pair" (.ex (.var 0) (.ex (.var 1) .nil)))) (.cons (.asg (.one 4) (.bin .mul (.glob "MOST_TOLL") (.var 3))) (.cons (.asg (.one 5) (.tup (.cons (.call "first_row" (.ex (.var 0) .nil)) (.cons (.call "first_row" (.ex (.var 1) .nil)) .nil)))) (.cons (.asg (.one 6) (.lst (.cons (.tup (.cons (.cst (.str [])) (.cons (.var 5) .nil))) .nil))) (.cons (.asg (.one 7) (.dicU (.var 5) (.cst (.bl true)))) (.cons (.for_ (.one 8) (.rngD (.var 3)) (.cons (.for_ (.tup [9,10]) (.seq (.var 6)) (.cons (.ite (.call "is_dearer" (.ex (.call "end_of" (.ex (.var 0) (.ex (.ix (.var 10) (.cst (.int 0))) .nil))) (.ex (.call "end_of" (.ex (.var 1) (.ex (.ix (.var 10) (.cst (.int 1))) .nil))) (.ex (.var 2) .nil)))) (.cons (.ret (.var 9)) .nil) .nil) .nil)) (.cons (.ite (.cmp .gt (.var 8) (.cst (.int 0))) (.cons (.asg (.one 6) (.call "level_behind" (.ex (.var 0) (.ex (.var 1) (.ex (.var 4) (.ex (.var 6) (.ex (.var 7) .nil))))))) .nil) .nil) .nil))) (.cons (.ret (.cst .non)) .nil)))))))⟩
noncomputable def ab0:Df:=⟨"is_dearer",3,0,(.cons (.ite (.isN (.var 1)) (.cons (.ret (.cst (.bl false))) .nil) .nil) (.cons (.ret (.or (.isN (.var 0)) (.cmp .gt (.var 0) (.bin .mul (.var 2) (.var 1))))) .nil))⟩
noncomputable def aa2:Df:=⟨"level_behind",5,5,(.cons (.asg (.one 5) (.lst .nil)) (.cons (.for_ (.tup [6,7]) (.seq (.var 3)) (.cons (.for_ (.one 8) (.seq (.call "letters_of" (.ex (.var 0) .nil))) (.cons (.asg (.one 9) (.tup (.cons (.call "led" (.ex (.var 0) (.ex (.var 2) (.ex (.ix (.var 7) (.cst (.int 0))) (.ex (.var 8) .nil))))) (.cons (.call "led" (.ex (.var 1) (.ex (.var 2) (.ex (.ix (.var 7) (.cst (.int 1))) (.ex (.var 8) .nil))))) .nil)))) (.cons (.ite (.cmp .notin (.var 9) (.var 4)) (.cons (.setIx (.var 4) (.var 9) (.cst (.bl true))) (.cons (.ex (.meth .append (.var 5) (.cons (.tup (.cons (.bin .add (.var 6) (.var 8)) (.cons (.var 9) .nil))) .nil))) .nil)) .nil) .nil))) .nil)) (.cons (.ret (.var 5)) .nil)))⟩
noncomputable def aR5:Df:=⟨"_law_on",3,5,(.cons (.asg (.one 3) (.mk .list (.comp (.one 0) (.seq (.var 2)) (.cst .non) [none]))) (.cons (.for_ (.tup [4,5,6,7]) (.seq (.ix (.var 0) (.cst (.int 4)))) (.cons (.ite (.and (.cmp .eq (.var 5) (.var 1)) (.notN (.ix (.var 2) (.var 4)))) (.cons (.ite (.or (.isN (.ix (.var 3) (.var 6))) (.cmp .lt (.bin .add (.ix (.var 2) (.var 4)) (.var 7)) (.ix (.var 3) (.var 6)))) (.cons (.setIx (.var 3) (.var 6) (.bin .add (.ix (.var 2) (.var 4)) (.var 7))) .nil) .nil) .nil) .nil) .nil)) (.cons (.ret (.var 3)) .nil)))⟩
noncomputable def ac9:Df:=⟨"_law_begun",1,0,(.cons (.ret (.mk .list (.comp (.one 0) (.rng1 (.ix (.var 0) (.cst (.int 1)))) (.ix (.lst (.cons (.cst .non) (.cons (.cst (.int 0)) .nil))) (.bi .int (.cons (.cmp .isin (.var 0) (.ix (.var 1) (.cst (.int 2)))) .nil))) [none,some 0]))) .nil)⟩
noncomputable def ad0:Df:=⟨"_law_ended",2,0,(.cons (.ret (.mkD .min (.compIf (.one 0) (.seq (.ix (.var 0) (.cst (.int 3)))) (.notN (.ix (.var 1) (.var 0))) (.ix (.var 1) (.var 0)) [none,some 1]) (.cst .non))) .nil)⟩
noncomputable def ae1:Df:=⟨"_law_dear",3,0,(.cons (.ite (.isN (.var 1)) (.cons (.ret (.cst (.bl false))) .nil) .nil) (.cons (.ret (.or (.isN (.var 0)) (.cmp .gt (.var 0) (.bin .mul (.var 2) (.var 1))))) .nil))⟩
noncomputable def ac2:Df:=⟨"_law_due",4,7,(.cons (.asg (.one 4) (.lst (.cons (.tup (.cons (.cst (.str [])) (.cons (.call "_law_begun" (.ex (.var 0) .nil)) (.cons (.call "_law_begun" (.ex (.var 1) .nil)) .nil)))) .nil))) (.cons (.for_ (.one 5) (.rng1 (.bin .add (.var 3) (.cst (.int 1)))) (.cons (.asg (.one 6) (.lst .nil)) (.cons (.for_ (.tup [7,8,9]) (.seq (.var 4)) (.cons (.ite (.call "_law_dear" (.ex (.call "_law_ended" (.ex (.var 0) (.ex (.var 8) .nil))) (.ex (.call "_law_ended" (.ex (.var 1) (.ex (.var 9) .nil))) (.ex (.var 2) .nil)))) (.cons (.ret (.var 7)) .nil) .nil) (.cons (.for_ (.one 10) (.seq (.slU (.cst (.str [97,98,99])) (.ix (.var 0) (.cst (.int 0))))) (.cons (.ite (.cmp .lt (.var 5) (.var 3)) (.cons (.ex (.meth .append (.var 6) (.cons (.tup (.cons (.bin .add (.var 7) (.var 10)) (.cons (.call "_law_on" (.ex (.var 0) (.ex (.var 10) (.ex (.var 8) .nil)))) (.cons (.call "_law_on" (.ex (.var 1) (.ex (.var 10) (.ex (.var 9) .nil)))) .nil)))) .nil))) .nil) .nil) .nil)) .nil))) (.cons (.asg (.one 4) (.var 6)) .nil)))) (.cons (.ret (.cst .non)) .nil)))⟩
noncomputable def ac4:Df:=⟨"_law_right",4,1,(.cons (.asg (.one 4) (.call "dearer" (.ex (.var 0) (.ex (.var 1) (.ex (.var 2) (.ex (.var 3) .nil)))))) (.cons (.ite (.and (.notN (.var 4)) (.not (.bi .isStr (.cons (.var 4) .nil)))) (.cons (.ret (.cst (.bl false))) .nil) .nil) (.cons (.ret (.cmp .eq (.var 4) (.call "_law_due" (.ex (.var 0) (.ex (.var 1) (.ex (.var 2) (.ex (.var 3) .nil))))))) .nil)))⟩
noncomputable def ab4:Df:=⟨"law",1,6,(.cons (.asg (.one 1) (.call "_law_bag" (.ex (.var 0) (.ex (.cst (.int 0)) .nil)))) (.cons (.asg (.one 2) (.bin .add (.cst (.int 1)) (.call "_law_take" (.ex (.var 1) (.ex (.cst (.int 3)) .nil))))) (.cons (.asg (.one 3) (.call "_law_sized" (.ex (.var 1) (.ex (.var 2) (.ex (.bin .add (.cst (.int 1)) (.call "_law_take" (.ex (.var 1) (.ex (.cst (.int 5)) .nil)))) (.ex (.cst (.int 3)) .nil)))))) (.cons (.asg (.one 1) (.call "_law_bag" (.ex (.var 0) (.ex (.cst (.int 1)) .nil)))) (.cons (.asg (.one 4) (.call "_law_sized" (.ex (.var 1) (.ex (.var 2) (.ex (.bin .add (.cst (.int 1)) (.call "_law_take" (.ex (.var 1) (.ex (.cst (.int 5)) .nil)))) (.ex (.cst (.int 3)) .nil)))))) (.cons (.asg (.one 1) (.call "_law_bag" (.ex (.var 0) (.ex (.cst (.int 2)) .nil)))) (.cons (.asg (.one 5) (.call "_law_take" (.ex (.var 1) (.ex (.cst (.int 4)) .nil)))) (.cons (.ite (.cmp .eq (.call "_law_take" (.ex (.var 1) (.ex (.cst (.int 4)) .nil))) (.cst (.int 3))) (.cons (.asg (.one 5) (.call "_law_take" (.ex (.var 1) (.ex (.bin .add (.bin .pow (.cst (.int 10)) (.cst (.int 30))) (.cst (.int 1))) .nil)))) .nil) .nil) (.cons (.asg (.one 6) (.call "_law_take" (.ex (.var 1) (.ex (.cst (.int 6)) .nil)))) (.cons (.ite (.or (.not (.call "_law_right" (.ex (.var 3) (.ex (.var 4) (.ex (.var 5) (.ex (.var 6) .nil)))))) (.not (.call "_law_right" (.ex (.var 4) (.ex (.var 3) (.ex (.var 5) (.ex (.var 6) .nil))))))) (.cons (.ret (.cst (.bl false))) .nil) .nil) (.cons (.ret (.and (.call "_law_right" (.ex (.var 3) (.ex (.var 3) (.ex (.var 5) (.ex (.bi .min2 (.cons (.var 6) (.cons (.cst (.int 3)) .nil))) .nil))))) (.call "_law_right" (.ex (.var 3) (.ex (.var 3) (.ex (.cst (.int 0)) (.ex (.bi .min2 (.cons (.var 6) (.cons (.cst (.int 3)) .nil))) .nil))))))) .nil)))))))))))⟩
class Has (P:Pr)(d:Df):Prop where
 eq:P.df d.name=some d
class HasL (P:Pr)(d:Lm):Prop where
 eq:P.lm d.id=some d
class HasC (P:Pr)(x:String)(v:D):Prop where
 eq:P.con x=some v
noncomputable def fin (s:Sto)(c:Ct)(s':Sto):R D:=match c with
 | .ret v=>zy s v s'
 | .next _=>zy s .non s'
 | _=>.bad
@[simp] theorem fin_ret (s:Sto) (v:D) (s':Sto):fin s (.ret v) s'=zy s v s':=rfl
@[simp] theorem fin_next (s:Sto) (ρ:Env) (s':Sto):fin s (.next ρ) s'=zy s .non s':=rfl
theorem zb {P:Pr}(d:Df)[h:Has P d]{n:Nat}{l:List D}{s:Sto}(hl:l.length=d.ps) :
  (aa1 P (n+1)).call d.name l s=(exs (aa1 P n) d.body (l.map some++au d.vs none) s).bind (fin s):=by
 simp only[aa1,h.eq,hl,if_true]
 rfl
theorem bn1 {P:Pr}{x:String}{v:D}[h:HasC P x v]{n:Nat}:(aa1 P n).con x=some v:=by
 cases n<;>exact h.eq
theorem av5 (s t:Sto):as3 s (s++t)=true:=by
 unfold as3
 rw[aU]
 intro i h
 rw[cz]at h
 rw[aJ h]
 simp
theorem ax2 (s t:Sto)(r:Nat)(o:O)(h:o.bnd s.length=true):as3 s (s.set r o++t)=true:=by
 unfold as3
 rw[aU]
 intro i z
 rw[cz]at z
 rw[aJ (by rw[aP];exact z)]
 by_cases e:r=i
 ·subst e;rw[bj z];simp[h]
 ·rw[aW e];simp
theorem zT {s t:Sto}{d:D}(h:∀ n,d.bnd n=true)(hr:∀ r,d≠.ref r):zy s d (s++t)=.ok d s:=by
 unfold zy
 rw[av5,if_pos rfl]
 cases d with
 | ref r=>exact absurd rfl (hr r)
 | _=>simp[h]
theorem zt {s:Sto}{d:D}(h:∀ n,d.bnd n=true)(hr:∀ r,d≠.ref r):zy s d s=.ok d s:=by
 have:=zT (s:=s) (t:=[]) h hr
 rwa [aZ]at this
theorem az8 {s t:Sto}{d:D}{r:Nat}{o:O}(h:∀ n,d.bnd n=true)(hr:∀ r,d≠.ref r)(ho:o.bnd s.length=true):zy s d (s.set r o++t)=.ok d (s.set r o):=by
 unfold zy
 rw[ax2 s t r o ho,if_pos rfl]
 have e:(s.set r o++t).take s.length=s.set r o:=by rw[eU (by simp),d7 (by simp)]
 cases d with
 | ref r=>exact absurd rfl (hr r)
 | _=>simp only[h,if_true,e]
theorem af9 {s:Sto}{d:D}{r:Nat}{o:O}(h:∀ n,d.bnd n=true)(hr:∀ r,d≠.ref r)(ho:o.bnd s.length=true):zy s d (s.set r o)=.ok d (s.set r o):=by
 have:=az8 (s:=s) (t:=[]) (r:=r) h hr ho
 rwa [aZ]at this
theorem aj8 {s t u:Sto}{o:O}(ho:o.bnd s.length=true):zy s (.ref (s.length+t.length)) (s++(t++o::u))=.ok (.ref s.length) (s++[o]):=by
 unfold zy
 rw[av5,if_pos rfl]
 simp[ho,aF]
@[simp] theorem aP7 {s:Sto} {i:Int}:zy s (.int i) s=.ok (.int i) s:=zt (fun _=>rfl) (by nofun)
@[simp] theorem zW {s:Sto} {i:Bool}:zy s (.bl i) s=.ok (.bl i) s:=zt (fun _=>rfl) (by nofun)
@[simp] theorem aj2 {s:Sto}:zy s .non s=.ok .non s:=zt (fun _=>rfl) (by nofun)
@[simp] theorem bE2 {s:Sto} {x:List Nat}:zy s (.str x) s=.ok (.str x) s:=zt (fun _=>rfl) (by nofun)
theorem qc {c:Env->Sto->R D}{g:Env->Sto->R Ct}:∀ {n:Nat} {ρ:Env} {s:Sto},qC c g n ρ s≠.bad->qC c g (n+1) ρ s=qC c g n ρ s
 | 0,_,_,h=>absurd rfl h
 | n+1,ρ,s,h=>by
  rw[show qC c g (n+1+1) ρ s=tru (c ρ s) (fun b s=>if b then(g ρ s).bind fun z s=>match z with
   | .next ρ=>qC c g (n+1) ρ s|.cont ρ=>qC c g (n+1) ρ s|.brk ρ=>.ok (.next ρ) s|.ret d=>.ok (.ret d) s else .ok (.next ρ) s)from rfl]
  have e:qC c g (n+1) ρ s=tru (c ρ s) (fun b s=>if b then(g ρ s).bind fun z s=>match z with
   | .next ρ=>qC c g n ρ s|.cont ρ=>qC c g n ρ s|.brk ρ=>.ok (.next ρ) s|.ret d=>.ok (.ret d) s else .ok (.next ρ) s):=rfl
  rw[e]at h ⊢
  unfold tru at h ⊢
  cases hc:c ρ s with
  | exc _ _=>rfl
  | bad=>rfl
  | ok d s1 =>
   rw[hc]at h
   cases d with
   | bl b =>
    cases b with
    | false=>rfl
    | true =>
     simp only[R.bind_ok,if_true]at h ⊢
     cases hg:g ρ s1 with
     | exc _ _=>rfl
     | bad=>rfl
     | ok z s2 =>
      rw[hg]at h
      simp only[R.bind_ok]at h ⊢
      cases z with
      | next ρ'=>exact qc h
      | cont ρ'=>exact qc h
      | _=>rfl
   | _=>rfl
theorem zV {c:Env->Sto->R D}{g:Env->Sto->R Ct}{n:Nat}{ρ:Env}{s:Sto}(h:qC c g n ρ s≠.bad):∀ k,qC c g (n+k) ρ s=qC c g n ρ s
 | 0=>rfl
 | k+1=>by
  have e:=zV h k
  rw[<-dh,qc (by rw[e];exact h),e]
theorem bI6 {c:Env->Sto->R D}{g:Env->Sto->R Ct}{n:Nat}{ρ:Env}{s:Sto}{r:Ct}{t:Sto}(h:qC c g n ρ s=.ok r t):whl c g ρ s=.ok r t:=by
 have hb:qC c g n ρ s≠.bad:=by rw[h];nofun
 have hx:∃ n,qC c g n ρ s≠.bad:=⟨n,hb⟩
 unfold whl
 rw[dif_pos hx]
 have C:=zV hx.choose_spec n
 have z:=zV hb hx.choose
 rw[<-C,gL,z,h]
theorem bf4 {c:Env->Sto->R D}{g:Env->Sto->R Ct}{ρ ρ':Env}{s s1 s':Sto}(hc:c ρ s=.ok (.bl true) s1)(hg:g ρ s1=.ok (.next ρ') s'):whl c g ρ s=whl c g ρ' s':=by
 have key:∀ n,qC c g (n+1) ρ s=qC c g n ρ' s':=fun n=>by
  show tru (c ρ s) _=_
  rw[hc,tru_bl,if_pos rfl,hg];rfl
 unfold whl
 by_cases hx:∃ n,qC c g n ρ' s'≠.bad
 ·have hy:∃ n,qC c g n ρ s≠.bad:=⟨hx.choose+1,by rw[key];exact hx.choose_spec⟩
  rw[dif_pos hx,dif_pos hy]
  have z:=zV hy.choose_spec (hx.choose+1)
  have h:=zV (n:=hx.choose+1) (ρ:=ρ) (s:=s) (by rw[key];exact hx.choose_spec) hy.choose
  rw[<-z,gL,h,key]
 ·have hy:¬ ∃ n,qC c g n ρ s≠.bad:=fun⟨n,hn⟩=>by
   cases n with
   | zero=>exact hn rfl
   | succ n=>exact hx ⟨n,by rw[<-key];exact hn⟩
  rw[dif_neg hx,dif_neg hy]
theorem bx3 {c:Env->Sto->R D}{g:Env->Sto->R Ct}{ρ:Env}{s s1:Sto}(hc:c ρ s=.ok (.bl false) s1):whl c g ρ s=.ok (.next ρ) s1 :=
 bI6 (n:=1) (by show tru (c ρ s) _=_;rw[hc,tru_bl];rfl)
theorem al1 {ok:Sto->Bool}{g:D->Env->Sto->R Ct}(P:Nat->Env->Sto->Prop):∀(l:List D) (k:Nat) (ρ:Env) (s:Sto),
  P k ρ s->(∀(j:Nat) (ρ:Env) (s:Sto),j<=l.length->P (k+j) ρ s->ok s=true)->(∀(j:Nat) (d:D) (ρ:Env) (s:Sto),l[j]?=some d->P (k+j) ρ s->∃ ρ' s',(g d ρ s=.ok (.next ρ') s'\/g d ρ s=.ok (.cont ρ') s')/\P (k+j+1) ρ' s') ->
  ∃ ρ' s',ag8 ok g l ρ s=.ok (.next ρ') s'/\P (k+l.length) ρ' s'
 | [],k,ρ,s,h,o,_=>⟨ρ,s,by show(if ok s then _ else _)=_;rw[if_pos (o 0 ρ s (aj _) h)],h⟩
 | d::l,k,ρ,s,h,o,t=>by
  have ho:=o 0 ρ s (cu _) h
  obtain⟨ρ1,s1,hg,z⟩:=t 0 d ρ s rfl h
  obtain⟨ρ2,s2,e,C⟩:=al1 P l (k+1) ρ1 s1 z (fun j ρ' s' hj hp=>o (j+1) ρ' s' (by simpa using hj) (by rwa [show k+(j+1)=k+1+j by omega])) fun j d' ρ' s' hj hp=>by
   have:=t (j+1) d' ρ' s' (by simpa using hj) (by rwa [show k+(j+1)=k+1+j by omega])
   rwa [show k+(j+1)+1=k+1+j+1 by omega]at this
  refine⟨ρ2,s2,?_,by rwa [aI,show k+(l.length+1)=k+1+l.length by omega]⟩
  show(if ok s then _ else _)=_
  rw[if_pos ho]
  rcases hg with hg|hg<;>(rw[hg];exact e)
noncomputable def Nx (Q:Env->Sto->Prop):R Ct->Prop
 | .ok (.next ρ) s=>Q ρ s
 | .ok (.cont ρ) s=>Q ρ s
 | _=>False
@[simp] theorem bU6 (Q:Env->Sto->Prop) (ρ:Env) (s:Sto):Nx Q (.ok (.next ρ) s)=Q ρ s:=rfl
@[simp] theorem bV7 (Q:Env->Sto->Prop) (ρ:Env) (s:Sto):Nx Q (.ok (.cont ρ) s)=Q ρ s:=rfl
theorem bn9 {Q:Env->Sto->Prop}{r:R Ct}{ρ:Env}{s:Sto}(e:r=.ok (.next ρ) s)(h:Q ρ s):Nx Q r:=by rw[e];exact h
theorem Nx.out {Q:Env->Sto->Prop}:∀ {r:R Ct},Nx Q r->∃ ρ s,(r=.ok (.next ρ) s\/r=.ok (.cont ρ) s)/\Q ρ s
 | .ok (.next ρ) s,h=>⟨ρ,s,.inl rfl,h⟩
 | .ok (.cont ρ) s,h=>⟨ρ,s,.inr rfl,h⟩
 | .ok (.ret _) _,h=>h.elim
 | .ok (.brk _) _,h=>h.elim
 | .exc _ _,h=>h.elim
 | .bad,h=>h.elim
noncomputable def Tst (A B:Sto->Prop):R D->Prop
 | .ok (.bl false) s=>A s
 | .ok (.bl true) s=>B s
 | _=>False
@[simp] theorem bk4 (A B:Sto->Prop) (b:Bool) (s:Sto):Tst A B (.ok (.bl b) s)=if b then B s else A s:=by cases b<;>rfl
theorem Tst.out {A B:Sto->Prop}:∀ {r:R D},Tst A B r->(∃ s,r=.ok (.bl false) s/\A s)\/∃ s,r=.ok (.bl true) s/\B s
 | .ok (.bl false) s,h=>.inl ⟨s,rfl,h⟩
 | .ok (.bl true) s,h=>.inr ⟨s,rfl,h⟩
 | .ok .non _,h=>h.elim
 | .ok (.int _) _,h=>h.elim
 | .ok (.str _) _,h=>h.elim
 | .ok (.tup _) _,h=>h.elim
 | .ok (.ref _) _,h=>h.elim
 | .ok (.fn _) _,h=>h.elim
 | .ok (.clo _ _) _,h=>h.elim
 | .exc _ _,h=>h.elim
 | .bad,h=>h.elim
theorem bc9 {c:Env->Sto->R D}{g:Env->Sto->R Ct}{ρ ρ':Env}{s s1 s':Sto}(hc:c ρ s=.ok (.bl true) s1)(hg:g ρ s1=.ok (.cont ρ') s'):whl c g ρ s=whl c g ρ' s':=by
 have key:∀ n,qC c g (n+1) ρ s=qC c g n ρ' s':=fun n=>by
  show tru (c ρ s) _=_
  rw[hc,tru_bl,if_pos rfl,hg];rfl
 unfold whl
 by_cases hx:∃ n,qC c g n ρ' s'≠.bad
 ·have hy:∃ n,qC c g n ρ s≠.bad:=⟨hx.choose+1,by rw[key];exact hx.choose_spec⟩
  rw[dif_pos hx,dif_pos hy]
  have z:=zV hy.choose_spec (hx.choose+1)
  have h:=zV (n:=hx.choose+1) (ρ:=ρ) (s:=s) (by rw[key];exact hx.choose_spec) hy.choose
  rw[<-z,gL,h,key]
 ·have hy:¬ ∃ n,qC c g n ρ s≠.bad:=fun⟨n,hn⟩=>by
   cases n with
   | zero=>exact hn rfl
   | succ n=>exact hx ⟨n,by rw[<-key];exact hn⟩
  rw[dif_neg hx,dif_neg hy]
theorem bE6 {c:Env->Sto->R D}{g:Env->Sto->R Ct}(P:Nat->Env->Sto->Prop)(Q:Env->Sto->Prop)
  (step:∀ k ρ s,P k ρ s->Tst (fun s1=>Q ρ s1) (fun s1=>Nx (fun ρ' s'=>∃ z,z<k/\P z ρ' s') (g ρ s1)) (c ρ s)) :
  ∀(k:Nat) (ρ:Env) (s:Sto),P k ρ s->∃ ρ' s',whl c g ρ s=.ok (.next ρ') s'/\Q ρ' s':=by
 intro k
 induction k using Nat.strongRecOn with
 | _ k ih =>
  intro ρ s h
  rcases(step k ρ s h).out with⟨s1,hc,hq⟩|⟨s1,hc,hn⟩
  ·exact⟨ρ,s1,bx3 hc,hq⟩
  ·obtain⟨ρ',s',hg,z,hk,hp⟩:=hn.out
   rcases hg with hg|hg
   ·rw[bf4 hc hg];exact ih z hk ρ' s' hp
   ·rw[bc9 hc hg];exact ih z hk ρ' s' hp
theorem bb0 {c:Env->Sto->R D}{g:Env->Sto->R Ct}{ρ:Env}{s:Sto}{α:Type}{f:Ct->Sto->R α}{W:R α->Prop}(P:Nat->Env->Sto->Prop)(Q:Env->Sto->Prop)(k:Nat)(h:P k ρ s)
  (step:∀ k ρ s,P k ρ s->Tst (fun s1=>Q ρ s1) (fun s1=>Nx (fun ρ' s'=>∃ z,z<k/\P z ρ' s') (g ρ s1)) (c ρ s))
  (hf:∀ ρ' s',Q ρ' s'->W (f (.next ρ') s')):W ((whl c g ρ s).bind f):=by
 obtain⟨ρ',s',e,q⟩:=bE6 P Q step k ρ s h
 rw[e]
 exact hf ρ' s' q
theorem bc4 {c:Env->Sto->R D}{g:Env->Sto->R Ct}{ρ:Env}{s:Sto}{α:Type}{f:Ct->Sto->R α}{x:R α}(P:Nat->Env->Sto->Prop)(Q:Env->Sto->Prop)(k:Nat)(h:P k ρ s)
  (step:∀ k ρ s,P k ρ s->Tst (fun s1=>Q ρ s1) (fun s1=>Nx (fun ρ' s'=>∃ z,z<k/\P z ρ' s') (g ρ s1)) (c ρ s))
  (hf:∀ ρ' s',Q ρ' s'->f (.next ρ') s'=x):(whl c g ρ s).bind f=x:=bb0 (W:=(·=x)) P Q k h step hf
theorem aq6 {ok:Sto->Bool}{g:D->Env->Sto->R Ct}{l:List D}{ρ:Env}{s:Sto}{α:Type}{f:Ct->Sto->R α}{W:R α->Prop}(P:Nat->Env->Sto->Prop)(h:P 0 ρ s)
  (o:∀(j:Nat) (ρ:Env) (s:Sto),j<=l.length->P j ρ s->ok s=true) (step:∀(j:Nat) (d:D) (ρ:Env) (s:Sto),l[j]?=some d->P j ρ s->Nx (P (j+1)) (g d ρ s))
  (hf:∀ ρ' s',P l.length ρ' s'->W (f (.next ρ') s')):W ((ag8 ok g l ρ s).bind f):=by
 obtain⟨ρ',s',e,q⟩:=al1 P l 0 ρ s h (fun j ρ s hj hp=>o j ρ s hj (by rwa [bv]at hp)) (fun j d ρ s hj hp=>by
  rw[bv]at hp ⊢
  exact(step j d ρ s hj hp).out)
 rw[e]
 rw[bv]at q
 exact hf ρ' s' q
theorem bg0 {ok:Sto->Bool}{g:D->Env->Sto->R Ct}{l:List D}{ρ:Env}{s:Sto}{α:Type}{f:Ct->Sto->R α}{x:R α}(P:Nat->Env->Sto->Prop)(h:P 0 ρ s)
  (o:∀(j:Nat) (ρ:Env) (s:Sto),j<=l.length->P j ρ s->ok s=true) (step:∀(j:Nat) (d:D) (ρ:Env) (s:Sto),l[j]?=some d->P j ρ s->Nx (P (j+1)) (g d ρ s))
  (hf:∀ ρ' s',P l.length ρ' s'->f (.next ρ') s'=x):(ag8 ok g l ρ s).bind f=x:=aq6 (W:=(·=x)) P h o step hf
section
variable {F:Fns} {ρ:Env} {s:Sto}
@[simp] theorem ev_var (i:Nat):ev F (.var i) ρ s=aY3 ρ i s:=rfl
@[simp] theorem ev_cst (c:Cn):ev F (.cst c) ρ s=.ok c.d s:=rfl
@[simp] theorem ev_bin (op:BOp) (a b:E):ev F (.bin op a b) ρ s=(ev F a ρ s).bind fun x s=>(ev F b ρ s).bind fun y s=>af5 op x y s:=rfl
@[simp] theorem ev_not (a:E):ev F (.not a) ρ s=tru (ev F a ρ s) fun b s=>.ok (.bl (!b)) s:=rfl
@[simp] theorem ev_cmp (op:COp) (a b:E):ev F (.cmp op a b) ρ s=(ev F a ρ s).bind fun x s=>(ev F b ρ s).bind fun y s=>zZ op x y s:=rfl
@[simp] theorem bQ8 (o p:COp) (a b c:E):ev F (.chain o p a b c) ρ s=(ev F a ρ s).bind fun x s=>(ev F b ρ s).bind fun y s=>tru (zZ o x y s) fun k s=>if k then(ev F c ρ s).bind fun z s=>zZ p y z s else .ok (.bl false) s:=rfl
@[simp] theorem ev_isN (a:E):ev F (.isN a) ρ s=(ev F a ρ s).bind fun x s=>.ok (.bl (decide (x=.non))) s:=rfl
@[simp] theorem ev_notN (a:E):ev F (.notN a) ρ s=(ev F a ρ s).bind fun x s=>.ok (.bl (!decide (x=.non))) s:=rfl
@[simp] theorem ev_and (a b:E):ev F (.and a b) ρ s=tru (ev F a ρ s) fun c s=>if c then tru (ev F b ρ s) fun c s=>.ok (.bl c) s else .ok (.bl false) s:=rfl
@[simp] theorem ev_or (a b:E):ev F (.or a b) ρ s=tru (ev F a ρ s) fun c s=>if c then .ok (.bl true) s else tru (ev F b ρ s) fun c s=>.ok (.bl c) s:=rfl
@[simp] theorem ev_ite (c a b:E):ev F (.ite c a b) ρ s=tru (ev F c ρ s) fun k s=>if k then ev F a ρ s else ev F b ρ s:=rfl
@[simp] theorem ev_tup (es:Es):ev F (.tup es) ρ s=(evs F es ρ s).bind fun l s=>.ok (.tup l) s:=rfl
@[simp] theorem ev_lst (es:Es):ev F (.lst es) ρ s=(evs F es ρ s).bind fun l s=>ac0 (.lst l) s:=rfl
@[simp] theorem ev_ix (a b:E):ev F (.ix a b) ρ s=(ev F a ρ s).bind fun x s=>(ev F b ρ s).bind fun y s=>ixM x y s:=rfl
@[simp] theorem ev_call (f:String) (h:As):ev F (.call f h) ρ s=(an3 F h ρ s).bind fun l s=>F.call f l s:=rfl
@[simp] theorem bQ3 (f:String) (h:As):ev F (.callC f h) ρ s=(an3 F h ρ s).bind fun l s=>(F.call f l s).bind fun d s'=>if(d.ncl&&s'.all O.ncl)=true then .ok d s' else .bad:=rfl
@[simp] theorem ev_bi (b:Bi) (es:Es):ev F (.bi b es) ρ s=(evs F es ρ s).bind fun l s=>bi b l s:=rfl
@[simp] theorem ev_mk (k:Mk) (it:L):ev F (.mk k it) ρ s=(evL F it ρ s).bind fun q s=>mk k q s:=rfl
@[simp] theorem ev_mkD (k:Mk) (it:L) (d:E):ev F (.mkD k it d) ρ s=(evL F it ρ s).bind fun q s=>(ev F d ρ s).bind fun d s=>mkD k q d s:=rfl
@[simp] theorem ev_mks (k:Mk) (e:E):ev F (.mks k e) ρ s=(ev F e ρ s).bind fun x s=>(bk5 x s).bind fun q s=>mk k q s:=rfl
@[simp] theorem ca8 (o:E) (c:Nat):ev F (.spl o c) ρ s=(ev F o ρ s).bind fun x s=>bN3 c x s:=rfl
@[simp] theorem bT0 (id:String) (e:E) (j:Int):ev F (.minK id e j) ρ s=(ev F e ρ s).bind fun x s=>(bk5 x s).bind fun q s=>bx6 j q s:=rfl
@[simp] theorem ev_mkDs (k:Mk) (e d:E):ev F (.mkDs k e d) ρ s=(ev F e ρ s).bind fun x s=>(ev F d ρ s).bind fun z s=>(bk5 x s).bind fun q s=>mkD k q z s:=rfl
@[simp] theorem ev_meth (m:Mt) (o:E) (es:Es):ev F (.meth m o es) ρ s=(ev F o ρ s).bind fun x s=>(evs F es ρ s).bind fun l s=>meth m x l s:=rfl
@[simp] theorem bU4 (o e:E):ev F (.extS o e) ρ s=(ev F o ρ s).bind fun x s=>(ev F e ρ s).bind fun y s=>extS x y s:=rfl
@[simp] theorem ca2 (a:E):ev F (.rev a) ρ s=(ev F a ρ s).bind fun x s=>bT8 x s:=rfl
@[simp] theorem ca0 (o:E) (it:L):ev F (.ext o it) ρ s=(ev F o ρ s).bind fun x s=>(evL F it ρ s).bind fun q s=>bC8 x q s:=rfl
@[simp] theorem evs_nil:evs F .nil ρ s=.ok [] s:=rfl
@[simp] theorem evs_cons (e:E) (es:Es):evs F (.cons e es) ρ s=(ev F e ρ s).bind fun d s=>(evs F es ρ s).bind fun l s=>.ok (d::l) s:=rfl
@[simp] theorem evas_nil:an3 F .nil ρ s=.ok [] s:=rfl
@[simp] theorem evas_ex (e:E) (h:As):an3 F (.ex e h) ρ s=(ev F e ρ s).bind fun d s=>(an3 F h ρ s).bind fun l s=>.ok (d::l) s:=rfl
@[simp] theorem bR3 (f:String) (h:As):an3 F (.fn f h) ρ s=(an3 F h ρ s).bind fun l s=>.ok (.fn f::l) s:=rfl
@[simp] theorem evI_seq (e:E):evI F (.seq e) ρ s=(ev F e ρ s).bind fun d s=>at7 d s:=rfl
@[simp] theorem bQ2 (es:Es):evL F (.disp es) ρ s=evs F es ρ s:=rfl
@[simp] theorem evL_seq (e:E):evL F (.seq e) ρ s=(ev F e ρ s).bind fun d s=>bA1 d s:=rfl
noncomputable def by6 (x:D):M Sq:=fun s=>match x with|.int i=>if -W62<=i/\i<W62 then .ok ⟨ad8 0 i,[]⟩ s else .bad|_=>.bad
@[simp] theorem evI_rng1 (a:E):evI F (.rng1 a) ρ s=(ev F a ρ s).bind fun x s=>by6 x s:=rfl
theorem qw {i:Int}(h0:-W62<=i)(h:i<W62):by6 (.int i) s=.ok ⟨ad8 0 i,[]⟩ s:=by unfold by6;simp only[h0,h,and_self,if_true]
noncomputable def nxt (F:Fns)(ss:Ss)(c:Ct)(s:Sto):R Ct:=match c with|.next ρ=>exs F ss ρ s|c=>.ok c s
@[simp] theorem nxt_next (h:Ss) (ρ:Env) (s:Sto):nxt F h (.next ρ) s=exs F h ρ s:=rfl
@[simp] theorem nxt_ret (h:Ss) (d:D) (s:Sto):nxt F h (.ret d) s=.ok (.ret d) s:=rfl
@[simp] theorem nxt_cont (h:Ss) (ρ:Env) (s:Sto):nxt F h (.cont ρ) s=.ok (.cont ρ) s:=rfl
@[simp] theorem exs_nil:exs F .nil ρ s=.ok (.next ρ) s:=rfl
@[simp] theorem exs_cons (st:S) (h:Ss):exs F (.cons st h) ρ s=(ex F st ρ s).bind (nxt F h):=rfl
noncomputable def bS1 (ρ:Option Env)(s:Sto):R Ct:=match ρ with|some ρ=>.ok (.next ρ) s|none=>.bad
@[simp] theorem setC_some (ρ:Env) (s:Sto):bS1 (some ρ) s=.ok (.next ρ) s:=rfl
@[simp] theorem ex_asg (tg:Tg) (e:E):ex F (.asg tg e) ρ s=(ev F e ρ s).bind fun d s=>bS1 (ac5 ρ tg d) s:=rfl
@[simp] theorem ex_setIx (o i e:E):ex F (.setIx o i e) ρ s=(ev F e ρ s).bind fun d s=>(ev F o ρ s).bind fun x s=>(ev F i ρ s).bind fun y s=>(setIx x y d s).bind fun _ s=>.ok (.next ρ) s:=rfl
@[simp] theorem ex_ex (e:E):ex F (.ex e) ρ s=(ev F e ρ s).bind fun _ s=>.ok (.next ρ) s:=rfl
@[simp] theorem ex_ret (e:E):ex F (.ret e) ρ s=(ev F e ρ s).bind fun d s=>.ok (.ret d) s:=rfl
@[simp] theorem bS2:ex F .retN ρ s=.ok (.ret .non) s:=rfl
@[simp] theorem ex_ite (c:E) (a b:Ss):ex F (.ite c a b) ρ s=tru (ev F c ρ s) fun k s=>if k then exs F a ρ s else exs F b ρ s:=rfl
@[simp] theorem ex_whl (c:E) (b:Ss):ex F (.whl c b) ρ s=whl (ev F c) (exs F b) ρ s:=rfl
noncomputable def turn (F:Fns)(tg:Tg)(b:Ss)(d:D)(ρ:Env)(s:Sto):R Ct:=match ac5 ρ tg d with
 | some ρ=>exs F b ρ s
 | none=>.bad
@[simp] theorem ex_for (tg:Tg) (it:I) (b:Ss):ex F (.for_ tg it b) ρ s=(evI F it ρ s).bind fun q s0=>ag8 (fun s=>chk s0 s q.src) (turn F tg b) q.its ρ s0:=rfl
@[simp] theorem ex_cont:ex F .cont ρ s=.ok (.cont ρ) s:=rfl
@[simp] theorem ex_und (i:Nat):ex F (.und i) ρ s=bS1 (al0 ρ i) s:=rfl
@[simp] theorem ex_pass:ex F .pass ρ s=.ok (.next ρ) s:=rfl
@[simp] theorem bindT_one (i:Nat) (d:D):ac5 ρ (.one i) d=aB4 ρ i d:=rfl
@[simp] theorem bindT_tup (is:List Nat) (l:List D):ac5 ρ (.tup is) (.tup l)=am8 ρ is l:=rfl
@[simp] theorem setVs_nil:am8 ρ [] []=some ρ:=rfl
@[simp] theorem setVs_cons (i:Nat) (is:List Nat) (d:D) (l:List D):am8 ρ (i::is) (d::l)=(aB4 ρ i d).bind fun ρ=>am8 ρ is l:=rfl
@[simp] theorem getV_0 (d:D) (ρ:Env):aY3 (some d::ρ) 0 s=.ok d s:=rfl
@[simp] theorem getV_s (x:Option D) (ρ:Env) (i:Nat):aY3 (x::ρ) (i+1) s=aY3 ρ i s:=by unfold aY3;rw[List.getElem?_cons_succ]
@[simp] theorem setV_0 (d:D) (x:Option D) (ρ:Env):aB4 (x::ρ) 0 d=some (some d::ρ):=rfl
@[simp] theorem setV_s (d:D) (x:Option D) (ρ:Env) (i:Nat):aB4 (x::ρ) (i+1) d=(aB4 ρ i d).map (x::·):=by
 unfold aB4
 by_cases h:i < ρ.length
 ·rw[if_pos (by simpa using h),if_pos h];rfl
 ·rw[if_neg (by simpa using h),if_neg h];rfl
@[simp] theorem unsetV_0 (x:Option D) (ρ:Env):al0 (x::ρ) 0=some (none::ρ):=rfl
@[simp] theorem unsetV_s (x:Option D) (ρ:Env) (i:Nat):al0 (x::ρ) (i+1)=(al0 ρ i).map (x::·):=by
 unfold al0
 by_cases h:i < ρ.length
 ·rw[if_pos (by simpa using h),if_pos h];rfl
 ·rw[if_neg (by simpa using h),if_neg h];rfl
@[simp] theorem Cn_int (i:Int):(Cn.int i).d=.int i:=rfl
@[simp] theorem Cn_bl (i:Bool):(Cn.bl i).d=.bl i:=rfl
@[simp] theorem Cn_str (i:List Nat):(Cn.str i).d=.str i:=rfl
@[simp] theorem Cn_non:Cn.non.d=.non:=rfl
@[simp] theorem add_int (a b:Int):af5 .add (.int a) (.int b) s=.ok (.int (a+b)) s:=rfl
@[simp] theorem sub_int (a b:Int):af5 .sub (.int a) (.int b) s=.ok (.int (a - b)) s:=rfl
theorem ad2 {a b:Int}(h:mulOk a b=true):af5 .mul (.int a) (.int b) s=.ok (.int (a*b)) s:=by show(if mulOk a b then _ else _:M D) s=_;rw[if_pos h];rfl
theorem aU9 {a b:Int}(h:a.natAbs<2^64):mulOk a b=true:=by unfold mulOk;simp[h]
theorem ag2 {a b:Int}(h:b.natAbs<2^64):mulOk a b=true:=by unfold mulOk;simp[h]
theorem ak5 {a b:Int}(h:0<b):af5 .mod (.int a) (.int b) s=.ok (.int (a % b)) s:=by show(if 0<b then _ else _:M D) s=_;rw[if_pos h];rfl
theorem bs3:(10:Int)^200<=(DIVL:Int):=by unfold DIVL;decide +kernel
theorem ar9 {a b:Int}(h:0<b)(z:b<10^200):af5 .fdiv (.int a) (.int b) s=.ok (.int (a / b)) s:=by show(if 0<b/\b<(DIVL:Int)then _ else _:M D) s=_;rw[if_pos ⟨h,Int.lt_of_lt_of_le z bs3⟩];rfl
theorem aB2 {a b:Int}(h:0<=b/\b<=1000000/\a.natAbs<2^64):af5 .pow (.int a) (.int b) s=.ok (.int (a^b.toNat)) s:=by show(if _ then _ else _:M D) s=_;rw[if_pos h];rfl
@[simp] theorem lt_int (a b:Int):zZ .lt (.int a) (.int b) s=.ok (.bl (decide (a<b))) s:=rfl
@[simp] theorem le_int (a b:Int):zZ .le (.int a) (.int b) s=.ok (.bl (decide (a<=b))) s:=rfl
@[simp] theorem gt_int (a b:Int):zZ .gt (.int a) (.int b) s=.ok (.bl (decide (b<a))) s:=rfl
@[simp] theorem ge_int (a b:Int):zZ .ge (.int a) (.int b) s=.ok (.bl (decide (b<=a))) s:=rfl
@[simp] theorem eq_int (a b:Int):zZ .eq (.int a) (.int b) s=.ok (.bl (decide (a=b))) s:=rfl
@[simp] theorem ne_int (a b:Int):zZ .ne (.int a) (.int b) s=.ok (.bl (!decide (a=b))) s:=rfl
@[simp] theorem alloc_eq (o:O):ac0 o s=.ok (.ref s.length) (s++[o]):=rfl
@[simp] theorem bT9 (l:List D):bi .len [.tup l] s=.ok (.int l.length) s:=rfl
@[simp] theorem bw5 (l:List Nat):bi .len [.str l] s=.ok (.int l.length) s:=rfl
theorem bG5 {r:Nat}{l:List D}(h:s[r]?=some (.ro l)):bi .len [.ref r] s=.ok (.int l.length) s:=by simp only[bi,bi1,bz7,h]
@[simp] theorem bX4 (i:Int):bi .abs [.int i] s=.ok (.int (if i<0 then -i else i)) s:=rfl
@[simp] theorem aJ6 (a b:Int):bi .min2 [.int a,.int b] s=.ok (.int (if b<a then b else a)) s:=rfl
@[simp] theorem bQ5 (a b:Int):bi .max2 [.int a,.int b] s=.ok (.int (if b > a then b else a)) s:=rfl
@[simp] theorem bK2 (a:Int):bi .isInt [.int a] s=.ok (.bl true) s:=rfl
@[simp] theorem bz9 (a:Int):bi .isBool [.int a] s=.ok (.bl false) s:=rfl
@[simp] theorem bC5 (l:List D):bi .isTup [.tup l] s=.ok (.bl true) s:=rfl
theorem bP4 {r:Nat}{l:List D}{j:Nat}{d:D}(h:s[r]?=some (.ro l))(hj:l[j]?=some d):ixM (.ref r) (.int (j:Int)) s=.ok d s:=by
 have hl:j<l.length:=(ac.mp hj).1
 have e:l[j]=d:=(ac.mp hj).2
 simp[ixM,h,ixn,hl,e]
theorem aw5 {r:Nat}{l:List D}{j:Nat}{d:D}(h:s[r]?=some (.lst l))(hj:l[j]?=some d):ixM (.ref r) (.int (j:Int)) s=.ok d s:=by
 have hl:j<l.length:=(ac.mp hj).1
 have e:l[j]=d:=(ac.mp hj).2
 simp[ixM,h,ixn,hl,e]
theorem ix_tup {l:List D}{j:Nat}{d:D}(hj:l[j]?=some d):ixM (.tup l) (.int (j:Int)) s=.ok d s:=by
 have hl:j<l.length:=(ac.mp hj).1
 have e:l[j]=d:=(ac.mp hj).2
 simp[ixM,ixn,hl,e]
theorem by1 {r:Nat}{l:List D}{j:Nat}{v:D}(h:s[r]?=some (.lst l))(hl:j<l.length):setIx (.ref r) (.int (j:Int)) v s=.ok () (s.set r (.lst (l.set j v))):=by
 simp[setIx,h,ixn,hl]
theorem ag4 {r:Nat}{l:List D}{v:D}(h:s[r]?=some (.lst l))(hl:l.length<LIM):meth .append (.ref r) [v] s=.ok .non (s.set r (.lst (l++[v]))):=by
 show(match s[r]? with|some (.lst l)=>(if l.length<LIM then R.ok D.non (s.set r (.lst (l++[v])))else .bad)|_=>.bad:R D)=_
 rw[h]
 exact if_pos hl
end
theorem aD5 (s t:Sto)(b:Bool):∃ s',zy s (.bl b) t=.ok (.bl b) s':=by
 unfold zy
 by_cases h:as3 s t=true
 ·rw[if_pos h];exact⟨_,rfl⟩
 ·rw[if_neg h];exact⟨_,rfl⟩
def Yes (r:R D):Prop:=∃ s',r=.ok (.bl true) s'
theorem ay9 (s t:Sto):Yes (zy s (.bl true) t):=aD5 s t true
theorem ai6 {a b:Int}{j:Nat}{d:D}(h:(ad8 a b)[j]?=some d):(j:Int)<b - a/\d=.int (a+j):=by
 have hj:=(ac.mp h).1
 simp only[ad8,ay,List.length_range]at hj
 unfold ad8 at h
 rw[aA,cq hj]at h
 exact⟨by omega,(av h).symm⟩
def bT7 (P:Pr)(k:Nat):Prop:=∀ ns:List Int,ns.length<=63->Yes ((aa1 P k).call "law" [.ref 0] [.ro (ns.map D.int)])
noncomputable def zG:Option Int->D
 | none=>.non
 | some i=>.int i
@[simp] theorem zw:zG none=.non:=rfl
@[simp] theorem zn (i:Int):zG (some i)=.int i:=rfl
@[simp] theorem ai5 (p:Option Int) (n:Nat):(zG p).bnd n=true:=by cases p<;>rfl
theorem aq9 (p:Option Int)(r:Nat):zG p≠.ref r:=by cases p<;>nofun
@[simp] theorem ap8 {s:Sto} {p:Option Int}:zy s (zG p) s=.ok (zG p) s:=zt (ai5 p) (aq9 p)
noncomputable def cutO (k:Int):Option Int->Option Int
 | none=>none
 | some p=>if p<=k then some p else some (k+1)
theorem bM5 {P:Pr}[Has P am4](n:Nat)(p:Option Int)(k:Int)(s:Sto):(aa1 P (n+1)).call "cut" [zG p,.int k] s=.ok (zG (cutO k p)) s:=by
 refine(zb am4 rfl).trans ?_
 cases p with
 | none=>simp[am4,cutO]
 | some p =>
  by_cases h:p<=k<;>simp[am4,cutO,h]
noncomputable def zd (b:Nat×Nat):O:=.lst [.int b.1,.int b.2]
@[simp] theorem bR2 (b:Nat×Nat) (n:Nat):(zd b).bnd n=true:=rfl
noncomputable def tkW (many:Nat):Nat->Nat->Nat->Nat->Nat×Nat
 | 0,mix,num,_=>(num,mix)
 | n+1,mix,num,room=>if room<many then tkW many n ((mix*48271+7919) % 2147483647) (num*1073741789+(mix*48271+7919) % 2147483647 / 8*69621 % 1073741789) (room*1073741789)else(num,mix)
noncomputable def tk (b:Nat×Nat)(many:Nat):Nat×(Nat×Nat) :=
 if 0<b.1 then(b.1 % many,(b.1 / many,b.2))else let r:=tkW many 12 b.2 0 1;(r.1 % many,(b.1,r.2))
theorem bT2 (b:Nat×Nat){many:Nat}(h:0<many):(tk b many).1<many:=by
 unfold tk
 split
 ·exact Nat.mod_lt _ h
 ·exact Nat.mod_lt _ h
theorem aW9 {many:Nat}{k z C room:Nat}(h:many<=room):tkW many k z C room=(C,z):=by
 cases k with
 | zero=>rfl
 | succ k=>unfold tkW;rw[if_neg (by omega)]
theorem bh4 {many:Nat}{k z C room:Nat}(h:room<many):tkW many (k+1) z C room=tkW many k ((z*48271+7919) % 2147483647) (C*1073741789+(z*48271+7919) % 2147483647 / 8*69621 % 1073741789) (room*1073741789):=by
 conv=>lhs;unfold tkW
 rw[if_pos h]
theorem bv0 {P:Pr}[Has P ac6](n:Nat)(b:Nat×Nat)(many:Nat)(h0:0<many)(h:many<=10^90)(s:Sto)(r:Nat)(hs:s[r]?=some (zd b)) :
  (aa1 P (n+1)).call "_law_take" [.ref r,.int many] s=.ok (.int (tk b many).1) (s.set r (zd (tk b many).2)):=by
 refine(zb ac6 rfl).trans ?_
 obtain⟨c,m⟩:=b
 have hr:r<s.length:=(ac.mp hs).1
 have G:(0:Int)<(many:Int):=by omega
 have Z:(many:Int)<10^200:=by
  have:(10:Int)^90<10^200:=by decide +kernel
  have:((many:Nat):Int)<=((10^90:Nat):Int):=by exact_mod_cast h
  omega
 by_cases hc:0<c
 ·have J:s[r]?=some (.lst [.int c,.int m]):=hs
  simp[ac6,ixM,J,ixn,hc,ak5 G,ar9 G Z,setIx,tk]
  exact af9 (fun _=>rfl) (by nofun) rfl
 ·have Y:c=0:=by omega
  subst Y
  have J:s[r]?=some (.lst [.int 0,.int m]):=hs
  simp[ac6,ixM,J,ixn]
  refine bc4 (fun k ρ t=>∃ z C room:Nat,ρ=[some (.ref r),some (.int many),none,some (.int C),some (.int room)]/\t=s.set r (zd (0,z))/\many<=room*1073741789^k/\tkW many k z C room=tkW many 12 m 0 1)
   (fun ρ t=>∃ room:Nat,ρ=[some (.ref r),some (.int many),none,some (.int (tkW many 12 m 0 1).1),some (.int room)]/\t=s.set r (zd (0,(tkW many 12 m 0 1).2))) 12 ⟨m,0,1,by simp,?_,?_,rfl⟩ ?_ ?_
  ·have e:s[r]=zd (0,m):=(ac.mp hs).2
   rw[<-e,eg]
  ·refine ak h ?_
   decide +kernel
  ·rintro k ρ t ⟨z,C,room,rfl,rfl,F,he⟩
   by_cases hlt:room<many
   ·simp only[ev_cmp,ev_var,getV_0,getV_s,R.bind_ok,lt_int,bk4,jt,hlt,decide_true,if_true]
    cases k with
    | zero=>simp at F;omega
    | succ k =>
     have h1:(s.set r (zd (0,z)))[r]?=some (.lst [.int 0,.int z]):=by rw[bj hr];rfl
     have m1:∀ a:Int,mulOk a 48271=true:=fun a=>ag2 (by decide)
     have m2:∀ a:Int,mulOk a 1073741789=true:=fun a=>ag2 (by decide)
     have m3:∀ a:Int,mulOk a 69621=true:=fun a=>ag2 (by decide)
     refine bn9 ?_ ⟨k,eI k,(z*48271+7919) % 2147483647,C*1073741789+(z*48271+7919) % 2147483647 / 8*69621 % 1073741789,room*1073741789,rfl,rfl,?_,?_⟩
     ·simp[ixM,h1,ixn,ad2 (m1 _),ak5,setIx,hr,ad2 (m2 _),ad2 (m3 _),ar9,zd]
     ·rw[jw]at F
      rw[Nat.mul_assoc,kA 1073741789];exact F
     ·rw[<-he,bh4 hlt]
   ·simp only[ev_cmp,ev_var,getV_0,getV_s,R.bind_ok,lt_int,bk4,jt,hlt,decide_false,if_false,bC]
    refine⟨room,?_,?_⟩
    ·rw[<-he,aW9 (by omega)]
    ·rw[<-he,aW9 (by omega)]
  ·rintro ρ t ⟨room,rfl,rfl⟩
   simp[ak5 G,tk]
   exact af9 (fun _=>rfl) (by nofun) rfl
noncomputable def bk7 (at_:Int)(ns:List Int):Nat->Int
 | 0=>7919*at_+17
 | k+1=>(bk7 at_ ns k*48271+(ns.getD k 0) % 2147483647+k) % 2147483629
theorem bq1 (at_:Int)(h:0<=at_)(ns:List Int):∀ k,0<=bk7 at_ ns k
 | 0=>by unfold bk7;omega
 | k+1=>by unfold bk7;exact Int.emod_nonneg _ (by decide)
noncomputable def cellF (ns:List Int)(at_:Nat):Nat:=if 10^18<=(ns.getD at_ 0).natAbs then(ns.getD at_ 0).natAbs else 0
noncomputable def bi5 (ns:List Int)(at_:Nat):Nat×Nat:=(cellF ns at_,(bk7 at_ ns (min ns.length 60)).toNat)
theorem aZ0 {P:Pr}[Has P av2](n:Nat)(ns:List Int)(at_:Nat)(s:Sto)(r:Nat)(hs:s[r]?=some (.ro (ns.map D.int)))(hl:ns.length<=63) :
  (aa1 P (n+1)).call "_law_bag" [.ref r,.int at_] s=.ok (.ref s.length) (s++[zd (bi5 ns at_)]):=by
 refine(zb av2 rfl).trans ?_
 have m1:∀ a:Int,mulOk 7919 a=true:=fun a=>aU9 (by decide)
 have m2:∀ a:Int,mulOk a 48271=true:=fun a=>ag2 (by decide)
 have z:bi .len [.ref r] s=.ok (.int ns.length) s:=by rw[bG5 hs,ay]
 have F:∀(c:Int),(c<10^18->cellF ns at_=0)->(10^18<=c->(cellF ns at_:Int)=c) ->
   (exs (aa1 P n) (.cons (.asg (.one 3) (.bin .add (.bin .mul (.cst (.int 7919)) (.var 1)) (.cst (.int 17)))) (.cons (.for_ (.one 4) (.rng1 (.bi .min2 (.cons (.bi .len (.cons (.var 0) .nil)) (.cons (.cst (.int 60)) .nil)))) (.cons (.asg (.one 3) (.bin .mod (.bin .add (.bin .add (.bin .mul (.var 3) (.cst (.int 48271))) (.bin .mod (.ix (.var 0) (.var 4)) (.cst (.int 2147483647)))) (.var 4)) (.cst (.int 2147483629)))) .nil)) (.cons (.ite (.cmp .lt (.var 2) (.bin .pow (.cst (.int 10)) (.cst (.int 18)))) (.cons (.asg (.one 2) (.cst (.int 0))) .nil) .nil) (.cons (.ret (.lst (.cons (.var 2) (.cons (.var 3) .nil)))) .nil)))) [some (.ref r),some (.int at_),some (.int c),none,none] s).bind (fin s)=.ok (.ref s.length) (s++[zd (bi5 ns at_)]):=by
  intro c h1 h2
  simp[ad2 (m1 _),z]
  have hk:(if(60:Int)<(ns.length:Int)then 60 else(ns.length:Int))=((min ns.length 60:Nat):Int):=by omega
  rw[hk,qw (by unfold W62;omega) (by unfold W62;omega)]
  simp only[R.bind_ok]
  refine bg0 (fun j ρ t=>t=s/\∃ x,ρ=[some (.ref r),some (.int at_),some (.int c),some (.int (bk7 at_ ns j)),x]) ⟨rfl,none,rfl⟩ (fun _ _ _ _ _=>rfl) ?_ ?_
  ·rintro j d ρ t hj ⟨rfl,x,rfl⟩
   have Y:j<min ns.length 60:=by have:=(ac.mp hj).1;simpa [ad8]using this
   have hd:d=.int (j:Int):=by simpa [ad8,Y]using hj.symm
   subst hd
   refine bn9 ?_ ⟨rfl,some (.int (j:Int)),rfl⟩
   have hx:ixM (.ref r) (.int (j:Int)) t=.ok (.int (ns.getD j 0)) t:=bP4 hs (by simp[show j<ns.length by omega])
   simp[turn,ad2 (m2 _),hx,ak5,bk7]
  ·rintro ρ t ⟨rfl,x,rfl⟩
   have Z:(ad8 0 ((min ns.length 60:Nat):Int)).length=min ns.length 60:=by simp[ad8]
   rw[Z]
   have a0:=bq1 at_ (by omega) ns (min ns.length 60)
   have C:∀ G,(G:Int)=cellF ns at_->zy t (.ref t.length) (t++[.lst [.int G,.int (bk7 at_ ns (min ns.length 60))]])=.ok (.ref t.length) (t++[zd (bi5 ns at_)]):=by
    intro G J
    have:=aj8 (s:=t) (t:=[]) (u:=[]) (o:=zd (bi5 ns at_)) rfl
    simp only[fe,kE,cK]at this
    rw[<-this]
    simp[zd,bi5,J,fg a0]
   by_cases h:c<10^18
   ·have h':c<1000000000000000000:=h
    simp[aB2,h']
    exact C 0 (by rw[h1 h];rfl)
   ·have h':¬ c<1000000000000000000:=h
    simp[aB2,h']
    exact C c (h2 (by omega)).symm
 by_cases hat:at_<ns.length
 ·have hx:ixM (.ref r) (.int at_) s=.ok (.int (ns.getD at_ 0)) s:=bP4 hs (by simp[hat])
  have e:=F (if ns.getD at_ 0<0 then -ns.getD at_ 0 else ns.getD at_ 0) (by unfold cellF;intro h;rw[if_neg (by omega)]) (by unfold cellF;intro h;rw[if_pos (by omega)];omega)
  rw[<-e]
  simp[av2,z,hat,hx]
 ·have e:=F 0 (by unfold cellF;intro h;rw[if_neg];rw[aV,bG (by omega)];decide) (by intro h;exact absurd h (by decide))
  rw[<-e]
  simp[av2,z,hat]
theorem aA7 {s t:Sto}{r:Nat}{o:O}(h:r<s.length):(s++t).set r o=s.set r o++t:=by rw[cL,if_pos h]
theorem zp {s t:Sto}{r:Nat}{o:O}(h:s[r]?=some o):(s++t)[r]?=some o:=by
 rw[aJ (ac.mp h).1];exact h
theorem qB {s:Sto}{r:Nat}{o:O}(h:r<s.length):(s.set r o)[r]?=some o:=bj h
theorem bf5 {P:Pr}[Has P ac6](n:Nat)(b:Nat×Nat)(many:Int)(h0:0<many)(h:many<=10^90)(s:Sto)(r:Nat)(hs:s[r]?=some (zd b)) :
  (aa1 P (n+1)).call "_law_take" [.ref r,.int many] s=.ok (.int (tk b many.toNat).1) (s.set r (zd (tk b many.toNat).2)):=by
 have:=bv0 n b many.toNat (P:=P) (by omega) (by have:many<=((10^90:Nat):Int):=(by simpa using h);omega) s r hs
 rwa [show((many.toNat:Nat):Int)=many by omega]at this
noncomputable def bd (b:Nat×Nat):Nat×(Nat×Nat) :=
 let x0:=tk b 3
 let x1:=tk x0.2 13
 let x2:=tk x1.2 1000000000
 let x3:=tk x2.2 1000000000000000000000000000000
 let i:=tk x3.2 4
 ([x0.1,x1.1,x2.1,x3.1].getD i.1 0,i.2)
section
variable {F:Fns} {ρ:Env} {s:Sto}
noncomputable def ah8 (F:Fns)(tg:Tg)(e:E)(d:D)(ρ:Env)(s:Sto):R (Option D×Env):=match ac5 ρ tg d with
 | some ρ=>(ev F e ρ s).bind fun v s=>.ok (some v,ρ) s
 | none=>.bad
noncomputable def ar7 (F:Fns)(tg:Tg)(c e:E)(d:D)(ρ:Env)(s:Sto):R (Option D×Env):=match ac5 ρ tg d with
 | some ρ=>tru (ev F c ρ s) fun k s=>if k then(ev F e ρ s).bind fun v s=>.ok (some v,ρ) s else .ok (none,ρ) s
 | none=>.bad
@[simp] theorem af7 (tg:Tg) (it:I) (e:E) (h:List (Option Nat)):evL F (.comp tg it e h) ρ s=(evI F it ρ s).bind fun q s0=>if q.its.length<=LIM then ad5 (fun s=>chk s0 s q.src) (ah8 F tg e) q.its (z0 ρ h) s0 else .bad:=rfl
@[simp] theorem ql (tg:Tg) (it:I) (c e:E) (h:List (Option Nat)):evL F (.compIf tg it c e h) ρ s=(evI F it ρ s).bind fun q s0=>if q.its.length<=LIM then ad5 (fun s=>chk s0 s q.src) (ar7 F tg c e) q.its (z0 ρ h) s0 else .bad:=rfl
@[simp] theorem bO3 (a h:E):ev F (.slU a h) ρ s=(ev F a ρ s).bind fun x s=>(ev F h ρ s).bind fun y s=>match y with|.int i=>slM x none (some i) s|_=>.bad:=rfl
@[simp] theorem bZ3 (a h:E):ev F (.slL a h) ρ s=(ev F a ρ s).bind fun x s=>(ev F h ρ s).bind fun y s=>match y with|.int i=>slM x (some i) none s|_=>.bad:=rfl
end
theorem z6 {ok:Sto->Bool}{g:D->Env->Sto->R (Option D×Env)}(P:Env->Sto->Prop)(f:D->Option D):∀(l:List D) (ρ:Env) (s:Sto),P ρ s ->
  (∀ ρ s,P ρ s->ok s=true)->(∀ d∈l,∀ ρ s,P ρ s->∃ ρ' s',g d ρ s=.ok (f d,ρ') s'/\P ρ' s')->∃ ρ' s',ad5 ok g l ρ s=.ok (l.filterMap f) s'/\P ρ' s'
 | [],ρ,s,h,o,_=>⟨ρ,s,by unfold ad5;rw[if_pos (o ρ s h)];rfl,h⟩
 | d::l,ρ,s,h,o,st=>by
  obtain⟨ρ1,s1,e1,C⟩:=st d (aw ..) ρ s h
  obtain⟨ρ2,s2,e2,z⟩:=z6 P f l ρ1 s1 C o fun x hx=>st x (ao _ hx)
  refine⟨ρ2,s2,?_,z⟩
  unfold ad5
  rw[if_pos (o ρ s h),e1]
  simp only[R.bind_ok]
  rw[e2,bh]
  cases f d<;>rfl
theorem zP {P:Pr}[Has P ac6](n:Nat){s:Sto}{r:Nat}(hs:∃ b,s[r]?=some (zd b))(many:Int)(h0:0<many)(h:many<=10^90) :
  ∃(k:Nat) (b:Nat×Nat),(k:Int)<many/\(aa1 P (n+1)).call "_law_take" [.ref r,.int many] s=.ok (.int k) (s.set r (zd b)):=by
 obtain⟨b,hb⟩:=hs
 have:=bT2 b (many:=many.toNat) (by omega)
 exact⟨(tk b many.toNat).1,(tk b many.toNat).2,by omega,bf5 n b many h0 h s r hb⟩
theorem aj4 {k:Int}(h:k<=1000):k<=10^90:=Int.le_trans h (by decide)
theorem aR6 {s:Sto}{r:Nat}{b:Nat×Nat}(h:r<s.length):∃ z,(s.set r (zd b))[r]?=some (zd z):=⟨b,qB h⟩
theorem bl1 {s:Sto}{r:Nat}(h:∃ b,s[r]?=some (zd b)):r<s.length:=by obtain⟨b,hb⟩:=h;exact(ac.mp hb).1
theorem aP8 {k:Int}{s:Sto}(h:0<=k/\k<=1000000):af5 .shl (.int 1) (.int k) s=.ok (.int (1*2^k.toNat)) s:=by
 show(if 0<=k/\k<=1000000/\(1:Int).natAbs<2^64 then _ else _:M D) s=_
 rw[if_pos ⟨h.1,h.2,by decide⟩];rfl
theorem zo {l:List D}(h:∀ d∈l,∀ n,d.bnd n=true)(n:Nat):D.bndL n l=true:=by
 induction l with
 | nil=>rfl
 | cons d l ih=>unfold D.bndL;rw[h d (aw ..),ih fun x hx=>h x (ao _ hx)];rfl
noncomputable def ay6 (bits:Nat):D->Option D
 | .int i=>if(bits:Int) / (1*2^i.toNat) % 2=1 then some (.int i)else none
 | _=>none
theorem aQ4 {h:Nat}{l:List D}:∀ d∈l.filterMap (ay6 h),∀ n,d.bnd n=true:=fun d hd n=>by
 obtain⟨x,hx,e⟩:=cD.mp hd
 cases x with
 | int i =>
  simp only[ay6]at e
  split at e
  ·cases e;rfl
  ·cases e
 | _=>cases e
theorem aN9 {P:Pr}[Has P ac6][Has P ad1](n:Nat){s:Sto}{r:Nat}(hs:∃ b,s[r]?=some (zd b))(k:Int)(h0:0<=k)(h:k<=5) :
  ∃(z:Nat) (b:Nat×Nat),(aa1 P (n+2)).call "_law_rooms" [.ref r,.int k] s=.ok (.tup ((ad8 0 k).filterMap (ay6 z))) (s.set r (zd b)):=by
 have Z:(aa1 P (n+2)).call "_law_rooms" [.ref r,.int k] s=_:=zb ad1 (n:=n+1) rfl
 have hr:=bl1 hs
 have hp:(1:Int)*2^k.toNat<=32:=by
  have:k.toNat<=5:=by omega
  have F:(2:Nat)^k.toNat<=2^5:=cO (by decide) this
  have h3:((2^k.toNat:Nat):Int)<=32:=by exact_mod_cast F
  rw[fU];simpa using h3
 have G:(0:Int)<1*2^k.toNat:=by rw[fU];exact Int.pow_pos (by decide)
 obtain⟨z,b,hb,eb⟩:=zP (P:=P) n hs (1*2^k.toNat) G (aj4 (by omega))
 rw[Z]
 simp only[ad1,exs_cons,ex_asg,ev_call,evas_ex,evas_nil,ev_var,ev_bin,ev_cst,Cn_int,aL,bX,bV,cK,getV_0,getV_s,R.bind_ok,aP8 ⟨h0,by omega⟩,eb,bindT_one]
 simp only[au,setV_s,setV_0,Option.map_some,setC_some,R.bind_ok,nxt_next,exs_cons,exs_nil,ex_ret,ev_mk,ql,evI_rng1,ev_var,getV_0,getV_s]
 rw[qw (by unfold W62;omega) (by unfold W62;omega)]
 simp only[R.bind_ok]
 rw[if_pos (by simp[ad8];unfold LIM;omega)]
 have key:∃(ρ':Env) (s':Sto),ad5 (fun J=>chk (s.set r (zd b)) J []) (ar7 (aa1 P (n+1)) (.one 0) (.cmp .eq (.bin .mod (.bin .fdiv (.var 1) (.bin .shl (.cst (.int 1)) (.var 0))) (.cst (.int 2))) (.cst (.int 1))) (.var 0)) (ad8 0 k) (z0 [some (.ref r),some (.int k),some (.int z)] [none,some 2]) (s.set r (zd b))=.ok ((ad8 0 k).filterMap (ay6 z)) s'/\(s'=s.set r (zd b)/\∃ x,ρ'=[x,some (D.int z)]):=by
  refine z6 (fun ρ u=>u=s.set r (zd b)/\∃ x,ρ=[x,some (.int z)]) (ay6 z) (ad8 0 k) _ _ ⟨rfl,none,rfl⟩ (fun _ _ _=>rfl) ?_
  rintro d hd ρ u ⟨rfl,x,rfl⟩
  obtain⟨j,hj⟩:=iA hd
  obtain⟨F,rfl⟩:=ai6 hj
  refine⟨[some (.int (0+j)),some (.int z)],_,?_,rfl,_,rfl⟩
  have a0:j<5:=by omega
  have Y:(1:Int)*2^((0:Int)+j).toNat<=32:=by
   have:((0:Int)+j).toNat<=5:=by omega
   have F:(2:Nat)^((0:Int)+j).toNat<=2^5:=cO (by decide) this
   have h3:((2^((0:Int)+j).toNat:Nat):Int)<=32:=by exact_mod_cast F
   rw[fU];simpa using h3
  have C:(0:Int)<1*2^((0:Int)+j).toNat:=by rw[fU];exact Int.pow_pos (by decide)
  unfold ar7
  simp only[bindT_one,setV_0,ev_cmp,ev_bin,ev_var,ev_cst,Cn_int,getV_0,getV_s,R.bind_ok]
  rw[aP8 ⟨by omega,by omega⟩]
  simp only[R.bind_ok]
  rw[ar9 C (by omega)]
  simp only[R.bind_ok]
  rw[ak5 (by decide)]
  simp only[R.bind_ok,eq_int,tru_bl]
  simp[ay6]
  split<;>rfl
 obtain⟨ρ',s',e,h1⟩:=key
 rw[e]
 obtain⟨rfl,_⟩:=h1
 refine⟨z,b,?_⟩
 simp only[R.bind_ok,mk,nxt_ret,fin_ret]
 exact af9 (fun m=>by unfold D.bnd;exact zo aQ4 m) (by nofun) rfl
theorem bA8 {k:Nat}(h:k<3)(s:Sto):ixM (.str [97,98,99]) (.int (k:Int)) s=.ok (.str [97+k]) s:=by
 match k,h with
 | 0,_=>rfl
 | 1,_=>rfl
 | 2,_=>rfl
theorem aq5 {P:Pr}[Has P ac6](n:Nat){s t:Sto}{r:Nat}(hr:r<s.length)(b:Nat×Nat)(many:Int)(h0:0<many)(h:many<=10^90) :
  ∃(k:Nat) (z:Nat×Nat),(k:Int)<many/\(aa1 P (n+1)).call "_law_take" [.ref r,.int many] (s.set r (zd b)++t)=.ok (.int k) (s.set r (zd z)++t):=by
 obtain⟨k,z,F,C⟩:=zP (P:=P) n (s:=s.set r (zd b)++t) (r:=r) ⟨b,zp (qB hr)⟩ many h0 h
 refine⟨k,z,F,?_⟩
 rw[C,aA7 (by rw[aP];exact hr),ed]
theorem bB3 {s t:Sto}{r:Nat}{b:Nat×Nat}{l:List D}{v:D}(h:l.length<LIM):meth .append (.ref s.length) [v] (s.set r (zd b)++(.lst l::t))=.ok .non (s.set r (zd b)++(.lst (l++[v])::t)):=by
 rw[ag4 (l:=l) (by rw[aF (by simp)];simp) h]
 congr 1
 rw[cL,if_neg (by simp)]
 simp
theorem aB8 {a b:List Nat}{s:Sto}(h:a.length+b.length<=LIM):af5 .add (.str a) (.str b) s=.ok (.str (a++b)) s:=by
 show(if a.length+b.length<=LIM then _ else _:M D) s=_;rw[if_pos h];rfl
def Lts (L:Nat)(w:List Nat):Prop:=∀ c∈w,97<=c/\c<97+L
theorem rep_len (l:List Nat):∀ n,(rep n l).length=l.length*n
 | 0=>by simp[rep]
 | n+1=>by simp[rep,rep_len l n,jM];omega
noncomputable def bN4 (L:Nat)(d:D):Bool:=match d with
 | .str w=>decide (w.length<=200)&&w.all fun c=>decide (97<=c/\c<97+L)
 | _=>false
noncomputable def bo7 (s:Sto):D->Prop
 | .fn _=>False
 | .clo _ _=>False
 | .ref k=>∃ l,s[k]?=some (.lst l)
 | _=>True
theorem aW6 {P:Pr}{x:String}{v:D}[HasC P x v]{n:Nat}{ρ:Env}{s:Sto}:ev (aa1 P n) (.glob x) ρ s=.ok v s:=by
 show(match(aa1 P n).con x with|some d=>R.ok d s|none=>.bad)=_
 rw[bn1 (v:=v)]
noncomputable abbrev aK3:List D:=[.str [97],.str [98],.str [99]]
theorem bs7 {L:Nat}(h:L<=3)(s:Sto):slM (.tup aK3) none (some (L:Int)) s=.ok (.tup (aK3.take L)) s:=by
 match L,h with
 | 0,_=>rfl
 | 1,_=>rfl
 | 2,_=>rfl
 | 3,_=>rfl
theorem ag1 {P:Pr}[Has P aa6][HasC P "LETTERS" (.tup aK3)](n:Nat){L:Nat}(h:L<=3)(l:List D)(s:Sto):(aa1 P (n+1)).call "letters_of" [.tup (.int L::l)] s=.ok (.tup (aK3.take L)) s:=by
 refine(zb aa6 rfl).trans ?_
 have z:ixM (.tup (.int L::l)) (.int ((0:Nat):Int)) s=.ok (.int L) s:=ix_tup rfl
 simp -implicitDefEqProofs [aa6,aW6 (v:=.tup aK3)]
 rw[show(0:Int)=((0:Nat):Int)from rfl,z]
 simp only[R.bind_ok]
 rw[bs7 h]
 simp -implicitDefEqProofs
 match L,h with
 | 0,_=>exact zt (fun _=>rfl) (by nofun)
 | 1,_=>exact zt (fun _=>rfl) (by nofun)
 | 2,_=>exact zt (fun _=>rfl) (by nofun)
 | 3,_=>exact zt (fun _=>rfl) (by nofun)
theorem ar4 {a b:D}{s:Sto}:zZ .isin a b s=(inM a b s).bind fun r s=>.ok (.bl r) s:=rfl
theorem aJ7 {a b:D}{s:Sto}:zZ .notin a b s=(inM a b s).bind fun r s=>.ok (.bl (!r)) s:=rfl
@[simp] theorem ca7 {F:Fns} {ρ:Env} {s:Sto} (a:E):ev F (.neg a) ρ s=(ev F a ρ s).bind fun x s=>match x with|.int i=>.ok (.int (-i)) s|_=>.bad:=rfl
noncomputable def NR (Q:Env->Sto->Prop)(Z:D->Sto->Prop):R Ct->Prop
 | .ok (.next ρ) s=>Q ρ s
 | .ok (.cont ρ) s=>Q ρ s
 | .ok (.ret d) s=>Z d s
 | _=>False
theorem aj6 {Q:Env->Sto->Prop}{Z:D->Sto->Prop}{r:R Ct}{ρ:Env}{s:Sto}(e:r=.ok (.next ρ) s)(h:Q ρ s):NR Q Z r:=by rw[e];exact h
theorem aK8 {Q:Env->Sto->Prop}{Z:D->Sto->Prop}{r:R Ct}{d:D}{s:Sto}(e:r=.ok (.ret d) s)(h:Z d s):NR Q Z r:=by rw[e];exact h
theorem for_ret {ok:Sto->Bool}{g:D->Env->Sto->R Ct}(P:Nat->Env->Sto->Prop)(Z:D->Sto->Prop):∀(l:List D) (k:Nat) (ρ:Env) (s:Sto),
  P k ρ s->(∀(j:Nat) (ρ:Env) (s:Sto),j<=l.length->P (k+j) ρ s->ok s=true)->(∀(j:Nat) (d:D) (ρ:Env) (s:Sto),l[j]?=some d->P (k+j) ρ s->NR (P (k+j+1)) Z (g d ρ s)) ->
  (∃ ρ' s',ag8 ok g l ρ s=.ok (.next ρ') s'/\P (k+l.length) ρ' s')\/∃ d s',ag8 ok g l ρ s=.ok (.ret d) s'/\Z d s'
 | [],k,ρ,s,h,o,_=>.inl ⟨ρ,s,by show(if ok s then _ else _)=_;rw[if_pos (o 0 ρ s (aj _) h)],h⟩
 | d::l,k,ρ,s,h,o,t=>by
  have ho:=o 0 ρ s (cu _) h
  have h0:=t 0 d ρ s rfl h
  have e:ag8 ok g (d::l) ρ s=(g d ρ s).bind fun c s=>match c with
   | .next ρ=>ag8 ok g l ρ s
   | .cont ρ=>ag8 ok g l ρ s
   | .brk ρ=>.ok (.next ρ) s
   | .ret d=>.ok (.ret d) s:=by
   show(if ok s then _ else _)=_
   rw[if_pos ho]<;>rfl
  have go:∀ ρ1 s1,P (k+0+1) ρ1 s1->(∃ ρ' s',ag8 ok g l ρ1 s1=.ok (.next ρ') s'/\P (k+(d::l).length) ρ' s')\/∃ d s',ag8 ok g l ρ1 s1=.ok (.ret d) s'/\Z d s':=fun ρ1 s1 z=>by
   have:=for_ret P Z l (k+1) ρ1 s1 z (fun j ρ' s' hj hp=>o (j+1) ρ' s' (by simpa using hj) (by rwa [show k+(j+1)=k+1+j by omega])) fun j d' ρ' s' hj hp=>by
    have:=t (j+1) d' ρ' s' (by simpa using hj) (by rwa [show k+(j+1)=k+1+j by omega])
    rwa [show k+(j+1)+1=k+1+j+1 by omega]at this
   rwa [aI,show k+(l.length+1)=k+1+l.length by omega]
  rw[e]
  cases hg:g d ρ s with
  | bad=>rw[hg]at h0;exact h0.elim
  | exc a b=>rw[hg]at h0;exact h0.elim
  | ok c s1 =>
   rw[hg]at h0
   cases c with
   | next ρ1=>exact go ρ1 s1 h0
   | cont ρ1=>exact go ρ1 s1 h0
   | brk ρ1=>exact h0.elim
   | ret v=>exact .inr ⟨v,s1,rfl,h0⟩
theorem ap1 {ok:Sto->Bool}{g:D->Env->Sto->R Ct}{l:List D}{ρ:Env}{s:Sto}{α:Type}{f:Ct->Sto->R α}{W:R α->Prop}(P:Nat->Env->Sto->Prop)(Z:D->Sto->Prop)(h:P 0 ρ s)
  (o:∀(j:Nat) (ρ:Env) (s:Sto),j<=l.length->P j ρ s->ok s=true) (step:∀(j:Nat) (d:D) (ρ:Env) (s:Sto),l[j]?=some d->P j ρ s->NR (P (j+1)) Z (g d ρ s))
  (hf:∀ ρ' s',P l.length ρ' s'->W (f (.next ρ') s')) (hz:∀ d s',Z d s'->W (f (.ret d) s')):W ((ag8 ok g l ρ s).bind f):=by
 rcases for_ret P Z l 0 ρ s h (fun j ρ s hj hp=>o j ρ s hj (by rwa [bv]at hp)) (fun j d ρ s hj hp=>by
  rw[bv]at hp ⊢
  exact step j d ρ s hj hp)with⟨ρ',s',e,q⟩|⟨d,s',e,q⟩
 ·rw[e]
  rw[bv]at q
  exact hf ρ' s' q
 ·rw[e];exact hz d s' q
structure Dr where
 a:Nat
 l:Nat
 b:Nat
 t:Nat
noncomputable def Dr.d (x:Dr):D:=.tup [.int x.a,.str [x.l],.int x.b,.int x.t]
structure Mc where
 L:Nat
 R:Nat
 bg:List Nat
 en:List Nat
 ds:List Dr
noncomputable def qq (l:List Nat):List D:=l.map fun(k:Nat)=>D.int (k:Int)
noncomputable def sg (w:List Nat):List D:=w.map fun c=>.str [c]
noncomputable def Mc.ps (m:Mc):List D:=[.int m.L,.int m.R,.tup (qq m.bg),.tup (qq m.en),.tup (m.ds.map Dr.d)]
noncomputable def Mc.d (m:Mc):D:=.tup m.ps
structure Dr.Ok (m:Mc)(x:Dr):Prop where
 a:x.a<m.R
 l:97<=x.l/\x.l<97+m.L
 b:x.b<m.R
 t:x.t<4
structure Mc.Ok (m:Mc):Prop where
 L1:1<=m.L
 L3:m.L<=3
 R1:1<=m.R
 R5:m.R<=5
 bg:(∀ k∈m.bg,k<m.R)/\m.bg.Pairwise (· < ·)
 en:(∀ k∈m.en,k<m.R)/\m.en.Pairwise (· < ·)
 ds:(∀ x∈m.ds,x.Ok m)/\m.ds.length<=75
theorem aj0 {l:List Nat}:∀ d∈qq l,∀ n,d.bnd n=true:=fun d hd n=>by
 obtain⟨c,_,rfl⟩:=aM.mp hd;rfl
theorem aY6 {l:List Dr}:∀ d∈l.map Dr.d,∀ n,d.bnd n=true:=fun d hd n=>by
 obtain⟨c,_,rfl⟩:=aM.mp hd;rfl
theorem bp4 {m:Mc}:∀ d∈m.ps,∀ n,d.bnd n=true:=fun d hd n=>by
 simp only[Mc.ps,aH,cV,or_false]at hd
 rcases hd with rfl|rfl|rfl|rfl|rfl
 ·rfl
 ·rfl
 ·unfold D.bnd;exact zo aj0 n
 ·unfold D.bnd;exact zo aj0 n
 ·unfold D.bnd;exact zo aY6 n
theorem bB9 (m:Mc)(n:Nat):m.d.bnd n=true:=by unfold Mc.d D.bnd;exact zo bp4 n
noncomputable def aG1 (bits k:Nat):List Nat:=(aR k).filter fun i=>decide (bits / 2^i % 2=1)
theorem aY9 (h k:Nat):(∀ i∈aG1 h k,i<k)/\(aG1 h k).Pairwise (· < ·) :=
 ⟨fun i z=>cz.mp (eV.mp z).1,kO _ List.pairwise_lt_range⟩
theorem bb8 (C:Nat)(k:Nat):(ad8 0 (k:Int)).filterMap (ay6 C)=qq (aG1 C k):=by
 unfold ad8 aG1 qq
 simp only[kC,bS]
 rw[c0]
 induction (aR k)with
 | nil=>rfl
 | cons i l ih =>
  rw[bh,gr]
  have e:((C:Int) / (1*2^((0:Int)+(i:Int)).toNat) % 2=1)↔(C / 2^i % 2=1):=by
   rw[fU,show((0:Int)+(i:Int)).toNat=i by omega]
   have:((C:Int) / 2^i % 2)=((C / 2^i % 2:Nat):Int):=by simp
   rw[this];omega
  simp only[Function.comp,ay6]
  by_cases h:C / 2^i % 2=1
  ·rw[if_pos (e.mpr h)]
   simp only[h,decide_true,if_true,aL]
   rw[<-ih,jx]
  ·rw[if_neg fun z=>h (e.mp z)]
   simp only[h,decide_false]
   exact ih
theorem aK7 {P:Pr}[Has P ac6][Has P ad1](n:Nat){s:Sto}{r:Nat}(hs:∃ b,s[r]?=some (zd b))(k:Nat)(h:k<=5) :
  ∃(l:List Nat) (b:Nat×Nat),((∀ i∈l,i<k)/\l.Pairwise (· < ·))/\(aa1 P (n+2)).call "_law_rooms" [.ref r,.int k] s=.ok (.tup (qq l)) (s.set r (zd b)):=by
 obtain⟨z,b,e⟩:=aN9 (P:=P) n hs k (by omega) (by omega)
 rw[bb8]at e
 exact⟨_,b,aY9 z k,e⟩
section
variable {P:Pr}
theorem aC4 {l:List D}{s:Sto}(j:Nat){d:D}(h:l[j]?=some d):ixM (.tup l) (.int (j:Int)) s=.ok d s:=ix_tup h
theorem ixL (m:Mc)(s:Sto):ixM m.d (.int 0) s=.ok (.int m.L) s:=aC4 0 rfl
theorem ixR (m:Mc)(s:Sto):ixM m.d (.int 1) s=.ok (.int m.R) s:=aC4 1 rfl
theorem ixB (m:Mc)(s:Sto):ixM m.d (.int 2) s=.ok (.tup (qq m.bg)) s:=aC4 2 rfl
theorem ixE (m:Mc)(s:Sto):ixM m.d (.int 3) s=.ok (.tup (qq m.en)) s:=aC4 3 rfl
theorem ixD (m:Mc)(s:Sto):ixM m.d (.int 4) s=.ok (.tup (m.ds.map Dr.d)) s:=aC4 4 rfl
theorem ak3 [Has P aa8](n:Nat)(m:Mc)(s:Sto):(aa1 P (n+1)).call "rooms_of" [m.d] s=.ok (.int m.R) s:=by
 refine(zb aa8 rfl).trans ?_
 simp -implicitDefEqProofs [aa8,ixR]
theorem qg {s:Sto}{l:List D}(h:∀ d∈l,∀ n,d.bnd n=true):zy s (.tup l) s=.ok (.tup l) s:=zt (fun n=>by unfold D.bnd;exact zo h n) (by nofun)
theorem az9 [Has P ab1](n:Nat)(m:Mc)(s:Sto):(aa1 P (n+1)).call "begins_of" [m.d] s=.ok (.tup (qq m.bg)) s:=by
 refine(zb ab1 rfl).trans ?_
 simp -implicitDefEqProofs [ab1,ixB,qg aj0]
theorem aL9 [Has P ab7](n:Nat)(m:Mc)(s:Sto):(aa1 P (n+1)).call "ends_of" [m.d] s=.ok (.tup (qq m.en)) s:=by
 refine(zb ab7 rfl).trans ?_
 simp -implicitDefEqProofs [ab7,ixE,qg aj0]
theorem aB9 [Has P aa7](n:Nat)(m:Mc)(s:Sto):(aa1 P (n+1)).call "doors_of" [m.d] s=.ok (.tup (m.ds.map Dr.d)) s:=by
 refine(zb aa7 rfl).trans ?_
 simp -implicitDefEqProofs [aa7,ixD,qg aY6]
@[simp] theorem bW3 (a b:Nat) (s:Sto):zZ .ne (.str [a]) (.str [b]) s=.ok (.bl (!decide (a=b))) s:=by
 show(match eqv s DEEP (.str [a]) (.str [b])with|some r=>R.ok (D.bl (!r)) s|none=>.bad)=_
 have:eqv s DEEP (.str [a]) (.str [b])=some ([a]==[b]):=rfl
 rw[this]
 have e:([a]==[b])=decide (a=b):=by rw[dM];simp
 rw[e]
@[simp] theorem qe (a b:Nat) (s:Sto):zZ .eq (.str [a]) (.str [b]) s=.ok (.bl (decide (a=b))) s:=by
 show(match eqv s DEEP (.str [a]) (.str [b])with|some r=>R.ok (D.bl r) s|none=>.bad)=_
 have:eqv s DEEP (.str [a]) (.str [b])=some ([a]==[b]):=rfl
 rw[this]
 have e:([a]==[b])=decide (a=b):=by rw[dM];simp
 rw[e]
end
theorem good_of {L:Nat}{w:List Nat}(h:w.length<=200)(hw:Lts L w):bN4 L (.str w)=true:=by
 unfold bN4
 simp only[h,decide_true,iZ,aU,decide_eq_true_eq]
 exact hw
@[simp] theorem bV3 {F:Fns} {ρ:Env} {s:Sto} (a C h:E):ev F (.slLU a C h) ρ s=(ev F a ρ s).bind fun x s=>(ev F C ρ s).bind fun y s=>match y with|.int i=>(ev F h ρ s).bind (fun z s=>match z with|.int j=>slM x (some i) (some j) s|_=>.bad)|_=>.bad:=rfl
theorem aV2 {s:Sto}{d:D}(h:bo7 s d)(w:List Nat):∃ b:Bool,zZ .eq d (.str w) s=.ok (.bl b) s/\(b=true↔d=.str w):=by
 cases d with
 | str v=>exact⟨v==w,rfl,by
   rw[beq_iff_eq]
   constructor
   ·intro h;rw[h]
   ·intro h;cases h;rfl⟩
 | ref k =>
  obtain⟨l,e⟩:=h
  refine⟨false,?_,by constructor<;>intro h<;>cases h⟩
  have:eqv s DEEP (.ref k) (.str w)=some false:=by
   have z:kd s (.ref k)=4:=by
    show(match s[k]? with|some (.lst _)=>4|_=>9)=4
    rw[e]
   show(if az0 (kd s (.ref k)) (kd s (.str w))then none else some false)=_
   rw[z];rfl
  show(match eqv s DEEP (.ref k) (.str w)with|some r=>R.ok (D.bl r) s|none=>R.bad)=_
  rw[this]
 | fn _=>exact h.elim
 | clo _ _=>exact h.elim
 | _=>exact⟨false,rfl,by constructor<;>intro h<;>cases h⟩
@[simp] theorem bQ1 {F:Fns} {ρ:Env} {s:Sto} (e:E):evI F (.enum (.seq e)) ρ s=(ev F e ρ s).bind fun d s=>(bb7 d s).bind fun q s=>.ok ⟨bt8 0 q.its,q.src⟩ s:=rfl
theorem bp6 (v w:List Nat)(s:Sto):zZ .eq (.str v) (.str w) s=.ok (.bl (decide (v=w))) s:=by
 obtain⟨b,e,q⟩:=aV2 (s:=s) (d:=.str v) trivial w
 rw[e]
 congr 2
 rw[dM,q,decide_eq_true_iff]
 constructor
 ·intro h;cases h;rfl
 ·intro h;rw[h]
noncomputable def row (m:Nat)(f:Nat->Int):List D:=(aR m).map fun j=>.int (f j)
@[simp] theorem bW8 {m:Nat} {f:Nat->Int}:(row m f).length=m:=by unfold row;simp
theorem ak6 {l:List D}(s:Sto):at7 (.tup l) s=.ok ⟨l,[]⟩ s:=rfl
theorem aH3 {ok:Sto->Bool}{g:D->Env->Sto->R (Option D×Env)}(P:Env->Sto->Prop)(f:D->D)(l:List D)(ρ:Env)(s:Sto)(h:P ρ s)
  (o:∀ ρ s,P ρ s->ok s=true) (st:∀ d∈l,∀ ρ s,P ρ s->∃ ρ' s',g d ρ s=.ok (some (f d),ρ') s'/\P ρ' s'):∃ ρ' s',ad5 ok g l ρ s=.ok (l.map f) s'/\P ρ' s':=by
 obtain⟨ρ',s',e,p⟩:=z6 P (fun d=>some (f d)) l ρ s h o st
 refine⟨ρ',s',?_,p⟩
 rw[e];congr 1;induction l<;>simp_all
theorem ar8 {ok:Sto->Bool}{g:D->Env->Sto->R (Option D×Env)}(P:Env->Sto->Prop)(f:Nat->D)(n:Nat)(ρ:Env)(s:Sto)(h:P ρ s)
  (o:∀ ρ s,P ρ s->ok s=true) (st:∀ j,j<n->∀ ρ s,P ρ s->∃ ρ' s',g (.int (j:Int)) ρ s=.ok (some (f j),ρ') s'/\P ρ' s'):∃ ρ' s',ad5 ok g (ad8 0 (n:Int)) ρ s=.ok ((aR n).map f) s'/\P ρ' s':=by
 obtain⟨ρ',s',e,p⟩:=aH3 (g:=g) P (fun d=>match d with|.int i=>f i.toNat|d=>d) (ad8 0 (n:Int)) ρ s h o fun d hd ρ s hp=>by
  obtain⟨j,hj⟩:=iA hd
  obtain⟨z,rfl⟩:=ai6 hj
  obtain⟨ρ',s',e,p⟩:=st j (by omega) ρ s hp
  refine⟨ρ',s',?_,p⟩
  rw[jx,e];rfl
 refine⟨ρ',s',?_,p⟩
 rw[e]
 congr 1
 unfold ad8
 rw[bT,show((n:Int) - 0).toNat=n by omega]
 exact fh fun j _=>by
  show f ((0:Int)+(j:Int)).toNat=f j
  congr 1;omega
theorem ai2 (n:Nat):(ad8 0 (n:Int)).length=n:=by simp[ad8]
noncomputable def prN (f g:Nat->Nat->Int)(i j:Nat):Nat->Int
 | 0=>3
 | k+1=>if f i k<3 then(let b:=(if g k j > f i k then g k j else f i k);if b<prN f g i j k then b else prN f g i j k)else prN f g i j k
noncomputable def pr (m:Nat)(f g:Nat->Nat->Int)(i j:Nat):Int:=prN f g i j m
noncomputable def bN8 (m:Nat)(f:Nat->Nat->Int):Sto:=(aR m).map fun i=>.lst (row m (f i))
@[simp] theorem bF3 {m:Nat} {f:Nat->Nat->Int}:(bN8 m f).length=m:=by unfold bN8;simp
noncomputable def cd7 (p m:Nat):List D:=(aR m).map fun i=>.ref (p+i)
@[simp] theorem bX5 {F:Fns} {ρ:Env} {s:Sto} (a b:E):evI F (.zip (.seq a) (.seq b)) ρ s=(ev F a ρ s).bind fun x s=>(ev F b ρ s).bind fun y s=>(aO3 x s).bind fun p s=>(aO3 y s).bind fun q s=>.ok ⟨bX1 p.its q.its,p.src++q.src⟩ s:=rfl
theorem ix_str {l:List Nat}{j c:Nat}{s:Sto}(hj:l[j]?=some c):ixM (.str l) (.int (j:Int)) s=.ok (.str [c]) s:=by
 have hl:j<l.length:=(ac.mp hj).1
 have e:l[j]=c:=(ac.mp hj).2
 simp[ixM,ixn,hl,e]
noncomputable def shN (f:Nat->Nat->Int)(i j:Nat):Nat->Int
 | 0=>3
 | k+1=>let b:=max (max (f i k) (if f k k=1 then 2 else f k k)) (f k j);if b<shN f i j k then b else shN f i j k
noncomputable def sh (m:Nat)(f:Nat->Nat->Int)(i j:Nat):Int:=shN f i j m
inductive Stp where
 | let_ (c:Nat)|pair (i j:Nat)|sharp (i:Nat)
noncomputable def Stp.d:Stp->D
 | .let_ c=>.tup [.str [108,101,116,116,101,114],.str [c]]
 | .pair i j=>.tup [.str [112,97,105,114],.int i,.int j]
 | .sharp i=>.tup [.str [115,104,97,114,112],.int i]
section
variable {s:Sto} {r:Nat} {b:Int} {A B C:List D} {T:Sto}
end
section
variable {m:Nat} {f:Nat->Nat->Int} {x:Int}
end
noncomputable def bV9 (a c:Int)(vs:List Int):Stp->Int
 | .let_ _=>a
 | .pair i j=>vs.getD i 0+vs.getD j 0
 | .sharp i=>vs.getD i 0*c
noncomputable def vl (a c:Int)(l:List Stp):List Int:=l.foldl (fun vs x=>vs++[bV9 a c vs x]) []
section
variable {F:Fns} {ρ:Env} {s:Sto}
end
noncomputable def Stp.t (c:Int):Stp->D
 | .sharp i=>.tup [.str [116,105,109,101,115],.int i,.int c]
 | x=>x.d
section
variable {P:Pr} [Has P bl8] [Has P an8] [HasL P af8]
end
noncomputable def ad3 (S:Int->Prop):Option Int->Prop
 | none=>∀ c,¬ S c
 | some c=>S c/\∀ c',S c'->c<=c'
theorem ad3.eq {S C:Int->Prop}{o z:Option Int}(h:ad3 S o)(h':ad3 C z)(e:∀ c,S c↔C c):o=z:=by
 cases o with
 | none =>
  cases z with
  | none=>rfl
  | some c=>exact absurd ((e c).mpr h'.1) (h c)
 | some c =>
  cases z with
  | none=>exact absurd ((e c).mp h.1) (h' c)
  | some c' =>
   have G:=h.2 c' ((e c').mpr h'.1)
   have F:=h'.2 c ((e c).mp h.1)
   rw[show c=c' by omega]
theorem ad3.congr {S C:Int->Prop}{o:Option Int}(h:ad3 S o)(e:∀ c,S c↔C c):ad3 C o:=by
 cases o with
 | none=>exact fun c hc=>h c ((e c).mpr hc)
 | some c=>exact⟨(e c).mp h.1,fun z hc=>h.2 z ((e z).mpr hc)⟩
noncomputable def minO:Option Int->Option Int->Option Int
 | none,x=>x
 | some a,none=>some a
 | some a,some b=>if b<a then some b else some a
theorem ad3.or {S F:Int->Prop}{o C:Option Int}(h:ad3 S o)(h':ad3 F C):ad3 (fun c=>S c\/F c) (minO o C):=by
 cases o with
 | none =>
  cases C with
  | none=>exact fun c hc=>hc.elim (h c) (h' c)
  | some b=>exact⟨.inr h'.1,fun c hc=>hc.elim (fun z=>absurd z (h c)) (h'.2 c)⟩
 | some a =>
  cases C with
  | none=>exact⟨.inl h.1,fun c hc=>hc.elim (h.2 c) (fun z=>absurd z (h' c))⟩
  | some b =>
   show ad3 _ (if b<a then some b else some a)
   by_cases hlt:b<a
   ·rw[if_pos hlt]
    exact⟨.inr h'.1,fun c hc=>hc.elim (fun z=>by have:=h.2 c z;omega) (h'.2 c)⟩
   ·rw[if_neg hlt]
    exact⟨.inl h.1,fun c hc=>hc.elim (h.2 c) (fun z=>by have:=h'.2 c z;omega)⟩
theorem ad3.add {S:Int->Prop}{o:Option Int}(h:ad3 S o)(k:Int):ad3 (fun c=>∃ z,S z/\c=z+k) (o.map (·+k)):=by
 cases o with
 | none=>rintro c ⟨z,h',_⟩;exact h z h'
 | some a=>exact⟨⟨a,h.1,rfl⟩,by rintro c ⟨z,h',rfl⟩;have:=h.2 z h';show a+k<=z+k;omega⟩
noncomputable def Dr.turn (x:Dr):Dr:=⟨x.b,x.l,x.a,x.t⟩
noncomputable def Mc.turn (m:Mc):Mc:=⟨m.L,m.R,m.en,m.bg,m.ds.map Dr.turn⟩
noncomputable def zc (row:List (Option Int)):List D:=row.map zG
theorem ai0 (row:List (Option Int)):(zc row).length=row.length:=ay ..
theorem as6 {row:List (Option Int)}{k:Nat}{o:Option Int}(h:row[k]?=some o):(zc row)[k]?=some (zG o):=by unfold zc;rw[aA,h];rfl
def am3 (S:Nat->Int->Prop)(row:List (Option Int)):Prop:=∀ k o,row[k]?=some o->ad3 (S k) o
theorem av9 {s:Sto}{k:Nat}:∀ {l:List Nat},inL s (.int k) (qq l)=some (decide (k∈l))
 | []=>rfl
 | a::l=>by
  have z:=av9 (s:=s) (k:=k) (l:=l)
  have e:eqv s DEEP (.int (a:Int)) (.int (k:Int))=some ((a:Int)==(k:Int)):=rfl
  show(match eqv s DEEP (.int (a:Int)) (.int (k:Int)),inL s (.int k) (qq l)with|some a,some b=>some (a||b)|_,_=>none)=_
  rw[e,z]
  show some (((a:Int)==(k:Int))||decide (k∈l))=some _
  congr 1
  rw[dM]
  simp
  constructor
  ·rintro(h|h)
   ·exact .inl (by omega)
   ·exact .inr h
  ·rintro(h|h)
   ·exact .inl (by omega)
   ·exact .inr h
theorem at4 {s:Sto}{k:Nat}{l:List Nat}:inM (.int k) (.tup (qq l)) s=.ok (decide (k∈l)) s:=by unfold inM;simp only[av9]
theorem aR4 (b:Bool)(s:Sto):bi .int [.bl b] s=.ok (.int (if b then 1 else 0)) s:=by cases b<;>rfl
theorem ap6:∀ l:List Int,z4 (l.map D.int)=some l
 | []=>rfl
 | a::l=>by rw[aL];unfold z4;rw[ap6 l];rfl
theorem ay1:∀(l:List Int) (a:Int),(l.foldl min a=a\/l.foldl min a∈l)/\l.foldl min a<=a/\∀ y∈l,l.foldl min a<=y
 | [],a=>⟨.inl rfl,fQ _,fun y hy=>by cases hy⟩
 | b::l,a=>by
  obtain⟨C,F,h3⟩:=ay1 l (min a b)
  rw[da]
  refine⟨?_,by omega,fun y hy=>?_⟩
  ·rcases C with h|h
   ·rw[h]
    rcases kD a b with z|z
    ·left;omega
    ·right;rw[show min a b=b by omega];exact aw ..
   ·exact .inr (ao _ h)
  ·rcases aH.mp hy with z|z
   ·rw[z];omega
   ·exact h3 y z
theorem ap9 (l:List Int):ad3 (fun c=>c∈l) (minI l):=by
 cases l with
 | nil=>exact fun c hc=>by cases hc
 | cons a l =>
  obtain⟨F,C,h3⟩:=ay1 l a
  refine⟨?_,fun y hy=>?_⟩
  ·rcases F with h|h
   ·rw[h];exact aw ..
   ·exact ao _ h
  ·rcases aH.mp hy with z|z
   ·rw[z];exact C
   ·exact h3 y z
theorem aQ8 (l:List Int)(s:Sto):mkD .min (l.map D.int) .non s=.ok (zG (minI l)) s:=by
 unfold mkD
 simp only[ap6]
 cases minI l<;>rfl
def am7 (S:Nat->Int->Prop)(x:Nat)(ds:List Dr)(k:Nat)(c:Int):Prop:=∃ d∈ds,d.l=x/\d.b=k/\∃ c':Int,S d.a c'/\c=c'+(d.t:Int)
theorem ax6 {S:Nat->Int->Prop}{x:Nat}{G:List Dr}{d:Dr}{J:List (Option Int)}(h:am3 (am7 S x G) J)(hn:∀ C,¬(d.l=x/\S d.a C)):am3 (am7 S x (G++[d])) J:=fun k o hk=>by
 refine(h k o hk).congr fun c=>?_
 constructor
 ·rintro⟨e,F,r⟩;exact⟨e,a9.mpr (.inl F),r⟩
 ·rintro⟨e,F,hl,hb,C,hs,r⟩
  rcases a9.mp F with z|z
  ·exact⟨e,z,hl,hb,C,hs,r⟩
  ·rw[aY.mp z]at hl hs;exact absurd ⟨hl,hs⟩ (hn C)
theorem aP3 {S:Nat->Int->Prop}{x:Nat}{G:List Dr}{d:Dr}{F:List (Option Int)}{i:Int}(h:am3 (am7 S x G) F)(hx:d.l=x)(Y:ad3 (S d.a) (some i)){o:Option Int}(ho:F[d.b]?=some o) :
  am3 (am7 S x (G++[d])) (F.set d.b (minO o (some (i+d.t)))):=fun k J hk=>by
 have hlt:d.b<F.length:=(ac.mp ho).1
 by_cases e:d.b=k
 ·subst e
  rw[bj hlt]at hk
  cases hk
  refine((h _ o ho).or (Y.add d.t)).congr fun c=>?_
  constructor
  ·rintro(⟨e,C,r⟩|r)
   ·exact⟨e,a9.mpr (.inl C),r⟩
   ·exact⟨d,a9.mpr (.inr (aY.mpr rfl)),hx,rfl,r⟩
  ·rintro⟨e,C,hl,hb,r⟩
   rcases a9.mp C with z|z
   ·exact .inl ⟨e,z,hl,hb,r⟩
   ·rw[aY.mp z]at r;exact .inr r
 ·rw[aW e]at hk
  refine(h k J hk).congr fun c=>?_
  constructor
  ·rintro⟨e,C,r⟩;exact⟨e,a9.mpr (.inl C),r⟩
  ·rintro⟨e',C,hl,hb,r⟩
   rcases a9.mp C with z|z
   ·exact⟨e',z,hl,hb,r⟩
   ·rw[aY.mp z]at hb;exact absurd hb e
theorem qi {α β:Type}{f g:α->Option β}:∀ {l:List α},(∀ x∈l,f x=g x)->l.filterMap f=l.filterMap g
 | [],_=>rfl
 | a::l,h=>by rw[bh,bh,h a (aw ..),qi fun x hx=>h x (ao _ hx)]
end DV
end
local macro_rules | `(tactic| tbr_iter [$xs,*]) => `(tactic| simp -implicitDefEqProofs only [DV.exs_cons, DV.exs_nil, DV.ex_asg, DV.ex_ite, DV.ex_ret, DV.ex_ex, DV.ex_for, DV.ex_whl, DV.ex_setIx, DV.ex_cont, DV.ex_pass, DV.ex_und, DV.ev_var, DV.ev_cst, DV.ev_bin, DV.ev_not, DV.ev_cmp, DV.ev_and, DV.ev_or, DV.ev_ite, DV.ev_tup, DV.ev_lst, DV.ev_ix, DV.ev_call, DV.ev_bi, DV.ev_mk, DV.ev_mkD, DV.ev_mks, DV.ev_mkDs, DV.ev_meth, DV.ev_isN, DV.ev_notN, DV.evs_nil, DV.evs_cons, DV.evas_nil, DV.evas_ex, DV.evI_seq, DV.evI_rng1, DV.evL_seq, DV.Cn_bl, DV.Cn_int, DV.Cn_non, DV.Cn_str, DV.R.bind_ok, DV.bindT_one, DV.bindT_tup, DV.setVs_nil, DV.setVs_cons, DV.setV_s, DV.setV_0, DV.unsetV_s, DV.unsetV_0, DV.getV_0, DV.getV_s, Option.map_some, Option.bind_some, DV.setC_some, DV.nxt_next, DV.nxt_ret, DV.nxt_cont, DV.fin_ret, DV.fin_next, DV.add_int, DV.sub_int, DV.lt_int, DV.le_int, DV.gt_int, DV.ge_int, DV.eq_int, DV.ne_int, DV.alloc_eq, DV.tru_bl, if_true, if_false, Bool.false_eq_true, decide_true, decide_false, Bool.not_true, Bool.not_false, $[$xs:term],*])
noncomputable section
namespace DV
noncomputable def addO:Option Int->Option Int->Option Int
 | some a,some b=>some (a+b)
 | _,_=>none
theorem am9:∀ l:List (Option Int),(zc l).filterMap (fun d=>if d=D.non then none else some d)=(l.filterMap id).map D.int
 | []=>rfl
 | o::l=>by
  have h:=am9 l
  unfold zc at h ⊢
  cases o with
  | none=>rw[aL,bh,bh];simpa using h
  | some i=>rw[aL,bh,bh];simpa using h
theorem aK0 {P:Pr}[Has P ab9](n:Nat){s:Sto}{q:Nat}{l:List (Option Int)}(hq:s[q]?=some (.lst (zc l)))(hl:l.length<=1000):(aa1 P (n+1)).call "least" [.ref q] s=.ok (zG (minI (l.filterMap id))) s:=by
 have C:(aa1 P (n+1)).call "least" [.ref q] s=_:=zb ab9 (n:=n) rfl
 rw[C,show(cr some [D.ref q]++au ab9.vs none)=[some (D.ref q)]from rfl]
 have z:at7 (.ref q) s=.ok ⟨zc l,[q]⟩ s:=by simp only[at7,hq]
 obtain⟨ρ1,s1,e1,rfl,_⟩:=z6 (ok:=fun s1=>chk s s1 [q]) (g:=ar7 (aa1 P n) (.one 0) (.notN (.var 0)) (.var 0)) (fun ρ u=>u=s/\∃ x,ρ=[x]) (fun d=>if d=D.non then none else some d) (zc l) [none] s ⟨rfl,none,rfl⟩ (fun _ u h=>by obtain⟨rfl,_⟩:=h;simp[chk]) (by
  rintro d hd ρ u ⟨rfl,x,rfl⟩
  refine⟨[some d],u,?_,rfl,_,rfl⟩
  unfold ar7
  by_cases hn:d=.non
  ·tbr_iter [hn]
  ·tbr_iter [hn])
 rw[am9]at e1
 simp -implicitDefEqProofs only[ab9]
 tbr_iter [ql,z,if_pos (show(zc l).length<=LIM by rw[ai0];unfold LIM;omega),show z0 [some (D.ref q)] [none]=[none]from rfl,e1,aQ8]
 exact ap8
theorem bc0 {P:Pr}[Has P ac1](n:Nat)(a b:Option Int)(s:Sto):(aa1 P (n+1)).call "added" [zG a,zG b] s=.ok (zG (addO a b)) s:=by
 have h:(aa1 P (n+1)).call "added" [zG a,zG b] s=_:=zb ac1 (n:=n) rfl
 rw[h,show(cr some [zG a,zG b]++au ac1.vs none)=[some (zG a),some (zG b)]from rfl]
 simp -implicitDefEqProofs only[ac1]
 cases a with
 | none=>tbr_iter [zw,show(D.non=D.non)=True from eq_self _];exact aj2
 | some a=>cases b with
  | none=>tbr_iter [zw,zn,show(D.non=D.non)=True from eq_self _,show(D.int a=D.non)=False from eq_false (by nofun)];exact aj2
  | some b=>tbr_iter [zn,show(D.int a=D.non)=False from eq_false (by nofun),show(D.int b=D.non)=False from eq_false (by nofun)];exact aP7
section
variable {P:Pr} [Has P bl8]
end
noncomputable def zH (m:Mc):List (Option Int):=(aR m.R).map fun k=>if k∈m.bg then some 0 else none
noncomputable def bz8 (m:Mc)(row:List (Option Int))(x b:Nat):Option Int:=minI (((m.ds.filter fun d=>decide (d.l=x)&&decide (d.b=b)).map fun d=>addO (row.getD d.a none) (some (d.t:Int))).filterMap id)
noncomputable def qu (m:Mc)(row:List (Option Int))(x:Nat):List (Option Int):=(aR m.R).map (bz8 m row x)
noncomputable def as1 (m:Mc)(row:List (Option Int)):Option Int:=minI (m.en.filterMap fun q=>row.getD q none)
theorem qj {row:List (Option Int)}:∀ d∈zc row,∀ n,d.bnd n=true:=fun d hd n=>by
 obtain⟨o,_,rfl⟩:=aM.mp hd;exact ai5 _ n
theorem aP2 {row:List (Option Int)}{k:Nat}(h:k<row.length)(s:Sto):ixM (.tup (zc row)) (.int (k:Int)) s=.ok (zG (row.getD k none)) s:=by
 refine ix_tup (as6 ?_)
 rw[ai h];simp[iG,h]
theorem bj8 (q:List D)(s:Sto):mk .tuple q s=.ok (.tup q) s:=rfl
theorem aF4 (q:List D)(s:Sto):mk .list q s=.ok (.ref s.length) (s++[.lst q]):=rfl
theorem ag9 {P:Pr}[Has P ab1][Has P aa8][Has P ab2](n:Nat){m:Mc}(hm:m.Ok)(s:Sto):(aa1 P (n+2)).call "first_row" [m.d] s=.ok (.tup (zc (zH m))) s:=by
 have z:(aa1 P (n+2)).call "first_row" [m.d] s=_:=zb ab2 (n:=n+1) rfl
 have C:=hm.R5
 rw[z,show(cr some [m.d]++au ab2.vs none)=[some m.d,none]from rfl]
 obtain⟨ρ1,s1,e1,rfl,_⟩:=ar8 (ok:=fun s1=>chk s s1 []) (g:=ah8 (aa1 P (n+1)) (.one 0) (.ite (.cmp .isin (.var 0) (.var 1)) (.cst (.int 0)) (.cst .non))) (fun ρ u=>u=s/\∃ x,ρ=[x,some (.tup (qq m.bg))]) (fun k=>zG (if k∈m.bg then some 0 else none)) m.R [none,some (.tup (qq m.bg))] s ⟨rfl,none,rfl⟩ (fun _ _ _=>rfl) (by
  rintro k hk ρ u ⟨rfl,x,rfl⟩
  refine⟨[some (.int k),some (.tup (qq m.bg))],u,?_,rfl,_,rfl⟩
  unfold ah8
  by_cases hb:k∈m.bg
  ·tbr_iter [ar4,at4,hb,zn]
  ·tbr_iter [ar4,at4,hb,zw])
 have h:((aR m.R).map fun k=>zG (if k∈m.bg then some 0 else none))=zc (zH m):=by unfold zc zH;rw[bT];rfl
 rw[h]at e1
 simp -implicitDefEqProofs only[ab2]
 tbr_iter [az9 n,ak3 n,af7,qw (s:=s1) (i:=(m.R:Int)) (by unfold W62;omega) (by unfold W62;omega),if_pos (show(ad8 0 (m.R:Int)).length<=LIM by rw[ai2];unfold LIM;omega),show z0 [some m.d,some (.tup (qq m.bg))] [none,some 1]=[none,some (.tup (qq m.bg))]from rfl,e1,bj8]
 exact qg qj
noncomputable def ba9 (row:List (Option Int))(x b:Nat):D->Option D
 | .tup [.int a,.str [l],.int c,.int t]=>if l=x/\c=(b:Int)then some (zG (addO (row.getD a.toNat none) (some t)))else none
 | _=>none
theorem aY1 (row:List (Option Int))(x b:Nat):∀ C:List Dr,(C.map Dr.d).filterMap (ba9 row x b)=zc ((C.filter fun d=>decide (d.l=x)&&decide (d.b=b)).map fun d=>addO (row.getD d.a none) (some (d.t:Int)))
 | []=>rfl
 | d::C=>by
  have F:=aY1 row x b C
  rw[aL,bh]
  have e:ba9 row x b d.d=if d.l=x/\(d.b:Int)=(b:Int)then some (zG (addO (row.getD (d.a:Int).toNat none) (some (d.t:Int))))else none:=rfl
  rw[e,bS]
  by_cases h:d.l=x/\d.b=b
  ·rw[if_pos ⟨h.1,by omega⟩,gr,if_pos (by simp[h]),aL]
   show _::_=zc (_::_)
   rw[F];rfl
  ·rw[if_neg (fun z=>h ⟨z.1,by omega⟩),gr,if_neg (by simpa using h)]
   exact F
theorem as2 {P:Pr}[Has P ab9][Has P ac1][Has P aa7][Has P aa4](n:Nat){m:Mc}(hm:m.Ok){row:List (Option Int)}(hr:row.length=m.R)(x b:Nat)(s:Sto) :
  (aa1 P (n+2)).call "least_into" [m.d,.tup (zc row),.str [x],.int (b:Int)] s=.ok (zG (bz8 m row x b)) s:=by
 have Z:(aa1 P (n+2)).call "least_into" [m.d,.tup (zc row),.str [x],.int (b:Int)] s=_:=zb aa4 (n:=n+1) rfl
 have hd:=hm.ds.2
 rw[Z,show(cr some [m.d,D.tup (zc row),.str [x],.int (b:Int)]++au aa4.vs none)=[some m.d,some (D.tup (zc row)),some (.str [x]),some (.int (b:Int))]from rfl]
 obtain⟨ρ1,s1,e1,rfl,_⟩:=z6 (ok:=fun s1=>chk s s1 []) (g:=ar7 (aa1 P (n+1)) (.tup [0,1,2,3]) (.and (.cmp .eq (.var 1) (.var 4)) (.cmp .eq (.var 2) (.var 5))) (.call "added" (.ex (.ix (.var 6) (.var 0)) (.ex (.var 3) .nil)))) (fun ρ u=>u=s/\∃ J Y G C,ρ=[J,Y,G,C,some (.str [x]),some (.int (b:Int)),some (D.tup (zc row))]) (ba9 row x b) (m.ds.map Dr.d) [none,none,none,none,some (.str [x]),some (.int (b:Int)),some (D.tup (zc row))] s ⟨rfl,none,none,none,none,rfl⟩ (fun _ _ _=>rfl) (by
  rintro d hd ρ u ⟨rfl,J,Y,G,C,rfl⟩
  obtain⟨z,hz,rfl⟩:=aM.mp hd
  have ok:=hm.ds.1 z hz
  have ei:ba9 row x b z.d=if z.l=x/\(z.b:Int)=(b:Int)then some (zG (addO (row.getD (z.a:Int).toNat none) (some (z.t:Int))))else none:=rfl
  have F:=bc0 (P:=P) n (row.getD z.a none) (some (z.t:Int)) u
  rw[zn]at F
  refine⟨[some (.int z.a),some (.str [z.l]),some (.int z.b),some (.int z.t),some (.str [x]),some (.int (b:Int)),some (D.tup (zc row))],u,?_,rfl,_,_,_,_,rfl⟩
  rw[ei,bS]
  unfold ar7
  rw[show z.d=.tup [.int z.a,.str [z.l],.int z.b,.int z.t]from rfl]
  by_cases h1:z.l=x
  ·by_cases h2:(z.b:Int)=(b:Int)
   ·rw[if_pos ⟨h1,h2⟩]
    tbr_iter [qe,h1,h2,aP2 (row:=row) (k:=z.a) (by rw[hr];exact ok.a),F]
   ·rw[if_neg (fun q=>h2 q.2)]
    tbr_iter [qe,h1,h2]
  ·rw[if_neg (fun q=>h1 q.1)]
   tbr_iter [qe,h1])
 rw[aY1]at e1
 have h:((m.ds.filter fun d=>decide (d.l=x)&&decide (d.b=b)).map fun d=>addO (row.getD d.a none) (some (d.t:Int))).length<=1000:=by
  rw[ay]
  exact ak (List.length_filter_le _ _) (by omega)
 have el:=aK0 (P:=P) n (s:=s1++[O.lst (zc ((m.ds.filter fun d=>decide (d.l=x)&&decide (d.b=b)).map fun d=>addO (row.getD d.a none) (some (d.t:Int))))]) (q:=s1.length) (l:=(m.ds.filter fun d=>decide (d.l=x)&&decide (d.b=b)).map fun d=>addO (row.getD d.a none) (some (d.t:Int))) (by rw[aF (aj _)];simp) h
 simp -implicitDefEqProofs only[aa4]
 tbr_iter [aB9 n,ak6,ql,if_pos (show(m.ds.map Dr.d).length<=LIM by rw[ay];unfold LIM;omega),show z0 [some m.d,some (D.tup (zc row)),some (.str [x]),some (.int (b:Int))] [none,none,none,none,some 2,some 3,some 1]=[none,none,none,none,some (.str [x]),some (.int (b:Int)),some (D.tup (zc row))]from rfl,e1,aF4,el]
 exact zT (ai5 _) (aq9 _)
theorem bm3 {P:Pr}[Has P ab9][Has P ac1][Has P aa7][Has P aa8][Has P am4][Has P aa4][Has P an4](n:Nat){m:Mc}(hm:m.Ok){row:List (Option Int)}(hr:row.length=m.R)(k:Int)(x:Nat)(s:Sto) :
  (aa1 P (n+3)).call "led" [m.d,.int k,.tup (zc row),.str [x]] s=.ok (.tup (zc ((qu m row x).map (cutO k)))) s:=by
 have z:(aa1 P (n+3)).call "led" [m.d,.int k,.tup (zc row),.str [x]] s=_:=zb an4 (n:=n+2) rfl
 have C:=hm.R5
 rw[z,show(cr some [m.d,.int k,D.tup (zc row),.str [x]]++au an4.vs none)=[some m.d,some (.int k),some (D.tup (zc row)),some (.str [x])]from rfl]
 obtain⟨ρ1,s1,e1,rfl,_⟩:=ar8 (ok:=fun s1=>chk s s1 []) (g:=ah8 (aa1 P (n+2)) (.one 0) (.call "cut" (.ex (.call "least_into" (.ex (.var 1) (.ex (.var 2) (.ex (.var 3) (.ex (.var 0) .nil))))) (.ex (.var 4) .nil)))) (fun ρ u=>u=s/\∃ y,ρ=[y,some m.d,some (D.tup (zc row)),some (.str [x]),some (.int k)]) (fun b=>zG (cutO k (bz8 m row x b))) m.R [none,some m.d,some (D.tup (zc row)),some (.str [x]),some (.int k)] s ⟨rfl,none,rfl⟩ (fun _ _ _=>rfl) (by
  rintro b hb ρ u ⟨rfl,y,rfl⟩
  refine⟨[some (.int b),some m.d,some (D.tup (zc row)),some (.str [x]),some (.int k)],u,?_,rfl,_,rfl⟩
  unfold ah8
  tbr_iter [as2 (P:=P) n hm hr x b u,bM5 (P:=P) (n+1) (bz8 m row x b) k u])
 have h:((aR m.R).map fun b=>zG (cutO k (bz8 m row x b)))=zc ((qu m row x).map (cutO k)):=by unfold zc qu;rw[bT,bT];rfl
 rw[h]at e1
 simp -implicitDefEqProofs only[an4]
 tbr_iter [ak3 (n+1),af7,qw (s:=s1) (i:=(m.R:Int)) (by unfold W62;omega) (by unfold W62;omega),if_pos (show(ad8 0 (m.R:Int)).length<=LIM by rw[ai2];unfold LIM;omega),show z0 [some m.d,some (.int k),some (D.tup (zc row)),some (.str [x])] [none,some 0,some 2,some 3,some 1]=[none,some m.d,some (D.tup (zc row)),some (.str [x]),some (.int k)]from rfl,e1,bj8]
 exact qg qj
theorem bi4 {m:Mc}(hm:m.Ok):m.en.length<=5:=by
 have z:=hm.R5
 have nd:m.en.Nodup:=hm.en.2.imp (fun h=>az h)
 have:=List.Nodup.length_le_of_subset (l₂:=aR m.R) nd (fun x hx=>cz.mpr (hm.en.1 x hx))
 simp at this;omega
theorem aw6 {P:Pr}[Has P ab9][Has P ab7][Has P ac3](n:Nat){m:Mc}(hm:m.Ok){row:List (Option Int)}(hr:row.length=m.R)(s:Sto) :
  (aa1 P (n+2)).call "end_of" [m.d,.tup (zc row)] s=.ok (zG (as1 m row)) s:=by
 have F:(aa1 P (n+2)).call "end_of" [m.d,.tup (zc row)] s=_:=zb ac3 (n:=n+1) rfl
 have G:=bi4 hm
 rw[F,show(cr some [m.d,D.tup (zc row)]++au ac3.vs none)=[some m.d,some (D.tup (zc row))]from rfl]
 obtain⟨ρ1,s1,e1,rfl,_⟩:=aH3 (ok:=fun s1=>chk s s1 []) (g:=ah8 (aa1 P (n+1)) (.one 0) (.ix (.var 1) (.var 0))) (fun ρ u=>u=s/\∃ y,ρ=[y,some (D.tup (zc row))]) (fun d=>match d with|.int i=>zG (row.getD i.toNat none)|d=>d) (qq m.en) [none,some (D.tup (zc row))] s ⟨rfl,none,rfl⟩ (fun _ _ _=>rfl) (by
  rintro d hd ρ u ⟨rfl,y,rfl⟩
  obtain⟨q,hq,rfl⟩:=aM.mp hd
  refine⟨[some (.int q),some (D.tup (zc row))],u,?_,rfl,_,rfl⟩
  unfold ah8
  tbr_iter [aP2 (row:=row) (k:=q) (by rw[hr];exact hm.en.1 q hq),bS])
 have C:(qq m.en).map (fun d=>match d with|.int i=>zG (row.getD i.toNat none)|d=>d)=zc (m.en.map fun q=>row.getD q none):=by unfold qq zc;rw[bT,bT];rfl
 rw[C]at e1
 have h:=aK0 (P:=P) n (s:=s1++[O.lst (zc (m.en.map fun q=>row.getD q none))]) (q:=s1.length) (l:=m.en.map fun q=>row.getD q none) (by rw[aF (aj _)];simp) (by rw[ay];omega)
 have z:minI ((m.en.map fun q=>row.getD q none).filterMap id)=as1 m row:=by unfold as1;rw[c0];rfl
 rw[z]at h
 simp -implicitDefEqProofs only[ac3]
 tbr_iter [aL9 n,ak6,af7,if_pos (show(qq m.en).length<=LIM by unfold qq;rw[ay];unfold LIM;omega),show z0 [some m.d,some (D.tup (zc row))] [none,some 1]=[none,some (D.tup (zc row))]from rfl,e1,aF4,h]
 exact zT (ai5 _) (aq9 _)
section
variable {ρ:Type}
inductive Cov:(ρ->Prop)->List (List Nat×ρ)->List (List Nat×ρ)->Prop
 | nil {S}:Cov S [] []
 | skip {S w r L W}:S r->Cov S L W->Cov S L ((w,r)::W)
 | keep {S w r L W}:¬ S r->Cov (fun q=>q=r\/S q) L W->Cov S ((w,r)::L) ((w,r)::W)
def ah4 (S:ρ->Prop)(L:List (List Nat×ρ)):ρ->Prop:=fun q=>(∃ e∈L,e.2=q)\/S q
theorem Cov.congr {S z:ρ->Prop}{L W:List (List Nat×ρ)}(h:Cov S L W)(e:∀ q,S q↔z q):Cov z L W:=by
 have:S=z:=funext fun q=>propext (e q)
 rwa [<-this]
theorem ai1 (S:ρ->Prop):ah4 S []=S:=by funext q;simp[ah4]
theorem qd (S:ρ->Prop)(w:List Nat)(r:ρ)(L:List (List Nat×ρ)):ah4 (fun q=>q=r\/S q) L=ah4 S ((w,r)::L):=by
 funext q
 simp only[ah4,aH,eq_iff_iff]
 constructor
 ·rintro(⟨e,z,rfl⟩|rfl|h)
  ·exact .inl ⟨e,.inr z,rfl⟩
  ·exact .inl ⟨(w,q),.inl rfl,rfl⟩
  ·exact .inr h
 ·rintro(⟨e,rfl|z,rfl⟩|h)
  ·exact .inr (.inl rfl)
  ·exact .inl ⟨e,z,rfl⟩
  ·exact .inr (.inr h)
theorem bh3 (S:ρ->Prop)(L M:List (List Nat×ρ)):ah4 (ah4 S L) M=ah4 S (L++M):=by
 funext q
 simp only[ah4,a9,eq_iff_iff]
 constructor
 ·rintro(⟨e,z,rfl⟩|⟨e,z,rfl⟩|h)
  ·exact .inl ⟨e,.inr z,rfl⟩
  ·exact .inl ⟨e,.inl z,rfl⟩
  ·exact .inr h
 ·rintro(⟨e,z|z,rfl⟩|h)
  ·exact .inr (.inl ⟨e,z,rfl⟩)
  ·exact .inl ⟨e,z,rfl⟩
  ·exact .inr (.inr h)
theorem Cov.append {S:ρ->Prop}{L W L' W':List (List Nat×ρ)}(h:Cov S L W)(h':Cov (ah4 S L) L' W'):Cov S (L++L') (W++W'):=by
 induction h with
 | nil=>rw[ai1]at h';exact h'
 | skip hs _ ih=>exact .skip hs (ih h')
 | @keep S w r L W hs _ ih=>exact .keep hs (ih (by rw[qd _ w];exact h'))
noncomputable def ae5 (p:ρ->Bool)(l:List (List Nat×ρ)):Option (List Nat):=(l.find? fun e=>p e.2).map (·.1)
theorem Cov.first {S:ρ->Prop}{L W:List (List Nat×ρ)}(p:ρ->Bool)(h:Cov S L W):(∀ q,S q->p q=false)->ae5 p L=ae5 p W/\(ae5 p L=none->∀ q,ah4 S L q->p q=false):=by
 induction h with
 | nil=>intro hp;exact⟨rfl,fun _ q hq=>by rw[ai1]at hq;exact hp q hq⟩
 | @skip S w r L W hs _ ih =>
  intro hp
  have:=ih hp
  refine⟨?_,this.2⟩
  rw[this.1]
  unfold ae5
  rw[bM,show p ((w,r):List Nat×ρ).2=false from hp r hs]
 | @keep S w r L W hs _ ih =>
  intro hp
  by_cases hr:p r=true
  ·have e:∀ M:List (List Nat×ρ),ae5 p ((w,r)::M)=some w:=fun M=>by unfold ae5;rw[bM,show p ((w,r):List Nat×ρ).2=true from hr];rfl
   rw[e,e]
   exact⟨rfl,by nofun⟩
  ·have hr:p r=false:=by simpa using hr
   have e:∀ M:List (List Nat×ρ),ae5 p ((w,r)::M)=ae5 p M:=fun M=>by unfold ae5;rw[bM,show p ((w,r):List Nat×ρ).2=false from hr]
   have:=ih (fun q hq=>hq.elim (fun z=>by rw[z];exact hr) (hp q))
   rw[e,e]
   exact⟨this.1,fun hn q hq=>this.2 hn q (by rw[qd _ w];exact hq)⟩
variable (f:ρ->Nat->ρ) (ls:List Nat)
noncomputable def qk (e:List Nat×ρ):List (List Nat×ρ):=ls.map fun x=>(e.1++[x],f e.2 x)
theorem Cov.skips {T:ρ->Prop}{L:List (List Nat×ρ)}{Y:List (List Nat×ρ)}:∀ {X:List (List Nat×ρ)},(∀ e∈X,T e.2)->Cov T L Y->Cov T L (X++Y)
 | [],_,c=>c
 | (w,r)::X,h,c=>.skip (h (w,r) (aw ..)) (Cov.skips (fun e z=>h e (ao _ z)) c)
theorem Cov.step {S:ρ->Prop}{L W:List (List Nat×ρ)}(h:Cov S L W):∀ {T:ρ->Prop} {L':List (List Nat×ρ)},(∀ r,S r->∀ x∈ls,T (f r x))->Cov T L' (L.flatMap (qk f ls))->Cov T L' (W.flatMap (qk f ls))/\∀ r,ah4 S L r->∀ x∈ls,ah4 T L' (f r x):=by
 induction h with
 | nil =>
  intro T L' hc c
  exact⟨c,fun r hr x hx=>by rw[ai1]at hr;exact .inr (hc r hr x hx)⟩
 | @skip S w r L W hs _ ih =>
  intro T L' hc c
  have:=ih hc c
  refine⟨?_,this.2⟩
  rw[cj]
  refine Cov.skips (fun e z=>?_) this.1
  obtain⟨x,hx,rfl⟩:=aM.mp z
  exact hc r hs x hx
 | @keep S w r L W hs _ ih =>
  intro T L' hc c
  rw[cj]at c ⊢
  have split:∀ {X Y:List (List Nat×ρ)} {T:ρ->Prop} {L':List (List Nat×ρ)},Cov T L' (X++Y)->∃ A B,L'=A++B/\Cov T A X/\Cov (ah4 T A) B Y:=by
   intro X
   induction X with
   | nil=>intro Y T L' c;exact⟨[],L',rfl,.nil,by rw[ai1];exact c⟩
   | cons e X ihX =>
    intro Y T L' c
    obtain⟨v,q⟩:=e
    rw[bV]at c
    cases c with
    | skip ht t=>obtain⟨A,B,e1,e2,F⟩:=ihX t;exact⟨A,B,e1,.skip ht e2,F⟩
    | keep hn t=>obtain⟨A,B,e1,e2,F⟩:=ihX t;exact⟨(v,q)::A,B,by rw[e1];rfl,.keep hn e2,by rw[<-qd];exact F⟩
  obtain⟨A,B,rfl,J,cB⟩:=split c
  have G:∀ {X A:List (List Nat×ρ)} {T:ρ->Prop},Cov T A X->∀ e∈X,ah4 T A e.2:=by
   intro X A T c
   induction c with
   | nil=>intro e z;cases z
   | skip ht _ ih =>
    intro e z
    rcases aH.mp z with rfl|z
    ·exact .inr ht
    ·exact ih e z
   | @keep T v q A X hn _ ih =>
    intro e z
    rw[<-qd]
    rcases aH.mp z with rfl|z
    ·exact .inr (.inl rfl)
    ·exact ih e z
  have st:=ih (T:=ah4 T A) (L':=B) (fun Z C x hx=>by
   rcases C with rfl|C
   ·exact G J _ (aM.mpr ⟨x,hx,rfl⟩)
   ·exact .inr (hc Z C x hx)) cB
  refine⟨J.append st.1,fun q hq x hx=>?_⟩
  rw[<-bh3]
  exact st.2 q (by rw[qd _ w];exact hq) x hx
end
def Sr (row:List (Option Int))(k:Nat)(c:Int):Prop:=row.getD k none=some c
theorem bK4 (row:List (Option Int)):am3 (Sr row) row:=fun k o hk=>by
 have e:row.getD k none=o:=by rw[iG,hk];rfl
 cases o with
 | none=>intro c hc;unfold Sr at hc;rw[e]at hc;cases hc
 | some i=>exact⟨e,fun c hc=>by unfold Sr at hc;rw[e]at hc;cases hc;exact fQ _⟩
theorem ao4 (m:Mc)(row:List (Option Int))(x b:Nat):ad3 (am7 (Sr row) x m.ds b) (bz8 m row x b):=by
 refine(ap9 _).congr fun c=>?_
 simp only[cD,id_eq,exists_eq_right,aM,eV,ah,decide_eq_true_eq]
 constructor
 ·rintro⟨d,⟨hd,hl,hb⟩,e⟩
  cases hr:row.getD d.a none with
  | none=>rw[hr]at e;cases e
  | some i =>
   rw[hr]at e
   cases e
   exact⟨d,hd,hl,hb,i,hr,rfl⟩
 ·rintro⟨d,hd,hl,hb,i,hr,rfl⟩
  exact⟨d,⟨hd,hl,hb⟩,by rw[show row.getD d.a none=some i from hr];rfl⟩
theorem bD0 {m:Mc}{row z:List (Option Int)}{x:Nat}(hl:z.length=m.R)(h:am3 (am7 (Sr row) x m.ds) z):z=qu m row x:=by
 refine List.ext_getElem? fun k=>?_
 by_cases hk:k<m.R
 ·obtain⟨o,ho⟩:∃ o,z[k]?=some o:=⟨z[k]'(by rw[hl];exact hk),ai _⟩
  rw[ho]
  unfold qu
  rw[aA,cq hk]
  exact congrArg some ((h k o ho).eq (ao4 m row x k) fun _=>Iff.rfl)
 ·rw[bG (by omega),bG (by unfold qu;simp;omega)]
theorem aJ0 {P:Pr}[Has P ac9](n:Nat){m:Mc}(hm:m.Ok)(s:Sto):(aa1 P (n+1)).call "_law_begun" [m.d] s=.ok (.ref s.length) (s++[.lst (zc (zH m))]):=by
 have F:(aa1 P (n+1)).call "_law_begun" [m.d] s=_:=zb ac9 (n:=n) rfl
 have G:=hm.R5
 rw[F,show(cr some [m.d]++au ac9.vs none)=[some m.d]from rfl]
 obtain⟨ρ1,s1,e1,⟨J,rfl⟩,_⟩:=ar8 (ok:=fun s1=>chk s s1 []) (g:=ah8 (aa1 P n) (.one 0) (.ix (.lst (.cons (.cst .non) (.cons (.cst (.int 0)) .nil))) (.bi .int (.cons (.cmp .isin (.var 0) (.ix (.var 1) (.cst (.int 2)))) .nil)))) (fun ρ u=>(∃ T,u=s++T)/\∃ x,ρ=[x,some m.d])
  (fun k=>zG (if k∈m.bg then some 0 else none)) m.R [none,some m.d] s ⟨⟨[],by simp⟩,none,rfl⟩ (fun _ _ _=>rfl) (by
   rintro j hj ρ u ⟨⟨T,rfl⟩,x,rfl⟩
   have z:=at4 (s:=s++T++[.lst [.non,.int 0]]) (k:=j) (l:=m.bg)
   have hl:(s++T++[O.lst [.non,.int 0]])[(s++T).length]?=some (.lst [.non,.int 0]):=by simp
   by_cases hb:j∈m.bg
   ·have h:ixM (.ref (s++T).length) (.int 1) (s++T++[O.lst [.non,.int 0]])=.ok (.int 0) _:=aw5 (j:=1) hl rfl
    refine⟨[some (.int j),some m.d],s++T++[.lst [.non,.int 0]],?_,⟨T++[.lst [.non,.int 0]],by simp⟩,_,rfl⟩
    unfold ah8
    tbr_iter [ixB,ar4,z,hb,aR4,h,zn]
   ·have h:ixM (.ref (s++T).length) (.int 0) (s++T++[O.lst [.non,.int 0]])=.ok .non _:=aw5 (j:=0) hl rfl
    refine⟨[some (.int j),some m.d],s++T++[.lst [.non,.int 0]],?_,⟨T++[.lst [.non,.int 0]],by simp⟩,_,rfl⟩
    unfold ah8
    tbr_iter [ixB,ar4,z,hb,aR4,h,zw])
 have C:((aR m.R).map fun k=>zG (if k∈m.bg then some 0 else none))=zc (zH m):=by unfold zc zH;rw[bT];rfl
 rw[C]at e1
 simp -implicitDefEqProofs only[ac9]
 tbr_iter [ixR,af7,qw (s:=s) (i:=(m.R:Int)) (by unfold W62;omega) (by unfold W62;omega),if_pos (show(ad8 0 (m.R:Int)).length<=LIM by rw[ai2];unfold LIM;omega),show z0 [some m.d] [none,some 0]=[none,some m.d]from rfl,e1,aF4]
 rw[br,aG]
 exact aj8 (by unfold O.bnd;exact zo qj _)
theorem bN6 {P:Pr}[Has P aR5](n:Nat){m:Mc}(hm:m.Ok){row:List (Option Int)}(a5:row.length=m.R)(c:Nat)(s:Sto){k2:Nat}(a4:s[k2]?=some (.lst (zc row))) :
  (aa1 P (n+1)).call "_law_on" [m.d,.str [c],.ref k2] s=.ok (.ref s.length) (s++[.lst (zc (qu m row c))]):=by
 have e0:(aa1 P (n+1)).call "_law_on" [m.d,.str [c],.ref k2] s=_:=zb aR5 (n:=n) rfl
 have h5:=hm.R5
 rw[e0,show(cr some [m.d,D.str [c],.ref k2]++au aR5.vs none)=[some m.d,some (D.str [c]),some (.ref k2),none,none,none,none,none]from rfl]
 have sq:at7 (.ref k2) s=.ok ⟨zc row,[k2]⟩ s:=by simp only[at7,a4]
 have b2:k2<s.length:=(ac.mp a4).1
 obtain⟨ρ2,s2,e2,a6,_⟩:=z6 (ok:=fun a8=>chk s a8 [k2]) (g:=ah8 (aa1 P n) (.one 0) (.cst .non)) (fun ρ u=>u=s/\∃ x,ρ=[x]) (fun _=>some .non) (zc row) [none] s ⟨rfl,none,rfl⟩ (fun _ _ h=>by rw[h.1];simp[chk]) (by
  rintro d _ ρ u ⟨rfl,x,rfl⟩
  exact⟨[some d],u,by unfold ah8;tbr_iter [],rfl,_,rfl⟩)
 subst a6
 have b0:(zc row).filterMap (fun _=>some D.non)=zc (row.map fun _=>none):=by
  unfold zc
  rw[bT,c0,<-List.filterMap_eq_map]
  exact qi fun _ _=>rfl
 rw[b0]at e2
 have a7:(zc row).length<=LIM:=by rw[ai0,a5];unfold LIM;omega
 simp -implicitDefEqProofs only[aR5]
 tbr_iter [sq,af7,if_pos a7,show z0 [some m.d,some (D.str [c]),some (.ref k2),none,none,none,none,none] [none]=[none]from rfl,e2,aF4,ixD,ak6]
 refine aq6 (W:=fun r=>r.bind (fin s2)=.ok (.ref s2.length) (s2++[.lst (zc (qu m row c))])) (fun i ρ v=>∃(C:List (Option Int)) (Z y5 y6 y7:Option D),v=s2++[.lst (zc C)]/\C.length=m.R/\am3 (am7 (Sr row) c (m.ds.take i)) C/\ρ=[some m.d,some (.str [c]),some (.ref k2),some (.ref s2.length),Z,y5,y6,y7])
  ⟨row.map fun _=>none,_,_,_,_,rfl,by simp[a5],?_,rfl⟩ (fun _ _ _ _ _=>rfl) ?_ ?_
 ·intro k o hk
  rw[aA]at hk
  cases e:row[k]? with
  | none=>rw[e]at hk;cases hk
  | some _ =>
   rw[e]at hk;cases hk
   rintro c' ⟨d,hd,_⟩
   rw[dD]at hd;cases hd
 ·rintro i d ρ v hi ⟨C,Z,y5,y6,y7,rfl,F,G,rfl⟩
  obtain⟨x,hx,rfl⟩:∃ x,m.ds[i]?=some x/\d=x.d:=by
   rw[aA]at hi
   cases e:m.ds[i]? with
   | none=>rw[e]at hi;cases hi
   | some x=>rw[e]at hi;cases hi;exact⟨x,rfl,rfl⟩
  have hok:=hm.ds.1 x (aS hx)
  have a0:m.ds.take (i+1)=m.ds.take i++[x]:=by
   have hlt:i<m.ds.length:=(ac.mp hx).1
   have e:m.ds[i]=x:=(ac.mp hx).2
   rw[<-e,f9]
  obtain⟨oa,ha⟩:∃ o,row[x.a]?=some o:=⟨row[x.a]'(by rw[a5];exact hok.a),ai _⟩
  obtain⟨ob,hb⟩:∃ o,C[x.b]?=some o:=⟨C[x.b]'(by rw[F];exact hok.b),ai _⟩
  have g4:(s2++[O.lst (zc C)])[s2.length]?=some (.lst (zc C)):=by simp
  have ia:ixM (.ref k2) (.int x.a) (s2++[O.lst (zc C)])=.ok (zG oa) (s2++[O.lst (zc C)]):=aw5 (zp a4) (as6 ha)
  have ib:ixM (.ref s2.length) (.int x.b) (s2++[O.lst (zc C)])=.ok (zG ob) (s2++[O.lst (zc C)]):=aw5 g4 (as6 hb)
  have a1:x.d=.tup [.int x.a,.str [x.l],.int x.b,.int x.t]:=rfl
  have stay:am3 (am7 (Sr row) c (m.ds.take (i+1))) C->Nx (fun ρ v=>∃(C:List (Option Int)) (Z y5 y6 y7:Option D),v=s2++[.lst (zc C)]/\C.length=m.R/\am3 (am7 (Sr row) c (m.ds.take (i+1))) C/\ρ=[some m.d,some (.str [c]),some (.ref k2),some (.ref s2.length),Z,y5,y6,y7]) (.ok (.next [some m.d,some (.str [c]),some (.ref k2),some (.ref s2.length),some (.int x.a),some (.str [x.l]),some (.int x.b),some (.int x.t)]) (s2++[.lst (zc C)])):=fun h=>⟨C,_,_,_,_,rfl,F,h,rfl⟩
  by_cases hl:x.l=c
  ·cases oa with
   | none =>
    have et:turn (aa1 P n) (.tup [4,5,6,7]) (.cons (.ite (.and (.cmp .eq (.var 5) (.var 1)) (.notN (.ix (.var 2) (.var 4)))) (.cons (.ite (.or (.isN (.ix (.var 3) (.var 6))) (.cmp .lt (.bin .add (.ix (.var 2) (.var 4)) (.var 7)) (.ix (.var 3) (.var 6)))) (.cons (.setIx (.var 3) (.var 6) (.bin .add (.ix (.var 2) (.var 4)) (.var 7))) .nil) .nil) .nil) .nil) .nil) x.d [some m.d,some (.str [c]),some (.ref k2),some (.ref s2.length),Z,y5,y6,y7] (s2++[.lst (zc C)])=.ok (.next [some m.d,some (.str [c]),some (.ref k2),some (.ref s2.length),some (.int x.a),some (.str [x.l]),some (.int x.b),some (.int x.t)]) (s2++[.lst (zc C)]):=by
     tbr_iter [turn,a1,qe,hl,ia,zw]
    rw[et]
    refine stay ?_
    rw[a0]
    refine ax6 G fun c' a3=>?_
    exact bK4 row x.a none ha c' a3.2
   | some y =>
    have J:=aP3 G hl (bK4 row x.a (some y) ha) hb
    have a2:setIx (.ref s2.length) (.int x.b) (.int (y+x.t)) (s2++[O.lst (zc C)])=.ok () (s2++[.lst (zc (C.set x.b (some (y+x.t))))]):=by
     rw[by1 g4 (by rw[ai0,F];exact hok.b),cL,if_neg (by omega),c7]
     unfold zc
     rw[List.map_set];rfl
    have go:∀ Y:List (Option Int),Y.length=m.R->am3 (am7 (Sr row) c (m.ds.take (i+1))) Y->turn (aa1 P n) (.tup [4,5,6,7]) (.cons (.ite (.and (.cmp .eq (.var 5) (.var 1)) (.notN (.ix (.var 2) (.var 4)))) (.cons (.ite (.or (.isN (.ix (.var 3) (.var 6))) (.cmp .lt (.bin .add (.ix (.var 2) (.var 4)) (.var 7)) (.ix (.var 3) (.var 6)))) (.cons (.setIx (.var 3) (.var 6) (.bin .add (.ix (.var 2) (.var 4)) (.var 7))) .nil) .nil) .nil) .nil) .nil) x.d [some m.d,some (.str [c]),some (.ref k2),some (.ref s2.length),Z,y5,y6,y7] (s2++[.lst (zc C)])=.ok (.next [some m.d,some (.str [c]),some (.ref k2),some (.ref s2.length),some (.int x.a),some (.str [x.l]),some (.int x.b),some (.int x.t)]) (s2++[.lst (zc Y)])->Nx (fun ρ v=>∃(C:List (Option Int)) (Z y5 y6 y7:Option D),v=s2++[.lst (zc C)]/\C.length=m.R/\am3 (am7 (Sr row) c (m.ds.take (i+1))) C/\ρ=[some m.d,some (.str [c]),some (.ref k2),some (.ref s2.length),Z,y5,y6,y7]) (turn (aa1 P n) (.tup [4,5,6,7]) (.cons (.ite (.and (.cmp .eq (.var 5) (.var 1)) (.notN (.ix (.var 2) (.var 4)))) (.cons (.ite (.or (.isN (.ix (.var 3) (.var 6))) (.cmp .lt (.bin .add (.ix (.var 2) (.var 4)) (.var 7)) (.ix (.var 3) (.var 6)))) (.cons (.setIx (.var 3) (.var 6) (.bin .add (.ix (.var 2) (.var 4)) (.var 7))) .nil) .nil) .nil) .nil) .nil) x.d [some m.d,some (.str [c]),some (.ref k2),some (.ref s2.length),Z,y5,y6,y7] (s2++[.lst (zc C)])):=fun Y h1 h2 e=>by
     rw[e];exact⟨Y,_,_,_,_,rfl,h1,h2,rfl⟩
    cases ob with
    | none =>
     refine go (C.set x.b (some (y+x.t))) (by simp[F]) (by rw[a0];exact J) ?_
     tbr_iter [turn,a1,qe,hl,ia,ib,a2,zw,zn,show(D.int y=D.non)=False from eq_false (by nofun)]
    | some z =>
     by_cases hlt:y+x.t<z
     ·have e:minO (some z) (some (y+(x.t:Int)))=some (y+x.t):=by show(if y+(x.t:Int)<z then _ else _)=_;rw[if_pos hlt]
      rw[e]at J
      refine go (C.set x.b (some (y+x.t))) (by simp[F]) (by rw[a0];exact J) ?_
      tbr_iter [turn,a1,qe,hl,ia,ib,a2,zn,hlt,show(D.int y=D.non)=False from eq_false (by nofun),show(D.int z=D.non)=False from eq_false (by nofun)]
     ·refine go C F ?_ ?_
      ·rw[a0]
       have e:minO (some z) (some (y+(x.t:Int)))=some z:=by show(if y+(x.t:Int)<z then _ else _)=_;rw[if_neg hlt]
       rw[e]at J
       have e2:C.set x.b (some z)=C:=by
        have b1:x.b<C.length:=(ac.mp hb).1
        have e3:C[x.b]=some z:=(ac.mp hb).2
        rw[<-e3,eg]
       rwa [e2]at J
      ·tbr_iter [turn,a1,qe,hl,ia,ib,zn,hlt,show(D.int y=D.non)=False from eq_false (by nofun),show(D.int z=D.non)=False from eq_false (by nofun)]
  ·have et:turn (aa1 P n) (.tup [4,5,6,7]) (.cons (.ite (.and (.cmp .eq (.var 5) (.var 1)) (.notN (.ix (.var 2) (.var 4)))) (.cons (.ite (.or (.isN (.ix (.var 3) (.var 6))) (.cmp .lt (.bin .add (.ix (.var 2) (.var 4)) (.var 7)) (.ix (.var 3) (.var 6)))) (.cons (.setIx (.var 3) (.var 6) (.bin .add (.ix (.var 2) (.var 4)) (.var 7))) .nil) .nil) .nil) .nil) .nil) x.d [some m.d,some (.str [c]),some (.ref k2),some (.ref s2.length),Z,y5,y6,y7] (s2++[.lst (zc C)])=.ok (.next [some m.d,some (.str [c]),some (.ref k2),some (.ref s2.length),some (.int x.a),some (.str [x.l]),some (.int x.b),some (.int x.t)]) (s2++[.lst (zc C)]):=by
    tbr_iter [turn,a1,qe,hl]
   rw[et]
   refine stay ?_
   rw[a0]
   exact ax6 G fun c' a3=>hl a3.1
 ·rintro ρ v ⟨C,Z,y5,y6,y7,rfl,F,G,rfl⟩
  rw[ay,cW]at G
  rw[bD0 F G]
  tbr_iter []
  have:=aj8 (s:=s2) (t:=[]) (u:=[]) (o:=.lst (zc (qu m row c))) (by unfold O.bnd;exact zo qj _)
  rw[cK,show s2.length+([]:Sto).length=s2.length from rfl]at this
  exact this
theorem aH9 {P:Pr}[Has P ad0](n:Nat){m:Mc}(hm:m.Ok){row:List (Option Int)}(G:row.length=m.R)(s:Sto){k2:Nat}(g2:s[k2]?=some (.lst (zc row))) :
  (aa1 P (n+1)).call "_law_ended" [m.d,.ref k2] s=.ok (zG (as1 m row)) s:=by
 have Z:(aa1 P (n+1)).call "_law_ended" [m.d,.ref k2] s=_:=zb ad0 (n:=n) rfl
 have h5:=bi4 hm
 rw[Z,show(cr some [m.d,.ref k2]++au ad0.vs none)=[some m.d,some (.ref k2)]from rfl]
 obtain⟨ρ3,s3,Y,z,_⟩:=z6 (ok:=fun J=>chk s J []) (g:=ar7 (aa1 P n) (.one 0) (.notN (.ix (.var 1) (.var 0))) (.ix (.var 1) (.var 0))) (fun ρ u=>u=s/\∃ x,ρ=[x,some (.ref k2)]) (fun d=>match d with|.int i=>(row.getD i.toNat none).map D.int|_=>none) (qq m.en) [none,some (.ref k2)] s ⟨rfl,none,rfl⟩ (fun _ _ h=>rfl) (by
  rintro d hd ρ u ⟨rfl,x,rfl⟩
  obtain⟨q,hq,rfl⟩:=aM.mp hd
  have hlt:q<row.length:=by rw[G];exact hm.en.1 q hq
  have ix:=aw5 (s:=u) g2 (as6 (ai hlt))
  refine⟨[some (.int q),some (.ref k2)],u,?_,rfl,_,rfl⟩
  have hg:row.getD ((q:Int).toNat) none=row[q]:=by simp[iG,hlt]
  unfold ar7
  simp only[hg]
  cases e:row[q]with
  | none=>rw[e]at ix;tbr_iter [ix,zw,Option.map_none]
  | some y=>rw[e]at ix;tbr_iter [ix,zn,show(D.int y=D.non)=False from eq_false (by nofun)])
 subst z
 have F:(qq m.en).filterMap (fun d=>match d with|.int i=>(row.getD i.toNat none).map D.int|_=>none)=(m.en.filterMap fun q=>row.getD q none).map D.int:=by
  unfold qq
  rw[c0,List.map_filterMap]
  exact qi fun q _=>rfl
 rw[F]at Y
 have C:(qq m.en).length<=LIM:=by unfold qq;rw[ay];unfold LIM;omega
 simp -implicitDefEqProofs only[ad0]
 tbr_iter [ixE,ak6,ql,if_pos C,show z0 [some m.d,some (.ref k2)] [none,some 1]=[none,some (.ref k2)]from rfl,Y,aQ8]
 exact ap8
noncomputable def aA9 (t:Int)(a b:Option Int):Bool:=match b with
 | none=>false
 | some j=>match a with
  | none=>true
  | some i=>decide (t*j<i)
theorem bx9 {P:Pr}[Has P ae1](n:Nat)(a b:Option Int){t:Int}(h:∀ j,b=some j->mulOk t j=true)(s:Sto):(aa1 P (n+1)).call "_law_dear" [zG a,zG b,.int t] s=.ok (.bl (aA9 t a b)) s:=by
 have z:(aa1 P (n+1)).call "_law_dear" [zG a,zG b,.int t] s=_:=zb ae1 (n:=n) rfl
 rw[z,show(cr some [zG a,zG b,.int t]++au ae1.vs none)=[some (zG a),some (zG b),some (.int t)]from rfl]
 simp -implicitDefEqProofs only[ae1]
 cases b with
 | none=>tbr_iter [zw];exact zW
 | some j =>
  cases a with
  | none=>tbr_iter [zw,zn,show(D.int j=D.non)=False from eq_false (by nofun)];exact zW
  | some i=>tbr_iter [zn,show(D.int j=D.non)=False from eq_false (by nofun),show(D.int i=D.non)=False from eq_false (by nofun),ad2 (h j rfl)];exact zW
theorem au5 {P:Pr}[Has P ab0](n:Nat)(a b:Option Int){t:Int}(h:∀ j,b=some j->mulOk t j=true)(s:Sto):(aa1 P (n+1)).call "is_dearer" [zG a,zG b,.int t] s=.ok (.bl (aA9 t a b)) s:=by
 have z:(aa1 P (n+1)).call "is_dearer" [zG a,zG b,.int t] s=_:=zb ab0 (n:=n) rfl
 rw[z,show(cr some [zG a,zG b,.int t]++au ab0.vs none)=[some (zG a),some (zG b),some (.int t)]from rfl]
 simp -implicitDefEqProofs only[ab0]
 cases b with
 | none=>tbr_iter [zw];exact zW
 | some j =>
  cases a with
  | none=>tbr_iter [zw,zn,show(D.int j=D.non)=False from eq_false (by nofun)];exact zW
  | some i=>tbr_iter [zn,show(D.int j=D.non)=False from eq_false (by nofun),show(D.int i=D.non)=False from eq_false (by nofun),ad2 (h j rfl)];exact zW
theorem bt4 {s:Sto}{o:O}:(s++[o])[s.length]?=some o:=by rw[aF (aj _)];simp
theorem bu3 {s0 s:Sto}{r:Nat}{o:O}(h:∃ t,s=s0++t)(hr:s0.length<=r):∃ t,s.set r o=s0++t:=by
 obtain⟨t,rfl⟩:=h
 exact⟨t.set (r - s0.length) o,by rw[List.set_append_right _ _ hr]⟩
theorem Cov.old {ρ:Type}{S:ρ->Prop}{L X:List (List Nat×ρ)}{w:List Nat}{r:ρ}(c:Cov S L X)(h:ah4 S L r):Cov S L (X++[(w,r)]):=by
 have:=c.append (L':=[]) (W':=[(w,r)]) (.skip h .nil)
 rwa [aZ]at this
theorem Cov.new {ρ:Type}{S:ρ->Prop}{L X:List (List Nat×ρ)}{w:List Nat}{r:ρ}(c:Cov S L X)(h:¬ ah4 S L r):Cov S (L++[(w,r)]) (X++[(w,r)]) :=
 c.append (L':=[(w,r)]) (W':=[(w,r)]) (.keep h .nil)
theorem Cov.len {ρ:Type}{S:ρ->Prop}{L X:List (List Nat×ρ)}(c:Cov S L X):L.length<=X.length:=by
 induction c with
 | nil=>exact aj _
 | skip _ _ ih=>rw[aI];omega
 | keep _ _ ih=>rw[aI,aI];omega
theorem Cov.sub {ρ:Type}{S:ρ->Prop}{L X:List (List Nat×ρ)}(c:Cov S L X):∀ e∈L,e∈X:=by
 induction c with
 | nil=>intro e h;exact h
 | skip _ _ ih=>intro e h;exact ao _ (ih e h)
 | keep _ _ ih =>
  intro e h
  rcases aH.mp h with rfl|h
  ·exact aw ..
  ·exact ao _ (ih e h)
noncomputable abbrev Rr:=List (Option Int)×List (Option Int)
noncomputable def z5 (r:Rr):D:=.tup [.tup (zc r.1),.tup (zc r.2)]
noncomputable def lvD (l:List (List Nat×Rr)):List D:=l.map fun e=>.tup [.str e.1,z5 e.2]
noncomputable def zA (K:List Rr):List (D×D):=K.map fun r=>(z5 r,.bl true)
noncomputable def zu (A B:Mc)(r:Rr)(x:Nat):Rr:=(qu A r.1 x,qu B r.2 x)
noncomputable def zX (L:Nat):List Nat:=(aR L).map (97+·)
theorem bC6:∀ {L:Nat},L<=3->aK3.take L=sg (zX L)
 | 0,_=>rfl
 | 1,_=>rfl
 | 2,_=>rfl
 | 3,_=>rfl
 | n+4,h=>by omega
theorem be2:∀ {a b:Option Int},zG a=zG b->a=b
 | none,none,_=>rfl
 | none,some _,h=>by cases h
 | some _,none,h=>by cases h
 | some a,some b,h=>by cases h;rfl
theorem at2:∀ {a b:List (Option Int)},zc a=zc b->a=b
 | [],[],_=>rfl
 | [],_::_,h=>by cases h
 | _::_,[],h=>by cases h
 | x::a,y::b,h=>by
  have h:zG x::zc a=zG y::zc b:=h
  injection h with h1 h2
  rw[be2 h1,at2 h2]
theorem bf7 {a b:Rr}(h:z5 a=z5 b):a=b:=by
 have h:D.tup [.tup (zc a.1),.tup (zc a.2)]=D.tup [.tup (zc b.1),.tup (zc b.2)]:=h
 injection h with h
 injection h with h1 h2
 injection h2 with h2 _
 injection h1 with h1
 injection h2 with h2
 exact Prod.ext (at2 h1) (at2 h2)
theorem aI5 {row:List (Option Int)}(z:1<=row.length)(h:row.length<=1000):(D.tup (zc row)).keyS=true:=by
 show(D.hdI (zc row)&&((zc row).all D.keyF&&decide ((zc row).length<=1000)))=true
 rw[ah,ah]
 refine⟨?_,?_,by rw[ai0];exact decide_eq_true h⟩
 ·cases row with
  | nil=>cases z
  | cons o r=>cases o<;>rfl
 ·rw[aU]
  intro d hd
  obtain⟨o,_,rfl⟩:=aM.mp hd
  cases o<;>rfl
def ShP (A B:Mc)(r:Rr):Prop:=r.1.length=A.R/\r.2.length=B.R
theorem at3 {A B:Mc}(C:A.Ok)(z:B.Ok){r:Rr}(h:ShP A B r):(z5 r).keyT=true:=by
 have F:=C.R1;have a5:=C.R5;have b1:=z.R1;have G:=z.R5
 have k1:=aI5 (row:=r.1) (by rw[h.1];exact F) (by rw[h.1];omega)
 have k2:=aI5 (row:=r.2) (by rw[h.2];exact b1) (by rw[h.2];omega)
 show(true&&((([D.tup (zc r.1),D.tup (zc r.2)]).all D.keyS)&&decide (2<=1000)))=true
 rw[bW,bW,k1,k2];rfl
theorem aJ5 (r:Rr)(n:Nat):(z5 r).bnd n=true:=by
 unfold z5 D.bnd
 refine zo (fun d hd n=>?_) n
 rcases aH.mp hd with rfl|hd
 ·unfold D.bnd;exact zo qj n
 ·rcases aH.mp hd with rfl|hd
  ·unfold D.bnd;exact zo qj n
  ·cases hd
theorem am0 (r:Rr):∀ K:List Rr,(look (z5 r) (zA K)).isSome=decide (r∈K)
 | []=>by simp[zA,look]
 | a::K=>by
  have C:=am0 r K
  show(if z5 a=z5 r then some (D.bl true)else look (z5 r) (zA K)).isSome=_
  by_cases h:a=r
  ·subst h;rw[if_pos rfl];simp
  ·rw[if_neg (fun z=>h (bf7 z)),C]
   simp[cM h,h,eq_comm]
theorem be6 {r:Rr}{K:List Rr}(h:r ∉ K):at0 (z5 r) (.bl true) (zA K)=zA (K++[r]):=by
 unfold at0
 rw[am0,decide_eq_false h,if_neg (by nofun)]
 unfold zA
 rw[dg];rfl
theorem bo9 {A B:Mc}(C:A.Ok)(z:B.Ok){r:Rr}(h:ShP A B r){s:Sto}{q:Nat}{K:List Rr}(g:s[q]?=some (.dit (zA K))):inM (z5 r) (.ref q) s=.ok (decide (r∈K)) s:=by
 unfold inM
 simp only[g,at3 C z h,if_true,am0]
theorem bd9 {A B:Mc}(C:A.Ok)(z:B.Ok){r:Rr}(h:ShP A B r){s:Sto}{q:Nat}{K:List Rr}(g:s[q]?=some (.dit (zA K)))(hn:r ∉ K)(hl:K.length<LIM):setIx (.ref q) (z5 r) (.bl true) s=.ok () (s.set q (.dit (zA (K++[r])))):=by
 unfold setIx
 simp only[g,at3 C z h,show(zA K).length<LIM by unfold zA;rw[ay];exact hl,decide_true,Bool.and_self,if_true,be6 hn]
theorem aE8 (m:Mc)(row:List (Option Int))(x:Nat):(qu m row x).length=m.R:=by unfold qu;simp
theorem ar6 (A B:Mc)(r:Rr)(x:Nat):ShP A B (zu A B r x):=⟨aE8 ..,aE8 ..⟩
theorem bA3 {l:List (List Nat×Rr)}{n:Nat}:(O.lst (lvD l)).bnd n=true:=by
 unfold O.bnd
 refine zo (fun d hd n=>?_) n
 obtain⟨e,_,rfl⟩:=aM.mp hd
 unfold D.bnd
 refine zo (fun d hd n=>?_) n
 rcases aH.mp hd with rfl|hd
 ·rfl
 ·rcases aH.mp hd with rfl|hd
  ·exact aJ5 _ n
  ·cases hd
theorem bd7 {K:List Rr}{n:Nat}:(O.dit (zA K)).bnd n=true:=by
 unfold O.bnd
 rw[ah]
 constructor
 ·refine zo (fun d hd n=>?_) n
  unfold zA at hd
  rw[bT]at hd
  obtain⟨e,_,rfl⟩:=aM.mp hd
  exact aJ5 _ n
 ·refine zo (fun d hd n=>?_) n
  unfold zA at hd
  rw[bT]at hd
  obtain⟨e,_,rfl⟩:=aM.mp hd
  rfl
theorem aL4 {s:Sto}{o h:O}{q:Nat}(z:h.bnd s.length=true)(ho:o.bnd s.length=true):zy s (.ref s.length) (s.set q h++[o])=.ok (.ref s.length) (s.set q h++[o]):=by
 unfold zy
 rw[ax2 s [o] q h z,if_pos rfl]
 have e:(s.set q h++[o]).take s.length=s.set q h:=by rw[eU (by simp),d7 (by simp)]
 have g:(s.set q h++[o])[s.length]?=some o:=by rw[aF (by simp),aP,c7];rfl
 simp only[bp,if_false,g,ho,if_true,e]
theorem aq8 {K:List Rr}{L:List (List Nat×Rr)}{r:Rr}:r∈K++L.map (·.2)↔ah4 (·∈K) L r:=by
 simp only[a9,aM,ah4]
 exact or_comm
theorem bj5 {L:List (List Nat×Rr)}{j:Nat}{d:D}(h:(lvD L)[j]?=some d):∃ e,L[j]?=some e/\d=.tup [.str e.1,z5 e.2]:=by
 unfold lvD at h
 rw[aA]at h
 cases e:L[j]? with
 | none=>rw[e]at h;cases h
 | some x=>rw[e]at h;cases h;exact⟨x,rfl,rfl⟩
theorem at9 {α:Type}{l:List α}{j:Nat}{x:α}(h:l[j]?=some x):l.take (j+1)=l.take j++[x]:=by
 have hlt:j<l.length:=(ac.mp h).1
 have e:l[j]=x:=(ac.mp h).2
 rw[<-e,f9]
theorem am1 {f:Rr->Nat->Rr}{z:List Nat}{e:List Nat×Rr}{i x:Nat}(h:z[i]?=some x):(qk f z e).take (i+1)=(qk f z e).take i++[(e.1++[x],f e.2 x)]:=by
 refine at9 ?_
 unfold qk;rw[aA,h];rfl
theorem aG7 (r:Rr)(s:Sto):ixM (z5 r) (.int 0) s=.ok (.tup (zc r.1)) s:=aC4 0 rfl
theorem aI8 (r:Rr)(s:Sto):ixM (z5 r) (.int 1) s=.ok (.tup (zc r.2)) s:=aC4 1 rfl
def bT4 (A B:Mc)(k:Int)(ls:List Nat)(r:Rr):Prop:=∀ x∈ls,(qu A r.1 x).map (cutO k)=qu A r.1 x/\(qu B r.2 x).map (cutO k)=qu B r.2 x
section
variable {P:Pr} [Has P ab9] [Has P ac1] [Has P aa7] [Has P aa8] [Has P am4] [Has P aa4] [Has P an4] [Has P aa6] [HasC P "LETTERS" (.tup aK3)] [Has P aa2]
theorem ak9 (n:Nat){A B:Mc}(hA:A.Ok)(hB:B.Ok){k:Int}{s:Sto}{p q:Nat}{L:List (List Nat×Rr)}{K:List Rr}(gp:s[p]?=some (.lst (lvD L)))(gq:s[q]?=some (.dit (zA K)))
  (hL:L.length<=300) (hK:K.length<=10000) (hw:∀ e∈L,e.1.length<=100/\ShP A B e.2/\bT4 A B k (zX A.L) e.2) :
  ∃ L',Cov (·∈K) L' (L.flatMap (qk (zu A B) (zX A.L)))/\(aa1 P (n+4)).call "level_behind" [A.d,B.d,.int k,.ref p,.ref q] s=.ok (.ref s.length) (s.set q (.dit (zA (K++L'.map (·.2))))++[.lst (lvD L')]):=by
 have e0:(aa1 P (n+4)).call "level_behind" [A.d,B.d,.int k,.ref p,.ref q] s=_:=zb aa2 (n:=n+3) rfl
 have a5:p≠q:=fun e=>by subst e;rw[gp]at gq;cases gq
 have hp:p<s.length:=(ac.mp gp).1
 have hq:q<s.length:=(ac.mp gq).1
 have Z:=hA.L3
 have b0:s.set q (.dit (zA K))=s:=by
  rw[<-(ac.mp gq).2,eg]
 have a2:∀ S:Sto,(aa1 P (n+3)).call "letters_of" [A.d] S=.ok (.tup (sg (zX A.L))) S:=fun S=>by
  have:=ag1 (P:=P) (n+2) (L:=A.L) Z [.int A.R,.tup (qq A.bg),.tup (qq A.en),.tup (A.ds.map Dr.d)] S
  rw[bC6 Z]at this
  exact this
 have a4:(L.flatMap (qk (zu A B) (zX A.L))).length<=900:=by
  have:∀ M:List (List Nat×Rr),(M.flatMap (qk (zu A B) (zX A.L))).length<=3*M.length:=fun M=>by
   induction M with
   | nil=>exact aj _
   | cons e M ih =>
    rw[cj,aG,aI]
    have:(qk (zu A B) (zX A.L) e).length=A.L:=by unfold qk zX;simp
    omega
  have:=this L
  omega
 suffices H:∃ L':List (List Nat×Rr),Cov (·∈K) L' (L.flatMap (qk (zu A B) (zX A.L)))/\∃(C y7 y8 y9:Option D),ag8 (fun u=>chk (s++[O.lst []]) u [p]) (turn (aa1 P (n+3)) (.tup [6,7]) (.cons (.for_ (.one 8) (.seq (.call "letters_of" (.ex (.var 0) .nil))) (.cons (.asg (.one 9) (.tup (.cons (.call "led" (.ex (.var 0) (.ex (.var 2) (.ex (.ix (.var 7) (.cst (.int 0))) (.ex (.var 8) .nil))))) (.cons (.call "led" (.ex (.var 1) (.ex (.var 2) (.ex (.ix (.var 7) (.cst (.int 1))) (.ex (.var 8) .nil))))) .nil)))) (.cons (.ite (.cmp .notin (.var 9) (.var 4)) (.cons (.setIx (.var 4) (.var 9) (.cst (.bl true))) (.cons (.ex (.meth .append (.var 5) (.cons (.tup (.cons (.bin .add (.var 6) (.var 8)) (.cons (.var 9) .nil))) .nil))) .nil)) .nil) .nil))) .nil)) (lvD L) [some A.d,some B.d,some (.int k),some (.ref p),some (.ref q),some (.ref s.length),none,none,none,none] (s++[O.lst []])=.ok (.next [some A.d,some B.d,some (.int k),some (.ref p),some (.ref q),some (.ref s.length),C,y7,y8,y9]) (s.set q (.dit (zA (K++L'.map (·.2))))++[.lst (lvD L')])by
  obtain⟨L',c,C,y7,y8,y9,e⟩:=H
  refine⟨L',c,?_⟩
  have sq:at7 (.ref p) (s++[O.lst []])=.ok ⟨lvD L,[p]⟩ (s++[O.lst []]):=by simp only[at7,zp gp]
  rw[e0,show(cr some [A.d,B.d,.int k,.ref p,.ref q]++au aa2.vs none)=[some A.d,some B.d,some (.int k),some (.ref p),some (.ref q),none,none,none,none,none]from rfl]
  simp -implicitDefEqProofs only[aa2]
  tbr_iter [sq,e]
  exact aL4 bd7 bA3
 have key:=al1 (ok:=fun u=>chk (s++[O.lst []]) u [p]) (g:=turn (aa1 P (n+3)) (.tup [6,7]) (.cons (.for_ (.one 8) (.seq (.call "letters_of" (.ex (.var 0) .nil))) (.cons (.asg (.one 9) (.tup (.cons (.call "led" (.ex (.var 0) (.ex (.var 2) (.ex (.ix (.var 7) (.cst (.int 0))) (.ex (.var 8) .nil))))) (.cons (.call "led" (.ex (.var 1) (.ex (.var 2) (.ex (.ix (.var 7) (.cst (.int 1))) (.ex (.var 8) .nil))))) .nil)))) (.cons (.ite (.cmp .notin (.var 9) (.var 4)) (.cons (.setIx (.var 4) (.var 9) (.cst (.bl true))) (.cons (.ex (.meth .append (.var 5) (.cons (.tup (.cons (.bin .add (.var 6) (.var 8)) (.cons (.var 9) .nil))) .nil))) .nil)) .nil) .nil))) .nil))
  (fun j ρ u=>∃(L1:List (List Nat×Rr)) (C y7 y8 y9:Option D),Cov (·∈K) L1 ((L.take j).flatMap (qk (zu A B) (zX A.L)))/\u=s.set q (.dit (zA (K++L1.map (·.2))))++[.lst (lvD L1)]/\ρ=[some A.d,some B.d,some (.int k),some (.ref p),some (.ref q),some (.ref s.length),C,y7,y8,y9])
  (lvD L) 0 [some A.d,some B.d,some (.int k),some (.ref p),some (.ref q),some (.ref s.length),none,none,none,none] (s++[O.lst []]) ⟨[],none,none,none,none,.nil,by rw[bX,aZ,b0];rfl,rfl⟩ (fun j ρ u _ h=>?_) (fun j d ρ u hj h=>?_)
 ·obtain⟨ρ',s',e,L',C,y7,y8,y9,c,rfl,rfl⟩:=key
  refine⟨L',?_,C,y7,y8,y9,e⟩
  rw[bv,show(lvD L).length=L.length from ay ..,cW]at c
  exact c
 ·obtain⟨L1,_,_,_,_,_,rfl,_⟩:=h
  have z:(s.set q (.dit (zA (K++L1.map (·.2))))++[O.lst (lvD L1)])[p]?=(s++[O.lst []])[p]?:=by
   rw[aJ (by rw[aP];exact hp),aJ hp,aW (cM a5)]
  simp only[chk,bW,ju,eO,z,decide_true]
 ·rw[bv]at h
  obtain⟨L1,C,y7,y8,y9,c,rfl,rfl⟩:=h
  obtain⟨e,he,rfl⟩:=bj5 hj
  obtain⟨b1,a1,Y⟩:=hw e (aS he)
  have ki:=al1 (ok:=fun u=>chk (s.set q (.dit (zA (K++L1.map (·.2))))++[O.lst (lvD L1)]) u []) (g:=turn (aa1 P (n+3)) (.one 8) (.cons (.asg (.one 9) (.tup (.cons (.call "led" (.ex (.var 0) (.ex (.var 2) (.ex (.ix (.var 7) (.cst (.int 0))) (.ex (.var 8) .nil))))) (.cons (.call "led" (.ex (.var 1) (.ex (.var 2) (.ex (.ix (.var 7) (.cst (.int 1))) (.ex (.var 8) .nil))))) .nil)))) (.cons (.ite (.cmp .notin (.var 9) (.var 4)) (.cons (.setIx (.var 4) (.var 9) (.cst (.bl true))) (.cons (.ex (.meth .append (.var 5) (.cons (.tup (.cons (.bin .add (.var 6) (.var 8)) (.cons (.var 9) .nil))) .nil))) .nil)) .nil) .nil)))
   (fun i ρ u=>∃(L2:List (List Nat×Rr)) (y8 y9:Option D),Cov (·∈K) L2 ((L.take j).flatMap (qk (zu A B) (zX A.L))++(qk (zu A B) (zX A.L) e).take i)/\u=s.set q (.dit (zA (K++L2.map (·.2))))++[.lst (lvD L2)]/\ρ=[some A.d,some B.d,some (.int k),some (.ref p),some (.ref q),some (.ref s.length),some (.str e.1),some (z5 e.2),y8,y9])
   (sg (zX A.L)) 0 [some A.d,some B.d,some (.int k),some (.ref p),some (.ref q),some (.ref s.length),some (.str e.1),some (z5 e.2),y8,y9] (s.set q (.dit (zA (K++L1.map (·.2))))++[O.lst (lvD L1)]) ⟨L1,y8,y9,by rw[dD,aZ];exact c,rfl,rfl⟩ (fun _ _ _ _ _=>rfl) (fun i d ρ u F h=>?_)
  ·obtain⟨ρ',s',ei,L2,z8,z9,G,rfl,rfl⟩:=ki
   refine⟨_,_,.inl ?_,L2,some (.str e.1),some (z5 e.2),z8,z9,?_,rfl,rfl⟩
   ·tbr_iter [turn,a2,ak6,ei]
   ·have a6:(sg (zX A.L)).length=(qk (zu A B) (zX A.L) e).length:=by unfold sg qk;simp
    rw[bv,a6,cW]at G
    rw[show 0+j+1=j+1 by omega,at9 he,fi,cj,gu,aZ]
    exact G
  ·rw[bv]at h
   obtain⟨L2,z8,z9,G,rfl,rfl⟩:=h
   obtain⟨x,hx,rfl⟩:∃ x,(zX A.L)[i]?=some x/\d=.str [x]:=by
    unfold sg at F
    rw[aA]at F
    cases ee:(zX A.L)[i]? with
    | none=>rw[ee]at F;cases F
    | some x=>rw[ee]at F;cases F;exact⟨x,rfl,rfl⟩
   have a8:=aS hx
   obtain⟨cA,cB⟩:=Y x a8
   generalize hU:s.set q (.dit (zA (K++L2.map (·.2))))++[O.lst (lvD L2)]=U
   have gU:U[q]?=some (.dit (zA (K++L2.map (·.2)))):=by rw[<-hU];exact zp (qB hq)
   have gF:U[s.length]?=some (.lst (lvD L2)):=by rw[<-hU,aF (by simp),aP,c7];rfl
   have lA:=bm3 (P:=P) n hA a1.1 k x U
   have lB:=bm3 (P:=P) n hB a1.2 k x U
   rw[cA]at lA
   rw[cB]at lB
   have hP:D.tup [.tup (zc (qu A e.2.1 x)),.tup (zc (qu B e.2.2 x))]=z5 (zu A B e.2 x):=rfl
   have a3:=bo9 hA hB (ar6 A B e.2 x) gU
   have b2:=G.len
   have hX:((L.take j).flatMap (qk (zu A B) (zX A.L))++(qk (zu A B) (zX A.L) e).take i).length<=900:=by
    refine ak ?_ a4
    have hd:L=L.take j++e::L.drop (j+1):=by
     have hlt:j<L.length:=(ac.mp he).1
     have ee:L[j]=e:=(ac.mp he).2
     rw[<-ee,gR,hZ]
    conv=>rhs;rw[hd]
    rw[fi,cj,aG,aG,aG]
    have:((qk (zu A B) (zX A.L) e).take i).length<=(qk (zu A B) (zX A.L) e).length:=by rw[bE];omega
    omega
   by_cases hm:zu A B e.2 x∈K++L2.map (·.2)
   ·refine⟨_,_,.inl (?_:_=R.ok (Ct.next [some A.d,some B.d,some (.int k),some (.ref p),some (.ref q),some (.ref s.length),some (.str e.1),some (z5 e.2),some (.str [x]),some (z5 (zu A B e.2 x))]) U),L2,_,_,?_,hU.symm,rfl⟩
    ·tbr_iter [turn,aG7,aI8,lA,lB,hP,aJ7,a3,hm]
    ·rw[show 0+i+1=i+1 by omega,am1 hx,<-br]
     exact G.old (aq8.mp hm)
   ·have J:=bd9 hA hB (ar6 A B e.2 x) gU hm (by rw[aG,ay];unfold LIM;omega)
    have a7:(U.set q (.dit (zA (K++L2.map (·.2)++[zu A B e.2 x]))))[s.length]?=some (.lst (lvD L2)):=by rw[aW (by omega)];exact gF
    have a0:=ag4 (v:=.tup [.str (e.1++[x]),z5 (zu A B e.2 x)]) a7 (by rw[show(lvD L2).length=L2.length from ay ..];unfold LIM;omega)
    refine⟨_,_,.inl (?_:_=R.ok (Ct.next [some A.d,some B.d,some (.int k),some (.ref p),some (.ref q),some (.ref s.length),some (.str e.1),some (z5 e.2),some (.str [x]),some (z5 (zu A B e.2 x))]) ((U.set q (.dit (zA (K++L2.map (·.2)++[zu A B e.2 x])))).set s.length (.lst (lvD L2++[.tup [.str (e.1++[x]),z5 (zu A B e.2 x)]])))),L2++[(e.1++[x],zu A B e.2 x)],_,_,?_,?_,rfl⟩
    ·tbr_iter [turn,aG7,aI8,lA,lB,hP,aJ7,a3,hm,J,aB8 (a:=e.1) (b:=[x]) (show e.1.length+[x].length<=LIM by unfold LIM;simp;omega),a0]
    ·rw[show 0+i+1=i+1 by omega,am1 hx,<-br]
     exact G.new fun z=>hm (aq8.mpr z)
    ·rw[<-hU,cL,if_pos (by rw[aP];exact hq),ed,cL,if_neg (by rw[aP];omega),aP,c7,dg,<-br]
     unfold lvD
     rw[dg];rfl
end
theorem bN0 {L:Nat}(h3:L<=3)(s:Sto):slM (.str [97,98,99]) none (some (L:Int)) s=.ok (.str ([97,98,99].take L)) s:=by
 show R.ok (D.str (aA4 [97,98,99] none (some (L:Int)))) s=_
 unfold aA4
 simp only[loB,hiB,sbd,fF,Nat.sub_zero]
 rw[if_pos (by omega),bS]
 show R.ok (D.str (List.take (min L 3) [97,98,99])) s=_
 rw[Nat.min_eq_left h3]
noncomputable def Dr.wd (x:Dr):D:=.tup [.int x.a,.str [x.l],.int x.b]
noncomputable def Dr.en (x:Dr):D×D:=(x.wd,.int x.t)
@[simp] theorem bY1 {F:Fns} {ρ:Env} {s:Sto}:ev F .dicT ρ s=.ok (.ref s.length) (s++[.dit []]):=rfl
@[simp] theorem bV1 {F:Fns} {ρ:Env} {s:Sto} (o k d:E):ev F (.get2 o k d) ρ s=(ev F o ρ s).bind fun x s=>(ev F k ρ s).bind fun y s=>(ev F d ρ s).bind fun z s=>bQ9 x y z s:=rfl
@[simp] theorem bT6 {F:Fns} {ρ:Env} {s:Sto} (e:E):evL F (.itm e) ρ s=(ev F e ρ s).bind fun d s=>bR0 d s:=rfl
noncomputable def Dr.mv (k:Nat)(x:Dr):Dr:=⟨x.a+k,x.l,x.b+k,x.t⟩
section
variable {P:Pr}
theorem bL5 {L:Nat}(h3:L<=3)(s:Sto):zZ .ne (.tup (aK3.take L)) (.tup (aK3.take L)) s=.ok (.bl false) s:=by
 rcases(show L=0\/L=1\/L=2\/L=3 by omega)with e|e|e|e<;>subst e<;>rfl
theorem as0 [Has P aa6][HasC P "LETTERS" (.tup aK3)][Has P aa9](n:Nat){h z:Mc}(C:h.Ok)(F:h.L=z.L)(s:Sto):(aa1 P (n+2)).call "check_pair" [h.d,z.d] s=.ok .non s:=by
 have Y:(aa1 P (n+2)).call "check_pair" [h.d,z.d] s=_:=zb aa9 (n:=n+1) rfl
 rw[Y]
 have J:(aa1 P (n+1)).call "letters_of" [h.d] s=.ok (.tup (aK3.take h.L)) s:=ag1 (P:=P) n C.L3 [.int h.R,.tup (qq h.bg),.tup (qq h.en),.tup (h.ds.map Dr.d)] s
 have G:(aa1 P (n+1)).call "letters_of" [z.d] s=.ok (.tup (aK3.take h.L)) s:=by
  have:=ag1 (P:=P) n (L:=z.L) (by rw[<-F];exact C.L3) [.int z.R,.tup (qq z.bg),.tup (qq z.en),.tup (z.ds.map Dr.d)] s
  rw[F];exact this
 tbr_iter [aa9,aL,bX,bV,cK,au,J,G,bL5 C.L3,aj2]
end
noncomputable def Wn (A B:Mc):Nat->List (List Nat×Rr)
 | 0=>[([],(zH A,zH B))]
 | j+1=>(Wn A B j).flatMap (qk (zu A B) (zX A.L))
def Bd (B:Int)(row:List (Option Int)):Prop:=∀ k c,row.getD k none=some c->0<=c/\c<=B
theorem aE9 {α:Type}{f:Nat->Option α}{n k:Nat}{c:α}(h:((aR n).map f).getD k none=some c):f k=some c:=by
 rw[iG,aA]at h
 by_cases hk:k<n
 ·rw[cq hk]at h;exact h
 ·rw[bG (by simp;omega)]at h;cases h
theorem aX9 (m:Mc):Bd 0 (zH m):=fun k c h=>by
 have h:=aE9 h
 split at h
 ·cases h;omega
 ·cases h
theorem aL2 {m:Mc}(hm:m.Ok){B:Int}{row:List (Option Int)}(h:Bd B row)(x:Nat):Bd (B+3) (qu m row x):=fun k c hc=>by
 have hc:=aE9 hc
 have hl:=ao4 m row x k
 rw[hc]at hl
 obtain⟨d,hd,_,_,i,z,rfl⟩:=hl.1
 have:=h d.a i z
 have C:=(hm.ds.1 d hd).t
 omega
theorem bF9 {B k:Int}{row:List (Option Int)}(h:Bd B row)(hk:B<=k):row.map (cutO k)=row:=by
 refine(fh fun o ho=>?_).trans (kN _)
 obtain⟨j,hj,e⟩:=cf.mp ho
 cases o with
 | none=>rfl
 | some c =>
  have:=h j c (by rw[iG,ai hj,e];rfl)
  show(if c<=k then some c else some (k+1))=some c
  rw[if_pos (by omega)]
theorem bk0 {m:Mc}{B:Int}{row:List (Option Int)}(h:Bd B row){c:Int}(z:as1 m row=some c):0<=c/\c<=B:=by
 have hl:=ap9 (m.en.filterMap fun q=>row.getD q none)
 rw[show minI (m.en.filterMap fun q=>row.getD q none)=some c from z]at hl
 obtain⟨q,_,hq⟩:=cD.mp hl.1
 exact h q c hq
structure WOk (A B:Mc)(j:Nat)(e:List Nat×Rr):Prop where
 len:e.1.length=j
 sh:ShP A B e.2
 b1:Bd (3*j) e.2.1
 b2:Bd (3*j) e.2.2
theorem aZ8 {A B:Mc}(F:A.Ok)(C:B.Ok):∀ j,∀ e∈Wn A B j,WOk A B j e
 | 0,e,he=>by
  cases aY.mp he
  exact⟨rfl,⟨by unfold zH;simp,by unfold zH;simp⟩,aX9 A,aX9 B⟩
 | j+1,e,he=>by
  obtain⟨e',h,hk⟩:=List.mem_flatMap.mp he
  obtain⟨x,_,rfl⟩:=aM.mp hk
  have w:=aZ8 F C j e' h
  have z:(3*((j+1:Nat):Int))=3*(j:Int)+3:=by omega
  exact⟨by show(e'.1++[x]).length=j+1;rw[aG,w.len];rfl,ar6 ..,by rw[z];exact aL2 F w.b1 x,by rw[z];exact aL2 C w.b2 x⟩
theorem ai8 {A B:Mc}(h:A.Ok):∀ M:List (List Nat×Rr),(M.flatMap (qk (zu A B) (zX A.L))).length<=3*M.length
 | []=>aj _
 | e::M=>by
  have z:=ai8 (B:=B) h M
  have h3:=h.L3
  rw[cj,aG,aI]
  have:(qk (zu A B) (zX A.L) e).length=A.L:=by unfold qk zX;simp
  omega
theorem aF8 {A B:Mc}(h:A.Ok):∀ j,(Wn A B j).length<=3^j
 | 0=>aj _
 | j+1=>by
  have z:=aF8 (B:=B) h j
  have:=ai8 (B:=B) h (Wn A B j)
  show((Wn A B j).flatMap (qk (zu A B) (zX A.L))).length<=3^(j+1)
  rw[jw];omega
def bt2 {ρ:Type}(p:ρ->Bool)(W:Nat->List (List Nat×ρ))(long:Nat)(d:D):Prop :=
 (∃ j w,j<=long/\(∀ i,i<j->ae5 p (W i)=none)/\ae5 p (W j)=some w/\d=.str w)\/(∀ i,i<=long->ae5 p (W i)=none)/\d=.non
theorem bt2.eq {ρ:Type}{p:ρ->Bool}{W:Nat->List (List Nat×ρ)}{G:Nat}{d d':D}(h:bt2 p W G d)(h':bt2 p W G d'):d=d':=by
 rcases h with⟨j,w,hj,h1,J,rfl⟩|⟨h1,rfl⟩
 ·rcases h' with⟨Z,w',Y,F,C,rfl⟩|⟨F,rfl⟩
  ·have:j=Z:=by
    rcases d8 j Z with z|z|z
    ·rw[F j z]at J;cases J
    ·exact z
    ·rw[h1 Z z]at C;cases C
   subst this
   rw[J]at C;cases C;rfl
  ·rw[F j hj]at J;cases J
 ·rcases h' with⟨Z,w',Y,F,C,rfl⟩|⟨F,rfl⟩
  ·rw[h1 Z Y]at C;cases C
  ·rfl
theorem aG3 {ρ:Type}{p:ρ->Bool}{l:List (List Nat×ρ)}(h:∀ e∈l,p e.2=false):ae5 p l=none:=by
 unfold ae5
 rw[jd.mpr fun e z=>by rw[h e z];nofun];rfl
theorem bm5 {ρ:Type}{p:ρ->Bool}{l:List (List Nat×ρ)}{i:Nat}{e:List Nat×ρ}(z:l[i]?=some e)(h:∀ e∈l.take i,p e.2=false)(hp:p e.2=true):ae5 p l=some e.1:=by
 have hd:l=l.take i++e::l.drop (i+1):=by
  have hlt:i<l.length:=(ac.mp z).1
  have ee:l[i]=e:=(ac.mp z).2
  rw[<-ee,gR,hZ]
 unfold ae5
 rw[hd,List.find?_append,jd.mpr fun e z=>by rw[h e z];nofun,Option.none_or,bM,hp];rfl
@[simp] theorem bo6 {F:Fns} {ρ:Env} {s:Sto} (k v:E):ev F (.dicU k v) ρ s=(ev F k ρ (s++[.dit []])).bind fun kd s1=>(ev F v ρ s1).bind fun h s2=>if kd.keyT=true/\s2[s.length]?=some (.dit [])then .ok (.ref s.length) (s2.set s.length (.dit [(kd,h)]))else .bad:=rfl
noncomputable def br7 (x:D):M Sq:=fun s=>match x with|.int i=>if 0<=i/\i<1048576 then .ok ⟨ag3 i,[]⟩ s else .bad|_=>.bad
@[simp] theorem bh8 {F:Fns} {ρ:Env} {s:Sto} (a:E):evI F (.rngD a) ρ s=(ev F a ρ s).bind fun x s=>br7 x s:=rfl
theorem by9 {i:Int}{s:Sto}(h:0<=i/\i<1048576):br7 (.int i) s=.ok ⟨ag3 i,[]⟩ s:=by unfold br7;simp only[h,and_self,if_true]
theorem ba2 {n j:Nat}{d:D}(h:(ag3 (n:Int))[j]?=some d):j<=n/\d=.int ((n:Int) - (j:Int)):=by
 unfold ag3 at h
 rw[aA]at h
 by_cases hj:j<((n:Int)+1).toNat
 ·rw[cq hj]at h
  cases h
  exact⟨by omega,by show D.int ((n:Int)+(j:Int)*(-1))=_;rw[show(n:Int)+(j:Int)*(-1)=(n:Int) - (j:Int)by omega]⟩
 ·rw[bG (by simp;omega)]at h;cases h
theorem bh5 (n:Nat):(ag3 (n:Int)).length=n+1:=by unfold ag3;simp
noncomputable def prD (A B:Mc)(t:Int)(r:Rr):Bool:=aA9 t (as1 A r.1) (as1 B r.2)
section
variable {P:Pr} [Has P ab9] [Has P ac1] [Has P aa7] [Has P aa8] [Has P ab1] [Has P ab7] [Has P am4] [Has P ab2] [Has P aa4] [Has P an4] [Has P ac3] [Has P aa6] [HasC P "LETTERS" (.tup aK3)] [HasC P "MOST_TOLL" (.int 3)] [Has P aa9] [Has P ab0] [Has P aa2] [Has P ac8]
theorem look_level (n:Nat){A B:Mc}(hA:A.Ok)(hB:B.Ok){t:Int}(ht:0<=t/\t<=10^30){L:List (List Nat×Rr)}{j:Nat}(hw:∀ e∈L,WOk A B j e)(hj:j<=5){u:Sto}{p:Nat}{a3 a4 a5 a7 a8 y9 y10:Option D} :
  (∃ z9 z10:Option D,ae5 (prD A B t) L=none/\ag8 (fun G=>chk u G [p]) (turn (aa1 P (n+3)) (.tup [9,10]) (.cons (.ite (.call "is_dearer" (.ex (.call "end_of" (.ex (.var 0) (.ex (.ix (.var 10) (.cst (.int 0))) .nil))) (.ex (.call "end_of" (.ex (.var 1) (.ex (.ix (.var 10) (.cst (.int 1))) .nil))) (.ex (.var 2) .nil)))) (.cons (.ret (.var 9)) .nil) .nil) .nil)) (lvD L) [some A.d,some B.d,some (.int t),a3,a4,a5,some (.ref p),a7,a8,y9,y10] u=.ok (.next [some A.d,some B.d,some (.int t),a3,a4,a5,some (.ref p),a7,a8,z9,z10]) u) \/
  ∃ w,ae5 (prD A B t) L=some w/\ag8 (fun G=>chk u G [p]) (turn (aa1 P (n+3)) (.tup [9,10]) (.cons (.ite (.call "is_dearer" (.ex (.call "end_of" (.ex (.var 0) (.ex (.ix (.var 10) (.cst (.int 0))) .nil))) (.ex (.call "end_of" (.ex (.var 1) (.ex (.ix (.var 10) (.cst (.int 1))) .nil))) (.ex (.var 2) .nil)))) (.cons (.ret (.var 9)) .nil) .nil) .nil)) (lvD L) [some A.d,some B.d,some (.int t),a3,a4,a5,some (.ref p),a7,a8,y9,y10] u=.ok (.ret (.str w)) u:=by
 have key:=for_ret (ok:=fun G=>chk u G [p]) (g:=turn (aa1 P (n+3)) (.tup [9,10]) (.cons (.ite (.call "is_dearer" (.ex (.call "end_of" (.ex (.var 0) (.ex (.ix (.var 10) (.cst (.int 0))) .nil))) (.ex (.call "end_of" (.ex (.var 1) (.ex (.ix (.var 10) (.cst (.int 1))) .nil))) (.ex (.var 2) .nil)))) (.cons (.ret (.var 9)) .nil) .nil) .nil))
  (fun i ρ v=>v=u/\(∀ e∈L.take i,prD A B t e.2=false)/\∃ z9 z10,ρ=[some A.d,some B.d,some (.int t),a3,a4,a5,some (.ref p),a7,a8,z9,z10]) (fun d v=>v=u/\∃ w,ae5 (prD A B t) L=some w/\d=.str w) (lvD L) 0 [some A.d,some B.d,some (.int t),a3,a4,a5,some (.ref p),a7,a8,y9,y10] u
  ⟨rfl,(fun e F=>by rw[dD]at F;cases F),_,_,rfl⟩ (fun i ρ v _ h=>by rw[h.1];simp[chk]) (fun i d ρ v hi h=>by
   rw[bv]at h
   obtain⟨rfl,hn,z9,z10,rfl⟩:=h
   obtain⟨e,F,rfl⟩:=bj5 hi
   have w:=hw e (aS F)
   have eA:=aw6 (P:=P) (n+1) hA w.sh.1 v
   have Z:=aw6 (P:=P) (n+1) hB w.sh.2 v
   have eD:=au5 (P:=P) (n+2) (as1 A e.2.1) (as1 B e.2.2) (t:=t) (fun j' J=>ag2 (by have:=bk0 w.b2 J;omega)) v
   cases hp:prD A B t e.2 with
   | true =>
    have C:aA9 t (as1 A e.2.1) (as1 B e.2.2)=true:=hp
    refine aK8 (d:=.str e.1) (s:=v) ?_ ⟨rfl,e.1,bm5 F hn hp,rfl⟩
    tbr_iter [turn,aG7,aI8,eA,Z,eD,C]
   | false =>
    have C:aA9 t (as1 A e.2.1) (as1 B e.2.2)=false:=hp
    refine aj6 (ρ:=[some A.d,some B.d,some (.int t),a3,a4,a5,some (.ref p),a7,a8,some (.str e.1),some (z5 e.2)]) (s:=v) ?_ ⟨rfl,?_,_,_,rfl⟩
    ·tbr_iter [turn,aG7,aI8,eA,Z,eD,C]
    ·rw[show 0+i+1=i+1 by omega,at9 F]
     intro e' Y
     rcases a9.mp Y with z|z
     ·exact hn e' z
     ·rw[aY.mp z];exact hp)
 rcases key with⟨ρ',s',e,rfl,hn,z9,z10,rfl⟩|⟨d,s',e,rfl,w,hw',rfl⟩
 ·refine .inl ⟨z9,z10,aG3 ?_,e⟩
  rw[bv,show(lvD L).length=L.length from ay ..,cW]at hn
  exact hn
 ·exact .inr ⟨w,hw',e⟩
theorem aQ1 (n:Nat){A B:Mc}(F:A.Ok)(Z:B.Ok)(a6:A.L=B.L){t:Int}(ht:0<=t/\t<=10^30){C:Nat}(hl:C<=5)(s:Sto) :
  ∃ d,bt2 (prD A B t) (Wn A B) C d/\(aa1 P (n+5)).call "dearer" [A.d,B.d,.int t,.int (C:Int)] s=.ok d s:=by
 have e0:(aa1 P (n+5)).call "dearer" [A.d,B.d,.int t,.int (C:Int)] s=_:=zb ac8 (n:=n+4) rfl
 have c1:=as0 (P:=P) (n+2) F a6 s
 have f1:=ag9 (P:=P) (n+2) F
 have f2:=ag9 (P:=P) (n+2) Z
 have a1:D.tup [.tup (zc (zH A)),.tup (zc (zH B))]=z5 (zH A,zH B):=rfl
 have w0:=aZ8 F Z 0 ([],(zH A,zH B)) (aY.mpr rfl)
 have b3:(z5 (zH A,zH B)).keyT=true:=at3 F Z w0.sh
 have b5:∀ ρ S,ev (aa1 P (n+4)) (.glob "MOST_TOLL") ρ S=.ok (.int 3) S:=fun ρ S=>aW6
 have b4:∀ S,af5 .mul (.int 3) (.int (C:Int)) S=.ok (.int (3*(C:Int))) S:=fun S=>ad2 (aU9 (by decide))
 rw[e0,show(cr some [A.d,B.d,.int t,.int (C:Int)]++au ac8.vs none)=[some A.d,some B.d,some (.int t),some (.int (C:Int)),none,none,none,none,none,none,none]from rfl]
 have g1:(s++[O.lst [D.tup [.str [],z5 (zH A,zH B)]]]++[O.dit []])[(s++[O.lst [D.tup [.str [],z5 (zH A,zH B)]]]).length]?=some (.dit []):=bt4
 have g2:(s++[O.lst [D.tup [.str [],z5 (zH A,zH B)]]]++[O.dit []]).set (s++[O.lst [D.tup [.str [],z5 (zH A,zH B)]]]).length (.dit [(z5 (zH A,zH B),.bl true)])=s++[O.lst (lvD [([],(zH A,zH B))]),.dit (zA [(zH A,zH B)])]:=by
  rw[cL,if_neg (by omega),c7,br];rfl
 have g3:(s++[O.lst [D.tup [.str [],z5 (zH A,zH B)]]]).length=s.length+1:=by simp
 rw[g3]at g1 g2
 simp -implicitDefEqProofs only[ac8]
 tbr_iter [c1,true_and,b5,b4,f1,f2,a1,bo6,b3,g1,and_self,g2,g3,bh8,by9 (i:=(C:Int)) ⟨by omega,by omega⟩]
 refine ap1 (W:=fun r=>∃ d,bt2 (prD A B t) (Wn A B) C d/\r.bind (fin s)=.ok d s)
  (fun j ρ u=>(∀ i,i<j->ae5 (prD A B t) (Wn A B i)=none)/\(∃ T,u=s++T)/\(j<=C->∃(S:Rr->Prop) (L:List (List Nat×Rr)) (K:List Rr) (p:Nat) (y8 y9 y10:Option D),u[p]?=some (.lst (lvD L))/\u[s.length+1]?=some (.dit (zA K))/\Cov S L (Wn A B j)/\(∀ r,S r->∀ x∈zX A.L,ah4 S L (zu A B r x))/\(∀ r,S r->prD A B t r=false)/\(∀ r,r∈K↔ah4 S L r)/\K.length<=300*(j+1) /\
   ρ=[some A.d,some B.d,some (.int t),some (.int (C:Int)),some (.int (3*(C:Int))),some (z5 (zH A,zH B)),some (.ref p),some (.ref (s.length+1)),y8,y9,y10]))
  (fun d u=>(∃ T,u=s++T)/\∃ j w,j<=C/\(∀ i,i<j->ae5 (prD A B t) (Wn A B i)=none)/\ae5 (prD A B t) (Wn A B j)=some w/\d=.str w) ?_ (fun _ _ _ _ _=>rfl) ?_ ?_ ?_
 ·refine⟨fun i hi=>absurd hi (gS _),⟨_,rfl⟩,fun _=>⟨fun _=>False,[([],(zH A,zH B))],[(zH A,zH B)],s.length,none,none,none,?_,?_,.keep (fun z=>z) (.nil),fun r hr=>hr.elim,fun r hr=>hr.elim,fun r=>?_,by simp,rfl⟩⟩
  ·rw[aF (aj _),c7];rfl
  ·rw[aF (by omega),show s.length+1 - s.length=1 by omega];rfl
  ·simp[ah4,eq_comm]
 ·rintro j d ρ u hj ⟨G,⟨T,hT⟩,big⟩
  obtain⟨hjl,rfl⟩:=ba2 hj
  obtain⟨S,L,K,p,y8,y9,y10,gp,gq,J,b0,non,mem,hK,rfl⟩:=big hjl
  have hw:∀ e∈L,WOk A B j e:=fun e he=>aZ8 F Z j e (J.sub e he)
  have b6:L.length<=243:=ak J.len (ak (aF8 F j) (cO (by decide) (show j<=5 by omega)))
  have first:=J.first (prD A B t) non
  have sq:at7 (.ref p) u=.ok ⟨lvD L,[p]⟩ u:=by simp only[at7,gp]
  rcases look_level (P:=P) (n+1) F Z ht hw (by omega) (u:=u) (p:=p) (a3:=some (.int (C:Int))) (a4:=some (.int (3*(C:Int)))) (a5:=some (z5 (zH A,zH B))) (a7:=some (.ref (s.length+1))) (a8:=some (.int ((C:Int) - (j:Int)))) (y9:=y9) (y10:=y10)with⟨z9,z10,hn,ei⟩|⟨w,hw',ei⟩
  ·have a2:ae5 (prD A B t) (Wn A B j)=none:=by rw[<-first.1];exact hn
   have Y:∀ i,i<j+1->ae5 (prD A B t) (Wn A B i)=none:=fun i hi=>by
    rcases gP i j with z|z
    ·exact G i z
    ·rw[show i=j by omega];exact a2
   by_cases hlt:j<C
   ·obtain⟨L',c',el⟩:=ak9 (P:=P) n F Z (k:=3*(C:Int)) gp gq (by omega) (by omega) (fun e he=>by
     have w:=hw e he
     refine⟨by rw[w.len];omega,w.sh,fun x _=>⟨bF9 (aL2 F w.b1 x) (by omega),bF9 (aL2 Z w.b2 x) (by omega)⟩⟩)
    have a0:u.set (s.length+1) (.dit (zA (K++L'.map (·.2))))++[O.lst (lvD L')]=s++(T.set 1 (.dit (zA (K++L'.map (·.2))))++[O.lst (lvD L')]):=by
     rw[hT,cL,if_neg (by omega),show s.length+1 - s.length=1 by omega,br]
    have hq:s.length+1<u.length:=(ac.mp gq).1
    have c2:Cov (ah4 S L) L' (L.flatMap (qk (zu A B) (zX A.L))):=c'.congr mem
    have st:=J.step (zu A B) (zX A.L) b0 c2
    refine aj6 (ρ:=[some A.d,some B.d,some (.int t),some (.int (C:Int)),some (.int (3*(C:Int))),some (z5 (zH A,zH B)),some (.ref u.length),some (.ref (s.length+1)),some (.int ((C:Int) - (j:Int))),z9,z10]) (s:=u.set (s.length+1) (.dit (zA (K++L'.map (·.2))))++[O.lst (lvD L')]) ?_ ⟨Y,⟨_,a0⟩,fun _=>⟨ah4 S L,L',K++L'.map (·.2),u.length,_,_,_,?_,zp (qB hq),st.1,st.2,first.2 hn,fun r=>?_,?_,rfl⟩⟩
    ·tbr_iter [turn,sq,ei,show((0:Int)<(C:Int) - (j:Int))=True from eq_true (by omega),el]
    ·rw[aF (by simp),aP,c7];rfl
    ·rw[aq8]
     have:(fun q=>q∈K)=ah4 S L:=funext fun q=>propext (mem q)
     rw[this]
    ·have:=c'.len
     have h2:(L.flatMap (qk (zu A B) (zX A.L))).length<=3^(j+1):=by
      have k1:=ai8 (B:=B) F L
      have k2:=ak J.len (aF8 F j)
      rw[jw];omega
     have h3:3^(j+1)<=3^5:=cO (by decide) (by omega)
     rw[aG,ay]
     omega
   ·refine aj6 (ρ:=[some A.d,some B.d,some (.int t),some (.int (C:Int)),some (.int (3*(C:Int))),some (z5 (zH A,zH B)),some (.ref p),some (.ref (s.length+1)),some (.int ((C:Int) - (j:Int))),z9,z10]) (s:=u) ?_ ⟨Y,⟨T,hT⟩,fun h=>by omega⟩
    tbr_iter [turn,sq,ei,show((0:Int)<(C:Int) - (j:Int))=False from eq_false (by omega)]
  ·refine aK8 (d:=.str w) (s:=u) ?_ ⟨⟨T,hT⟩,j,w,hjl,G,by rw[<-first.1];exact hw',rfl⟩
   tbr_iter [turn,sq,ei]
 ·rintro ρ u ⟨G,⟨T,rfl⟩,_⟩
  rw[bh5]at G
  refine⟨.non,.inr ⟨fun i hi=>G i (by omega),rfl⟩,?_⟩
  tbr_iter []
  exact zT (fun _=>rfl) (by nofun)
 ·rintro d u ⟨⟨T,rfl⟩,j,w,hj,h1,h2,rfl⟩
  refine⟨.str w,.inl ⟨j,w,hj,h1,h2,rfl⟩,?_⟩
  tbr_iter []
  exact zT (fun _=>rfl) (by nofun)
end
noncomputable def AhD (u:Sto)(k:Nat):List (List Nat×Rr)->List D->Prop
 | [],l=>l=[]
 | e::W,l=>∃ d r,l=d::r/\(∃ a b,a≠k/\b≠k/\d=.tup [.str e.1,.ref a,.ref b]/\u[a]?=some (.lst (zc e.2.1))/\u[b]?=some (.lst (zc e.2.2)))/\AhD u k W r
theorem AhD.keep {u v:Sto}{k:Nat}(h:∀ a o,a≠k->u[a]?=some o->v[a]?=some o):∀ {W:List (List Nat×Rr)} {l:List D},AhD u k W l->AhD v k W l
 | [],_,e=>e
 | _::W,_,⟨d,r,e,⟨a,b,h1,h2,h3,h4,h5⟩,t⟩=>⟨d,r,e,⟨a,b,h1,h2,h3,h a _ h1 h4,h b _ h2 h5⟩,AhD.keep h t⟩
theorem AhD.rekey {u:Sto}{k z:Nat}(h:u.length<=z):∀ {W:List (List Nat×Rr)} {l:List D},AhD u k W l->AhD u z W l
 | [],_,e=>e
 | _::W,_,⟨d,r,e,⟨a,b,h1,h2,h3,h4,h5⟩,t⟩=>⟨d,r,e,⟨a,b,by have:=(ac.mp h4).1;omega,by have:=(ac.mp h5).1;omega,h3,h4,h5⟩,AhD.rekey h t⟩
theorem AhD.len {u:Sto}{k:Nat}:∀ {W:List (List Nat×Rr)} {l:List D},AhD u k W l->l.length=W.length
 | [],_,e=>by rw[show _=[]from e];rfl
 | _::W,_,⟨d,r,e,_,t⟩=>by rw[e,aI,aI,AhD.len t]
theorem AhD.snoc {u:Sto}{k:Nat}{e:List Nat×Rr}{a b:Nat}(G:a≠k)(C:b≠k)(F:u[a]?=some (.lst (zc e.2.1)))(h:u[b]?=some (.lst (zc e.2.2))):∀ {W:List (List Nat×Rr)} {l:List D},AhD u k W l->AhD u k (W++[e]) (l++[.tup [.str e.1,.ref a,.ref b]])
 | [],_,z=>by rw[show _=[]from z];exact⟨_,[],rfl,⟨a,b,G,C,rfl,F,h⟩,rfl⟩
 | _::W,_,⟨d,r,z,q,t⟩=>⟨d,r++_,by rw[z];rfl,q,AhD.snoc G C F h t⟩
theorem AhD.get {u:Sto}{k:Nat}{d:D}:∀ {W:List (List Nat×Rr)} {l:List D} {i:Nat},AhD u k W l->l[i]?=some d->∃ e a b,W[i]?=some e/\a≠k/\b≠k/\d=.tup [.str e.1,.ref a,.ref b]/\u[a]?=some (.lst (zc e.2.1))/\u[b]?=some (.lst (zc e.2.2))
 | [],_,i,z,h=>by rw[show _=[]from z]at h;cases h
 | e::W,_,0,⟨d',r,z,⟨a,b,q⟩,t⟩,h=>by
  rw[z]at h
  cases h
  exact⟨e,a,b,rfl,q⟩
 | e::W,_,i+1,⟨d',r,z,q,t⟩,h=>by
  rw[z]at h
  obtain⟨e',a,b,F,C⟩:=AhD.get (i:=i) t (by simpa using h)
  exact⟨e',a,b,by simpa using F,C⟩
theorem bh6:∀ {L:Nat},L<=3->([97,98,99]:List Nat).take L=zX L
 | 0,_=>rfl
 | 1,_=>rfl
 | 2,_=>rfl
 | 3,_=>rfl
 | n+4,h=>by omega
section
variable {P:Pr} [Has P ac9] [Has P aR5] [Has P ad0] [Has P ae1] [Has P ac2]
theorem aX6 (n:Nat){A B:Mc}(hA:A.Ok)(hB:B.Ok){t:Int}{z j:Nat}(hj:j<=z)(hl:z<=5){e:List Nat×Rr}(we:WOk A B j e){s u:Sto}{k6:Nat}{W0:List (List Nat×Rr)}{lf:List D}{a b:Nat}{a4 y10:Option D}(hk:s.length<=k6)(hs:∃ T,u=s++T)
  (ha:a≠k6) (hb:b≠k6) (ga:u[a]?=some (.lst (zc e.2.1))) (gb:u[b]?=some (.lst (zc e.2.2))) (g6:u[k6]?=some (.lst lf)) (hF:AhD u k6 W0 lf) (b0:W0.length<=1000) :
  ∃(v:Sto) (C:List D) (z10:Option D),(∃ T,v=s++T)/\(∀ c o,c≠k6->u[c]?=some o->v[c]?=some o)/\v[k6]?=some (.lst C)/\AhD v k6 (W0++(if j<z then qk (zu A B) (zX A.L) e else[])) C /\
   ag8 (fun u1=>chk u u1 []) (turn (aa1 P (n+1)) (.one 10) (.cons (.ite (.cmp .lt (.var 5) (.var 3)) (.cons (.ex (.meth .append (.var 6) (.cons (.tup (.cons (.bin .add (.var 7) (.var 10)) (.cons (.call "_law_on" (.ex (.var 0) (.ex (.var 10) (.ex (.var 8) .nil)))) (.cons (.call "_law_on" (.ex (.var 1) (.ex (.var 10) (.ex (.var 9) .nil)))) .nil)))) .nil))) .nil) .nil) .nil)) (sg (zX A.L)) [some A.d,some B.d,some (.int t),some (.int (z:Int)),a4,some (.int (j:Int)),some (.ref k6),some (.str e.1),some (.ref a),some (.ref b),y10] u=.ok (.next [some A.d,some B.d,some (.int t),some (.int (z:Int)),a4,some (.int (j:Int)),some (.ref k6),some (.str e.1),some (.ref a),some (.ref b),z10]) v:=by
 have a8:=hA.L3
 have key:=al1 (ok:=fun u1=>chk u u1 []) (g:=turn (aa1 P (n+1)) (.one 10) (.cons (.ite (.cmp .lt (.var 5) (.var 3)) (.cons (.ex (.meth .append (.var 6) (.cons (.tup (.cons (.bin .add (.var 7) (.var 10)) (.cons (.call "_law_on" (.ex (.var 0) (.ex (.var 10) (.ex (.var 8) .nil)))) (.cons (.call "_law_on" (.ex (.var 1) (.ex (.var 10) (.ex (.var 9) .nil)))) .nil)))) .nil))) .nil) .nil) .nil))
  (fun i ρ v=>(∃ T,v=s++T)/\(∀ c o,c≠k6->u[c]?=some o->v[c]?=some o)/\(∃ C,v[k6]?=some (.lst C)/\AhD v k6 (W0++(if j<z then(qk (zu A B) (zX A.L) e).take i else[])) C)/\∃ z10,ρ=[some A.d,some B.d,some (.int t),some (.int (z:Int)),a4,some (.int (j:Int)),some (.ref k6),some (.str e.1),some (.ref a),some (.ref b),z10])
  (sg (zX A.L)) 0 [some A.d,some B.d,some (.int t),some (.int (z:Int)),a4,some (.int (j:Int)),some (.ref k6),some (.str e.1),some (.ref a),some (.ref b),y10] u ⟨hs,fun _ _ _ h=>h,⟨lf,g6,by rw[dD,ite_self,aZ];exact hF⟩,_,rfl⟩ (fun _ _ _ _ _=>rfl) (fun i d ρ v Y h=>by
   rw[bv]at h
   obtain⟨⟨T,hT⟩,kp,⟨C,G,F⟩,z10,rfl⟩:=h
   obtain⟨x,hx,rfl⟩:∃ x,(zX A.L)[i]?=some x/\d=.str [x]:=by
    unfold sg at Y
    rw[aA]at Y
    cases ee:(zX A.L)[i]? with
    | none=>rw[ee]at Y;cases Y
    | some x=>rw[ee]at Y;cases Y;exact⟨x,rfl,rfl⟩
   rw[show 0+i+1=i+1 by omega]
   by_cases hlt:j<z
   ·rw[if_pos hlt]at F ⊢
    have o1:=bN6 (P:=P) n hA we.sh.1 x v (kp a _ ha ga)
    have a5:(v++[O.lst (zc (qu A e.2.1 x))])[b]?=some (.lst (zc e.2.2)):=zp (kp b _ hb gb)
    have o2:=bN6 (P:=P) n hB we.sh.2 x (v++[O.lst (zc (qu A e.2.1 x))]) a5
    generalize J:v++[O.lst (zc (qu A e.2.1 x))]++[O.lst (zc (qu B e.2.2 x))]=V at o2
    have a7:k6<v.length:=(ac.mp G).1
    have a3:V[k6]?=some (.lst C):=by rw[<-J];exact zp (zp G)
    have b1:C.length<=1003:=by
     rw[F.len,aG,bE]
     have:(qk (zu A B) (zX A.L) e).length=A.L:=by unfold qk zX;simp
     omega
    have Z:=ag4 (v:=.tup [.str (e.1++[x]),.ref v.length,.ref (v++[O.lst (zc (qu A e.2.1 x))]).length]) a3 (by unfold LIM;omega)
    have a1:V[v.length]?=some (.lst (zc (qu A e.2.1 x))):=by rw[<-J];exact zp bt4
    have a0:V[(v++[O.lst (zc (qu A e.2.1 x))]).length]?=some (.lst (zc (qu B e.2.2 x))):=by rw[<-J];exact bt4
    have kv:∀ c o,c≠k6->v[c]?=some o->(V.set k6 (.lst (C++[.tup [.str (e.1++[x]),.ref v.length,.ref (v++[O.lst (zc (qu A e.2.1 x))]).length]])))[c]?=some o:=fun c o hc h=>by
     rw[aW (cM hc),<-J];exact zp (zp h)
    refine⟨_,_,.inl (?_:_=R.ok (Ct.next [some A.d,some B.d,some (.int t),some (.int (z:Int)),a4,some (.int (j:Int)),some (.ref k6),some (.str e.1),some (.ref a),some (.ref b),some (.str [x])]) (V.set k6 (.lst (C++[.tup [.str (e.1++[x]),.ref v.length,.ref (v++[O.lst (zc (qu A e.2.1 x))]).length]])))),?_,fun c o hc h=>kv c o hc (kp c o hc h),⟨_,qB (by rw[<-J];simp;omega),?_⟩,_,rfl⟩
    ·tbr_iter [turn,show((j:Int)<(z:Int))=True from eq_true (by omega),aB8 (a:=e.1) (b:=[x]) (show e.1.length+[x].length<=LIM by rw[we.len];unfold LIM;simp;omega),o1,o2,Z]
    ·refine bu3 ?_ hk
     rw[<-J,hT]
     exact⟨T++[O.lst (zc (qu A e.2.1 x))]++[O.lst (zc (qu B e.2.2 x))],by simp⟩
    ·rw[am1 hx,<-br]
     refine AhD.snoc (e:=(e.1++[x],zu A B e.2 x)) (by omega) (by simp;omega) ?_ ?_ (AhD.keep kv F)
     ·rw[aW (by omega)];exact a1
     ·rw[aW (by simp;omega)];exact a0
   ·rw[if_neg hlt]at F ⊢
    refine⟨_,_,.inl (?_:_=R.ok (Ct.next [some A.d,some B.d,some (.int t),some (.int (z:Int)),a4,some (.int (j:Int)),some (.ref k6),some (.str e.1),some (.ref a),some (.ref b),some (.str [x])]) v),⟨T,hT⟩,kp,⟨C,G,F⟩,_,rfl⟩
    tbr_iter [turn,show((j:Int)<(z:Int))=False from eq_false (by omega)])
 obtain⟨ρ',v,ei,a6,kp,⟨C,G,F⟩,z10,rfl⟩:=key
 have a2:(sg (zX A.L)).length=(qk (zu A B) (zX A.L) e).length:=by unfold sg qk;simp
 rw[bv,a2,cW]at F
 exact⟨v,C,z10,a6,kp,G,F,ei⟩
end
section
variable {P:Pr} [Has P ac9] [Has P aR5] [Has P ad0] [Has P ae1] [Has P ac2]
theorem due_level (n:Nat){A B:Mc}(hA:A.Ok)(hB:B.Ok){t:Int}{C j:Nat}(hj:j<=C)(hl:C<=5){s u:Sto}{k6 p:Nat}{l:List D}(hk:s.length<=k6)(hs:∃ T,u=s++T)(hp:p≠k6)(gp:u[p]?=some (.lst l))(g6:u[k6]?=some (.lst []))(hW:AhD u k6 (Wn A B j) l){a4 y7 y8 y9 y10:Option D} :
  (∃(v:Sto) (lf:List D) (z7 z8 z9 z10:Option D),ae5 (prD A B t) (Wn A B j)=none/\(∃ T,v=s++T)/\v[k6]?=some (.lst lf)/\(j<C->AhD v k6 (Wn A B (j+1)) lf) /\
   ag8 (fun u1=>chk u u1 [p]) (turn (aa1 P (n+1)) (.tup [7,8,9]) (.cons (.ite (.call "_law_dear" (.ex (.call "_law_ended" (.ex (.var 0) (.ex (.var 8) .nil))) (.ex (.call "_law_ended" (.ex (.var 1) (.ex (.var 9) .nil))) (.ex (.var 2) .nil)))) (.cons (.ret (.var 7)) .nil) .nil) (.cons (.for_ (.one 10) (.seq (.slU (.cst (.str [97,98,99])) (.ix (.var 0) (.cst (.int 0))))) (.cons (.ite (.cmp .lt (.var 5) (.var 3)) (.cons (.ex (.meth .append (.var 6) (.cons (.tup (.cons (.bin .add (.var 7) (.var 10)) (.cons (.call "_law_on" (.ex (.var 0) (.ex (.var 10) (.ex (.var 8) .nil)))) (.cons (.call "_law_on" (.ex (.var 1) (.ex (.var 10) (.ex (.var 9) .nil)))) .nil)))) .nil))) .nil) .nil) .nil)) .nil))) l [some A.d,some B.d,some (.int t),some (.int (C:Int)),a4,some (.int (j:Int)),some (.ref k6),y7,y8,y9,y10] u=.ok (.next [some A.d,some B.d,some (.int t),some (.int (C:Int)),a4,some (.int (j:Int)),some (.ref k6),z7,z8,z9,z10]) v) \/
  ∃(v:Sto) (w:List Nat),ae5 (prD A B t) (Wn A B j)=some w/\(∃ T,v=s++T) /\
   ag8 (fun u1=>chk u u1 [p]) (turn (aa1 P (n+1)) (.tup [7,8,9]) (.cons (.ite (.call "_law_dear" (.ex (.call "_law_ended" (.ex (.var 0) (.ex (.var 8) .nil))) (.ex (.call "_law_ended" (.ex (.var 1) (.ex (.var 9) .nil))) (.ex (.var 2) .nil)))) (.cons (.ret (.var 7)) .nil) .nil) (.cons (.for_ (.one 10) (.seq (.slU (.cst (.str [97,98,99])) (.ix (.var 0) (.cst (.int 0))))) (.cons (.ite (.cmp .lt (.var 5) (.var 3)) (.cons (.ex (.meth .append (.var 6) (.cons (.tup (.cons (.bin .add (.var 7) (.var 10)) (.cons (.call "_law_on" (.ex (.var 0) (.ex (.var 10) (.ex (.var 8) .nil)))) (.cons (.call "_law_on" (.ex (.var 1) (.ex (.var 10) (.ex (.var 9) .nil)))) .nil)))) .nil))) .nil) .nil) .nil)) .nil))) l [some A.d,some B.d,some (.int t),some (.int (C:Int)),a4,some (.int (j:Int)),some (.ref k6),y7,y8,y9,y10] u=.ok (.ret (.str w)) v:=by
 have a1:=hA.L3
 have b3:(Wn A B j).length<=243:=ak (aF8 hA j) (cO (by decide) (show j<=5 by omega))
 have key:=for_ret (ok:=fun u1=>chk u u1 [p]) (g:=turn (aa1 P (n+1)) (.tup [7,8,9]) (.cons (.ite (.call "_law_dear" (.ex (.call "_law_ended" (.ex (.var 0) (.ex (.var 8) .nil))) (.ex (.call "_law_ended" (.ex (.var 1) (.ex (.var 9) .nil))) (.ex (.var 2) .nil)))) (.cons (.ret (.var 7)) .nil) .nil) (.cons (.for_ (.one 10) (.seq (.slU (.cst (.str [97,98,99])) (.ix (.var 0) (.cst (.int 0))))) (.cons (.ite (.cmp .lt (.var 5) (.var 3)) (.cons (.ex (.meth .append (.var 6) (.cons (.tup (.cons (.bin .add (.var 7) (.var 10)) (.cons (.call "_law_on" (.ex (.var 0) (.ex (.var 10) (.ex (.var 8) .nil)))) (.cons (.call "_law_on" (.ex (.var 1) (.ex (.var 10) (.ex (.var 9) .nil)))) .nil)))) .nil))) .nil) .nil) .nil)) .nil)))
  (fun i ρ v=>(∃ T,v=s++T)/\(∀ c o,c≠k6->u[c]?=some o->v[c]?=some o)/\(∀ e∈(Wn A B j).take i,prD A B t e.2=false)/\(∃ lf,v[k6]?=some (.lst lf)/\AhD v k6 (if j<C then((Wn A B j).take i).flatMap (qk (zu A B) (zX A.L))else[]) lf)/\∃ z7 z8 z9 z10,ρ=[some A.d,some B.d,some (.int t),some (.int (C:Int)),a4,some (.int (j:Int)),some (.ref k6),z7,z8,z9,z10])
  (fun d v=>(∃ T,v=s++T)/\∃ w,ae5 (prD A B t) (Wn A B j)=some w/\d=.str w) l 0 [some A.d,some B.d,some (.int t),some (.int (C:Int)),a4,some (.int (j:Int)),some (.ref k6),y7,y8,y9,y10] u
  ⟨hs,fun _ _ _ h=>h,(fun e he=>by rw[dD]at he;cases he),⟨[],g6,by rw[dD,gu,ite_self];rfl⟩,_,_,_,_,rfl⟩
  (fun i ρ v _ h=>by
   have z:v[p]?=u[p]?:=by rw[gp];exact h.2.1 p _ hp gp
   simp only[chk,bW,ju,eO,z,decide_true])
  (fun i d ρ v hi h=>by
   rw[bv]at h
   obtain⟨F,kp,G,⟨lf,Y,hF⟩,z7,z8,z9,z10,rfl⟩:=h
   obtain⟨e,a,b,he,ha,hb,rfl,ga,gb⟩:=hW.get hi
   have we:=aZ8 hA hB j e (aS he)
   have a3:=kp a _ ha ga
   have a0:=kp b _ hb gb
   have eA:=aH9 (P:=P) n hA we.sh.1 v a3
   have eB:=aH9 (P:=P) n hB we.sh.2 v a0
   have eD:=bx9 (P:=P) n (as1 A e.2.1) (as1 B e.2.2) (t:=t) (fun j' b0=>ag2 (by have:=bk0 we.b2 b0;omega)) v
   cases hpe:prD A B t e.2 with
   | true =>
    have Z:aA9 t (as1 A e.2.1) (as1 B e.2.2)=true:=hpe
    refine aK8 (d:=.str e.1) (s:=v) ?_ ⟨F,e.1,bm5 he G hpe,rfl⟩
    tbr_iter [turn,eA,eB,eD,Z]
   | false =>
    have Z:aA9 t (as1 A e.2.1) (as1 B e.2.2)=false:=hpe
    obtain⟨v',a8,a2,a5,a7,a6,J,ei⟩:=aX6 (P:=P) n hA hB (t:=t) hj hl we (a4:=a4) (y10:=z10) hk F ha hb a3 a0 Y hF (by
     split
     ·have:=ai8 (B:=B) hA ((Wn A B j).take i)
      rw[bE]at this
      omega
     ·exact cu _)
    refine aj6 (ρ:=[some A.d,some B.d,some (.int t),some (.int (C:Int)),a4,some (.int (j:Int)),some (.ref k6),some (.str e.1),some (.ref a),some (.ref b),a2]) (s:=v') ?_ ⟨a5,fun c o hc h=>a7 c o hc (kp c o hc h),?_,⟨a8,a6,?_⟩,_,_,_,_,rfl⟩
    ·have sq:at7 (.str (zX A.L)) v=.ok ⟨sg (zX A.L),[]⟩ v:=rfl
     tbr_iter [turn,eA,eB,eD,Z,bO3,ixL,bN0 a1,bh6 a1,sq,ei]
    ·rw[show 0+i+1=i+1 by omega,at9 he]
     intro e' b1
     rcases a9.mp b1 with z|z
     ·exact G e' z
     ·rw[aY.mp z];exact hpe
    ·rw[show 0+i+1=i+1 by omega,at9 he]
     by_cases hlt:j<C
     ·rw[if_pos hlt,if_pos hlt]at J
      rw[if_pos hlt,fi,cj,gu,aZ]
      exact J
     ·rw[if_neg hlt,if_neg hlt]at J
      rw[if_neg hlt]
      exact J)
 rcases key with⟨ρ',v,e,F,kp,G,⟨lf,Y,hF⟩,z7,z8,z9,z10,rfl⟩|⟨d,v,e,F,w,hw,rfl⟩
 ·rw[bv,hW.len,cW]at G hF
  refine .inl ⟨v,lf,z7,z8,z9,z10,aG3 G,F,Y,fun hlt=>?_,e⟩
  rw[if_pos hlt]at hF
  exact hF
 ·exact .inr ⟨v,w,hw,F,e⟩
theorem bN2 (n:Nat){A B:Mc}(hA:A.Ok)(hB:B.Ok){t:Int}{C:Nat}(hl:C<=5)(s:Sto) :
  ∃ d,bt2 (prD A B t) (Wn A B) C d/\(aa1 P (n+2)).call "_law_due" [A.d,B.d,.int t,.int (C:Int)] s=.ok d s:=by
 have e0:(aa1 P (n+2)).call "_law_due" [A.d,B.d,.int t,.int (C:Int)] s=_:=zb ac2 (n:=n+1) rfl
 have b1:=aJ0 (P:=P) n hA s
 have b2:=aJ0 (P:=P) n hB (s++[.lst (zc (zH A))])
 rw[e0,show(cr some [A.d,B.d,.int t,.int (C:Int)]++au ac2.vs none)=[some A.d,some B.d,some (.int t),some (.int (C:Int)),none,none,none,none,none,none,none]from rfl]
 generalize G:s++[O.lst (zc (zH A))]++[O.lst (zc (zH B))]++[O.lst [D.tup [.str [],.ref s.length,.ref (s++[O.lst (zc (zH A))]).length]]]=u0
 have a3:u0[(s++[O.lst (zc (zH A))]++[O.lst (zc (zH B))]).length]?=some (.lst [D.tup [.str [],.ref s.length,.ref (s++[O.lst (zc (zH A))]).length]]):=by rw[<-G];exact bt4
 have a0:u0[s.length]?=some (.lst (zc (zH A))):=by rw[<-G];exact zp (zp bt4)
 have Y:u0[(s++[O.lst (zc (zH A))]).length]?=some (.lst (zc (zH B))):=by rw[<-G];exact zp bt4
 have a2:∃ T,u0=s++T:=⟨_,by rw[<-G,br,br]⟩
 simp -implicitDefEqProofs only[ac2]
 tbr_iter [b1,b2,G,qw (s:=u0) (i:=(C:Int)+1) (by unfold W62;omega) (by unfold W62;omega)]
 refine ap1 (W:=fun r=>∃ d,bt2 (prD A B t) (Wn A B) C d/\r.bind (fin s)=.ok d s)
  (fun j ρ u=>(∀ i,i<j->ae5 (prD A B t) (Wn A B i)=none)/\(∃ T,u=s++T)/\(j<=C->∃(p k:Nat) (l:List D) (y5 y6 y7 y8 y9 y10:Option D),u[p]?=some (.lst l)/\AhD u k (Wn A B j) l/\ρ=[some A.d,some B.d,some (.int t),some (.int (C:Int)),some (.ref p),y5,y6,y7,y8,y9,y10]))
  (fun d u=>(∃ T,u=s++T)/\∃ j w,j<=C/\(∀ i,i<j->ae5 (prD A B t) (Wn A B i)=none)/\ae5 (prD A B t) (Wn A B j)=some w/\d=.str w) ?_ (fun _ _ _ _ _=>rfl) ?_ ?_ ?_
 ·refine⟨fun i hi=>absurd hi (gS _),a2,fun _=>⟨_,u0.length,_,none,none,none,none,none,none,a3,⟨_,[],rfl,⟨s.length,_,?_,?_,rfl,a0,Y⟩,rfl⟩,rfl⟩⟩
  ·have:=(ac.mp a0).1;omega
  ·have:=(ac.mp Y).1;omega
 ·rintro j d ρ u hj ⟨F,Z,big⟩
  obtain⟨hjl,rfl⟩:j<=C/\d=.int (j:Int):=by
   obtain⟨h1,h2⟩:=ai6 hj
   exact⟨by omega,by rw[h2,jx]⟩
  obtain⟨p,k,l,y5,y6,y7,y8,y9,y10,gp,hW,rfl⟩:=big hjl
  have a6:p<u.length:=(ac.mp gp).1
  have sq:at7 (.ref p) (u++[O.lst []])=.ok ⟨l,[p]⟩ (u++[O.lst []]):=by simp only[at7,zp gp]
  have a5:s.length<=u.length:=by obtain⟨T,rfl⟩:=Z;simp
  have a1:∃ T,u++[O.lst []]=s++T:=by obtain⟨T,rfl⟩:=Z;exact⟨T++[O.lst []],by simp⟩
  rcases due_level (P:=P) n hA hB (t:=t) hjl hl (u:=u++[O.lst []]) (k6:=u.length) (p:=p) a5 a1 (by omega) (zp gp) bt4 (AhD.keep (fun a o _ h=>zp h) (hW.rekey (aj _))) (a4:=some (.ref p)) (y7:=y7) (y8:=y8) (y9:=y9) (y10:=y10)with⟨v,lf,z7,z8,z9,z10,hn,hsv,g6,hnext,ei⟩|⟨v,w,hw,hsv,ei⟩
  ·refine aj6 (ρ:=[some A.d,some B.d,some (.int t),some (.int (C:Int)),some (.ref u.length),some (.int (j:Int)),some (.ref u.length),z7,z8,z9,z10]) (s:=v) ?_ ⟨fun i hi=>?_,hsv,fun h=>⟨u.length,u.length,lf,_,_,_,_,_,_,g6,hnext (by omega),rfl⟩⟩
   ·tbr_iter [turn,sq,ei]
   ·rcases gP i j with z|z
    ·exact F i z
    ·rw[show i=j by omega];exact hn
  ·refine aK8 (d:=.str w) (s:=v) ?_ ⟨hsv,j,w,hjl,F,hw,rfl⟩
   tbr_iter [turn,sq,ei]
 ·rintro ρ u ⟨F,⟨T,rfl⟩,_⟩
  have J:(ad8 0 ((C:Int)+1)).length=C+1:=by have:=ai2 (C+1);simpa using this
  rw[J]at F
  refine⟨.non,.inr ⟨fun i hi=>F i (by omega),rfl⟩,?_⟩
  tbr_iter []
  exact zT (fun _=>rfl) (by nofun)
 ·rintro d u ⟨⟨T,rfl⟩,j,w,hj,h1,h2,rfl⟩
  refine⟨.str w,.inl ⟨j,w,hj,h1,h2,rfl⟩,?_⟩
  tbr_iter []
  exact zT (fun _=>rfl) (by nofun)
end
section
variable {P:Pr}
end
section
variable {P:Pr}
end
noncomputable def cd6 (w:Nat)(l l':List Nat):List Nat:=l.flatMap fun r=>l'.map fun q=>r*w+q
def McT (L Rm M:Nat)(s:Sto)(r:Nat)(x:R D):Prop:=∃(m:Mc) (b:Nat×Nat),m.Ok/\m.L=L/\m.R=Rm/\(∀ d∈m.ds,d.t<=M)/\x=.ok m.d (s.set r (zd b))
theorem aG5 {P : Pr} [Has P ac6] [Has P ad1] [Has P ae4] (n : Nat) {s : Sto} {r L Rm : Nat} (hL1 : 1 <= L) (hL3 : L <= 3) (hR1 : 1 <= Rm) (hR5 : Rm <= 5) {M : Nat} (hM : M <= 3) (hs : ∃ b, s[r]? = some (zd b)) : McT L Rm M s r ((aa1 P (n + 3)).call "_law_sized" [.ref r, .int L, .int Rm, .int M] s) := by
  have e0 : (aa1 P (n + 3)).call "_law_sized" [.ref r, .int L, .int Rm, .int M] s = _ := zb ae4 (n := n + 2) rfl
  have hr := bl1 hs
  obtain⟨m1, b3, hm1, e3⟩ := zP (P := P) (n + 1) hs 13 (by decide) (by decide)
  obtain⟨m2, b4, hm2, e4⟩ := zP (P := P) (n + 1) (aR6 (b := b3) hr) 8 (by decide) (by decide)
  rw[ed]at e4
  obtain⟨m3, b5, hm3, e5⟩ := zP (P := P) (n + 1) (aR6 (b := b4) hr) 76 (by decide) (by decide)
  rw[ed]at e5
  rw[e0]
  simp -implicitDefEqProofs [ae4, e3, e4]
  obtain ⟨many, bb, hmany, hif⟩ : ∃ (many : Nat) (bb : Nat × Nat), many <= 75 /\ (if (m2 : Int) = 7 then
                      ((aa1 P (n + 2)).call "_law_take" [D.ref r, D.int 76] (List.set s r (zd b4))).bind fun d s =>
                        R.ok
                          (Ct.next [some (D.ref r), some (D.int L), some (D.int Rm), some (D.int M), some d, none, none, none, none]) s
                    else
                      R.ok
                        (Ct.next
                          [some (D.ref r), some (D.int L), some (D.int Rm), some (D.int M), some (D.int ↑m1), none, none, none, none])
                        (List.set s r (zd b4))) = .ok (.next [some (.ref r), some (.int L), some (.int Rm), some (.int M), some (.int many), none, none, none, none]) (s.set r (zd bb)) := by
    by_cases h7 : (m2 : Int) = 7
    · exact⟨m3, b5, by omega, by rw[if_pos h7, e5]; rfl⟩
    · exact⟨m1, b4, by omega, by rw[if_neg h7]⟩
  rw[hif]
  simp -implicitDefEqProofs
  rw[qw (by unfold W62; omega) (by unfold W62; omega)]
  simp only[R.bind_ok]
  refine aq6 (W := McT L Rm M s r) (fun j ρ u => ∃(b : Nat × Nat) (l : List Dr) (x y z : Option D), (∀ d ∈ l, d.Ok ⟨L, Rm, [], [], []⟩ /\ d.t <= M) /\ l.length = j /\ ρ = [some (.ref r), some (.int L), some (.int Rm), some (.int M), some (.int many), some (.ref s.length), x, y, z] /\ u = s.set r (zd b) ++ [.lst (l.map Dr.d)]) ⟨bb, [], none, none, none, by simp, rfl, rfl, rfl⟩ (fun _ _ _ _ _ => rfl) ?_ ?_
  · rintro j d ρ u hj ⟨b, l, x, y, z, hl, hlen, rfl, rfl⟩
    obtain⟨hj2, rfl⟩ := ai6 hj
    obtain⟨k1, c1, hk1, f1⟩ := aq5 (P := P) (n + 1) (t := [.lst (l.map Dr.d)]) hr b Rm (by omega) (aj4 (by omega))
    obtain⟨k2, c2, hk2, f2⟩ := aq5 (P := P) (n + 1) (t := [.lst (l.map Dr.d)]) hr c1 L (by omega) (aj4 (by omega))
    obtain⟨k3, c3, hk3, f3⟩ := aq5 (P := P) (n + 1) (t := [.lst (l.map Dr.d)]) hr c2 Rm (by omega) (aj4 (by omega))
    obtain⟨k4, c4, hk4, f4⟩ := aq5 (P := P) (n + 1) (t := [.lst (l.map Dr.d)]) hr c3 ((M : Int) + 1) (by omega) (aj4 (by omega))
    refine bn9 (ρ := [some (.ref r), some (.int L), some (.int Rm), some (.int M), some (.int many), some (.ref s.length), some (.int j), some (.int k1), some (.str [97 + k2])]) (s := s.set r (zd c4) ++ [.lst ((l ++ [(⟨k1, 97 + k2, k3, k4⟩ : Dr)]).map Dr.d)]) ?_ ⟨c4, l ++ [(⟨k1, 97 + k2, k3, k4⟩ : Dr)], _, _, _, ?_, ?_, rfl, rfl⟩
    · simp -implicitDefEqProofs [turn, f1, f2, f3, f4, bA8 (show k2 < 3 by omega)]
      rw[bB3 (by unfold LIM; simp; omega)]
      rfl
    · intro d hd
      rcases a9.mp hd with h|h
      · exact hl d h
      · rw[aY.mp h]; refine⟨?_, by show k4 <= M; omega⟩; constructor <;> simp only <;> omega
    · simp[hlen]
  · rintro ρ u ⟨b, l, x, y, z, hl, hlen, rfl, rfl⟩
    obtain⟨l1, c1, g1, f1⟩ := aK7 (P := P) n (s := s.set r (zd b) ++ [.lst (l.map Dr.d)]) (r := r) ⟨b, zp (qB hr)⟩ Rm (by omega)
    rw[aA7 (by rw[aP]; exact hr), ed]at f1
    obtain⟨l2, c2, g2, f2⟩ := aK7 (P := P) n (s := s.set r (zd c1) ++ [.lst (l.map Dr.d)]) (r := r) ⟨c1, zp (qB hr)⟩ Rm (by omega)
    rw[aA7 (by rw[aP]; exact hr), ed]at f2
    have hl3 : (s.set r (zd c2) ++ [O.lst (l.map Dr.d)])[s.length]? = some (.lst (l.map Dr.d)) := by rw[aF (by simp)]; simp
    have hll : l.length <= 75 := by
      rw[hlen]; simp[ad8]; omega
    simp -implicitDefEqProofs [f1, f2, bA1, hl3, mk]
    refine⟨⟨L, Rm, l1, l2, l⟩, c2, ⟨hL1, hL3, hR1, hR5, g1, g2, fun x hx => ?_, hll⟩, rfl, rfl, fun d hd => (hl d hd).2, ?_⟩
    · have := (hl x hx).1
      exact⟨this.a, this.l, this.b, this.t⟩
    · exact az8 (bB9 ⟨L, Rm, l1, l2, l⟩) (by nofun) rfl
section
variable {P:Pr}
end
section
variable {P:Pr} [Has P ab9] [Has P ac1] [Has P aa7] [Has P aa8] [Has P ab1] [Has P ab7] [Has P am4] [Has P ab2] [Has P aa4] [Has P an4] [Has P ac3] [Has P aa6] [HasC P "LETTERS" (.tup aK3)] [HasC P "MOST_TOLL" (.int 3)] [Has P aa9] [Has P ab0] [Has P aa2] [Has P ac8]
 [Has P ac9] [Has P aR5] [Has P ad0] [Has P ae1] [Has P ac2] [Has P ac4]
theorem af1 (n:Nat){A B:Mc}(F:A.Ok)(C:B.Ok)(z:A.L=B.L){t:Int}(ht:0<=t/\t<=10^30){h:Nat}(hl:h<=5)(s:Sto) :
  (aa1 P (n+6)).call "_law_right" [A.d,B.d,.int t,.int (h:Int)] s=.ok (.bl true) s:=by
 have Z:(aa1 P (n+6)).call "_law_right" [A.d,B.d,.int t,.int (h:Int)] s=_:=zb ac4 (n:=n+5) rfl
 obtain⟨d,G,e1⟩:=aQ1 (P:=P) n F C z ht hl s
 obtain⟨d',J,e2⟩:=bN2 (P:=P) (n+3) F C (t:=t) hl s
 rw[<-G.eq J]at e2
 rw[Z,show(cr some [A.d,B.d,.int t,.int (h:Int)]++au ac4.vs none)=[some A.d,some B.d,some (.int t),some (.int (h:Int)),none]from rfl]
 simp -implicitDefEqProofs only[ac4]
 rcases G with⟨_,w,_,_,_,rfl⟩|⟨_,rfl⟩
 ·have Y:bi .isStr [.str w] s=.ok (.bl true) s:=rfl
  tbr_iter [e1,e2,Y,show(D.str w=D.non)=False from eq_false (by nofun),bp6]
  exact zW
 ·have he:zZ .eq .non .non s=.ok (.bl true) s:=rfl
  tbr_iter [e1,e2,he]
  exact zW
theorem bS5 [Has P ab4][Has P av2][Has P ac6][Has P ad1][Has P ae4](n:Nat):bT7 P (n+7):=by
 intro ns hl
 have e0:(aa1 P (n+7)).call "law" [.ref 0] [.ro (ns.map D.int)]=_:=zb ab4 (n:=n+6) rfl
 rw[e0]
 have a4:([.ro (ns.map D.int)]:Sto)[0]?=some (.ro (ns.map D.int)):=rfl
 have J:=aZ0 (P:=P) (n+5) ns 0 [.ro (ns.map D.int)] 0 a4 hl
 generalize bi5 ns 0=b0 at J
 have a5:∃ b,([.ro (ns.map D.int),zd b0]:Sto)[1]?=some (zd b):=⟨b0,rfl⟩
 obtain⟨a,b1,ha,e1⟩:=zP (P:=P) (n+5) a5 3 (by decide) (by decide)
 obtain⟨c,b2,hc,e2⟩:=zP (P:=P) (n+5) (s:=[.ro (ns.map D.int),zd b1]) (r:=1) ⟨b1,rfl⟩ 5 (by decide) (by decide)
 obtain⟨m1,h,Y,a6,c1,c2,e3⟩:=aG5 (P:=P) (n+3) (L:=a+1) (Rm:=c+1) (M:=3) (s:=[.ro (ns.map D.int),zd b2]) (r:=1) (by omega) (by omega) (by omega) (by omega) (by omega) ⟨b2,rfl⟩
 rw[show((a+1:Nat):Int)=1+(a:Int)by omega,show((c+1:Nat):Int)=1+(c:Int)by omega]at e3
 have F:=aZ0 (P:=P) (n+5) ns 1 [.ro (ns.map D.int),zd h] 0 rfl hl
 generalize bi5 ns 1=b4 at F
 obtain⟨e,b5,he,e4⟩:=zP (P:=P) (n+5) (s:=[.ro (ns.map D.int),zd h,zd b4]) (r:=2) ⟨b4,rfl⟩ 5 (by decide) (by decide)
 obtain⟨m2,C,a2,a3,c4,a8,e5⟩:=aG5 (P:=P) (n+3) (L:=a+1) (Rm:=e+1) (M:=3) (s:=[.ro (ns.map D.int),zd h,zd b5]) (r:=2) (by omega) (by omega) (by omega) (by omega) (by omega) ⟨b5,rfl⟩
 rw[show((a+1:Nat):Int)=1+(a:Int)by omega,show((e+1:Nat):Int)=1+(e:Int)by omega]at e5
 have G:=aZ0 (P:=P) (n+5) ns 2 [.ro (ns.map D.int),zd h,zd C] 0 rfl hl
 generalize bi5 ns 2=b7 at G
 obtain⟨t,b8,ht,e6⟩:=zP (P:=P) (n+5) (s:=[.ro (ns.map D.int),zd h,zd C,zd b7]) (r:=3) ⟨b7,rfl⟩ 4 (by decide) (by decide)
 obtain⟨q,b9,hq,e7⟩:=zP (P:=P) (n+5) (s:=[.ro (ns.map D.int),zd h,zd C,zd b8]) (r:=3) ⟨b8,rfl⟩ 4 (by decide) (by decide)
 obtain⟨t2,a0,a7,e8⟩:=zP (P:=P) (n+5) (s:=[.ro (ns.map D.int),zd h,zd C,zd b9]) (r:=3) ⟨b9,rfl⟩ (10^30+1) (by decide) (by decide)
 have hp:∀ s,af5 .pow (.int 10) (.int 30) s=.ok (.int (10^30)) s:=fun s=>by have:=aB2 (a:=10) (b:=30) (s:=s) (by decide);exact this
 have hL:=a6.trans a3.symm
 have Z:∀(T:Nat) (bb:Nat×Nat),(T:Int)<=10^30->∃(l:Nat) (z:Nat×Nat),(aa1 P (n+6)).call "_law_take" [.ref 3,.int 6] [.ro (ns.map D.int),zd h,zd C,zd bb]=.ok (.int (l:Int)) [.ro (ns.map D.int),zd h,zd C,zd z] /\
   (aa1 P (n+6)).call "_law_right" [m1.d,m2.d,.int (T:Int),.int (l:Int)] [.ro (ns.map D.int),zd h,zd C,zd z]=.ok (.bl true) [.ro (ns.map D.int),zd h,zd C,zd z] /\
   (aa1 P (n+6)).call "_law_right" [m2.d,m1.d,.int (T:Int),.int (l:Int)] [.ro (ns.map D.int),zd h,zd C,zd z]=.ok (.bl true) [.ro (ns.map D.int),zd h,zd C,zd z] /\
   (aa1 P (n+6)).call "_law_right" [m1.d,m1.d,.int (T:Int),.int (if(3:Int)<(l:Int)then 3 else(l:Int))] [.ro (ns.map D.int),zd h,zd C,zd z]=.ok (.bl true) [.ro (ns.map D.int),zd h,zd C,zd z] /\
   (aa1 P (n+6)).call "_law_right" [m1.d,m1.d,.int 0,.int (if(3:Int)<(l:Int)then 3 else(l:Int))] [.ro (ns.map D.int),zd h,zd C,zd z]=.ok (.bl true) [.ro (ns.map D.int),zd h,zd C,zd z]:=fun T bb hT=>by
  obtain⟨l,z,c3,e9⟩:=zP (P:=P) (n+5) (s:=[.ro (ns.map D.int),zd h,zd C,zd bb]) (r:=3) ⟨bb,rfl⟩ 6 (by decide) (by decide)
  have a1:(if(3:Int)<(l:Int)then 3 else(l:Int))=((min l 3:Nat):Int):=by split<;>omega
  refine⟨l,z,e9,?_⟩
  rw[a1]
  exact⟨af1 (P:=P) n Y a2 hL ⟨by omega,hT⟩ (by omega) _,af1 (P:=P) n a2 Y hL.symm ⟨by omega,hT⟩ (by omega) _,af1 (P:=P) n Y Y rfl ⟨by omega,hT⟩ (by omega) _,af1 (P:=P) n Y Y rfl ⟨by decide,by decide⟩ (by omega) _⟩
 have J:(aa1 P (n+6)).call "_law_bag" [.ref 0,.int 0] [.ro (ns.map D.int)]=.ok (.ref 1) [.ro (ns.map D.int),zd b0]:=J
 have e1:(aa1 P (n+6)).call "_law_take" [.ref 1,.int 3] [.ro (ns.map D.int),zd b0]=.ok (.int (a:Int)) [.ro (ns.map D.int),zd b1]:=e1
 have e2:(aa1 P (n+6)).call "_law_take" [.ref 1,.int 5] [.ro (ns.map D.int),zd b1]=.ok (.int (c:Int)) [.ro (ns.map D.int),zd b2]:=e2
 have e3:(aa1 P (n+6)).call "_law_sized" [.ref 1,.int (1+(a:Int)),.int (1+(c:Int)),.int 3] [.ro (ns.map D.int),zd b2]=.ok m1.d [.ro (ns.map D.int),zd h]:=e3
 have F:(aa1 P (n+6)).call "_law_bag" [.ref 0,.int 1] [.ro (ns.map D.int),zd h]=.ok (.ref 2) [.ro (ns.map D.int),zd h,zd b4]:=F
 have e4:(aa1 P (n+6)).call "_law_take" [.ref 2,.int 5] [.ro (ns.map D.int),zd h,zd b4]=.ok (.int (e:Int)) [.ro (ns.map D.int),zd h,zd b5]:=e4
 have e5:(aa1 P (n+6)).call "_law_sized" [.ref 2,.int (1+(a:Int)),.int (1+(e:Int)),.int 3] [.ro (ns.map D.int),zd h,zd b5]=.ok m2.d [.ro (ns.map D.int),zd h,zd C]:=e5
 have G:(aa1 P (n+6)).call "_law_bag" [.ref 0,.int 2] [.ro (ns.map D.int),zd h,zd C]=.ok (.ref 3) [.ro (ns.map D.int),zd h,zd C,zd b7]:=G
 have e6:(aa1 P (n+6)).call "_law_take" [.ref 3,.int 4] [.ro (ns.map D.int),zd h,zd C,zd b7]=.ok (.int (t:Int)) [.ro (ns.map D.int),zd h,zd C,zd b8]:=e6
 have e7:(aa1 P (n+6)).call "_law_take" [.ref 3,.int 4] [.ro (ns.map D.int),zd h,zd C,zd b8]=.ok (.int (q:Int)) [.ro (ns.map D.int),zd h,zd C,zd b9]:=e7
 have e8:(aa1 P (n+6)).call "_law_take" [.ref 3,.int (10^30+1)] [.ro (ns.map D.int),zd h,zd C,zd b9]=.ok (.int (t2:Int)) [.ro (ns.map D.int),zd h,zd C,zd a0]:=e8
 by_cases h3:(q:Int)=3
 ·obtain⟨l,z,e9,r1,r2,r3,r4⟩:=Z t2 a0 (by omega)
  simp -implicitDefEqProofs only[ab4,aL,bX,au,bV,cK]
  tbr_iter [J,e1,e2,e3,F,e4,e5,G,e6,e7,h3,hp,e8,e9,r1,r2,aJ6,r3,r4]
  exact ay9 _ _
 ·obtain⟨l,z,e9,r1,r2,r3,r4⟩:=Z t b9 (by omega)
  simp -implicitDefEqProofs only[ab4,aL,bX,au,bV,cK]
  tbr_iter [J,e1,e2,e3,F,e4,e5,G,e6,e7,h3,e9,r1,r2,aJ6,r3,r4]
  exact ay9 _ _
end
end DV
end
local macro_rules | `(tactic| walk_at "sc") => `(tactic| exact ⟨rfl, rfl, rfl, by decide +kernel, rfl, by decide +kernel, by decide +kernel⟩)
local macro_rules | `(tactic| walk_at "df") => `(tactic| (dsimp only; exact ⟨_, _, _, _, _, _, _, _, _, _, by k_is, by k_is, by k_is, by k_is⟩))
noncomputable section
namespace My
open PySem L2
noncomputable def top (i:Nat):Stmt:=PySem.Challenge.pw_leasttolls_k58_dearer.main.body.getD i (.Pass ⟨0,0,0,0⟩)
noncomputable def ad6:List Str:=[]
noncomputable abbrev s_letters_of:Stmt:=top 3
noncomputable abbrev ap5:Stmt:=top 4
noncomputable abbrev aj7:Stmt:=top 5
noncomputable abbrev av1:Stmt:=top 6
noncomputable abbrev ap4:Stmt:=top 7
noncomputable abbrev aW3:Stmt:=top 9
noncomputable abbrev aP5:Stmt:=top 10
noncomputable abbrev bF1:Stmt:=top 12
noncomputable abbrev al4:Stmt:=top 13
noncomputable abbrev ah5:Stmt:=top 14
noncomputable abbrev bE0:Stmt:=top 15
noncomputable abbrev aH4:Stmt:=top 16
noncomputable abbrev ah7:Stmt:=top 21
noncomputable abbrev aK5:Stmt:=top 23
noncomputable abbrev aj3:Stmt:=top 24
noncomputable abbrev ae0:Stmt:=top 25
noncomputable abbrev ao2:Stmt:=top 27
noncomputable abbrev al6:Stmt:=top 28
noncomputable abbrev ah1:Stmt:=top 29
noncomputable abbrev ag7:Stmt:=top 30
noncomputable abbrev av8:Stmt:=top 31
noncomputable abbrev ah3:Stmt:=top 32
noncomputable abbrev ah0:Stmt:=top 33
noncomputable abbrev ak1:Stmt:=top 34
noncomputable abbrev ap7:Stmt:=top 35
noncomputable abbrev ah2:Stmt:=top 36
noncomputable abbrev ay3:Stmt:=top 37
noncomputable def tb:List (String×mf×Stmt):=[("letters_of",DV.aa6,s_letters_of),("rooms_of",DV.aa8,ap5),("begins_of",DV.ab1,aj7),("ends_of",DV.ab7,av1),("doors_of",DV.aa7,ap4),("least",DV.ab9,aW3),("added",DV.ac1,aP5),("cut",DV.am4,bF1),("first_row",DV.ab2,al4),("least_into",DV.aa4,ah5),("led",DV.an4,bE0),("end_of",DV.ac3,aH4),("check_pair",DV.aa9,ah7),("dearer",DV.ac8,aK5),("is_dearer",DV.ab0,aj3),("level_behind",DV.aa2,ae0),("_law_bag",DV.av2,ao2),("_law_take",DV.ac6,al6),("_law_rooms",DV.ad1,ah1),("_law_sized",DV.ae4,ag7),("_law_on",DV.aR5,av8),("_law_begun",DV.ac9,ah3),("_law_ended",DV.ad0,ah0),("_law_dear",DV.ae1,ak1),("_law_due",DV.ac2,ap7),("_law_right",DV.ac4,ah2),("law",DV.ab4,ay3)]
noncomputable def bV8:List (String×kS):=[("LETTERS",.tup [.str [97],.str [98],.str [99]]),("MOST_TOLL",.int (3))]
noncomputable def cd5:List (String×ma):=[]
noncomputable def tbl:List (String×mf):=tb.map fun p=>(p.1,p.2.1)
noncomputable def P:lp:=⟨fun f=>tbl.lookup f,fun f=>cd5.lookup f,fun x=>bV8.lookup x,fun _=>none,fun _=>none,fun _=>false,fun _=>false,fun _=>none⟩
instance:DV.HasC P "LETTERS" (.tup [.str [97],.str [98],.str [99]]):=⟨rfl⟩
instance:DV.HasC P "MOST_TOLL" (.int (3)):=⟨rfl⟩
instance:DV.Has P DV.aa6:=⟨rfl⟩
instance:DV.Has P DV.aa8:=⟨rfl⟩
instance:DV.Has P DV.ab1:=⟨rfl⟩
instance:DV.Has P DV.ab7:=⟨rfl⟩
instance:DV.Has P DV.aa7:=⟨rfl⟩
instance:DV.Has P DV.ab9:=⟨rfl⟩
instance:DV.Has P DV.ac1:=⟨rfl⟩
instance:DV.Has P DV.am4:=⟨rfl⟩
instance:DV.Has P DV.ab2:=⟨rfl⟩
instance:DV.Has P DV.aa4:=⟨rfl⟩
instance:DV.Has P DV.an4:=⟨rfl⟩
instance:DV.Has P DV.ac3:=⟨rfl⟩
instance:DV.Has P DV.aa9:=⟨rfl⟩
instance:DV.Has P DV.ac8:=⟨rfl⟩
instance:DV.Has P DV.ab0:=⟨rfl⟩
instance:DV.Has P DV.aa2:=⟨rfl⟩
instance:DV.Has P DV.av2:=⟨rfl⟩
instance:DV.Has P DV.ac6:=⟨rfl⟩
instance:DV.Has P DV.ad1:=⟨rfl⟩
instance:DV.Has P DV.ae4:=⟨rfl⟩
instance:DV.Has P DV.aR5:=⟨rfl⟩
instance:DV.Has P DV.ac9:=⟨rfl⟩
instance:DV.Has P DV.ad0:=⟨rfl⟩
instance:DV.Has P DV.ae1:=⟨rfl⟩
instance:DV.Has P DV.ac2:=⟨rfl⟩
instance:DV.Has P DV.ac4:=⟨rfl⟩
instance:DV.Has P DV.ab4:=⟨rfl⟩
theorem aw9:DT ad6 P "letters_of" DV.aa6 s_letters_of:=⟨["machine"],["machine"],by walk_at "sc",rfl,rfl,fun _ _ _ _ _ _=>bd1 (fun _=>rfl),.inl (by decide +kernel)⟩
theorem aL6:DT ad6 P "rooms_of" DV.aa8 ap5:=⟨["machine"],["machine"],by walk_at "sc",rfl,rfl,fun _ _ _ _ _ _=>bd1 (fun _=>rfl),.inl (by decide +kernel)⟩
theorem aD9:DT ad6 P "begins_of" DV.ab1 aj7:=⟨["machine"],["machine"],by walk_at "sc",rfl,rfl,fun _ _ _ _ _ _=>bd1 (fun _=>rfl),.inl (by decide +kernel)⟩
theorem aZ2:DT ad6 P "ends_of" DV.ab7 av1:=⟨["machine"],["machine"],by walk_at "sc",rfl,rfl,fun _ _ _ _ _ _=>bd1 (fun _=>rfl),.inl (by decide +kernel)⟩
theorem aL5:DT ad6 P "doors_of" DV.aa7 ap4:=⟨["machine"],["machine"],by walk_at "sc",rfl,rfl,fun _ _ _ _ _ _=>bd1 (fun _=>rfl),.inl (by decide +kernel)⟩
theorem bp2:DT ad6 P "least" DV.ab9 aW3:=⟨["prices"],["prices"],by walk_at "sc",rfl,rfl,fun _ _ _ _ _ _=>bd1 (fun _=>rfl),.inl (by decide +kernel)⟩
theorem bx2:DT ad6 P "added" DV.ac1 aP5:=⟨["one", "other"],["one", "other"],by walk_at "sc",rfl,rfl,fun _ _ _ _ _ _=>bd2 (fun _ _=>rfl),.inl (by decide +kernel)⟩
theorem bT5:DT ad6 P "cut" DV.am4 bF1:=⟨["price", "k"],["price", "k"],by walk_at "sc",rfl,rfl,fun _ _ _ _ _ _=>bd2 (fun _ _=>rfl),.inl (by decide +kernel)⟩
theorem aA5:DT ad6 P "first_row" DV.ab2 al4:=⟨["machine", "begins"],["machine"],by walk_at "sc",rfl,rfl,fun _ _ _ _ _ _=>bd1 (fun _=>rfl),.inl (by decide +kernel)⟩
theorem ax9:DT ad6 P "least_into" DV.aa4 ah5:=⟨["machine", "row", "letter", "room"],["machine", "row", "letter", "room"],by walk_at "sc",rfl,rfl,fun _ _ _ _ _ _=>bd4 (fun _ _ _ _=>rfl),.inl (by decide +kernel)⟩
theorem bS6:DT ad6 P "led" DV.an4 bE0:=⟨["machine", "k", "row", "letter"],["machine", "k", "row", "letter"],by walk_at "sc",rfl,rfl,fun _ _ _ _ _ _=>bd4 (fun _ _ _ _=>rfl),.inl (by decide +kernel)⟩
theorem bc2:DT ad6 P "end_of" DV.ac3 aH4:=⟨["machine", "row"],["machine", "row"],by walk_at "sc",rfl,rfl,fun _ _ _ _ _ _=>bd2 (fun _ _=>rfl),.inl (by decide +kernel)⟩
theorem au2:DT ad6 P "check_pair" DV.aa9 ah7:=⟨["one", "other"],["one", "other"],by walk_at "sc",rfl,rfl,fun _ _ _ _ _ _=>bd2 (fun _ _=>rfl),.inl (by decide +kernel)⟩
theorem be5:DT ad6 P "dearer" DV.ac8 aK5:=⟨["one", "other", "times", "long", "most", "start", "level", "seen", "left", "word", "rows"],["one", "other", "times", "long"],by walk_at "sc",rfl,rfl,fun _ _ _ _ _ _=>bd4 (fun _ _ _ _=>rfl),.inl (by decide +kernel)⟩
theorem aD6:DT ad6 P "is_dearer" DV.ab0 aj3:=⟨["price", "other_price", "times"],["price", "other_price", "times"],by walk_at "sc",rfl,rfl,fun _ _ _ _ _ _=>bd3 (fun _ _ _=>rfl),.inl (by decide +kernel)⟩
theorem an6:DT ad6 P "level_behind" DV.aa2 ae0:=⟨["one", "other", "most", "level", "seen", "found", "word", "rows", "letter", "fresh"],["one", "other", "most", "level", "seen"],by walk_at "sc",rfl,rfl,fun _ _ _ _ _ _=>bd5 (fun _ _ _ _ _=>rfl),.inl (by decide +kernel)⟩
theorem aM8:DT ad6 P "_law_bag" DV.av2 ao2:=⟨["_law_script", "_law_at", "_law_cell", "_law_mix", "_law_k"],["_law_script", "_law_at"],by walk_at "sc",rfl,rfl,fun _ _ _ _ _ _=>bd2 (fun _ _=>rfl),.inl (by decide +kernel)⟩
theorem aD8:DT ad6 P "_law_take" DV.ac6 al6:=⟨["_law_bag_here", "_law_many", "_law_digit", "_law_number", "_law_room"],["_law_bag_here", "_law_many"],by walk_at "sc",rfl,rfl,fun _ _ _ _ _ _=>bd2 (fun _ _=>rfl),.inl (by decide +kernel)⟩
theorem ay4:DT ad6 P "_law_rooms" DV.ad1 ah1:=⟨["_law_bag_here", "_law_many", "_law_bits"],["_law_bag_here", "_law_many"],by walk_at "sc",rfl,rfl,fun _ _ _ _ _ _=>bd2 (fun _ _=>rfl),.inl (by decide +kernel)⟩
theorem ax1:DT ad6 P "_law_sized" DV.ae4 ag7:=⟨["_law_bag_here", "_law_letters", "_law_rooms_here", "_law_most", "_law_many", "_law_doors", "_law_k", "_law_start", "_law_letter"],["_law_bag_here", "_law_letters", "_law_rooms_here", "_law_most"],by walk_at "sc",rfl,rfl,fun _ _ _ _ _ _=>bd4 (fun _ _ _ _=>rfl),.inl (by decide +kernel)⟩
theorem aW5:DT ad6 P "_law_on" DV.aR5 av8:=⟨["_law_machine", "_law_letter", "_law_here", "_law_there", "_law_start", "_law_sign", "_law_goal", "_law_cost"],["_law_machine", "_law_letter", "_law_here"],by walk_at "sc",rfl,rfl,fun _ _ _ _ _ _=>bd3 (fun _ _ _=>rfl),.inl (by decide +kernel)⟩
theorem az2:DT ad6 P "_law_begun" DV.ac9 ah3:=⟨["_law_machine"],["_law_machine"],by walk_at "sc",rfl,rfl,fun _ _ _ _ _ _=>bd1 (fun _=>rfl),.inl (by decide +kernel)⟩
theorem au0:DT ad6 P "_law_ended" DV.ad0 ah0:=⟨["_law_machine", "_law_here"],["_law_machine", "_law_here"],by walk_at "sc",rfl,rfl,fun _ _ _ _ _ _=>bd2 (fun _ _=>rfl),.inl (by decide +kernel)⟩
theorem aA6:DT ad6 P "_law_dear" DV.ae1 ak1:=⟨["_law_mine", "_law_yours", "_law_times"],["_law_mine", "_law_yours", "_law_times"],by walk_at "sc",rfl,rfl,fun _ _ _ _ _ _=>bd3 (fun _ _ _=>rfl),.inl (by decide +kernel)⟩
theorem aN4:DT ad6 P "_law_due" DV.ac2 ap7:=⟨["_law_one", "_law_other", "_law_times", "_law_long", "_law_ahead", "_law_size", "_law_further", "_law_word", "_law_mine", "_law_yours", "_law_letter"],["_law_one", "_law_other", "_law_times", "_law_long"],by walk_at "sc",rfl,rfl,fun _ _ _ _ _ _=>bd4 (fun _ _ _ _=>rfl),.inl (by decide +kernel)⟩
theorem aw1:DT ad6 P "_law_right" DV.ac4 ah2:=⟨["_law_one", "_law_other", "_law_times", "_law_long", "_law_found"],["_law_one", "_law_other", "_law_times", "_law_long"],by walk_at "sc",rfl,rfl,fun _ _ _ _ _ _=>bd4 (fun _ _ _ _=>rfl),.inl (by decide +kernel)⟩
theorem bi3:FnScope ["_law_script", "_law_bag_here", "_law_letters", "_law_one", "_law_other", "_law_times", "_law_long"] ["_law_script"] (defScope ay3):=by walk_at "sc"
theorem bL0:mSs ⟨["_law_script", "_law_bag_here", "_law_letters", "_law_one", "_law_other", "_law_times", "_law_long"],defScope ay3,fun _ _ _=>false⟩ DV.ab4.body (zB ay3)=true:=by decide +kernel
theorem bB0:ca5 "law" ay3 ["_law_script"]:=fun _ _ _ _ _ _=>bd1 fun _=>rfl
theorem bW4:DT ad6 P "law" DV.ab4 ay3:=⟨_,_,bi3,rfl,rfl,bB0,.inl bL0⟩
theorem bV2:∀ p∈tb,DT ad6 P p.1 p.2.1 p.2.2:=by
 intro p hp
 unfold tb at hp
 simp only[aH,cV,or_false]at hp
 rcases hp with rfl|rfl|rfl|rfl|rfl|rfl|rfl|rfl|rfl|rfl|rfl|rfl|rfl|rfl|rfl|rfl|rfl|rfl|rfl|rfl|rfl|rfl|rfl|rfl|rfl|rfl|rfl
 ·exact aw9
 ·exact aL6
 ·exact aD9
 ·exact aZ2
 ·exact aL5
 ·exact bp2
 ·exact bx2
 ·exact bT5
 ·exact aA5
 ·exact ax9
 ·exact bS6
 ·exact bc2
 ·exact au2
 ·exact be5
 ·exact aD6
 ·exact an6
 ·exact aM8
 ·exact aD8
 ·exact ay4
 ·exact ax1
 ·exact aW5
 ·exact az2
 ·exact au0
 ·exact aA6
 ·exact aN4
 ·exact aw1
 ·exact bW4
theorem bI9 {l:c8}{w:World}{K:ae}{h:Heap}{mg:Str->Option Value}{fa:Addr}(X:K.In h)(G:h.Ns bz mg)(a3:mg "law"=some (.ref fa))(hD:∀ p∈tb,bV0 K p.1 p.2.2)(hz:∀ x∈bNames,d9 K bz x=some none)
  {z:Addr} {a0:Option Addr} {a2:Nat} {a1:Array (Option Value)} {Z Y J:Tok} (gc_LETTERS:d9 K bz "LETTERS"=some (some (.ref z))) (gl_LETTERS:K.lookup z=some ⟨.type "tuple",a0,.seq #[.str ⟨#[97]⟩ Z,.str ⟨#[98]⟩ Y,.str ⟨#[99]⟩ J] a2,a1⟩)
  {C:Tok} (gc_MOST_TOLL:d9 K bz "MOST_TOLL"=some (some (.int (3) C)))
  (hT:∀ x∈ad6,(be K x).isSome=true) (tnd:decide (((bs4 ad6 K).map (·.1)).Nodup)=true)
  : ∃ fd:bL,(∀(s:af) (v:Value),jT s fd ⟨[v],[]⟩ [("_law_script",v)])/\∀ base:Heap,K.In base->base.Ns bz mg->BM mg base->bo2 K ad6 base->FnOk l.prog w K mg base CX0 39 fa fd ["_law_script"] (spB ad6 K):=by
 have hP:PrOk (aZ4 ad6 P K) (bo0 ad6 K) P mg w:=by
  refine⟨fun f d h=>aI7 (tbl:=tbl) (fun p hp=>?_) f d h,fun x d h=>aV8 (tbl:=bV8) ?_ x d h,fun x hx=>PySem.W.mg_none_of X G (hz x hx),bU3 X G,bS3,of_decide_eq_true tnd,fun _ _ h=>(by cases h),fun _ _ h=>(by cases h),fun _ h=>(by cases h),fun _ h=>(by cases h),fun _ _ _ _ h=>(by cases h),fun _ _ h=>(by cases h)⟩
  ·obtain⟨r,hr,rfl⟩:=aM.mp hp
   exact good_of X G hT (hD r hr) (bV2 r hr)
  ·intro p hp
   unfold bV8 at hp
   simp only[aH,cV,or_false]at hp
   rcases hp with rfl|rfl
   ·exact br8 (dm X G gc_LETTERS) gl_LETTERS rfl rfl (show 3<=1000 by decide) (.cons (.str _ _ (by decide)) (.cons (.str _ _ (by decide)) (.cons (.str _ _ (by decide)) (.nil))))
   ·exact bp3 (dm X G gc_MOST_TOLL)
 obtain⟨f,od,an,sl,oc,kV,dc,pm,cd,ct,a,l0,c,k⟩:=hD ("law",DV.ab4,ay3) (by unfold tb;simp)
 have e:=a3.symm.trans (dm X G a)
 cases e
 have F:=bi9 (st:=ay3) l0 c k
 refine⟨_,fun s v=>.of_eq rfl,fun base _ _ bm hk=>(bK1 hP (bi0 hT bm hk) 7 (aF5 hP (bi0 hT bm hk) (fun _=>rfl) 7) (d:=DV.ab4) (f := "law") rfl ⟨F,dm X G a,F.binds bB0⟩ bi3 rfl rfl bL0 aQ5).imp (fun vs H Q E q=>bL3 (fun ns h=>DV.bS5 (P:=P) 1 ns h) vs H Q E (ba8 hT q))⟩
end My
end
open PySem PySem.W PyProof.Rows
set_option maxRecDepth 100000 in
set_option maxHeartbeats 0 in
theorem PySem.Challenge.cw_leasttolls_k58_dearer_holds : PySem.Challenge.rw_leasttolls_k58_dearer.Holds := by
 refine My.GT.2 ?_
 delta My.GT
 dsimp only
 k_fill
 refine L2.aS6 (l:=PySem.Challenge.rw_leasttolls_k58_dearer) (n:=63) (k:=39) (x := "_law_script") (sp:=L2.spB My.ad6) My.ad6 rfl (by decide) rfl ⟨rfl,by decide,by decide⟩ (ts:=[]) (fun w h Y=>⟨PySem.W.kIn_of Y,fun _ hP=>absurd hP (cV)⟩) (fun w=>?R) (fun w=>?NT) ?F (fun K H a ns hl hB hS hF=>L2.bE9 hl hB hS hF)
 case R=>kernel_rfl
 case NT=>kernel_rfl
 case F =>
  intro w mg fa h KX G hmg
  refine' My.bI9 KX G hmg ?hD ?hz ?gc_LETTERS ?gl_LETTERS ?gc_MOST_TOLL ?hT ?tnd
  case hD =>
   intro p hp
   unfold My.tb at hp
   simp only[aH,cV,or_false]at hp
   rcases hp with rfl|rfl|rfl|rfl|rfl|rfl|rfl|rfl|rfl|rfl|rfl|rfl|rfl|rfl|rfl|rfl|rfl|rfl|rfl|rfl|rfl|rfl|rfl|rfl|rfl|rfl|rfl
   all_goals walk_at "df"
  case hz =>
   intro x hx
   unfold L2.bNames at hx
   simp only[aH,cV,or_false]at hx
   rcases hx with rfl|rfl|rfl|rfl|rfl|rfl|rfl|rfl|rfl|rfl|rfl|rfl|rfl|rfl|rfl|rfl|rfl|rfl<;>k_is
  (case gc_LETTERS=>k_is)
  (case gl_LETTERS=>k_is)
  (case gc_MOST_TOLL=>k_is)
  case hT =>
   intro x hx;cases hx
  (case tnd=>kernel_rfl)
