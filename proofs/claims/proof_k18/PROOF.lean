import PyProof.Rows.All
import Wide.All
import OpenK.AllK
import Wide.FinOn
import PyProof.EqAt
import PyProof.EqKinds
import PyProof.TupleCall
import PyProof.MinMaxWalk
import PyProof.WalkInts
import PyProof.NeKinds
import PyProof.SliceStr2
import PyProof.StrBlockI
import PyProof.MaxThree
import PyProof.ZipIter
import PyProof.Draws
import PyProof.EnumMake
import PyProof.ListMulRoad
import PyProof.Rows.StrRev
import PyProof.DictItems
import PyProof.ListRange
import PyProof.AutoIntG2
import PyProof.FactsAll.int_6
import KE.KMinKey
import PyProof.Rows.TupDisplay
import PyProof.Rows.CatchBare
import KE.KTryMore
import PyProof.RulesAs
import PyProof.StrOps
import KE.IntBitsLaws
import KE.KIntText
import PyProof.CallStr
import PyProof.StrBlockL
import PyProof.StrLawsChain
import PyProof.StrLawsTight
import PyProof.Rows.StrItems
import PySem.Challenge.RW_leasttolls_k18_none_ahead_of_it
set_option Elab.async false
set_option linter.all false
set_option maxRecDepth 100000
set_option maxHeartbeats 4000000
open PySem.W renaming Frag->ac,tabIn->bj,kitOne->bp,kia_one->bJ,mg_of->b8,CodeHd->cc,nsIn->cq,keepIn->cu,exmOne->cx,fnOf->cW,envX->cX,OpenLaw->cY,findIn->du,kla_fn->dz,codeIn->fq,methodObj->fF,fnX->fM,cellsFrom_some->gr,instObj->gJ,lookIn->hX,tabObj->ip,kitx_tuple->iX,mg_none_of->i9,specialIn->jh,kitx_list->ji,kitx_dict->jj,plainGet->jz,codeHdIn->jF,takesIn->jP,TabsAt->j9,noTabs->ka,WalkO->kh,mroIn->km
open List renaming getElem?_eq_some_iff->ae,mem_cons_of_mem->ao,getElem?_eq_getElem->aq,length_append->ax,mem_singleton->ay,size_toArray->az,replicate->aC,mem_cons_self->aD,length_map->aF,mem_cons->aI,mem_append_right->aK,getElem?_map->aN,getElem?_append_left->aP,getElem?_append_right->aR,mem_append->aS,all_eq_true->aU,mem_map->aW,filterMap_cons->aY,mem_of_getElem?->aZ,range->a7,map_cons->a8,getElem?_set_self->a9,lookup_cons->bf,getElem?_set_ne->bh,length_cons->bq,mem_append_left->bu,append_nil->bv,getD_eq_getElem?_getD->bF,length_set->bK,replicate_succ->bL,getElem?_eq_none->bM,cons_lt_cons_iff->bN,append_assoc->bP,length_eq_zero_iff->bQ,mem_filterMap->bR,mem_map_of_mem->bV,set_set->bW,cons_append->bX,length_take->bZ,not_mem_nil->b7,map_map->cf,filterMap_map->cj,mem_range->cr,map_append->cz,getElem?_range->cB,nil_append->cK,set_append->cL,flatten_cons->cM,getElem?_of_mem->cO,foldl_cons->c6,find?_cons->c8,length_singleton->di,getElem?_toArray->dj,contains_iff_mem->dk,mem_iff_getElem->dw,map->dA,drop_eq_getElem_cons->dE,all_cons->dF,of_mem_zip->dJ,reverse_cons->d5,drop_zero->ed,take_of_length_le->ee,drop_eq_nil_of_le->eA,foldl_append->eB,filterMap_eq_map->eD,length_drop->eK,pairwise_append->eW,mem_filter->eX,nodup_cons->eZ,forIn_nil->fw,lt_irrefl->fA,pairwise_iff_getElem->fD,any_cons->fX,take_append_getElem->f6,getElem?_replicate->f8,filter_cons->gh,pairwise_singleton->gi,range_succ_eq_map->gj,map_nil->gD,pairwise_lt_range->gH,forIn_cons->gK,length_nil->gN,set_getElem_self->gZ,filterMap->ik,getD->iA,length_pos_iff->iK,getElem?_take->i5,pairwise_cons->ja,any_eq_true->jE,take_length->jI,foldl->j5,set_comm->kr,all_map->kB,length->kN,lookup->kO
open PySem renaming Shared->af,wpAny_bind->ai,wpAny_pure->aA,Program->aH,mem_of_lookup->aL,sizeLine->aO,cellsFrom->aQ,Around->aV,mainGlobals->bn,wpAny_mono->br,starEach->bw,bootBuiltins->bA,wpAny_newObj_type->bG,FuncData->bO,Arguments->ci,NameKind->cw,wpAny_truthy_bool->cy,binaryOp->cA,wpAny_call_entry->cD,assignEach->cG,wpAny_passesOwn->cJ,Paired->cR,wpAny_seqItems->cS,wpAny_callSpecial?_slot->cT,wpAny_Call_Name_kw->cV,wpAny_specialOf->cZ,wpAny_execs_nil->c5,pushCells_keeps->c7,behindInMarks->da,wpAny_holding->db,wpAny_callSpecialIfBoundUnlessNone?_slot->dg,foldedSetIterable->dq,sysModules->dt,compareOp->dB,argBest->dC,IsTupleKey->dL,isTrue->dM,wpAny_field->dQ,sliceBounds->dR,backTo->dX,wpAny_pyIter_list->dY,bindArgs->dZ,wpAny_tryCatch->d6,wpAny_forIn_list->eF,wpAny_rule->eG,swapsWith->eI,pushCells->eM,attributeBase->eQ,relabel->eR,callSpecialIfBoundUnlessNone?->eS,letOwnedTupleGo->eY,newFunctionEnv->fy,wpAny_binaryOp_repeat_ref->fB,sizeLine_eq->fG,codeAny->fI,InCallC->fJ,swappedStores->fR,IsPart->fT,wpAny_comprehension_free->fU,plainId_quiet->fW,ExceptHandler->fY,storeName->f7,noFill_tuple_add->f9,builtinsNs->gk,assign->gm,name_of_addr->gu,getItem->gv,wpAny_typeOf->gy,typeIs_int->gB,codeAny_compStart_list->gE,codeAny_builtin->gL,wpAny_updateSeq->gM,isSubtype_tuple_tuple->gR,wpAny_storeName_local->gS,wpAny_isTrue_Compare1->gT,codeAny_call_function->gW,wpAny_storeName_cell->hJ,wpAny_loadName_local->hW,wpAny_letGo->ig,strIterType->il,PassesOwn->ir,Keyword->iu,callerA->iw,seqItems?->iy,valueAt->iz,wpAny_loadName_cell->iG,wpAny_standAt->iO,seq_tuple_add->iP,wpAny_pyIter_tuple->iW,call_meets->iZ,eqIsQuiet_byValue->jc,holding->jd,wpAny_assign_Name->jf,codeAny_mono->jk,concat_meets->jl,wpAny_sequenceKey->jm,seqIndex_neg->jn,slot_list_getitem->jo,notedBy->jp,beq_builtin_none->ju,eqIsQuiet->jv,wpAny_isInstance->jw,wpAny_execs_cons->jx,pyNext->jy,noteFrame->jD,seqSlot_of->jG,wpAny_Try_except->jH,seqIndex_of->jJ,keywordEach->jK,BindsTo->jU,call->jW,reduceHash->jX,wpAny_Name->jY,Operator->jZ,Result->j1,typeIs_str->j3,PlainAttrs->j4,quietNames->j8,KeyKind->kj,setFlight->kx,Within->kC,pyIter->kD,typeOf->kE
open Bool renaming false_eq_true->ag,and_eq_true->aj,not_false->ar,not_true->au,false_ne_true->aX,or_eq_true->bS,not_eq_true'->d9,or_eq_false_iff->eU,true_and->fZ,eq_iff_iff->gO,and_eq_true_iff->g6,and_true->iR,false_and->j0,false_or->kn
open Option renaming map_some->ak,bind_some->am,map_eq_some_iff->cb,isSome_map->fN,isSome_iff_exists->fS,isSome_some->i3,getD_none->jB
open Nat renaming le_trans->av,le_refl->aw,lt_of_lt_of_le->aG,ne_of_lt->aJ,lt_irrefl->bC,zero_le->cN,lt_succ_self->cU,add_assoc->c9,le_succ->dv,le_of_lt->dU,lt_trans->d7,lt_trichotomy->eg,add_comm->fe,le_of_succ_le->fK,lt_succ_of_lt->fL,le_succ_of_le->fP,zero_add->gF,sub_self->gG,pow_le_pow_right->iq,ne_of_gt->jg,lt_or_ge->js,le_of_not_lt->jC,mul_add->jM,not_lt_zero->jN,not_lt->j6,mul_comm->kF,add_zero->kI,pow_succ->kJ
open PySem.Heap renaming get?_push_of_some->aB,lt_size->aM,get?_push_size->be,get?_update_other->bT,size_push->b9,get?_update_self->dh,SameBut->dW,ExtBut->jL
open Option.some renaming inj->aE
open False renaming elim->bz
open PyProof.Rows renaming slot_tuple_getitem->bB,callWith_type1->dm,kindOf->eJ,envOfC->e6,AllBare->fc,subscriptTail_builtinR->gz,entry_tuple_getitem->iH,Constant_none->iM,tupleItemsOf_->iQ,args_tuple_getitem->iY,IntsAre->jV,tail_any->j2
open Int renaming toNat_natCast->bD,mul_le_mul_of_nonneg_left->eV,toNat_of_nonneg->e9,one_mul->fO,zero_add->gI,le_refl->ii,ofNat_lt->jq,sub_zero->jr,natCast_mul->jR,le_antisymm->jS,le_total->kH
open PySem.Builtin.Str renaming strSliceIndices->bE,tooLong->kg
open PySem.Str renaming ofString->bH
open PySem.Builtin.Tuple renaming tupleHashOf->bI,tupleItemsOf->cF,tupleExact->cP,tupleTooMany->fz,tupleCompareSizes->jt,tupleIsExact->j7
open PySem.Builtin.SmallTypes renaming nextOf->bU
open Ne renaming symm->cC
open PySem.F renaming plain_min_loop->cE,slot_tuple_iterator_next->cH,slot_NoneType_hash->dr,args_tuple_add_2->dG,slot_int_rmul->dN,entry_tuple_add->dP,slot_tuple_hash->dS,slot_tuple_add->d4,slot_tuple_mul->d8,args_tuple_iterator_next_1->e8,entry_tuple_iterator_next->fh,slot_dict_getitem->fC,entry_min_loop->ga,slot_tuple_rmul->gd,plainAttrs_list->gg,slot_list_append->gX,args_int_rmul_2->ie,excBase_ValueError->io,slot_int_index->iI,entry_int_rmul->iJ,fills_int_mul->i0,slot_tuple_eq->jO
open PySem.Builtin.Slice renaming slicePlaces->cI,sliceAdjust->dD,sliceApplied->fv,slicePartIndex->jQ,sliceFields->ke
open Array renaming length_toList->cQ,forIn_toList->fi,getElem?_mapIdx->gY,append_assoc->iV,toList->je
open PySem.Builtin.List renaming listTooLong->dH
open PySem.SeqAt.EqAt renaming same->dI,of_refs->fj,none_tuple->gP,tuple_none->gQ,int_tuple->g7,str_tuple->g8,tuple_int->g9,tuple_str->hG,none_int->iB,none_str->iC,int_none->iD,str_none->iE,int_str->iT,str_int->iU,int_int->i7,str_str->i8
open PySem.SeqAt renaming EqAt->eN,RcNeAt->kG,RcAt->kU
open List.Nodup renaming length_le_of_subset->eO
open PySem.Paired renaming length->eP,mono->kM,snoc->kQ
open PySem.Around renaming under_plainId->eT,frames_deeper->hZ
open PySem.Txt renaming slice->e7
open PySem.Builtin.Builtins renaming bindParams->fg
open PySem.Calls renaming Name_function_global->fm,callWith_builtin->gC,evalArgs_plain->ic
open PySem.W.OpenLaw renaming wellSaid->fQ
open Classical renaming propDecidable->gf
open PySem.Obj renaming mapSeq->gA,data_mapFields->i4
open PySem.Heap.SameBut renaming update->iL
open PySem.SeqAt.RcAt renaming tuples->jb
open PyProof.Rows.IsTup renaming new->jA
open PySem.PassesOwn renaming never->jT
open PySem.Value renaming isStrOf->ki,isInt->kL
open PySem.CmpOf renaming ints_lt->ko
open Function renaming comp->kq
open PySem.Builtin.Range renaming rangeSize->ku
open PySem.StrLaws renaming found_one->kz
open PySem.W.OpenRow renaming toRowW->kA
open PySem.W.Looks renaming andThen->kK,now->kW,ld->kX
open PySem.Heap.Ns renaming new->kP
open List.Pairwise renaming filter->kR
open PySem.Heap.IsSliceOf renaming new->kS
open PySem.Walks renaming list->kT
noncomputable section
namespace L2
open PySem PySem.Spec PyProof.Rows
theorem head_of {l:cY}{q:aH}{loose:List Str}{H:PySem.W.Hook}{N:Nat}{d:DefRec}{h:List (Str×Expr)}
  (left:PySem.W.LeftO l.row.prog q loose (λ s=>PySem.W.xlAt q [] s&&PySem.W.recOk (PySem.W.RowW.records (kA l.row)) s) H.obs H.val N)
  (B:PySem.W.defOf q l.row.name=some (d,h)) (hp:l.row.prog.theDef l.row.name=some (d.params,d.body,d.scope)) (hk:PySem.W.kwWritten? d.params.kwonlyargs d.params.kw_defaults=some h) (F:(!l.row.writes||l.row.records.isEmpty)=true)
  (k1:l.row.wellSaid=true) (ok:(PySem.W.chainsOk q&&PySem.W.opensWell l.row.prog&&(PySem.W.frees l.row.toRowW&&l.row.within.isEmpty))=true) (hb:l.row.prog.bare) (hw:l.row.toRowW.promised)
  (call:kh q loose (PySem.W.XL q []) H.says l.row.toRowW d h λ f vs=>jW f vs):l.row.Holds :=
 PySem.W.holds_open left H.of H.keeps (λ s e=>PySem.W.xl_of s (g6.mp e).1) PySem.W.XL.keeps B hp hk (λ s e=>PySem.W.recFacts_of (g6.mp e).2) F k1 ok hb hw call
end L2
end
noncomputable section
namespace My
open PySem L2
noncomputable def nmS:Stmt->Bool
 | .Assign [.Name x _] _ _=>decide (x=("__name__":Str))
 | _=>false
noncomputable def vq:aH:={ PySem.Challenge.pw_leasttolls_k18_none_ahead_of_it with main:={ (PySem.Challenge.pw_leasttolls_k18_none_ahead_of_it).main with body:=(PySem.Challenge.pw_leasttolls_k18_none_ahead_of_it).main.body.filter λ s=>!nmS s } }
inductive IsL:cY->Prop|mk:IsL PySem.Challenge.rw_leasttolls_k18_none_ahead_of_it
theorem bW5 {l:cY}(h:IsL l):PySem.Challenge.rw_leasttolls_k18_none_ahead_of_it=l:=by cases h;rfl
noncomputable def lwp:{ l:cY // IsL l }:=by
 refine⟨?p,?h⟩
 case h =>
  have e:PySem.Challenge.rw_leasttolls_k18_none_ahead_of_it=?p:=by
   conv=>lhs;reduce
  exact e▸IsL.mk
theorem ws1:fQ lwp.1=true:=by k_qdec
theorem ws:fQ PySem.Challenge.rw_leasttolls_k18_none_ahead_of_it=true:=by
 rw[bW5 lwp.2];exact ws1
end My
end
section
open PySem PySem.W PyProof.Rows
local macro_rules | `(tactic| o_head $H) => `(tactic| refine L2.head_of (q := My.vq) (loose := []) (H := $H) (N := 4000) (λ w => by kernel_rfl) (by rfl) (by rfl) (by rfl) rfl (by assumption) (by decide +kernel) ⟨rfl, rfl, rfl, rfl, rfl, by decide +kernel⟩ ?_ ?_)
set_option maxRecDepth 100000 in
set_option maxHeartbeats 0 in
noncomputable def My.GT:{ G:Prop // G->PySem.Challenge.rw_leasttolls_k18_none_ahead_of_it.Holds }:=by
 refine⟨?G,?h⟩
 case h =>
  intro g
  w_on;refine holds_law My.ws λ said=>?_;k_head;(focus w_witness2)
  exact g
end
noncomputable section
namespace L2
open PySem PySem.Spec PyProof.Rows
noncomputable abbrev Key:=Sum Int Str
noncomputable def aK8:Key->Value->Bool
 | .inl k,v=>kL k v
 | .inr x,v=>ki x v
noncomputable def cl3 (w:World):Key->Int
 | .inl k=>hashInt k
 | .inr x=>hashStr w x
theorem zf:∀ {k:Key} {v:Value},aK8 k v=true->(∃ i t,k=Sum.inl i/\v=Value.int i t)\/(∃ x t,k=Sum.inr x/\v=Value.str x t)
 | .inl i,v,h=>by
  obtain⟨t,e⟩:=Value.isInt_shape (k:=i) (v:=v) h
  exact .inl ⟨i,t,rfl,e⟩
 | .inr x,v,h=>by
  obtain⟨t,e⟩:=Value.isStrOf_shape (x:=x) (v:=v) h
  exact .inr ⟨x,t,rfl,e⟩
theorem bb9 (i:Int)(t:Tok):aK8 (.inl i) (.int i t)=true:=by simp[aK8,kL]
theorem aY3 (x:Str)(t:Tok):aK8 (.inr x) (.str x t)=true:=by simp[aK8,ki]
theorem bU8 (a b:Int):decide ((Sum.inl a:Key)=Sum.inl b)=(a==b):=by
 by_cases e:a=b
 ·subst e;simp
 ·have h:¬(Sum.inl a:Key)=Sum.inl b:=λ q=>e (Sum.inl.inj q)
  rw[decide_eq_false h]
  exact(beq_eq_false_iff_ne.mpr e).symm
theorem bU9 (a b:Str):decide ((Sum.inr a:Key)=Sum.inr b)=decide (a=b):=by
 by_cases e:a=b
 ·subst e;simp
 ·have h:¬(Sum.inr a:Key)=Sum.inr b:=λ q=>e (Sum.inr.inj q)
  rw[decide_eq_false h,decide_eq_false e]
theorem bK0 (a:Int)(b:Str):decide ((Sum.inl a:Key)=Sum.inr b)=false:=decide_eq_false (λ q=>nomatch q)
theorem bL5 (a:Str)(b:Int):decide ((Sum.inr a:Key)=Sum.inl b)=false:=decide_eq_false (λ q=>nomatch q)
noncomputable def zR (prog:aH)(w:World):kj prog w Key where
 is:=aK8
 hash:=cl3 w
 inj:=λ v a b ha hb=>by
  rcases zf ha with⟨i,t,rfl,rfl⟩|⟨x,t,rfl,rfl⟩
  ·rcases zf hb with⟨j,u,rfl,e⟩|⟨y,u,rfl,e⟩
   ·injection e with e1 _;rw[e1]
   ·exact nomatch e
  ·rcases zf hb with⟨j,u,rfl,e⟩|⟨y,u,rfl,e⟩
   ·exact nomatch e
   ·injection e with e1 _;rw[e1]
 byValue:=λ k v h=>by
  rcases zf h with⟨i,t,rfl,rfl⟩|⟨x,t,rfl,rfl⟩<;>rfl
 pyHash:=λ hv h=>by
  rcases zf hv with⟨i,t,rfl,rfl⟩|⟨x,t,rfl,rfl⟩
  ·exact wpAny_pyHash_int h
  ·exact wpAny_pyHash_str h
 eqBool:=λ hu hv h=>by
  rcases zf hu with⟨i,t,rfl,rfl⟩|⟨x,t,rfl,rfl⟩
  ·rcases zf hv with⟨j,u,rfl,rfl⟩|⟨y,u,rfl,rfl⟩
   ·rw[bU8]at h;exact wpAny_eqBool_int h
   ·rw[bK0]at h;exact iT i t y u _ _ _ _ h
  ·rcases zf hv with⟨j,u,rfl,rfl⟩|⟨y,u,rfl,rfl⟩
   ·rw[bL5]at h;exact iU x t j u _ _ _ _ h
   ·rw[bU9]at h;exact wpAny_eqBool_str h
 «strs»:=λ k x t v h=>by
  rcases zf h with⟨i,u,rfl,e⟩|⟨y,u,rfl,e⟩
  ·exact nomatch e
  ·injection e with e1 _
   subst e1
   cases v<;>rfl
theorem aL4 (prog:aH)(w:World)(i:Int)(t:Tok):(zR prog w).is (.inl i) (.int i t)=true:=bb9 i t
theorem aJ3 (prog:aH)(w:World)(x:Str)(t:Tok):(zR prog w).is (.inr x) (.str x t)=true:=aY3 x t
noncomputable abbrev FK:=Option Key
noncomputable def fIs:FK->Value->Bool
 | none,v=>match v with|.none=>true|_=>false
 | some k,v=>aK8 k v
noncomputable def fH (w:World):FK->Int
 | none=>0xFCA86420
 | some k=>cl3 w k
theorem zM {v:Value}(h:fIs none v=true):v=.none:=by
 cases v with
 | none=>rfl
 | _=>exact nomatch h
theorem aY2 {P:aH}{w:World}{A:aV}{E:Value->af->Prop}{s:af}{Q:Int->af->Prop}(h:Q 0xFCA86420 { s with toks:=s.toks+1 }):wpAny (model P w) A (PySem.pyHash .none) Q E s:=by
 have hT:s.TypeIs .none "NoneType":=rfl
 unfold PySem.pyHash pyHashByItsType
 refine ai (wpAny_cRoomFor_byValue rfl ?_)
 refine ai (cZ hT dr.lookup ?_)
 show wpAny _ _ (if(some (Value.builtin "NoneType.__hash__")==some Value.none)=true then _ else _) Q E s
 rw[if_neg (by rw[ju];exact aX)]
 refine ai (cZ hT dr.lookup ?_)
 show wpAny _ _ (eS .none "__hash__" _ >>= _) Q E s
 refine ai (dg hT dr (cD dr hT F.entry_NoneType_hash
   (show wpAny _ _ (retInt 0xFCA86420) _ _ s from wpAny_ret_mkInt ?_) (F.args_NoneType_hash_1 _)))
 show wpAny _ _ (if _ then _ else _) Q E _
 rw[if_pos (by decide)]
 exact aA h
noncomputable def qI (prog:aH)(w:World):kj prog w FK where
 is:=fIs
 hash:=fH w
 inj:=λ v a b ha hb=>by
  cases a with
  | none =>
   cases zM ha
   cases b with
   | none=>rfl
   | some k=>rcases zf hb with⟨_,_,_,e⟩|⟨_,_,_,e⟩<;>exact nomatch e
  | some k =>
   cases b with
   | none=>cases zM hb;rcases zf ha with⟨_,_,_,e⟩|⟨_,_,_,e⟩<;>exact nomatch e
   | some j=>exact congrArg some ((zR prog w).inj v k j ha hb)
 byValue:=λ k v h=>by
  cases k with
  | none=>cases zM h;rfl
  | some k=>exact(zR prog w).byValue k v h
 pyHash:=λ {A E s k v Q} hv h=>by
  cases k with
  | none=>cases zM hv;exact aY2 h
  | some k=>exact(zR prog w).pyHash (k:=k) hv h
 eqBool:=λ {A E s a b u v Q} hu hv h=>by
  cases a with
  | none =>
   cases zM hu
   cases b with
   | none=>cases zM hv;exact dI _ prog w E Q h
   | some k =>
    rcases zf hv with⟨i,t,rfl,rfl⟩|⟨x,t,rfl,rfl⟩
    ·exact iB i t _ _ _ _ h
    ·exact iC x t _ _ _ _ h
  | some k =>
   cases b with
   | none =>
    cases zM hv
    rcases zf hu with⟨i,t,rfl,rfl⟩|⟨x,t,rfl,rfl⟩
    ·exact iD i t _ _ _ _ h
    ·exact iE x t _ _ _ _ h
   | some j =>
    refine(zR prog w).eqBool (a:=k) (b:=j) hu hv ?_
    have e:decide (k=j)=decide (some k=some j):=by simp
    rw[e];exact h
 «strs»:=λ k x t v h=>by
  cases k with
  | none=>exact nomatch zM h
  | some k=>exact(zR prog w).strs k x t v h
noncomputable abbrev NI:=Sum FK (List FK)
section
variable (P:aH) (w:World)
noncomputable def NIs (h:Heap):NI->Value->Prop
 | .inl f,v=>fIs f v=true
 | .inr l,v=>∃ b,v=.ref b/\dL (qI P w) h l b
def bq9 (h:Heap)(ks:List NI)(a:Addr):Prop:=∃ o its n,h.get? a=some o/\o.cls=.type "tuple"/\o.data=.seq its n/\cR (NIs P w h) ks its.toList
noncomputable def aH4:NI->Int
 | .inl f=>fH w f
 | .inr l=>tupleKeyHash (qI P w) l
noncomputable def aR9:NI->Nat
 | .inl f=>1
 | .inr l=>l.length+1
noncomputable def qR:List NI->Nat
 | []=>0
 | k::ks=>aR9 k+qR ks
end
section
variable {P:aH} {w:World} {h h':Heap}
theorem NIs.inj {x y:NI}{v:Value}(hx:NIs P w h x v)(hy:NIs P w h y v):x=y:=by
 cases x with
 | inl f =>
  cases y with
  | inl g=>exact congrArg Sum.inl ((qI P w).inj v f g hx hy)
  | inr l =>
   obtain⟨b,rfl,_⟩:=hy
   exact absurd ((qI P w).byValue f _ hx) (by nofun)
 | inr l =>
  obtain⟨b,rfl,hb⟩:=hx
  cases y with
  | inl g=>exact absurd ((qI P w).byValue g _ hy) (by nofun)
  | inr m =>
   obtain⟨c,e,hc⟩:=hy
   cases e
   exact congrArg Sum.inr (hb.inj hc)
theorem NIs.all_inj:∀ {x y:List NI} {vs:List Value},cR (NIs P w h) x vs->cR (NIs P w h) y vs->x=y
 | _,_,_,.nil,.nil=>rfl
 | _,_,_,.cons a p,.cons b q=>by rw[a.inj b,NIs.all_inj p q]
theorem bq9.inj {a:Addr}{x y:List NI}(hx:bq9 P w h x a)(hy:bq9 P w h y a):x=y:=by
 obtain⟨o,i,n,e,_,d,p⟩:=hx
 obtain⟨F,G,J,e',_,d',B⟩:=hy
 rw[e]at e';cases e'
 rw[d]at d';cases d'
 exact NIs.all_inj p B
theorem NIs.keep {x:NI}{v:Value}(k:∀ b l,dL (qI P w) h l b->dL (qI P w) h' l b)(hx:NIs P w h x v):NIs P w h' x v:=by
 cases x with
 | inl f=>exact hx
 | inr l=>obtain⟨b,e,p⟩:=hx;exact⟨b,e,k _ _ p⟩
theorem bF3 {A:aV}{E:Value->af->Prop}{s:af}{k:List NI}{a:Addr}{Q:Int->af->Prop}(hu:A.units+1<cLine)(hk:bq9 P w s.heap k a)
  (h:Q (jX (bI (k.map (aH4 P w)))) { s with toks:=s.toks+(qR k+1) }):wpAny (model P w) A (PySem.pyHash (.ref a)) Q E s:=by
 obtain⟨o,its,n,e,c,d,p⟩:=hk
 have hT:s.TypeIs (.ref a) "tuple":=⟨o,e,c⟩
 unfold PySem.pyHash pyHashByItsType
 refine ai (wpAny_cRoomFor (by omega) ?_)
 refine ai (cZ hT dS.lookup ?_)
 show wpAny _ _ (if(some (Value.builtin "tuple.__hash__")==some Value.none)=true then _ else _) Q E s
 rw[if_neg (by rw[ju];nofun)]
 refine ai (cZ hT dS.lookup ?_)
 show wpAny _ _ (eS (.ref a) "__hash__" _ >>= _) Q E s
 refine ai (dg hT dS (cD dS hT F.entry_tuple_hash ?_ (F.args_tuple_hash_1 _)))
 show wpAny _ _ (cF (.ref a) >>= _) _ _ s
 refine ai (wpAny_tupleItemsOf e d (ai ?_))
 rw[<-fi]
 refine eF _
  (λ rest (b:Array Int) s'=>∃ q r,k=q++r/\cR (NIs P w s.heap) r rest/\b.toList=q.map (aH4 P w)/\s'={ s with toks:=s.toks+qR q }) _ ?_ ?_ _ _ ⟨[],k,rfl,p,rfl,rfl⟩
 ·rintro x rest b s' ⟨q,r,rfl,pr,hb,rfl⟩
  cases pr with
  | @cons u _ r' _ h1 t =>
   have B:∀ q:List NI,qR (q++[u])=qR q+aR9 u:=λ q=>by
    induction q with
    | nil=>simp[qR]
    | cons c q ih=>rw[bX,qR,qR,ih];omega
   refine ai ?_
   cases u with
   | inl f =>
    refine(qI P w).pyHash (k:=f) h1 ?_
    first
     | exact aA ⟨q++[.inl f],r',by simp,t,by simp[hb];rfl,by rw[B];simp[aR9,c9]⟩
     | exact ai (aA (aA ⟨q++[.inl f],r',by simp,t,by simp[hb];rfl,by rw[B];simp[aR9,c9]⟩))
   | inr l =>
    obtain⟨J,rfl,G⟩:=h1
    refine wpAny_pyHash_tuple (knd:=qI P w) (ks:=l) (s:={ s with toks:=s.toks+qR q }) (show A.units+1<cLine from hu) G ?_
    first
     | exact aA ⟨q++[.inr l],r',by simp,t,by simp[hb];rfl,by rw[B];simp[aR9,c9]⟩
     | exact ai (aA (aA ⟨q++[.inr l],r',by simp,t,by simp[hb];rfl,by rw[B];simp[aR9,c9]⟩))
 ·rintro b s' ⟨q,r,rfl,pr,hb,rfl⟩
  cases pr
  rw[bv]at h
  show wpAny _ _ (retInt (bI b.toList)) _ _ _
  rw[hb]
  refine wpAny_ret_mkInt ?_
  show wpAny _ _ (if(decide (-(2:Int)^63<=bI (q.map (aH4 P w)))&&decide (bI (q.map (aH4 P w))<2^63))=true then _ else _) Q E _
  unfold jX at h
  by_cases hr:(decide (-(2:Int)^63<=bI (q.map (aH4 P w)))&&decide (bI (q.map (aH4 P w))<2^63))=true
  ·rw[if_pos hr]at h ⊢
   exact aA (by simpa [c9]using h)
  ·rw[if_neg hr]at h ⊢
   exact ai (eG (aA (by simpa [c9]using h)))
theorem aO8 {l:List FK}{b:Addr}(x:dL (qI P w) h l b):∃ its,h.IsTuple b its:=let⟨o,its,n,e,c,d,_⟩:=x;⟨its,o,e,c,n,d⟩
theorem ItemsAre.cg {B:aH}{F:World}:∀ {l:List FK} {vs:List Value},ItemsAre (qI P w) l vs->ItemsAre (qI B F) l vs
 | _,_,.nil=>.nil
 | _,_,.cons h t=>.cons (show fIs _ _=true from h) (ItemsAre.cg t)
theorem dL.cg {B:aH}{F:World}{l:List FK}{b:Addr}:dL (qI P w) h l b->dL (qI B F) h l b:=λ⟨o,i,n,e,c,d,p⟩=>⟨o,i,n,e,c,d,ItemsAre.cg p⟩
theorem NIs.cg {B:aH}{F:World}{x:NI}{v:Value}(hx:NIs P w h x v):NIs B F h x v:=by
 cases x with
 | inl f=>exact hx
 | inr l=>obtain⟨b,e,p⟩:=hx;exact⟨b,e,dL.cg p⟩
theorem cd0 {A:aV}{s:af}{x y:NI}{u v:Value}(hu:A.units<cLine)(hx:NIs P w s.heap x u)(hy:NIs P w s.heap y v){E:Value->af->Prop}{Q:Bool->af->Prop}(h:Q (decide (x=y)) s):wpAny (model P w) A (PySem.eqBool u v) Q E s:=by
 cases x with
 | inl f =>
  cases y with
  | inl g =>
   refine(qI P w).eqBool (a:=f) (b:=g) hx hy ?_
   have e:decide (f=g)=decide ((Sum.inl f:NI)=Sum.inl g):=by simp
   rw[e];exact h
  | inr l =>
   obtain⟨b,rfl,hb⟩:=hy
   obtain⟨its,B⟩:=aO8 hb
   cases f with
   | none=>cases zM hx;exact gP B hu _ _ _ _ h
   | some k =>
    rcases zf hx with⟨i,t,rfl,rfl⟩|⟨z,t,rfl,rfl⟩
    ·exact g7 i t B hu _ _ _ _ h
    ·exact g8 z t B hu _ _ _ _ h
 | inr l =>
  obtain⟨b,rfl,hb⟩:=hx
  cases y with
  | inl f =>
   obtain⟨its,B⟩:=aO8 hb
   cases f with
   | none=>cases zM hy;exact gQ B hu _ _ _ _ h
   | some k =>
    rcases zf hy with⟨i,t,rfl,rfl⟩|⟨z,t,rfl,rfl⟩
    ·exact g9 i t B hu _ _ _ _ h
    ·exact hG z t B hu _ _ _ _ h
  | inr m =>
   obtain⟨c,rfl,hc⟩:=hy
   refine wpAny_eqBool_tuple hu hb hc ?_
   have e:decide (l=m)=decide ((Sum.inr l:NI)=Sum.inr m):=by simp
   rw[e];exact h
theorem bc2:∀(x y:List NI),((a7 (min x.length y.length)).all (λ j=>decide (x[j]?=y[j]?))&&x.length==y.length)=decide (x=y)
 | [],[]=>rfl
 | [],_::_=>by simp
 | _::_,[]=>by simp
 | a::x,b::y=>by
  have h:=bc2 x y
  have hm:min (a::x).length (b::y).length=min x.length y.length+1:=by simp only[bq];omega
  rw[hm,gj,dF,kB]
  by_cases e:a=b
  ·subst e
   have:decide (a::x=a::y)=decide (x=y):=by simp
   rw[this,<-h]
   simp[Function.comp_def]
  ·have:decide ((a::x)[0]?=(b::y)[0]?)=false:=by simp[e]
   rw[this];simp[e]
theorem bx5 {α β:Type}{F:α->β->Prop}:∀ {B:List α} {l₂:List β},cR F B l₂->∀(j:Nat) (h:j<l₂.length),∃ a,B[j]?=some a/\F a l₂[j]
 | _,_,.nil,j,h=>absurd h (jN _)
 | _,_,.cons r t,0,h=>⟨_,rfl,r⟩
 | _,_,.cons r t,j+1,h=>bx5 t j (Nat.lt_of_succ_lt_succ h)
theorem ch6 {A:aV}{E:Value->af->Prop}{s:af}{x y:List NI}{a b:Addr}{Q:Bool->af->Prop}(hu:A.units+1<cLine)(hx:bq9 P w s.heap x a)(hy:bq9 P w s.heap y b)(h:Q (decide (x=y)) s) :
  wpAny (model P w) A (PySem.eqBool (.ref a) (.ref b)) Q E s:=by
 by_cases hab:a=b
 ·subst hab
  cases hx.inj hy
  rw[decide_eq_true rfl]at h
  exact dI _ _ _ _ _ h
 ·obtain⟨o,i,n,e,c,d,p⟩:=hx
  obtain⟨Y,i',n',e',G,d',F⟩:=hy
  have l1:x.length=i.size:=eP p
  have Z:y.length=i'.size:=eP F
  have key:=jb (A:=A) (s:=s) (e:=λ j=>decide (x[j]?=y[j]?)) ⟨o,e,c,n,d⟩ ⟨Y,e',G,n',d'⟩ (by omega) λ j h1 h2 prog J E' Q' B=>by
   obtain⟨u,q1,q2⟩:=bx5 p j (by rw[cQ];exact h1)
   obtain⟨v,r1,r2⟩:=bx5 F j (by rw[cQ];exact h2)
   refine cd0 (P:=prog) (w:=J) (x:=u) (y:=v) (show A.units+1<cLine from hu) (NIs.cg (by simpa using q2)) (NIs.cg (by simpa using r2)) ?_
   rw[q1,r1]at B
   have e:decide (u=v)=decide (some u=some v):=by simp
   rw[e];exact B
  rw[<-l1,<-Z,bc2]at key
  exact fj hab key P w E Q h
theorem aV1 {A:aV}{E:Value->af->Prop}{s:af}{x:NI}{v:Value}{Q:Bool->af->Prop}(hx:NIs P w s.heap x v)(h:Q true s):wpAny (model P w) A (jv 7 v) Q E s:=by
 cases x with
 | inl f=>rw[jc _ ((qI P w).byValue f _ hx)];exact aA h
 | inr l =>
  obtain⟨b,rfl,o,its,n,e,c,d,p⟩:=hx
  have hT:s.TypeIs (.ref b) "tuple":=⟨o,e,c⟩
  unfold jv
  refine ai (cZ hT jO.lookup ?_)
  show wpAny _ _ (isInstance (.ref b) (.type "tuple") >>= _) _ _ s
  refine ai (jw hT gR ?_)
  simp only[au,ag,if_false]
  refine ai (cS e d (ai ?_))
  show wpAny _ _ (forIn its _ _) _ _ s
  rw[<-fi]
  refine eF _ (λ rest r s'=>r.1=none/\s'=s/\∀ v∈rest,carriedByValue v=true) _ ?_ ?_ _ _ ⟨rfl,rfl,p.byValue⟩
  ·rintro v rest r s' ⟨hr,rfl,al⟩
   rw[jc _ (al v aD)]
   refine ai (aA ?_)
   simp only[au,ag,if_false]
   exact aA ⟨rfl,rfl,λ u q=>al u (ao _ q)⟩
  ·rintro⟨r1,r2⟩ s' ⟨hr,rfl,_⟩
   simp only at hr
   subst hr
   exact aA h
theorem bn7 {A:aV}{E:Value->af->Prop}{s:af}{k:List NI}{a:Addr}{Q:Bool->af->Prop}(hk:bq9 P w s.heap k a)(h:Q true s):wpAny (model P w) A (jv 8 (.ref a)) Q E s:=by
 obtain⟨o,its,n,e,c,d,p⟩:=hk
 have hT:s.TypeIs (.ref a) "tuple":=⟨o,e,c⟩
 unfold jv
 refine ai (cZ hT jO.lookup ?_)
 show wpAny _ _ (isInstance (.ref a) (.type "tuple") >>= _) _ _ s
 refine ai (jw hT gR ?_)
 simp only[au,ag,if_false]
 refine ai (cS e d (ai ?_))
 show wpAny _ _ (forIn its _ _) _ _ s
 rw[<-fi]
 refine eF _ (λ rest r s'=>r.1=none/\s'=s/\∃ ks,cR (NIs P w s.heap) ks rest) _ ?_ ?_ _ _ ⟨rfl,rfl,k,p⟩
 ·rintro v rest r s' ⟨hr,rfl,ks,al⟩
  cases al with
  | cons h1 t =>
   refine ai (aV1 h1 ?_)
   simp only[au,ag,if_false]
   exact aA ⟨rfl,rfl,_,t⟩
 ·rintro⟨r1,r2⟩ s' ⟨hr,rfl,_⟩
  simp only at hr
  subst hr
  exact aA h
end
noncomputable def aw6 (P:aH)(w:World):HeapKind P w (List NI) where
 is:=bq9 P w
 hash:=λ k=>jX (bI (k.map (aH4 P w)))
 draws:=λ k=>qR k+1
 room:=λ A=>A.units+1<cLine
 inj:=λ hx hy=>hx.inj hy
 keeps:=λ {h h' k a d o es ep} x ho hd hs=>by
  obtain⟨o',i,n,e,c,q,p⟩:=x
  have ne:a≠d:=by
   rintro rfl
   rw[e]at ho;cases ho
   rw[hd]at q;cases q
  exact⟨o',i,n,(hs.2 a ne).trans e,c,q,kM (λ x v z=>NIs.keep (λ b l t=>t.keeps ho hd hs) z) p⟩
 pyHash:=λ hu hk h=>bF3 hu hk h
 eqBool:=λ hu hx hy h=>ch6 hu hx hy h
 quiet:=λ hk h=>bn7 hk h
inductive V where
 | non|bl (b:Bool)|int (i:Int)|str (x:Str)|byt (b:Array UInt8)|flt (b:UInt64)|ref (a:Addr)|ty (n:String)
 deriving DecidableEq
noncomputable def RelV:V->Value->Prop
 | .non,u=>u=Value.none
 | .bl b,u=>u=Value.bool b
 | .int i,u=>∃ t,u=Value.int i t
 | .str x,u=>∃ t,u=Value.str x t
 | .byt b,u=>∃ t,u=Value.bytes b t
 | .flt b,u=>∃ t,u=Value.float b t
 | .ref a,u=>u=Value.ref a
 | .ty n,u=>u=Value.type n
abbrev Vals:List V->List Value->Prop:=cR RelV
theorem Vals.length {h:List V}{us:List Value}(r:Vals h us):h.length=us.length:=eP r
theorem Vals.get:∀ {h:List V} {us:List Value} {i:Nat} {x:V},Vals h us->h[i]?=some x->∃ u,us[i]?=some u/\RelV x u
 | _,_,_,_,.nil,e=>by simp at e
 | _,_,0,_,.cons r _,e=>by simp at e;subst e;exact⟨_,rfl,r⟩
 | _,_,i+1,x,.cons _ t,e=>by
  obtain⟨u,F,B⟩:=Vals.get (i:=i) (x:=x) t (by simpa using e)
  exact⟨u,by simpa using F,B⟩
theorem Vals.set {x:V}{u:Value}(r:RelV x u):∀ {h:List V} {us:List Value} (i:Nat),Vals h us->Vals (h.set i x) (us.set i u)
 | _,_,_,.nil=>.nil
 | _,_,0,.cons _ t=>.cons r t
 | _,_,i+1,.cons q t=>.cons q (Vals.set r i t)
theorem Vals.append:∀ {h ys:List V} {us ws:List Value},Vals h us->Vals ys ws->Vals (h++ys) (us++ws)
 | _,_,_,_,.nil,s=>s
 | _,_,_,_,.cons r t,s=>.cons r (Vals.append t s)
theorem Vals.take:∀ {h:List V} {us:List Value} (n:Nat),Vals h us->Vals (h.take n) (us.take n)
 | _,_,0,_=>.nil
 | _,_,_+1,.nil=>.nil
 | _,_,n+1,.cons r t=>.cons r (Vals.take n t)
theorem Vals.drop:∀ {h:List V} {us:List Value} (n:Nat),Vals h us->Vals (h.drop n) (us.drop n)
 | _,_,0,r=>r
 | _,_,_+1,.nil=>.nil
 | _,_,n+1,.cons _ t=>Vals.drop n t
noncomputable def aU6:Option V->Option Value->Prop
 | some v,some u=>RelV v u
 | none,none=>True
 | _,_=>False
def KV {κ:Type}:List (κ×V)->List (κ×Value)->Prop:=cR λ(p:κ×V) (q:κ×Value)=>p.1=q.1/\RelV p.2 q.2
noncomputable def kV:Key->V
 | .inl i=>.int i
 | .inr x=>.str x
inductive HO where
 | lst (xs:List V)
 | tup (xs:List V)
 | dK (kvs:List (Key×V))|dT (kvs:List (List NI×V))
 | set (S:Int->Bool) (n:Nat)
 | ins (C dx:Addr) (fs:List (Str×V))
 | own (x:Addr)
 | xd (fs:List (Str×V))
 | met (f x:Addr)
 | rng (lo hi:Int)
 | frz (o:Obj) (u:HO)
 | tbl (ps:Array Value)
 | ext (φ:Heap->Prop)
noncomputable abbrev Hp:=Addr->Option HO
noncomputable def fV:FK->V
 | none=>.non
 | some k=>kV k
noncomputable def NAt (H:Hp):NI->V->Prop
 | .inl f,v=>v=fV f
 | .inr l,v=>∃ c,v=.ref c/\H c=some (.tup (l.map fV))
def NK (H:Hp)(k:List NI)(b:Addr):Prop:=∃ xs,H b=some (.tup xs)/\cR (NAt H) k xs
theorem NAt.mono {H H':Hp}{k:NI}{v:V}(F:∀ b B,H b=some (.tup B)->H' b=some (.tup B))(h:NAt H k v):NAt H' k v:=by
 cases k with
 | inl f=>exact h
 | inr l=>obtain⟨c,e,q⟩:=h;exact⟨c,e,F _ _ q⟩
theorem NK.mono {H H':Hp}{k:List NI}{b:Addr}(F:∀ b B,H b=some (.tup B)->H' b=some (.tup B))(h:NK H k b):NK H' k b:=let⟨B,e,p⟩:=h;⟨B,F _ _ e,kM (λ _ _ z=>z.mono F) p⟩
noncomputable def upd (H:Hp)(a:Addr)(o:HO):Hp:=λ b=>if b=a then some o else H b
theorem zx {H:Hp}{a:Addr}{o:HO}:upd H a o a=some o:=by unfold upd;rw[if_pos rfl]
theorem zm {H:Hp}{a b:Addr}{o:HO}(h:b≠a):upd H a o b=H b:=by unfold upd;rw[if_neg h]
theorem bY0 {H:Hp}{a b:Addr}{o u:HO}(h:H a=some o)(h':H b=some u)(d:o≠u):a≠b:=by
 intro e;subst e;rw[h]at h';exact d (aE h')
theorem zr {H:Hp}{a b:Addr}{o:HO}(h:H a=some o)(h':H b=none):a≠b:=by
 intro e;subst e;rw[h]at h';cases h'
section
variable (P:aH) (w:World)
noncomputable def ai3 (H:Hp)(h:Heap)(a:Addr):HO->Prop
 | .lst xs=>xs.length<=aO/\∃(its:List Value) (n:Nat),Vals xs its/\h.get? a=some { cls:=.type "list",data:=.seq its.toArray n }
 | .tup xs=>xs.length<=aO/\∃ its:List Value,Vals xs its/\IsTup h a its.toArray
 | .dK kvs=>kvs.length<=aO/\(a==dt)=false/\∃ vs,KV kvs vs/\h.DictOf (zR P w) a vs
 | .dT kvs=>kvs.length<=aO/\(a==dt)=false/\∃ xs:List (List NI×Addr×Value),
   cR (λ(p:List NI×V) (q:List NI×Addr×Value)=>p.1=q.1/\NK H p.1 q.2.1/\RelV p.2 q.2.2) kvs xs /\
   ∃ o es ep,h.get? a=some o/\o.ExactDict/\o.data=.dict es ep/\es.toList=xs.map (entryOfKey (aw6 P w))/\(xs.map (·.1)).Nodup
 | .set S n=>h.SetOf (intKind P w) a S n
 | .ins C dx fs=>H dx=some (.own a)/\fs.length<=1000/\dx≠a/\h.get? a=some (gJ C dx) /\
   ∃ mA,h.Ns1 dx mA/\(∀ f,aU6 (fs.lookup f) (mA f))/\kC mA (fs.map (·.1))
 | .own _=>∃ o,h.get? a=some o
 | .xd fs=>∃ mA,h.Ns1 a mA/\∀ f,aU6 (fs.lookup f) (mA f)
 | .rng lo hi=>∃ t u v,h.get? a=some { cls:=.type "range",data:=.fields #[.int lo t,.int hi u,.int 1 v] }
 | .frz o u=>h.get? a=some o/\ai3 H h a u
 | .tbl ps=>h.get? a=some { cls:=.none,data:=.fields ps }
 | .met f x=>h.get? a=some (fF (.ref f) (.ref x))
 | .ext φ=>φ h/\(∃ o,h.get? a=some o)/\∀ h1 h2:Heap,φ h1->(∀ o,h1.get? a=some o->h2.get? a=some o)->φ h2
def HOk (H:Hp)(h:Heap):Prop:=∀ a o,H a=some o->ai3 P w H h a o
end
section
variable {P:aH} {w:World} {H H':Hp} {h h':Heap} {a:Addr} {o:HO}
theorem ai3.lt (x:ai3 P w H h a o):a<h.objs.size:=by
 cases o with
 | lst xs=>obtain⟨_,_,_,_,e⟩:=x;exact aM e
 | tup xs=>obtain⟨_,_,_,p⟩:=x;exact p.lt
 | dK kvs=>obtain⟨_,_,_,_,o,_,_,e,_⟩:=x;exact aM e
 | dT kvs=>obtain⟨_,_,_,_,o,_,_,e,_⟩:=x;exact aM e
 | set S n=>obtain⟨o,_,_,_,e,_⟩:=x;exact aM e
 | ins C dx fs=>obtain⟨_,_,_,e,_⟩:=x;exact aM e
 | own y=>obtain⟨_,e⟩:=x;exact aM e
 | xd fs=>obtain⟨_,⟨_,_,_,e,_⟩,_⟩:=x;exact aM e
 | rng lo hi=>obtain⟨_,_,_,e⟩:=x;exact aM e
 | frz ob u=>obtain⟨e,_⟩:=x;exact aM e
 | tbl ps=>exact aM (show h.get? a=some _ from x)
 | met f y=>exact aM (show h.get? a=some _ from x)
 | ext φ=>obtain⟨_,⟨_,e⟩,_⟩:=x;exact aM e
theorem cR.mapP {α β:Type}{F G:α->β->Prop}:∀ {h:List α} {l₂:List β},cR F h l₂->(∀ a b,F a b->G a b)->cR G h l₂
 | _,_,.nil,_=>.nil
 | _,_,.cons r t,f=>.cons (f _ _ r) (cR.mapP t f)
theorem ai3.stay (x:ai3 P w H h a o)(k:∀ b u,(b=a\/H b=some (.own a))->h.get? b=some u->h'.get? b=some u)
  (ho:∀ b,H b=some (.own a)->H' b=some (.own a)) (G:∀ b B,H b=some (.tup B)->H' b=some (.tup B)):ai3 P w H' h' a o:=by
 induction o with
 | lst B=>obtain⟨z,its,n,r,e⟩:=x;exact⟨z,its,n,r,k _ _ (.inl rfl) e⟩
 | tup B=>obtain⟨z,its,r,ob,e,c⟩:=x;exact⟨z,its,r,ob,k _ _ (.inl rfl) e,c⟩
 | dK kvs=>obtain⟨z,y,vs,r,ob,es,ep,e,c⟩:=x;exact⟨z,y,vs,r,ob,es,ep,k _ _ (.inl rfl) e,c⟩
 | dT kvs =>
  obtain⟨z,y,B,r,ob,es,ep,e,c⟩:=x
  exact⟨z,y,B,cR.mapP r λ p q z=>⟨z.1,z.2.1.mono G,z.2.2⟩,ob,es,ep,k _ _ (.inl rfl) e,c⟩
 | set S n=>obtain⟨ob,es,ep,t,e,c⟩:=x;exact⟨ob,es,ep,t,k _ _ (.inl rfl) e,c⟩
 | ins C dx fs =>
  obtain⟨d,z,ne,e,F,⟨od,es,ep,e2,c⟩,r⟩:=x
  exact⟨ho _ d,z,ne,k _ _ (.inl rfl) e,F,⟨od,es,ep,k _ _ (.inr d) e2,c⟩,r⟩
 | own y=>obtain⟨ob,e⟩:=x;exact⟨ob,k _ _ (.inl rfl) e⟩
 | xd fs=>obtain⟨F,⟨od,es,ep,e,c⟩,r⟩:=x;exact⟨F,⟨od,es,ep,k _ _ (.inl rfl) e,c⟩,r⟩
 | rng lo hi=>obtain⟨t,u,v,e⟩:=x;exact⟨t,u,v,k _ _ (.inl rfl) e⟩
 | frz ob u ih=>obtain⟨e,q⟩:=x;exact⟨k _ _ (.inl rfl) e,ih q⟩
 | tbl ps =>
  have e:h.get? a=some { cls:=.none,data:=.fields ps }:=x
  show h'.get? a=some { cls:=.none,data:=.fields ps }
  exact k a _ (.inl rfl) e
 | met f y =>
  have e:h.get? a=some (fF (.ref f) (.ref y)):=x
  show h'.get? a=some (fF (.ref f) (.ref y))
  exact k a _ (.inl rfl) e
 | ext φ=>obtain⟨p,⟨o,e⟩,st⟩:=x;exact⟨st _ _ p λ o q=>k _ _ (.inl rfl) q,⟨o,k _ _ (.inl rfl) e⟩,st⟩
theorem HOk.lt (x:HOk P w H h)(e:H a=some o):a<h.objs.size:=(x a o e).lt
theorem HOk.fresh (x:HOk P w H h)(e:h.objs.size<=a):H a=none:=by
 cases q:H a with
 | none=>rfl
 | some u=>exact absurd (aG (x.lt q) e) (bC _)
theorem HOk.kept (x:HOk P w H h)(k:∀ b u,h.get? b=some u->h'.get? b=some u):HOk P w H h':=λ a o e =>
 (x a o e).stay (λ b u _ q=>k b u q) (λ _ q=>q) λ _ _ q=>q
theorem HOk.laid (x:HOk P w H h)(k:∀ b u,h.get? b=some u->h'.get? b=some u)(hp:h.objs.size<=a)(new:ai3 P w (upd H a o) h' a o):HOk P w (upd H a o) h':=λ b u e=>by
 have hn:=x.fresh hp
 by_cases hb:b=a
 ·subst hb;rw[zx]at e;cases e;exact new
 ·rw[zm hb]at e
  exact(x b u e).stay (λ c v _ q=>k c v q) (λ c q=>by rw[zm (zr q hn)];exact q) λ c B q=>by rw[zm (zr q hn)];exact q
end
def Rd (H:Hp)(a:Addr)(u:HO):Prop:=H a=some u\/∃ o,H a=some (.frz o u)
theorem Rd.ok {P:aH}{w:World}{H:Hp}{h:Heap}{a:Addr}{u:HO}(r:Rd H a u)(x:HOk P w H h):ai3 P w H h a u:=by
 rcases r with r|⟨o,r⟩
 ·exact x a u r
 ·obtain⟨_,q⟩:=x a _ r
  exact q
noncomputable def Mut:Option HO->Prop
 | some (.lst _)=>True
 | some (.dK _)=>True
 | some (.dT _)=>True
 | some (.set _ _)=>True
 | some (.ins _ _ _)=>True
 | some (.ext _)=>True
 | _=>False
section
variable {P:aH} {w:World} {H:Hp} {h h':Heap} {x e:Addr} {o':HO}
theorem HOk.write (ok:HOk P w H h)(mu:Mut (H x))(he:e=x\/H e=some (.own x))(k:∀ b u,b≠e->h.get? b=some u->h'.get? b=some u)(J:∃ u,h'.get? e=some u)
  (new:ai3 P w (upd H x o') h' x o'):HOk P w (upd H x o') h':=λ b u q=>by
 have B:∀ c y,H c=some (.own y)->c≠x:=λ c y r z=>by subst z;rw[r]at mu;exact mu
 have F:∀ c G,H c=some (.tup G)->c≠x:=λ c G r z=>by subst z;rw[r]at mu;exact mu
 by_cases hb:b=x
 ·subst hb;rw[zx]at q;cases q;exact new
 ·rw[zm hb]at q
  by_cases hbe:b=e
  ·have Y:H b=some (.own x):=by
    rcases he with z|z
    ·exact absurd (hbe.trans z) hb
    ·rw[hbe];exact z
   rw[q]at Y;cases Y
   obtain⟨v,hv⟩:=J
   exact⟨v,by rw[hbe];exact hv⟩
  ·refine(ok b u q).stay (λ c v hc r=>k c v ?_ r) (λ c r=>by rw[zm (B c b r)];exact r) λ c G r=>by rw[zm (F c G r)];exact r
   rcases hc with rfl|hc
   ·exact hbe
   ·rintro rfl
    rcases he with z|z
    ·exact B c b hc z
    ·rw[hc]at z;cases z;exact hb rfl
end
structure Un (fs ex:List Addr)(H H':Hp)(h h':Heap):Prop where
 keep:∀ b o,h.get? b=some o->H b=none->b ∉ fs->b ∉ ex->h'.get? b=some o
 slot:∀ b o,h.get? b=some o->H b=none->b∈fs->b ∉ ex->∃ sl,h'.get? b=some { o with slots:=sl }
 free:∀ b o,h.get? b=some o->H b=none->b ∉ ex->H' b=none
 there:∀ b o,h.get? b=some o->b ∉ ex->∃ o',h'.get? b=some o'
 tups:∀ b xs,H b=some (.tup xs)->H' b=some (.tup xs)
 frzs:∀ b o u,H b=some (.frz o u)->H' b=some (.frz o u)
 tbls:∀ b ps,H b=some (.tbl ps)->∃ more,H' b=some (.tbl (ps++more))
section
variable {fs fs' ex ex':List Addr} {H H1 H2:Hp} {h h1 h2 h':Heap} {a x e:Addr} {o:HO}
theorem Un.any (u:Un fs ex H H1 h h1){b:Addr}{ob:Obj}(q:h.get? b=some ob)(n:H b=none)(hx:b ∉ ex):∃ sl,h1.get? b=some { ob with slots:=sl }:=by
 by_cases hb:b∈fs
 ·exact u.slot b ob q n hb hx
 ·exact⟨ob.slots,u.keep b ob q n hb hx⟩
theorem Un.kept (k:∀ b u,h.get? b=some u->h'.get? b=some u):Un fs ex H H h h' :=
 ⟨λ b ob q _ _ _=>k b ob q,λ b ob q _ _ _=>⟨ob.slots,k b ob q⟩,λ _ _ _ n _=>n,λ b ob q _=>⟨ob,k b ob q⟩,λ _ _ q=>q,λ _ _ _ q=>q,λ _ ps q=>⟨#[],by rw[q];simp⟩⟩
theorem Un.refl:Un fs ex H H h h:=Un.kept λ _ _ q=>q
theorem Un.laid (k:∀ b u,h.get? b=some u->h'.get? b=some u)(hp:h.objs.size<=a)(hn:H a=none):Un fs ex H (upd H a o) h h' where
 keep:=λ b u q _ _ _=>k b u q
 slot:=λ b u q _ _ _=>⟨u.slots,k b u q⟩
 free:=λ b u q n _=>by rw[zm (aJ (aG (aM q) hp))];exact n
 there:=λ b u q _=>⟨u,k b u q⟩
 tups:=λ b B q=>by rw[zm (zr q hn)];exact q
 frzs:=λ b u B q=>by rw[zm (zr q hn)];exact q
 tbls:=λ b ps q=>⟨#[],by rw[zm (zr q hn),q];simp⟩
theorem Un.write (mu:Mut (H x))(he:e=x\/H e=some (.own x))(k:∀ b u,b≠e->h.get? b=some u->h'.get? b=some u)(B:∃ u,h'.get? e=some u):Un fs ex H (upd H x o) h h':=by
 have hx:∀ b,H b=none->b≠x:=λ b n z=>by subst z;rw[n]at mu;exact mu
 have hb:∀ b,H b=none->b≠e:=λ b n z=>by
  subst z
  rcases he with r|r
  ·exact hx b n r
  ·rw[n]at r;cases r
 have hm:∀ b u,H b=some u->¬ Mut (some u)->b≠x:=λ b u q nm z=>by subst z;rw[q]at mu;exact nm mu
 refine⟨λ b u q n _ _=>k b u (hb b n) q,λ b u q n _ _=>⟨u.slots,k b u (hb b n) q⟩,λ b u q n _=>by rw[zm (hx b n)];exact n,λ b u q _=>?_,
  λ b F q=>by rw[zm (hm b _ q λ z=>z)];exact q,λ b u F q=>by rw[zm (hm b _ q λ z=>z)];exact q,λ b ps q=>⟨#[],by rw[zm (hm b _ q λ z=>z),q];simp⟩⟩
 by_cases hbe:b=e
 ·subst hbe;exact B
 ·exact⟨u,k b u hbe q⟩
end
noncomputable def trk (h:Heap)(H:Hp):List Addr:=(a7 h.objs.size).filter λ a=>(H a).isSome
noncomputable def bh8 (h:Heap)(H:Hp):Heap:=PySem.W.hideAll h (trk h H)
theorem ba1 (h:Heap)(H:Hp):(bh8 h H).objs.size=h.objs.size:=PySem.W.hideAll_size _ _
theorem ap5 {h:Heap}{H:Hp}{b:Addr}{o:Obj}(e:h.get? b=some o)(n:H b=none):(bh8 h H).get? b=some o :=
 PySem.W.hideAll_get _ e λ hm=>by
  have q:(H b).isSome=true:=(eX.mp hm).2
  rw[n]at q;simp at q
theorem bw1 {h:Heap}{H:Hp}{b:Addr}{o:Obj}(e:(bh8 h H).get? b=some o):h.get? b=some o/\H b=none:=by
 have e':h.get? b=some o:=PySem.W.of_hideAll (trk h H) e
 refine⟨e',?_⟩
 cases q:H b with
 | none=>rfl
 | some x =>
  have hm:b∈trk h H:=eX.mpr ⟨cr.mpr (aM e'),by simp[q]⟩
  have z:(bh8 h H).get? b=none:=PySem.W.hideAll_none (trk h H) hm
  rw[z]at e;cases e
noncomputable def bw9 (g h:Heap)(L:Addr):List (Addr×Obj):=(a7 h.objs.size).filterMap λ a=>if a=L\/(g.get? a).isSome=true then none else(h.get? a).map λ o=>(a,o)
noncomputable def rest (g h:Heap)(L d:Addr):List (Addr×Obj):=(bw9 g h L).filter λ p=>decide (p.1≠d)
structure Mod (K:ac)(mg:Str->Option Value)(base:Heap):Prop where
 kin:K.In base
 glob:base.Ns bn mg
 blt:∃ mb,base.Ns gk mb/\∀ x:Str,x ≠ "__name__"->mb x=bA x
 nolimit:base.NoLimit
structure Cx where
 prog:aH
 w:World
 K:ac
 mg:Str->Option Value
 base:Heap
 A:aV
 N:List Str
 s₀:af
 H₀:Hp
 env:Env
 outer:List Env
 stack:List Env
 ex:List Addr
 fn:Str->Bool
 calm:Bool
 pn:List (Addr×Obj)
 xe:Value->af->Prop
noncomputable def frs (l:List Env):List Addr:=l.filterMap (·.frame)
noncomputable abbrev Cx.fs (X:Cx):List Addr:=frs X.outer
def Vis (sc:Scope)(x:Str):Prop:=sc.names.lookup x=some .local\/sc.names.lookup x=some .cell\/sc.names.lookup x=some .free
def Loc (sc:Scope)(x:Str):Prop:=sc.names.lookup x=some .local\/sc.names.lookup x=some .cell
def Look (env:Env)(h:Heap)(m:Str->Option Value)(x:Str)(u:Value):Prop :=
 (env.kindOf x=some .local/\m x=some u)\/((env.kindOf x=some .cell\/env.kindOf x=some .free)/\∃ c,env.cells.lookup x=some c/\h.IsCell c (some u))
structure Cx.Ok (X:Cx):Prop where
 mod:Mod X.K X.mg X.base
 kind:X.env.scope.kind=.function
 glob:X.env.globals=bn
 blt:X.env.builtins=gk
 above:X.s₀.heap.objs.size<=X.env.locals
 inj:∀ x y c,X.env.cells.lookup x=some c->X.env.cells.lookup y=some c->x=y
 has:∀ x,(X.env.kindOf x=some .cell\/X.env.kindOf x=some .free)->∃ c,X.env.cells.lookup x=some c
 cab:∀ x c,X.fn x=true->X.env.cells.lookup x=some c->X.s₀.heap.objs.size<=c
 hd:X.calm=true->X.A.handled=none
 frames:X.A.frames=some X.stack
 stk:X.stack=X.outer\/(X.stack=X.env::X.outer/\X.env.frame=some X.env.locals)
 exf:∀ b∈X.ex,b≠X.env.locals/\∀ x c,X.env.cells.lookup x=some c->c≠b
 bs:∀ b o,X.base.get? b=some o->X.s₀.heap.get? b=some o/\X.H₀ b=none
 bsz:X.base.objs.size<=X.s₀.heap.objs.size
 noex:∀ b o,X.base.get? b=some o->b ∉ X.ex
 exfs:∀ b∈X.ex,b ∉ X.fs
 funs:X.s₀.heap.FunFrames X.base X.outer
 frf:∀ b∈X.fs,X.H₀ b=none
structure Inv (X:Cx)(pins:List (Addr×Obj))(σ:List (Option V))(H:Hp)(s:af):Prop where
 ok:X.Ok
 os:s.os=X.s₀.os
 bare:fc s.gens
 base:Un X.fs X.ex X.H₀ H X.s₀.heap s.heap
 loc:∃ m,s.heap.Ns X.env.locals m/\∀(i:Nat) (x:Str) (v:V),X.N[i]?=some x->σ[i]?=some (some v)->Vis X.env.scope x->∃ u,RelV v u/\Look X.env s.heap m x u
 cell:∀ x c,X.env.cells.lookup x=some c->∃ v,s.heap.IsCell c v
 free:H X.env.locals=none
 freeC:∀ x c,X.env.cells.lookup x=some c->H c=none
 pin:∀ p∈X.pn++pins,s.heap.get? p.1=some p.2/\H p.1=none/\p.1≠X.env.locals/\p.1 ∉ X.fs/\∀ v,p.2.data≠.cell v
 hok:HOk X.prog X.w H s.heap
 len:σ.length=X.N.length
section
variable {X:Cx} {pins:List (Addr×Obj)} {σ:List (Option V)} {H H':Hp} {s:af} {h':Heap}
theorem Cx.Ok.nofr (ok:X.Ok){b:Addr}{o:Obj}(e:X.base.get? b=some o):b ∉ X.fs:=λ hb=>by
 have:=(ok.funs.mem hb).1
 rw[e]at this;cases this
theorem Inv.bs (I:Inv X pins σ H s):∀ b o,X.base.get? b=some o->s.heap.get? b=some o/\H b=none:=λ b o e =>
 ⟨I.base.keep b o (I.ok.bs b o e).1 (I.ok.bs b o e).2 (I.ok.nofr e) (I.ok.noex b o e),I.base.free b o (I.ok.bs b o e).1 (I.ok.bs b o e).2 (I.ok.noex b o e)⟩
theorem Inv.bk (I:Inv X pins σ H s):∀ b o,X.base.get? b=some o->s.heap.get? b=some o:=λ b o e=>(I.bs b o e).1
theorem Inv.mod (I:Inv X pins σ H s):Mod X.K X.mg X.base:=I.ok.mod
theorem Inv.kIn (I:Inv X pins σ H s):X.K.In s.heap:=I.ok.mod.kin.keeps I.bk
theorem Inv.nolimit (I:Inv X pins σ H s):s.heap.NoLimit:=I.ok.mod.nolimit.keeps I.bk
theorem Inv.lt (I:Inv X pins σ H s):X.env.locals<s.heap.objs.size:=let⟨_,hn,_⟩:=I.loc;hn.lt
theorem Inv.sz (I:Inv X pins σ H s):X.s₀.heap.objs.size<=s.heap.objs.size:=av I.ok.above (dU I.lt)
theorem Inv.nofs (I:Inv X pins σ H s){a:Addr}(h:s.heap.objs.size<=a):a ∉ X.fs:=λ hb=>by
 obtain⟨_,o,ho,_⟩:=I.ok.funs.mem hb
 exact absurd (aG (aM ho) (av I.sz h)) (bC _)
theorem Inv.cne (I:Inv X pins σ H s):∀ x c,X.env.cells.lookup x=some c->c≠X.env.locals:=λ x c e z=>by
 obtain⟨v,o,ho,hd⟩:=I.cell x c e
 obtain⟨m,⟨F,es,ep,B,h,_⟩,_⟩:=I.loc
 rw[z,B]at ho;cases ho;rw[h]at hd;cases hd
theorem Inv.funs (I:Inv X pins σ H s):s.heap.FunFrames X.base X.outer:=by
 have all:∀(l:List Env),(∀ b∈frs l,b∈X.fs)->X.s₀.heap.FunFrames X.base l->s.heap.FunFrames X.base l:=by
  intro l
  induction l with
  | nil=>intro _ _;trivial
  | cons env r ih =>
   intro hs hl
   obtain⟨hk,⟨L,o,B,hn,ho,hd⟩,hr⟩:=hl
   have h:L∈X.fs:=hs L (by unfold frs;rw[aY,B];exact aD)
   obtain⟨sl,e⟩:=I.base.slot L o ho (I.ok.frf L h) h λ z=>I.ok.exfs L z h
   exact⟨hk,⟨L,_,B,hn,e,hd⟩,ih (λ b hb=>hs b (by unfold frs;rw[aY,B];exact ao _ hb)) hr⟩
 exact all X.outer (λ _ hb=>hb) I.ok.funs
theorem Inv.stack (I:Inv X pins σ H s):s.heap.FunFrames X.base X.stack:=by
 rcases I.ok.stk with e|⟨e,h⟩
 ·rw[e];exact I.funs
 ·rw[e]
  obtain⟨m,hn,_⟩:=I.loc
  refine .cons (by rw[I.ok.kind];decide) h hn ?_ I.funs
  exact Heap.get?_none_of_le (av I.ok.bsz I.ok.above)
theorem Inv.stkSub (I:Inv X pins σ H s):∀ b∈frs X.stack,b∈X.env.locals::X.fs:=λ b hb=>by
 rcases I.ok.stk with e|⟨e,h⟩
 ·rw[e]at hb;exact ao _ hb
 ·rw[e]at hb
  unfold frs at hb
  rw[aY,h]at hb
  exact hb
theorem Inv.stkFree (I:Inv X pins σ H s):∀ b∈frs X.stack,H b=none:=λ b hb=>by
 rcases aI.mp (I.stkSub b hb)with e|hb
 ·rw[e];exact I.free
 ·obtain⟨_,o,ho,_⟩:=I.ok.funs.mem hb
  exact I.base.free b o ho (I.ok.frf b hb) λ z=>I.ok.exfs b z hb
theorem Inv.step {g':Array GenState}{t':Nat}{d':Drawn}{ch:List Addr}(I:Inv X pins σ H s)
  (h:∀ b∈ch,(b∈X.ex\/X.s₀.heap.objs.size<=b)/\b≠X.env.locals/\(∀ x c,X.env.cells.lookup x=some c->c≠b)/\∀ p∈X.pn++pins,p.1≠b)
  (keep:∀ b o,b≠X.env.locals->b ∉ X.fs->b ∉ ch->s.heap.get? b=some o->H b=none->h'.get? b=some o)
  (slot:∀ b o,b≠X.env.locals->b∈X.fs->b ∉ ch->s.heap.get? b=some o->H b=none->∃ sl,h'.get? b=some { o with slots:=sl }) (free:∀ b o,b ∉ ch->s.heap.get? b=some o->H b=none->H' b=none)
  (there:∀ b o,b ∉ ch->s.heap.get? b=some o->∃ Y,h'.get? b=some Y)
  (tups:∀ b J,H b=some (.tup J)->H' b=some (.tup J)) (frzs:∀ b o u,H b=some (.frz o u)->H' b=some (.frz o u)) (tbls:∀ b ps,H b=some (.tbl ps)->∃ a0,H' b=some (.tbl (ps++a0)))
  (ns:∀ m,s.heap.Ns X.env.locals m->h'.Ns X.env.locals m) (hok:HOk X.prog X.w H' h') (hg:fc g') :
  Inv X pins σ H' { s with heap:=h',gens:=g',drawn:=d',toks:=t' }:=by
 have Z:∀ b o,X.s₀.heap.get? b=some o->b≠X.env.locals:=λ b o e=>aJ (aG (aM e) I.ok.above)
 have G:∀ b o,X.s₀.heap.get? b=some o->b ∉ X.ex->b ∉ ch:=λ b o e hx hb=>by
  rcases(h b hb).1 with z|z
  ·exact hx z
  ·exact absurd (aG (aM e) z) (bC _)
 have F:∀ x c,X.env.cells.lookup x=some c->∀ v,s.heap.IsCell c v->h'.IsCell c v:=λ x c e v ⟨o,ho,hd⟩=>by
  have B:c ∉ ch:=λ z=>(h c z).2.2.1 x c e rfl
  by_cases hc:c∈X.fs
  ·obtain⟨sl,q⟩:=slot c o (I.cne x c e) hc B ho (I.freeC x c e)
   exact⟨_,q,hd⟩
  ·exact⟨o,keep c o (I.cne x c e) hc B ho (I.freeC x c e),hd⟩
 refine⟨I.ok,I.os,hg,⟨λ b o e n hb hx=>?_,λ b o e n hb hx=>?_,λ b o e n hx=>?_,λ b o e hx=>?_,λ b J e=>tups b J (I.base.tups b J e),λ b o J e=>frzs b o J (I.base.frzs b o J e),λ b ps e=>?_⟩,?_,λ x c e=>?_,?_,λ x c e=>?_,λ p hp=>?_,hok,I.len⟩
 ·exact keep b o (Z b o e) hb (G b o e hx) (I.base.keep b o e n hb hx) (I.base.free b o e n hx)
 ·obtain⟨sl,e1⟩:=I.base.slot b o e n hb hx
  obtain⟨a1,e2⟩:=slot b _ (Z b o e) hb (G b o e hx) e1 (I.base.free b o e n hx)
  exact⟨a1,e2⟩
 ·obtain⟨Y,e1⟩:=I.base.there b o e hx
  exact free b Y (G b o e hx) e1 (I.base.free b o e n hx)
 ·obtain⟨Y,e1⟩:=I.base.there b o e hx
  exact there b Y (G b o e hx) e1
 ·obtain⟨m1,e1⟩:=I.base.tbls b ps e
  obtain⟨m2,e2⟩:=tbls b _ e1
  exact⟨m1++m2,by rw[e2,iV]⟩
 ·obtain⟨m,hn,hl⟩:=I.loc
  refine⟨m,ns m hn,λ i x v e1 e2 e3=>?_⟩
  obtain⟨u,r,l⟩:=hl i x v e1 e2 e3
  refine⟨u,r,?_⟩
  rcases l with l|⟨k,c,e,z⟩
  ·exact .inl l
  ·exact .inr ⟨k,c,e,F x c e _ z⟩
 ·obtain⟨v,z⟩:=I.cell x c e
  exact⟨v,F x c e v z⟩
 ·obtain⟨m,⟨o,_,_,ho,_⟩,_⟩:=I.loc
  exact free _ o (λ z=>(h _ z).2.1 rfl) ho I.free
 ·obtain⟨v,o,ho,hd⟩:=I.cell x c e
  exact free c o (λ z=>(h c z).2.2.1 x c e rfl) ho (I.freeC x c e)
 ·obtain⟨e,n,ne,nf,d⟩:=I.pin p hp
  have B:p.1 ∉ ch:=λ z=>(h p.1 z).2.2.2 p hp rfl
  exact⟨keep p.1 p.2 ne nf B e n,free p.1 p.2 B e n,ne,nf,d⟩
theorem Inv.un {t':Nat}(I:Inv X pins σ H s)(u:Un X.fs [] H H' s.heap h')(hok:HOk X.prog X.w H' h'):Inv X pins σ H' { s with heap:=h',toks:=t' }:=by
 obtain⟨m,⟨o,es,ep,ho,r⟩,_⟩:=id I.loc
 obtain⟨sl,G⟩:=u.any ho I.free (by simp)
 exact I.step (g':=s.gens) (d':=s.drawn) (ch:=[]) (λ _ z=>nomatch z) (λ b o _ hb _ e n=>u.keep b o e n hb (by simp)) (λ b o _ hb _ e n=>u.slot b o e n hb (by simp)) (λ b o _ e n=>u.free b o e n (by simp)) (λ b o _ e=>u.there b o e (by simp)) u.tups u.frzs u.tbls (λ m' hm=>by
  obtain⟨Y,B,F,h,J⟩:=hm
  rw[ho]at h;cases h
  exact⟨_,B,F,G,J⟩) hok I.bare
theorem Inv.call {g':Array GenState}{t':Nat}{d':Drawn}{ch:List Addr}(I:Inv X pins σ H s)(u:Un (frs X.stack) ch H H' s.heap h')(hok:HOk X.prog X.w H' h')(hg:fc g')
  (h:∀ b∈ch,(b∈X.ex\/X.s₀.heap.objs.size<=b)/\b≠X.env.locals/\(∀ x c,X.env.cells.lookup x=some c->c≠b)/\∀ p∈X.pn++pins,p.1≠b) :
  Inv X pins σ H' { s with heap:=h',gens:=g',drawn:=d',toks:=t' }:=by
 obtain⟨m,⟨o,es,ep,ho,r⟩,_⟩:=id I.loc
 obtain⟨sl,G⟩:=u.any ho I.free λ z=>(h _ z).2.1 rfl
 exact I.step (ch:=ch) h (λ b o G hb hc e n=>u.keep b o e n (λ z=>(aI.mp (I.stkSub b z)).elim G hb) hc) (λ b o _ _ hc e n=>u.any e n hc) (λ b o hc e n=>u.free b o e n hc) (λ b o hc e=>u.there b o e hc) u.tups u.frzs u.tbls (λ m' hm=>by
  obtain⟨Z,J,F,B,Y⟩:=hm
  rw[ho]at B;cases B
  exact⟨_,J,F,G,Y⟩) hok hg
theorem Inv.turned {t':Nat}{it:Addr}(I:Inv X pins σ H s)(k:∀ b o,b≠it->s.heap.get? b=some o->h'.get? b=some o)(hn:H it=none)(B:it≠X.env.locals)
  (G:it∈X.ex\/X.s₀.heap.objs.size<=it) (F:∀ x c,X.env.cells.lookup x=some c->c≠it) (h3:∀ p∈X.pn++pins,p.1≠it):Inv X pins σ H { s with heap:=h',toks:=t' }:=by
 have h:∀ b u,H b=some u->b≠it:=λ b u e z=>by rw[z,hn]at e;cases e
 refine I.step (g':=s.gens) (d':=s.drawn) (ch:=[it]) (λ b hb=>?_) (λ b o _ _ hc e _=>k b o (λ z=>hc (by simp[z])) e) (λ b o _ _ hc e _=>⟨o.slots,k b o (λ z=>hc (by simp[z])) e⟩) (λ _ _ _ _ n=>n)
  (λ b o hc e=>⟨o,k b o (λ z=>hc (by simp[z])) e⟩) (λ _ _ e=>e) (λ _ _ _ e=>e) (λ b ps e=>⟨#[],by rw[e];simp⟩) (λ m hm=>?_) (λ b u e=>?_) I.bare
 ·have e:b=it:=by simpa using hb
  subst e
  exact⟨G,B,F,h3⟩
 ·obtain⟨o,es,ep,ho,r⟩:=hm
  exact⟨o,es,ep,k _ o (cC B) ho,r⟩
 ·refine(I.hok b u e).stay (λ c v hc q=>k c v ?_ q) (λ _ q=>q) λ _ _ q=>q
  rcases hc with z|z
  ·rw[z];exact h b u e
  ·exact h c _ z
theorem Inv.tok (I:Inv X pins σ H s)(t:Nat):Inv X pins σ H { s with toks:=t }:=I.un (h':=s.heap) (t':=t) Un.refl I.hok
theorem Inv.kept {t':Nat}(I:Inv X pins σ H s)(k:∀ b u,s.heap.get? b=some u->h'.get? b=some u):Inv X pins σ H { s with heap:=h',toks:=t' }:=I.un (Un.kept k) (I.hok.kept k)
theorem Inv.laid {a:Addr}{o:HO}{t':Nat}(I:Inv X pins σ H s)(k:∀ b u,s.heap.get? b=some u->h'.get? b=some u)(hp:s.heap.objs.size<=a)(new:ai3 X.prog X.w (upd H a o) h' a o) :
  Inv X pins σ (upd H a o) { s with heap:=h',toks:=t' }:=I.un (Un.laid k hp (I.hok.fresh hp)) (I.hok.laid k hp new)
theorem Inv.write {x e:Addr}{o:HO}{t':Nat}(I:Inv X pins σ H s)(mu:Mut (H x))(he:e=x\/H e=some (.own x))(k:∀ b u,b≠e->s.heap.get? b=some u->h'.get? b=some u)(h:∃ u,h'.get? e=some u)
  (new:ai3 X.prog X.w (upd H x o) h' x o):Inv X pins σ (upd H x o) { s with heap:=h',toks:=t' }:=I.un (Un.write mu he k h) (I.hok.write mu he k h new)
theorem Inv.pins_of {B:List (Addr×Obj)}(I:Inv X pins σ H s)(h:∀ p∈B,s.heap.get? p.1=some p.2/\H p.1=none/\p.1≠X.env.locals/\p.1 ∉ X.fs/\∀ v,p.2.data≠.cell v):Inv X B σ H s :=
 ⟨I.ok,I.os,I.bare,I.base,I.loc,I.cell,I.free,I.freeC,λ p hp=>(aS.mp hp).elim (λ z=>I.pin p (bu _ z)) (h p),I.hok,I.len⟩
theorem aL9 {N:List Str}(hN:N.Nodup){i j:Nat}{x:Str}(a:N[i]?=some x)(b:N[j]?=some x):i=j:=by
 obtain⟨B,e1⟩:=ae.mp a
 obtain⟨h,e2⟩:=ae.mp b
 exact(List.getElem_inj hN).mp (e1.trans e2.symm)
theorem aB6 {M:Model}{A:aV}{E:Value->af->Prop}{i:Nat}{x:Str}{v:V}{u:Value}{Q:Unit->af->Prop}(I:Inv X pins σ H s)(hN:X.N.Nodup)(hi:X.N[i]?=some x)(hx:Loc X.env.scope x)(r:RelV v u)
  (h:∀ s',Inv X pins (σ.set i (some v)) H s'->(∃ a,dW a s.heap s'.heap/\(a=X.env.locals\/X.env.cells.lookup x=some a))->Q () s') (hf:X.fn x=true\/X.env.scope.names.lookup x=some .local:=by first|exact .inl rfl|exact .inr rfl|assumption):wpAny M A (f7 X.env x u) Q E s:=by
 obtain⟨m,hn,hl⟩:=id I.loc
 have Y:(X.env.scope.kind==.class||(X.env.scope.kind==.module&&X.env.locals != X.env.globals))=false:=by rw[I.ok.kind];rfl
 have a0:i < σ.length:=by rw[I.len];exact(ae.mp hi).1
 have cne:=I.cne
 have B:∀ {a:Addr} {h':Heap},(∃ o,s.heap.get? a=some o/\H a=none)->dW a s.heap h'->HOk X.prog X.w H h':=λ {a h'} ha hs b ob e=>by
  obtain⟨_,_,F⟩:=ha
  refine(I.hok b ob e).stay (λ c w' hc q=>(hs.2 c ?_).trans q) (λ _ q=>q) λ _ _ q=>q
  rintro rfl
  rcases hc with rfl|hc
  ·rw[F]at e;cases e
  ·rw[F]at hc;cases hc
 rcases hx with hk|hk
 ·refine gS hk hn (λ h' a3 hs=>?_) Y
  obtain⟨oL,_,_,a2,_⟩:=id hn
  refine h _ ⟨I.ok,I.os,I.bare,⟨λ b o e n hb hx=>?_,λ b o e n hb hx=>?_,I.base.free,λ b o e hx=>?_,I.base.tups,I.base.frzs,I.base.tbls⟩,⟨_,a3,λ j y v' e1 e2 e3=>?_⟩,λ y c e=>?_,I.free,I.freeC,λ p hp=>?_,B ⟨oL,a2,I.free⟩ hs,by simpa using I.len⟩ ⟨_,hs,.inl rfl⟩
  ·exact(hs.2 b (aJ (aG (aM e) I.ok.above))).trans (I.base.keep b o e n hb hx)
  ·obtain⟨sl,e1⟩:=I.base.slot b o e n hb hx
   exact⟨sl,(hs.2 b (aJ (aG (aM e) I.ok.above))).trans e1⟩
  ·obtain⟨o',e1⟩:=I.base.there b o e hx
   exact⟨o',(hs.2 b (aJ (aG (aM e) I.ok.above))).trans e1⟩
  ·by_cases hj:j=i
   ·subst hj
    rw[hi]at e1;cases e1
    rw[a9 a0]at e2
    cases e2
    exact⟨u,r,.inl ⟨hk,by simp⟩⟩
   ·rw[bh (cC hj)]at e2
    obtain⟨u',r',q⟩:=hl j y v' e1 e2 e3
    refine⟨u',r',?_⟩
    rcases q with⟨k,e⟩|⟨k,c,e,z⟩
    ·refine .inl ⟨k,?_⟩
     have:y≠x:=λ e=>hj (aL9 hN e1 (e▸hi))
     simp[this,e]
    ·exact .inr ⟨k,c,e,z.sameBut hs (cne y c e)⟩
  ·obtain⟨w',z⟩:=I.cell y c e
   exact⟨w',z.sameBut hs (cne y c e)⟩
  ·obtain⟨e,n,ne,nf,d⟩:=I.pin p hp
   exact⟨(hs.2 p.1 ne).trans e,n,ne,nf,d⟩
 ·have G:X.fn x=true:=by
   rcases hf with z|z
   ·exact z
   ·rw[z]at hk;cases hk
  obtain⟨c,hc⟩:=I.ok.has x (.inl hk)
  obtain⟨w',z⟩:=I.cell x c hc
  refine hJ I.ok.kind hk hc z (λ h' a1 hs=>?_)
  obtain⟨oc,J,Z⟩:=id z
  refine h { s with heap:=h' } ⟨I.ok,I.os,I.bare,⟨λ b o e n hb hx=>?_,λ b o e n hb hx=>?_,I.base.free,λ b o e hx=>?_,I.base.tups,I.base.frzs,I.base.tbls⟩,⟨m,hn.sameBut hs (cC (cne x c hc)),λ j y v' e1 e2 e3=>?_⟩,λ y c' e=>?_,I.free,I.freeC,λ p hp=>?_,B ⟨oc,J,I.freeC x c hc⟩ hs,by simpa using I.len⟩ ⟨c,hs,.inr hc⟩
  ·exact(hs.2 b (aJ (aG (aM e) (I.ok.cab x c G hc)))).trans (I.base.keep b o e n hb hx)
  ·obtain⟨sl,e1⟩:=I.base.slot b o e n hb hx
   exact⟨sl,(hs.2 b (aJ (aG (aM e) (I.ok.cab x c G hc)))).trans e1⟩
  ·obtain⟨o',e1⟩:=I.base.there b o e hx
   exact⟨o',(hs.2 b (aJ (aG (aM e) (I.ok.cab x c G hc)))).trans e1⟩
  ·by_cases hj:j=i
   ·subst hj
    rw[hi]at e1;cases e1
    rw[a9 a0]at e2
    cases e2
    exact⟨u,r,.inr ⟨.inl hk,c,hc,a1⟩⟩
   ·rw[bh (cC hj)]at e2
    obtain⟨u',r',q⟩:=hl j y v' e1 e2 e3
    refine⟨u',r',?_⟩
    rcases q with q|⟨k,c',e,z'⟩
    ·exact .inl q
    ·refine .inr ⟨k,c',e,z'.sameBut hs ?_⟩
     rintro rfl
     exact hj (aL9 hN e1 (I.ok.inj _ _ _ e hc▸hi))
  ·by_cases hcc:c'=c
   ·subst hcc;exact⟨_,a1⟩
   ·obtain⟨w2,z2⟩:=I.cell y c' e
    exact⟨w2,z2.sameBut hs hcc⟩
  ·obtain⟨e,n,ne,nf,d⟩:=I.pin p hp
   refine⟨(hs.2 p.1 ?_).trans e,n,ne,nf,d⟩
   intro q
   rw[q,J]at e
   have q':oc=p.2:=aE e
   exact d w' (by rw[<-q'];exact Z)
theorem ax4 {M:Model}{A:aV}{E:Value->af->Prop}{i:Nat}{x:Str}{v:V}{u:Value}{Q:Unit->af->Prop}(I:Inv X pins σ H s)(hN:X.N.Nodup)(F:X.N[i]?=some x)(hx:Loc X.env.scope x)(r:RelV v u)
  (h:∀ s',Inv X pins (σ.set i (some v)) H s'->Q () s') (B:X.fn x=true\/X.env.scope.names.lookup x=some .local:=by first|exact .inl rfl|exact .inr rfl|assumption):wpAny M A (f7 X.env x u) Q E s :=
 aB6 I hN F hx r (λ s' G _=>h s' G) B
theorem Inv.call' {s':af}{ch:List Addr}(I:Inv X pins σ H s)(ho:s'.os=s.os)(u:Un (frs X.stack) ch H H' s.heap s'.heap)(hok:HOk X.prog X.w H' s'.heap)(hg:fc s'.gens)
  (h:∀ b∈ch,(b∈X.ex\/X.s₀.heap.objs.size<=b)/\b≠X.env.locals/\(∀ x c,X.env.cells.lookup x=some c->c≠b)/\∀ p∈X.pn++pins,p.1≠b):Inv X pins σ H' s':=by
 obtain⟨h',g',d',t',B⟩:=s'
 have e:B=s.os:=ho
 subst e
 exact I.call (g':=g') (t':=t') (d':=d') u hok hg h
end
abbrev XK:=Value->Option Addr->Hp->Prop
noncomputable abbrev St:=List (Option V)
abbrev VK:=V->Hp->Prop
abbrev TE:=St->Hp->VK->Prop
abbrev TT:=St->Hp->(Bool->Hp->Prop)->Prop
abbrev TA:=St->Hp->(List V->Hp->Prop)->Prop
structure Ends where
 nx:St->Hp->Prop
 rt:VK
 bk:St->Hp->Prop:=λ _ _=>False
 ct:St->Hp->Prop:=λ _ _=>False
abbrev TS:=Ends->St->Hp->Prop
def EP (X:Cx)(pins:List (Addr×Obj))(σ:St)(Q:VK)(u:Value)(s':af):Prop:=∃ v H',Inv X pins σ H' s'/\RelV v u/\Q v H'
def TP (X:Cx)(pins:List (Addr×Obj))(σ:St)(Q:Bool->Hp->Prop)(b:Bool)(s':af):Prop:=∃ H',Inv X pins σ H' s'/\Q b H'
def AP (X:Cx)(pins:List (Addr×Obj))(σ:St)(Q:List V->Hp->Prop)(us:List Value)(s':af):Prop:=∃ vs H',Inv X pins σ H' s'/\Vals vs us/\Q vs H'
def SP (X:Cx)(pins:List (Addr×Obj))(D:Ends)(f:Flow)(s':af):Prop :=
 match f with
 | .next=>∃ σ' H',Inv X pins σ' H' s'/\D.nx σ' H'
 | .brk=>∃ σ' H',Inv X pins σ' H' s'/\D.bk σ' H'
 | .cont=>∃ σ' H',Inv X pins σ' H' s'/\D.ct σ' H'
 | .ret u=>∃ v σ' H',Inv X pins σ' H' s'/\RelV v u/\D.rt v H'
def PE (X:Cx)(e:Expr)(t:TE):Prop :=
 ∀(pins:List (Addr×Obj)) (s:af) (σ:St) (H:Hp) (Q:VK),Inv X pins σ H s->t σ H Q->wpAny (model X.prog X.w) X.A (eval e X.env) (EP X pins σ Q) X.xe s
def PT (X:Cx)(e:Expr)(t:TT):Prop :=
 ∀(pins:List (Addr×Obj)) (s:af) (σ:St) (H:Hp) (Q:Bool->Hp->Prop),Inv X pins σ H s->t σ H Q->wpAny (model X.prog X.w) X.A (dM e X.env (eval e X.env)) (TP X pins σ Q) X.xe s
def PW (X:Cx)(e:Expr)(t:TT):Prop :=
 ∀(whole:Sem Value) (pins:List (Addr×Obj)) (s:af) (σ:St) (H:Hp) (Q:Bool->Hp->Prop),Inv X pins σ H s->t σ H Q->wpAny (model X.prog X.w) X.A (dM e X.env whole) (TP X pins σ Q) X.xe s
theorem PW.pt {X:Cx}{e:Expr}{t:TT}(h:PW X e t):PT X e t:=h _
def PA (X:Cx)(es:List Expr)(t:TA):Prop :=
 ∀(pos:Pos) (pins:List (Addr×Obj)) (s:af) (σ:St) (H:Hp) (Q:List V->Hp->Prop),Inv X pins σ H s->t σ H Q->wpAny (model X.prog X.w) X.A (spliced (dX pos (bw es X.env))) (AP X pins σ Q) X.xe s
def PS (X:Cx)(st:Stmt)(t:TS):Prop :=
 ∀(pins:List (Addr×Obj)) (s:af) (σ:St) (H:Hp) (D:Ends),Inv X pins σ H s->t D σ H->wpAny (model X.prog X.w) X.A (exec st X.env) (SP X pins D) X.xe s
def PSs (X:Cx)(st:List Stmt)(t:TS):Prop :=
 ∀(pins:List (Addr×Obj)) (s:af) (σ:St) (H:Hp) (D:Ends),Inv X pins σ H s->t D σ H->wpAny (model X.prog X.w) X.A (execs st X.env) (SP X pins D) X.xe s
theorem thn {α:Type}{t:Sem α}{Q B:α->af->Prop}{M:Model}{A:aV}{E:Value->af->Prop}{s:af}(h:wpAny M A t Q E s)(F:∀ a s,Q a s->B a s):wpAny M A t B E s:=br h F λ _ _ x=>x
section
variable {X:Cx}
theorem bin {a b:Expr}{J tb:TE}(ha:PE X a J)(hb:PE X b tb){B:List (Addr×Obj)}{s:af}{σ:St}{H:Hp}{R:V->V->Hp->Prop}(I:Inv X B σ H s)(h:J σ H λ x G=>tb σ G λ y F=>R x y F)
  {α:Type} {Q:α->af->Prop} {f:Value->Value->Sem α}
  (Z:∀ v u s2 x y F,Inv X B σ F s2->RelV x v->RelV y u->R x y F->wpAny (model X.prog X.w) X.A (f v u) Q X.xe s2) :
  wpAny (model X.prog X.w) X.A (eval a X.env) (λ v Y=>wpAny (model X.prog X.w) X.A (eval b X.env) (λ u s₂=>wpAny (model X.prog X.w) X.A (f v u) Q X.xe s₂) X.xe Y) X.xe s:=by
 refine thn (ha B s σ H _ I h) λ v s1 ⟨x,G,I1,r1,q1⟩=>?_
 refine thn (hb B s1 σ G _ I1 q1) λ u s2 ⟨y,F,I2,r2,q2⟩=>?_
 exact Z v u s2 x y F I2 r1 r2 q2
def cl2 (i:Nat):TE:=λ σ H Q=>∃ v,σ[i]?=some (some v)/\Q v H
def tC (v:V):TE:=λ _ H Q=>Q v H
theorem bO5 {i:Nat}{x:Str}{pos:Pos}(hN:X.N[i]?=some x)(hv:Vis X.env.scope x)(hd:(x==("__debug__":Str))=false:=by decide)(F:(x==("__classdict__":Str))=false:=by decide):PE X (.Name x pos) (cl2 i):=by
 intro B s σ H Q I h
 obtain⟨v,e,h⟩:=h
 obtain⟨m,hn,hl⟩:=I.loc
 obtain⟨u,r,l⟩:=hl i x v hN e hv
 have fin:EP X B σ Q u s:=⟨v,H,I,r,h⟩
 rcases l with⟨hk,hm⟩|⟨hk,c,hc,hcell⟩
 ·exact jY (hW I.ok.kind hk hn hm fin) hd
 ·rcases hk with hk|hk
  ·exact jY (iG I.ok.kind hk hc hcell fin) hd
  ·exact jY (wpAny_loadName_free I.ok.kind hk hc hcell fin F) hd
theorem bX9 {i j pos}:PE X (.Constant (.int i) j pos) (tC (.int i)):=λ _ _ _ H _ I h=>wpAny_Constant_int ⟨.int i,H,I.tok _,⟨_,rfl⟩,h⟩
theorem bR2 {b j pos}:PE X (.Constant (.bool b) j pos) (tC (.bl b)):=λ _ _ _ H _ I h=>Constant_bool ⟨.bl b,H,I,rfl,h⟩
theorem bQ9 {j pos}:PE X (.Constant .none j pos) (tC .non):=λ _ _ _ H _ I h=>iM ⟨.non,H,I,rfl,h⟩
theorem br9 {x j pos}:PE X (.Constant (.str x) j pos) (tC (.str x)):=λ _ _ _ H _ I h=>Calls.Constant_str ⟨.str x,H,I.tok _,⟨_,rfl⟩,h⟩
def Gl (X:Cx)(x:Str):Prop:=X.env.kindOf x=some .globalImplicit
theorem aJ4 {E:Value->af->Prop}{B:List (Addr×Obj)}{s:af}{σ:St}{H:Hp}{x:Str}{u:Value}{pos:Pos}{Q:Value->af->Prop}(I:Inv X B σ H s)(hg:Gl X x)(hm:X.mg x=some u)(h:Q u s)
  (hd:(x==("__debug__":Str))=false:=by decide):wpAny (model X.prog X.w) X.A (eval (.Name x pos) X.env) Q E s :=
 fm I.ok.kind hg (Calls.loadGlobal_global (by rw[I.ok.glob];exact I.mod.glob.keeps I.bk) hm h) hd
theorem av5 {E:Value->af->Prop}{B:List (Addr×Obj)}{s:af}{σ:St}{H:Hp}{x:Str}{u:Value}{pos:Pos}{Q:Value->af->Prop}(I:Inv X B σ H s)(hg:Gl X x)(hm:X.mg x=none)(hv:bA x=some u)(h:Q u s)
  (hn:x ≠ "__name__":=by decide) (hd:(x==("__debug__":Str))=false:=by decide):wpAny (model X.prog X.w) X.A (eval (.Name x pos) X.env) Q E s:=by
 obtain⟨mb,G,F⟩:=I.mod.blt
 exact fm I.ok.kind hg (Calls.loadGlobal_builtin (by rw[I.ok.glob];exact I.mod.glob.keeps I.bk) hm (by rw[I.ok.blt];exact G.keeps I.bk) ((F x hn).trans hv) h) hd
theorem aI7 {x:Str}{v:V}{u:Value}{pos:Pos}(hg:Gl X x)(hm:X.mg x=some u)(r:RelV v u)(hd:(x==("__debug__":Str))=false:=by decide):PE X (.Name x pos) (tC v) :=
 λ _ _ _ H _ I h=>aJ4 I hg hm ⟨v,H,I,r,h⟩ hd
theorem bG8 {x:Str}{v:V}{u:Value}{pos:Pos}(hg:Gl X x)(hm:X.mg x=none)(hv:bA x=some u)(r:RelV v u)(hn:x ≠ "__name__":=by decide)(hd:(x==("__debug__":Str))=false:=by decide):PE X (.Name x pos) (tC v) :=
 λ _ _ _ H _ I h=>av5 I hg hm hv ⟨v,H,I,r,h⟩ hn hd
variable {a b:Expr} {ta tb:TE} {pos:Pos}
def PC (X:Cx)(op:CmpOp)(a b:Expr)(t:TE):Prop :=
 ∀(pins:List (Addr×Obj)) (s:af) (σ:St) (H:Hp) (Q:VK),Inv X pins σ H s->t σ H Q ->
  wpAny (model X.prog X.w) X.A (eval a X.env) (λ v s₁=>wpAny (model X.prog X.w) X.A (eval b X.env) (λ u s₂=>wpAny (model X.prog X.w) X.A (dB op v u) (EP X pins σ Q) X.xe s₂) X.xe s₁) X.xe s
theorem aQ7 (b:Expr){op:CmpOp}(h:op≠.In)(B:op≠.NotIn):da op b=false:=by
 have e1:(op==CmpOp.In)=false:=by cases op<;>first|rfl|exact absurd rfl h
 have e2:(op==CmpOp.NotIn)=false:=by cases op<;>first|rfl|exact absurd rfl B
 cases b<;>simp[da,e1,e2]
def ck1 (ta:TE):TE:=λ σ H Q=>ta σ H λ x H1=>Q (.bl (decide (x=.non))) H1
def bM7 (ta:TE):TE:=λ σ H Q=>ta σ H λ x H1=>Q (.bl (!decide (x=.non))) H1
theorem RelV.none_iff {x:V}{v:Value}(r:RelV x v):(v==Value.none)=decide (x=.non):=by
 cases x with
 | non=>cases r;rfl
 | bl _=>cases r;rfl
 | int _=>obtain⟨t,rfl⟩:=r;rfl
 | str _=>obtain⟨t,rfl⟩:=r;rfl
 | byt _=>obtain⟨t,rfl⟩:=r;rfl
 | flt _=>obtain⟨t,rfl⟩:=r;rfl
 | ref _=>cases r;rfl
 | ty _=>cases r;rfl
theorem bt5 {j pos'}(ha:PE X a ta):PC X .Is a (.Constant .none j pos') (ck1 ta):=by
 intro B s σ H Q I h
 refine thn (ha B s σ H _ I h) λ v s1 ⟨x,G,J,r1,F⟩=>?_
 exact iM (is_none_gen ⟨.bl _,G,J,by rw[r1.none_iff];rfl,F⟩)
theorem aY1 {j pos'}(ha:PE X a ta):PC X .IsNot a (.Constant .none j pos') (bM7 ta):=by
 intro B s σ H Q I h
 refine thn (ha B s σ H _ I h) λ v s1 ⟨x,G,J,r1,F⟩=>?_
 exact iM (isnot_none_gen ⟨.bl _,G,J,by rw[r1.none_iff];rfl,F⟩)
def tB (t:TE):TT:=λ σ H Q=>t σ H λ x H1=>∃ c,x=.bl c/\Q c H1
theorem bv0 {op:CmpOp}{t:TE}(h:PC X op a b t)(F:da op b=false:=by first|exact aQ7 _ (by decide) (by decide)|rfl):PE X (.Compare a [op] [b] pos) t:=λ B s σ H Q I hw=>wpAny_Compare1 (h B s σ H Q I hw) F
theorem bu8 {op:CmpOp}{t:TE}(h:PC X op a b t)(F:da op b=false:=by first|exact aQ7 _ (by decide) (by decide)|rfl):PT X (.Compare a [op] [b] pos) (tB t):=by
 intro B s σ H Q I hw
 refine gT (thn (h B s σ H _ I hw) λ v s1 F=>thn F λ u s2 Z=>thn Z λ c s3 ⟨x,Y,J,r1,G⟩=>?_) F
 obtain⟨d,rfl,q⟩:=G
 cases r1
 exact cy ⟨Y,J,q⟩
theorem bY8 {e:Expr}{t:TE}(h:PE X e t)(he:∀ B,dM e X.env B=(do let v <- B;standAt e.pos;jd [v] (truthy v)):=by intro _;rfl):PT X e (tB t):=by
 intro F s σ H Q I hw
 refine isTrue_plain (thn (h F s σ H _ I hw) λ v s1 ⟨x,J,Y,r1,G⟩=>?_) (he _)
 obtain⟨d,rfl,q⟩:=G
 cases r1
 exact cy ⟨J,Y,q⟩
variable {tA tB':TT} {rest:List Expr}
def cm2 (t u:TT):TT:=λ σ H Q=>t σ H λ c H1=>if c=true then u σ H1 Q else Q false H1
def tOr (t u:TT):TT:=λ σ H Q=>t σ H λ c H1=>if c=true then Q true H1 else u σ H1 Q
def cn9 (t:TT):TT:=λ σ H Q=>t σ H λ c H1=>Q (!c) H1
theorem bC1 (ha:PT X a tA):PW X (.BoolOp .And [a] pos) tA:=by
 intro F B s σ H Q I h
 refine isTrue_and (thn (ha B s σ H Q I h) λ c s1 e=>?_)
 cases c with
 | true=>exact isTrue_and_nil e
 | false=>exact e
theorem bQ8 (ha:PT X a tA):PW X (.BoolOp .Or [a] pos) tA:=by
 intro F B s σ H Q I h
 refine isTrue_or (thn (ha B s σ H Q I h) λ c s1 e=>?_)
 cases c with
 | false=>exact isTrue_or_nil e
 | true=>exact e
theorem bs8 (ha:PT X a tA)(hb:PW X (.BoolOp .And (b::rest) pos) tB'):PW X (.BoolOp .And (a::b::rest) pos) (cm2 tA tB'):=by
 intro Y B s σ H Q I h
 refine isTrue_and (thn (ha B s σ H _ I h) λ c s1 ⟨G,J,F⟩=>?_)
 cases c with
 | true=>exact hb Y B s1 σ G Q J F
 | false=>exact⟨G,J,F⟩
theorem bR7 (ha:PT X a tA)(hb:PW X (.BoolOp .Or (b::rest) pos) tB'):PW X (.BoolOp .Or (a::b::rest) pos) (tOr tA tB'):=by
 intro Y B s σ H Q I h
 refine isTrue_or (thn (ha B s σ H _ I h) λ c s1 ⟨G,J,F⟩=>?_)
 cases c with
 | true=>exact⟨G,J,F⟩
 | false=>exact hb Y B s1 σ G Q J F
theorem bJ9 (ha:PT X a tA):PT X (.UnaryOp .Not a pos) (cn9 tA):=by
 intro B s σ H Q I h
 exact isTrue_not (ha B s σ H (λ c F=>Q (!c) F) I h)
def bX4 (ta tb:TE):TE:=λ σ H Q=>ta σ H λ x H1=>∃ c,x=.bl c/\if c=true then tb σ H1 Q else Q (.bl false) H1
def cn4 (ta tb:TE):TE:=λ σ H Q=>ta σ H λ x H1=>∃ c,x=.bl c/\if c=true then Q (.bl true) H1 else tb σ H1 Q
def bM5 (ta:TE):TE:=λ σ H Q=>ta σ H λ x H1=>∃ c,x=.bl c/\Q (.bl (!c)) H1
theorem bu4 {op}{t:TE}(h:PE X a t):PE X (.BoolOp op [a] pos) t:=λ B s σ H Q I hw=>BoolOp_one (h B s σ H Q I hw)
theorem br3 (ha:PE X a ta)(hb:PE X (.BoolOp .And (b::rest) pos) tb):PE X (.BoolOp .And (a::b::rest) pos) (bX4 ta tb):=by
 intro B s σ H Q I h
 refine BoolOp_and (thn (ha B s σ H _ I h) λ v s1 ⟨x,G,J,r1,F⟩=>?_)
 obtain⟨c,rfl,F⟩:=F
 cases r1
 refine cy ?_
 cases c with
 | true=>exact hb B s1 σ G Q J F
 | false=>exact⟨.bl false,G,J,rfl,F⟩
theorem bZ4 (ha:PE X a ta)(hb:PE X (.BoolOp .Or (b::rest) pos) tb):PE X (.BoolOp .Or (a::b::rest) pos) (cn4 ta tb):=by
 intro B s σ H Q I h
 refine BoolOp_or (thn (ha B s σ H _ I h) λ v s1 ⟨x,G,J,r1,F⟩=>?_)
 obtain⟨c,rfl,F⟩:=F
 cases r1
 refine cy ?_
 cases c with
 | false=>exact hb B s1 σ G Q J F
 | true=>exact⟨.bl true,G,J,rfl,F⟩
theorem bU0 (ha:PE X a ta):PE X (.UnaryOp .Not a pos) (bM5 ta):=by
 intro B s σ H Q I h
 refine UnaryOp_ (thn (ha B s σ H _ I h) λ v s1 ⟨x,G,J,r1,F⟩=>?_)
 obtain⟨c,rfl,F⟩:=F
 cases r1
 exact not_of (cy ⟨.bl (!c),G,J,rfl,F⟩)
def tIf (t:TT)(ta tb:TE):TE:=λ σ H Q=>t σ H λ c H1=>if c=true then ta σ H1 Q else tb σ H1 Q
theorem bj0 {c:Expr}(hc:PT X c tA)(ha:PE X a ta)(hb:PE X b tb):PE X (.IfExp c a b pos) (tIf tA ta tb):=by
 intro B s σ H Q I h
 refine wpAny_IfExp (thn (hc B s σ H _ I h) λ d s1 ⟨G,J,F⟩=>?_)
 cases d with
 | true=>exact ha B s1 σ G Q J F
 | false=>exact hb B s1 σ G Q J F
end
def SqL (K:ac)(H:Hp)(a:Addr)(xs:List V):Prop :=
 Rd H a (.lst xs) \/
  ∃(o:Obj) (its:Array Value) (n:Nat),K.lookup a=some o/\o.cls=.type "list"/\o.dict=none/\o.data=.seq its n/\its.size<=aO/\Vals xs its.toList
def SqT (K:ac)(H:Hp)(a:Addr)(xs:List V):Prop :=
 Rd H a (.tup xs) \/
  ∃(o:Obj) (its:Array Value) (n:Nat),K.lookup a=some o/\o.cls=.type "tuple"/\o.data=.seq its n/\its.size<=aO/\Vals xs its.toList
noncomputable def cp6:Value->Option V
 | .none=>some .non
 | .bool b=>some (.bl b)
 | .int i _=>some (.int i)
 | .str x _=>some (.str x)
 | .bytes b _=>some (.byt b)
 | .float b _=>some (.flt b)
 | .ref a=>some (.ref a)
 | .type n=>some (.ty n)
 | _=>none
theorem RelV.abs {x:V}{u:Value}(r:RelV x u):cp6 u=some x:=by
 cases x with
 | non=>cases r;rfl
 | bl _=>cases r;rfl
 | int _=>obtain⟨t,rfl⟩:=r;rfl
 | str _=>obtain⟨t,rfl⟩:=r;rfl
 | byt _=>obtain⟨t,rfl⟩:=r;rfl
 | flt _=>obtain⟨t,rfl⟩:=r;rfl
 | ref _=>cases r;rfl
 | ty _=>cases r;rfl
theorem RelV.inj {x y:V}{u:Value}(r:RelV x u)(q:RelV y u):x=y:=aE (r.abs.symm.trans q.abs)
theorem Vals.inj:∀ {h ys:List V} {us:List Value},Vals h us->Vals ys us->h=ys
 | _,_,_,.nil,.nil=>rfl
 | _,_,_,.cons r t,.cons r' t'=>by rw[r.inj r',Vals.inj t t']
section
variable {X:Cx} {pins:List (Addr×Obj)} {σ:St} {H:Hp} {s:af} {a:Addr} {xs ys:List V}
theorem SqL.of {K:ac}(h:H a=some (.lst xs)):SqL K H a xs:=.inl (.inl h)
theorem SqT.of {K:ac}(h:H a=some (.tup xs)):SqT K H a xs:=.inl (.inl h)
theorem Inv.list (I:Inv X pins σ H s)(h:SqL X.K H a xs):∃ its:List Value,Vals xs its/\PlainL s.heap a its.toArray/\xs.length<=aO:=by
 rcases h with h|⟨o,its,n,hk,hc,hd,hs,hz,r⟩
 ·obtain⟨z,its,n,r,e⟩:=h.ok I.hok
  exact⟨its,r,⟨_,n,e,rfl,rfl,rfl⟩,z⟩
 ·refine⟨its.toList,r,⟨o,n,I.kIn a o hk,hc,hd,by simpa using hs⟩,?_⟩
  have e:=r.length
  simp only[cQ]at e
  omega
theorem Inv.tuple (I:Inv X pins σ H s)(h:SqT X.K H a xs):∃ its:List Value,Vals xs its/\IsTup s.heap a its.toArray/\xs.length<=aO:=by
 rcases h with h|⟨o,its,n,hk,hc,hs,hz,r⟩
 ·obtain⟨z,its,r,p⟩:=h.ok I.hok
  exact⟨its,r,p,z⟩
 ·refine⟨its.toList,r,⟨o,I.kIn a o hk,hc,n,by simpa using hs⟩,?_⟩
  have e:=r.length
  simp only[cQ]at e
  omega
theorem Inv.list_inj (I:Inv X pins σ H s)(h:SqL X.K H a xs)(h':SqL X.K H a ys):xs=ys:=by
 obtain⟨its,r,⟨o,n,e,_,_,d⟩,_⟩:=I.list h
 obtain⟨its',B,⟨F,G,e',_,_,d'⟩,_⟩:=I.list h'
 rw[e]at e';cases e'
 rw[d]at d'
 injection d' with d1 _
 have:its=its':=by simpa using congrArg je d1
 subst this
 exact r.inj B
theorem Inv.tuple_inj (I:Inv X pins σ H s)(h:SqT X.K H a xs)(h':SqT X.K H a ys):xs=ys:=by
 obtain⟨its,r,⟨o,e,_,n,d⟩,_⟩:=I.tuple h
 obtain⟨its',B,⟨F,e',_,G,d'⟩,_⟩:=I.tuple h'
 rw[e]at e';cases e'
 rw[d]at d'
 injection d' with d1 _
 have:its=its':=by simpa using congrArg je d1
 subst this
 exact r.inj B
end
noncomputable abbrev Cx.wish (X:Cx)(E:Value->af->Prop):Cx:={ X with xe:=E }
noncomputable abbrev Cx.nox (X:Cx):Cx:=X.wish λ _ _=>False
theorem Cx.Ok.wish {X:Cx}(ok:X.Ok)(E:Value->af->Prop):(X.wish E).Ok :=
 ⟨ok.mod,ok.kind,ok.glob,ok.blt,ok.above,ok.inj,ok.has,ok.cab,ok.hd,ok.frames,ok.stk,ok.exf,ok.bs,ok.bsz,ok.noex,ok.exfs,ok.funs,ok.frf⟩
theorem Cx.Ok.unwish {X:Cx}{E:Value->af->Prop}(ok:(X.wish E).Ok):X.Ok :=
 ⟨ok.mod,ok.kind,ok.glob,ok.blt,ok.above,ok.inj,ok.has,ok.cab,ok.hd,ok.frames,ok.stk,ok.exf,ok.bs,ok.bsz,ok.noex,ok.exfs,ok.funs,ok.frf⟩
section
variable {X:Cx} {pins:List (Addr×Obj)} {σ:St} {H:Hp} {s:af} {E:Value->af->Prop}
theorem Inv.wish (I:Inv X pins σ H s)(E:Value->af->Prop):Inv (X.wish E) pins σ H s:=⟨I.ok.wish E,I.os,I.bare,I.base,I.loc,I.cell,I.free,I.freeC,I.pin,I.hok,I.len⟩
theorem Inv.unwish (I:Inv (X.wish E) pins σ H s):Inv X pins σ H s:=⟨I.ok.unwish,I.os,I.bare,I.base,I.loc,I.cell,I.free,I.freeC,I.pin,I.hok,I.len⟩
theorem SP.unwish {D:Ends}{f:Flow}{s':af}(h:SP (X.wish E) pins D f s'):SP X pins D f s':=by
 cases f with
 | next=>obtain⟨σ',H',I,q⟩:=h;exact⟨σ',H',I.unwish,q⟩
 | brk=>obtain⟨σ',H',I,q⟩:=h;exact⟨σ',H',I.unwish,q⟩
 | cont=>obtain⟨σ',H',I,q⟩:=h;exact⟨σ',H',I.unwish,q⟩
 | ret u=>obtain⟨v,σ',H',I,r,q⟩:=h;exact⟨v,σ',H',I.unwish,r,q⟩
theorem PT.nox {e:Expr}{t:TT}(h:PT X.nox e t):PT X e t:=λ B s σ H Q I hw =>
 br (h B s σ H Q (I.wish _) hw) (λ _ _ ⟨H',F,q⟩=>⟨H',F.unwish,q⟩) λ _ _ z=>bz z
theorem PSs.nox {st:List Stmt}{t:TS}(h:PSs X.nox st t):PSs X st t:=λ B s σ H D I hw =>
 br (h B s σ H D (I.wish _) hw) (λ _ _ q=>q.unwish) λ _ _ z=>bz z
end
section
variable {X:Cx} {st:Stmt} {rest:List Stmt} {t u:TS} {e:Expr} {te:TE} {pos:Pos}
def bR9:TS:=λ D σ H=>D.nx σ H
noncomputable def cf0 (t u:TS):TS:=λ D σ H=>t { D with nx:=u D } σ H
theorem aK2:PSs X [] bR9:=λ _ _ σ H _ I h=>c5 ⟨σ,H,I,h⟩
theorem zz (G:PS X st t)(F:PSs X rest u):PSs X (st::rest) (cf0 t u):=by
 intro B s σ H D I h
 refine jx (thn (G B s σ H { D with nx:=u D } I h) λ f s1 q=>?_)
 cases f with
 | next =>
  obtain⟨σ',H',J,q⟩:=q
  exact F B s1 σ' H' D J q
 | ret v=>exact q
 | brk=>exact q
 | cont=>exact q
theorem bh2 (F:PS X st t):PSs X [st] t:=by
 intro B s σ H D I h
 refine jx (thn (F B s σ H D I h) λ f s1 q=>?_)
 cases f with
 | next=>exact c5 q
 | ret v=>exact q
 | brk=>exact q
 | cont=>exact q
def bK4:TS:=λ D σ H=>D.ct σ H
theorem aJ7:PS X (.Continue pos) bK4:=λ _ _ σ H _ I h=>wpAny_Continue ⟨σ,H,I,h⟩
theorem Inv.quiet {h:List (Addr×Obj)}{σ:St}{H:Hp}{s:af}(I:Inv X h σ H s):interactive X.env=false:=by simp[interactive,I.ok.kind]
def bK8 (te:TE):TS:=λ D σ H=>te σ H λ _ H1=>D.nx σ H1
theorem bd8 (he:PE X e te)(hs:eI e none pos.line X.env=pure false:=by rfl):PS X (.Expr e pos) (bK8 te):=by
 intro B s σ H D I h
 exact wpAny_Expr_any (thn (he B s σ H _ I h) λ v s1 ⟨x,G,J,r1,F⟩=>⟨σ,G,J,F⟩) I.quiet hs
def ck8 (te:TE):TS:=λ D σ H=>te σ H D.rt
theorem aN8 (he:PE X e te):PS X (.Return (some e) pos) (ck8 te):=by
 intro B s σ H D I h
 exact wpAny_Return_some (thn (he B s σ H _ I h) λ v s1 ⟨x,G,J,r1,F⟩=>⟨x,σ,G,J,r1,F⟩)
def bN3:TS:=λ D _ H=>D.rt .non H
theorem bC0:PS X (.Return none pos) bN3:=λ _ _ σ H _ I h=>wpAny_Return_none ⟨.non,σ,H,I,rfl,h⟩
def ck3 (c:TT)(t u:TS):TS:=λ D σ H=>c σ H λ b H1=>if b=true then t D σ H1 else u D σ H1
theorem bX2 {c:Expr}{a b:List Stmt}{J:TT}(hc:PT X c J)(ha:PSs X a t)(hb:PSs X b u):PS X (.If c a b pos) (ck3 J t u):=by
 intro B s σ H D I h
 refine wpAny_If (thn (hc B s σ H _ I h) λ d s1 ⟨G,Y,F⟩=>?_)
 cases d with
 | true=>exact ha B s1 σ G D Y F
 | false=>exact hb B s1 σ G D Y F
def bt3:TS:=λ _ _ _=>False
theorem bl0:PS X st bt3:=λ _ _ _ _ _ _ h=>h.elim
theorem zY {B:List Stmt}:PSs X B bt3:=λ _ _ _ _ _ _ h=>h.elim
end
abbrev TG:=V->St->Hp->(St->Hp->Prop)->Prop
abbrev TGs:=List V->St->Hp->(St->Hp->Prop)->Prop
def PG (X:Cx)(target:Expr)(t:TG):Prop :=
 ∀(pins:List (Addr×Obj)) (s:af) (σ:St) (H:Hp) (v:V) (u:Value) (Q:St->Hp->Prop),Inv X pins σ H s->RelV v u->t v σ H Q ->
  wpAny (model X.prog X.w) X.A (gm target X.env u) (λ _ s'=>∃ σ' H',Inv X pins σ' H' s'/\Q σ' H') X.xe s
def PGs (X:Cx)(ts:List Expr)(t:TGs):Prop :=
 ∀(pins:List (Addr×Obj)) (s:af) (σ:St) (H:Hp) (vs:List V) (us:List Value) (Q:St->Hp->Prop),Inv X pins σ H s->Vals vs us->t vs σ H Q ->
  wpAny (model X.prog X.w) X.A (assignInOrder ((cG ts X.env).map (·.2)) us) (λ _ s'=>∃ σ' H',Inv X pins σ' H' s'/\Q σ' H') X.xe s
abbrev ca5:=V->V->V->Hp->(Hp->Prop)->Prop
def cf7 (X:Cx)(t:ca5):Prop :=
 ∀(pins:List (Addr×Obj)) (s:af) (σ:St) (H:Hp) (o i v:V) (ov iv u:Value) (Q:Hp->Prop),Inv X pins σ H s->RelV o ov->RelV i iv->RelV v u->t o i v H Q ->
  wpAny (model X.prog X.w) X.A (setItem ov iv u) (λ _ s'=>∃ H',Inv X pins σ H' s'/\Q H') X.xe s
abbrev TIp:=V->V->Hp->VK->Prop
def PIp (X:Cx)(op:jZ)(t:TIp):Prop :=
 ∀(pins:List (Addr×Obj)) (s:af) (σ:St) (H:Hp) (x y:V) (v u:Value) (Q:VK),Inv X pins σ H s->RelV x v->RelV y u->t x y H Q ->
  wpAny (model X.prog X.w) X.A (inplaceOp op v u) (EP X pins σ Q) X.xe s
section
variable {X:Cx} {pos:Pos}
def aF9 (i:Nat):TG:=λ v σ H Q=>Q (σ.set i (some v)) H
theorem aW0 {i:Nat}{x:Str}(hN:X.N.Nodup)(G:X.N[i]?=some x)(hx:Loc X.env.scope x)(F:X.fn x=true\/X.env.scope.names.lookup x=some .local:=by first|exact .inl rfl|exact .inr rfl|assumption):PG X (.Name x pos) (aF9 i):=by
 intro B s σ H v u Q I r h
 exact jf (ax4 I hN G hx r (λ s' J=>⟨_,H,J,h⟩) F)
def cl8:TGs:=λ vs σ H Q=>vs=[]/\Q σ H
def bO3 (t:TG)(u:TGs):TGs:=λ vs σ H Q=>∃ v r,vs=v::r/\t v σ H λ σ' H'=>u r σ' H' Q
theorem bv8:PGs X [] cl8:=by
 intro B s σ H vs us Q I r h
 obtain⟨e,h⟩:=h
 subst e
 cases r
 exact assignInOrder_nil ⟨σ,H,I,h⟩
theorem bj5 {e:Expr}{es:List Expr}{t:TG}{u:TGs}(Y:PG X e t)(J:PGs X es u)
  (hs:(cG (e::es) X.env).map (·.2)=gm e X.env::(cG es X.env).map (·.2):=by rfl):PGs X (e::es) (bO3 t u):=by
 intro B s σ H vs us Q I r h
 obtain⟨v,vr,e1,h⟩:=h
 subst e1
 cases r with
 | cons r rr =>
  rw[hs]
  refine assignInOrder_cons (thn (Y B s σ H _ _ _ I r h) λ _ s1 ⟨σ1,F,G,Z⟩=>?_)
  exact J B s1 σ1 F _ _ Q G rr Z
def ch2 (K:ac)(n:Nat)(t:TGs):TG:=λ v σ H Q=>∃ a xs,v=.ref a/\SqT K H a xs/\xs.length=n/\t xs σ H Q
theorem ca2 {es:List Expr}{k:Nat}{t:TGs}{n:Nat}(hc:X.calm=true)(h:PGs X es t)
  (hn:(cG es X.env).length=n:=by rfl) (F:(cG es X.env).findIdx? (·.1)=none:=by rfl):PG X (.Tuple es k pos) (ch2 X.K n t):=by
 intro B s σ H v u Q I r hw
 obtain⟨a,Y,e1,J,hl,hw⟩:=hw
 subst e1
 cases r
 obtain⟨its,G,ht,hz⟩:=I.tuple J
 refine assign_Tuple_tuple (I.ok.hd hc) ht (by simp[hn,<-hl,G.length]) F λ h' hx=>?_
 have Z:Inv X B σ H { s with heap:=h' }:=I.kept (t':=s.toks) λ b o e=>hx b o (aJ (aM e)) e
 exact h B _ σ H Y _ Q Z (by simpa using G) hw
def cm5 (to ti:TE)(t:ca5):TG:=λ v σ H Q=>to σ H λ o H1=>ti σ H1 λ i H2=>t o i v H2 λ H3=>Q σ H3
theorem bM3 {o i:Expr}{Y J:TE}{t:ca5}(ho:PE X o Y)(hi:PE X i J)(hs:cf7 X t)
  (ha:∀ v,gm (.Subscript o i pos) X.env v=(do
   let F <- jd [v] (eval o X.env)
   let G <- jd [v,F] (eval i X.env)
   standAt pos
   jd [v,F,G] (setItem F G v)
   release [v,F,G] []):=by intro _;rfl):PG X (.Subscript o i pos) (cm5 Y J t):=by
 intro B s σ H v u Q I r h
 rw[ha]
 refine ai (db (thn (ho B s σ H _ I h) λ F s1 ⟨x,Z,I1,r1,q1⟩=>?_))
 refine ai (db (thn (hi B s1 σ Z _ I1 q1) λ G s2 ⟨y,H2,I2,r2,q2⟩=>?_))
 refine ai (iO (ai (db (thn (hs B s2 σ H2 x y v F G u _ I2 r1 r2 r q2) λ _ s3 ⟨H3,I3,q3⟩=>?_))))
 exact wpAny_release ⟨σ,H3,I3,q3⟩
def bk8 (te:TE)(g:TG):TS:=λ D σ H=>te σ H λ x H1=>g x σ H1 D.nx
theorem aV6 {tg e:Expr}{F:TE}{g:TG}(he:PE X e F)(hg:PG X tg g)(hs:swapsWithSole [tg] e pos.line X.env=pure false:=by rfl)(hw:fR [tg] e X.env=pure none:=by rfl)
  (Z:(cG [tg] X.env).map (·.2)=[gm tg X.env]:=by rfl):PS X (.Assign [tg] e pos) (bk8 F g):=by
 intro B s σ H D I h
 refine wpAny_Assign_stores (thn (he B s σ H _ I h) λ v s1 ⟨x,J,Y,r1,G⟩=>?_) hs hw
 rw[Z]
 exact thn (hg B s1 σ J x v _ Y r1 G) λ _ s2 q=>q
theorem bs5 {i:Nat}{x:Str}{e:Expr}{G:TE}{B:Pos}(hN:X.N.Nodup)(hi:X.N[i]?=some x)(hx:Loc X.env.scope x)(he:PE X e G)(hs:eI e (some (.Name x B)) pos.line X.env=pure false:=by rfl)(Y:X.fn x=true\/X.env.scope.names.lookup x=some .local:=by first|exact .inl rfl|exact .inr rfl|assumption) :
  PS X (.Assign [.Name x B] e pos) (bk8 G (aF9 i)):=by
 intro F s σ H D I h
 refine wpAny_Assign_Name (thn (he F s σ H _ I h) λ v s1 ⟨y,J,Z,r1,q1⟩=>?_) hs
 exact ax4 Z hN hi hx r1 (λ s2 I2=>⟨_,J,I2,q1⟩) Y
def cm9 (i:Nat)(te:TE)(ti:TIp):TS:=λ D σ H=>∃ x,σ[i]?=some (some x)/\te σ H λ y H1=>ti x y H1 λ z H2=>D.nx (σ.set i (some z)) H2
theorem bS5 {i:Nat}{x:Str}{e:Expr}{Y:TE}{op:jZ}{G:TIp}{F:Pos}(hN:X.N.Nodup)(J:X.N[i]?=some x)(hx:Loc X.env.scope x)(he:PE X e Y)(ho:PIp X op G)(hf:X.fn x=true\/X.env.scope.names.lookup x=some .local:=by first|exact .inl rfl|exact .inr rfl|assumption) :
  PS X (.AugAssign (.Name x F) op e pos) (cm9 i Y G):=by
 intro B s σ H D I h
 obtain⟨v,e1,h⟩:=h
 obtain⟨m,hn,hl⟩:=I.loc
 have vis:Vis X.env.scope x:=by rcases hx with k|k;exact .inl k;exact .inr (.inl k)
 obtain⟨u,r,l⟩:=hl i x v J e1 vis
 refine wpAny_AugAssign_Name ?_
 have go:wpAny (model X.prog X.w) X.A (eval e X.env) (λ w s₂=>wpAny (model X.prog X.w) X.A (inplaceOp op u w) (λ r s₃=>wpAny (model X.prog X.w) X.A (f7 X.env x r) (λ _=>SP X B D .next) X.xe s₃) X.xe s₂) X.xe s:=by
  refine thn (he B s σ H _ I h) λ w s1 ⟨y,Z,I1,r1,q1⟩=>?_
  refine thn (ho B s1 σ Z v y u w _ I1 r r1 q1) λ z s2 ⟨zv,H2,I2,r2,q2⟩=>?_
  exact ax4 I2 hN J hx r2 (λ s3 I3=>⟨_,H2,I3,q2⟩) hf
 rcases l with⟨hk,hm⟩|⟨hk,c,hc,hcell⟩
 ·exact hW I.ok.kind hk hn hm go
 ·rcases hk with hk|hk
  ·exact iG I.ok.kind hk hc hcell go
  ·rcases hx with k|k
   ·have:X.env.scope.names.lookup x=some .free:=hk
    rw[k]at this;cases this
   ·have:X.env.scope.names.lookup x=some .free:=hk
    rw[k]at this;cases this
def ipI (f:Int->Int->Int):TIp:=λ x y H Q=>∃ i j,x=.int i/\y=.int j/\Q (.int (f i j)) H
theorem bY6:PIp X .Add (ipI λ i j=>i+j):=by
 intro B s σ H x y v u Q I r1 r2 h
 obtain⟨i,j,e1,e2,q⟩:=h
 subst e1;subst e2
 obtain⟨t,rfl⟩:=r1
 obtain⟨t',rfl⟩:=r2
 exact iadd_int ⟨.int _,H,I.tok _,⟨_,rfl⟩,q⟩
end
section
variable {X:Cx} {pos:Pos}
def aX8 (c:TT)(tb:TS):TS:=λ D σ H=>∃ W:Nat->St->Hp->Prop,(∃ m,W m σ H)/\∀ m σ H,W m σ H ->
 c σ H λ b H1=>if b=true then ∃ N:St->Hp->Prop,(∀ σ' H',N σ' H'->∃ m',m'<m/\W m' σ' H')/\tb { D with nx:=N,ct:=N,bk:=D.nx } σ H1 else D.nx σ H1
theorem aO3 {c:Expr}{body:List Stmt}{tc:TT}{tb:TS}(hp:ir (model X.prog X.w) X.A X.env X.xe)(hc:PT X c tc)(hb:PSs X body tb):PS X (.While c body [] pos) (aX8 tc tb):=by
 intro B s σ H D I h
 obtain⟨W,⟨m0,w0⟩,turn⟩:=h
 refine wpAny_While (codeAny_whileLoop (λ n s'=>∃ σ' H',Inv X B σ' H' s'/\W n σ' H') ?_ m0 ⟨σ,H,I,w0⟩)
 rintro n s1 ⟨σ1,Z,I1,w1⟩
 refine cJ hp (thn (hc B s1 σ1 Z _ I1 (turn n σ1 Z w1)) λ b s2 ⟨H2,I2,q2⟩=>?_)
 cases b with
 | true =>
  obtain⟨N,hN,q2⟩:=q2
  rw[if_pos rfl]
  refine cJ hp (thn (hb B s2 σ1 H2 _ I2 q2) λ f s3 q3=>?_)
  cases f with
  | next =>
   obtain⟨σ3,F,J,Y⟩:=q3
   obtain⟨m',hm,G⟩:=hN σ3 F Y
   exact⟨m',hm,σ3,F,J,G⟩
  | cont =>
   obtain⟨σ3,F,J,Y⟩:=q3
   obtain⟨m',hm,G⟩:=hN σ3 F Y
   exact⟨m',hm,σ3,F,J,G⟩
  | brk=>exact q3
  | ret v=>exact q3
 | false =>
  rw[if_neg aX]
  exact c5 ⟨σ1,H2,I2,q2⟩
end
structure It where
 go:Nat->Hp->Prop
 yld:Nat->Hp->V->Hp->Prop
 stop:Nat->Hp->Prop
def FpOk (X:Cx)(pins:List (Addr×Obj))(H:Hp)(b:Addr):Prop :=
 H b=none/\b≠X.env.locals/\b ∉ X.fs/\(b∈X.ex\/X.s₀.heap.objs.size<=b)/\(∀ x c,X.env.cells.lookup x=some c->c≠b)/\∀ p∈X.pn++pins,p.1≠b
theorem Inv.fpOk {X:Cx}{h:List (Addr×Obj)}{σ:St}{H H':Hp}{s:af}{b:Addr}(I:Inv X h σ H s)(hb:s.heap.objs.size<=b)(hn:H' b=none):FpOk X h H' b:=by
 refine⟨hn,jg (aG I.lt hb),I.nofs hb,.inr (av I.sz hb),λ x c e z=>?_,λ p hp z=>?_⟩
 ·obtain⟨v,q⟩:=I.cell x c e
  exact absurd (aG q.lt (by rw[z];exact hb)) (bC _)
 ·exact absurd (aG (aM (I.pin p hp).1) (by rw[z];exact hb)) (bC _)
structure Turn (P:aH)(w:World)(K:ac)(tg:Expr)(J:It)(fp:List Addr)(it:Addr)(tn:Nat->Heap->Prop):Prop where
 mem:it∈fp
 obj:∀ i h,tn i h->∀ b∈fp,∃ o,h.get? b=some o/\∀ v,o.data≠.cell v
 keep:∀ i h h',tn i h->(∀ b∈fp,∀ o,h.get? b=some o->h'.get? b=some o)->tn i h'
 item:∀(X:Cx),X.prog=P->X.w=w->X.K=K->X.calm=true->∀(i:Nat) (pins:List (Addr×Obj)) (s:af) (σ:St) (H:Hp) (E:Value->af->Prop),Inv X pins σ H s->(∀ b∈fp,FpOk X pins H b)->tn i s.heap->J.go i H ->
  wpAny (model P w) X.A (jy (.ref it)) (λ r s1=>∃ u,r=some u /\
   wpAny (model P w) X.A (eY tg (.ref it) u) (λ _ s2=>∃ x H',Inv X pins σ H' s2/\RelV x u/\J.yld i H x H'/\tn (i+1) s2.heap/\∀ b∈fp,H' b=none) E s1) E s
 done:∀(X:Cx),X.prog=P->X.w=w->X.K=K->X.calm=true->∀(i:Nat) (pins:List (Addr×Obj)) (s:af) (σ:St) (H:Hp) (E:Value->af->Prop),Inv X pins σ H s->(∀ b∈fp,FpOk X pins H b)->tn i s.heap->J.stop i H ->
  wpAny (model P w) X.A (jy (.ref it)) (λ r s1=>r=none/\Inv X pins σ H s1) E s
 self:∀(A:aV) (i:Nat) (s:af) (Q:Value->af->Prop) (E:Value->af->Prop),tn i s.heap->Q (.ref it) s->wpAny (model P w) A (kD (.ref it)) Q E s
abbrev TI:=St->Hp->(It->Hp->Prop)->Prop
def PIE (X:Cx)(pins:List (Addr×Obj))(σ:St)(tg:Expr)(R:It->Hp->Prop)(itv:Value)(s2:af):Prop :=
 ∃(it:Addr) (fp:List Addr) (tn:Nat->Heap->Prop) (J:It) (H':Hp),itv=.ref it/\Inv X pins σ H' s2/\Turn X.prog X.w X.K tg J fp it tn/\tn 0 s2.heap/\(∀ b∈fp,FpOk X pins H' b)/\R J H'
def PI (X:Cx)(tg iter:Expr)(wi:TI):Prop :=
 ∀(pins:List (Addr×Obj)) (s:af) (σ:St) (H:Hp) (R:It->Hp->Prop),Inv X pins σ H s->wi σ H R ->
  wpAny (model X.prog X.w) X.A (eval iter X.env) (λ v s1=>wpAny (model X.prog X.w) X.A (kD v) (PIE X pins σ tg R) X.xe s1) X.xe s
theorem bm2 {M : Model} {A : Around} {E : Value -> Shared -> Prop} {s : Shared} {tg : Expr} {it : Addr} {u : Value} {o : Obj} {n : String} {vs : Array Value} {Q : Unit -> Shared -> Prop} (ho : s.heap.get? it = some o) (hc : o.cls = .type n) (hd : o.data = .fields vs)
    (hn : ["enumerate", "zip", "dict_itemiterator", "dict_reverseitemiterator", "odict_iterator", "itertools.zip_longest", "itertools.pairwise"].contains n = false) (hQ : Q () s) : wpAny M A (eY tg (.ref it) u) Q E s := by
  unfold eY
  cases tg <;> first
    | exact aA hQ
    | (cases u <;> first
        | exact aA hQ
        | (refine ai (wpAny_load ho ?_)
           rw[hc, hd]
           show wpAny M A (if(["enumerate", "zip", "dict_itemiterator", "dict_reverseitemiterator", "odict_iterator", "itertools.zip_longest", "itertools.pairwise"].contains n && vs[0]? == some (rawInt _)) = true then _ else _) Q E s
           rw[if_neg (by intro h; rw[hn, j0]at h; cases h)]
           exact aA hQ))
noncomputable def Itl (K:ac)(a:Addr):It :=
 ⟨λ i H=>∃ xs x,SqL K H a xs/\xs[i]?=some x,λ i H x H'=>H'=H/\∀ xs,SqL K H a xs->xs[i]?=some x,λ i H=>∃ xs,SqL K H a xs/\xs.length<=i⟩
noncomputable def Itt (K:ac)(a:Addr):It :=
 ⟨λ i H=>∃ xs x,SqT K H a xs/\xs[i]?=some x,λ i H x H'=>H'=H/\∀ xs,SqT K H a xs->xs[i]?=some x,λ i H=>∃ xs,SqT K H a xs/\xs.length<=i⟩
noncomputable def Itr (lo:Int)(n:Nat):It:=⟨λ i _=>i<n,λ i H x H'=>H'=H/\x=.int (lo+i),λ i _=>n<=i⟩
theorem be5 {P:aH}{w:World}{K:ac}{tg:Expr}(a it:Addr):Turn P w K tg (Itl K a) [it] it (λ i h=>h.IsListIter it a i) where
 mem:=by simp
 obj:=λ i h st b hb=>by
  have e:b=it:=by simpa using hb
  subst e
  obtain⟨o,e,c,d⟩:=st
  exact⟨o,e,λ v z=>by rw[d]at z;cases z⟩
 keep:=λ i h h' st k=>st.at λ o e=>k it (by simp) o e
 item:=by
  intro X Z hw hK hc i B s σ H E I J st hg
  subst Z hw hK
  obtain⟨xs,x,G,hx⟩:=hg
  obtain⟨its,Y,p,hz⟩:=I.list G
  obtain⟨u,hu,ru⟩:=Y.get hx
  obtain⟨f0,f1,f2,f3,f4,f5⟩:=J it (by simp)
  refine wpAny_pyNext_list_item st p.isList (x:=u) (by simpa using hu) λ h' F sb=>?_
  have I1:Inv X B σ H { s with heap:=h' }:=I.turned (t':=s.toks) (λ b o hb e=>(sb.2 b hb).trans e) f0 f1 f3 f4 f5
  obtain⟨o,e,c,d⟩:=id F
  exact⟨u,rfl,bm2 (s:={ s with heap:=h' }) e c d (by decide) ⟨x,H,I1,ru,⟨rfl,λ ys hy=>by rw[I.list_inj hy G];exact hx⟩,F,λ b hb=>(J b hb).1⟩⟩
 done:=by
  intro X Z hw hK hc i B s σ H E I J st hg
  subst Z hw hK
  obtain⟨xs,G,hx⟩:=hg
  obtain⟨its,Y,p,hz⟩:=I.list G
  obtain⟨f0,f1,f2,f3,f4,f5⟩:=J it (by simp)
  have hl:=Y.length
  exact wpAny_pyNext_list_end (I.ok.hd hc) st p.isList (by simp;omega) λ h' eb=>⟨rfl,I.turned (t':=s.toks) (λ b o hb e=>eb b o hb e) f0 f1 f3 f4 f5⟩
 self:=λ _ _ _ _ _ st h=>wpAny_pyIter_listiter st h
theorem aU5 {P:aH}{w:World}{K:ac}{tg:Expr}(a it:Addr):Turn P w K tg (Itt K a) [it] it (λ i h=>h.IsTupleIter it a i) where
 mem:=by simp
 obj:=λ i h st b hb=>by
  have e:b=it:=by simpa using hb
  subst e
  obtain⟨o,e,c,d⟩:=st
  exact⟨o,e,λ v z=>by rw[d]at z;cases z⟩
 keep:=λ i h h' st k=>st.at λ o e=>k it (by simp) o e
 item:=by
  intro X Z hw hK hc i B s σ H E I J st hg
  subst Z hw hK
  obtain⟨xs,x,G,hx⟩:=hg
  obtain⟨its,Y,p,hz⟩:=I.tuple G
  obtain⟨u,hu,ru⟩:=Y.get hx
  obtain⟨f0,f1,f2,f3,f4,f5⟩:=J it (by simp)
  refine wpAny_pyNext_tuple_item st (show s.heap.IsTuple a its.toArray from p) (x:=u) (by simpa using hu) λ h' F sb=>?_
  have I1:Inv X B σ H { s with heap:=h' }:=I.turned (t':=s.toks) (λ b o hb e=>(sb.2 b hb).trans e) f0 f1 f3 f4 f5
  obtain⟨o,e,c,d⟩:=id F
  exact⟨u,rfl,bm2 (s:={ s with heap:=h' }) e c d (by decide) ⟨x,H,I1,ru,⟨rfl,λ ys hy=>by rw[I.tuple_inj hy G];exact hx⟩,F,λ b hb=>(J b hb).1⟩⟩
 done:=by
  intro X Z hw hK hc i B s σ H E I J st hg
  subst Z hw hK
  obtain⟨xs,G,hx⟩:=hg
  obtain⟨its,Y,p,hz⟩:=I.tuple G
  obtain⟨f0,f1,f2,f3,f4,f5⟩:=J it (by simp)
  have hl:=Y.length
  exact wpAny_pyNext_tuple_end (I.ok.hd hc) st (show s.heap.IsTuple a its.toArray from p) (by simp;omega) λ h' eb=>⟨rfl,I.turned (t':=s.toks) (λ b o hb e=>eb b o hb e) f0 f1 f3 f4 f5⟩
 self:=λ _ _ _ _ _ st h=>wpAny_pyIter_tupleiter st h
theorem aR5 {P:aH}{w:World}{K:ac}{tg:Expr}(it:Addr)(J:Int)(n:Nat):Turn P w K tg (Itr J n) [it] it (λ i h=>IsRangeIter h it (J+(i:Nat)*1) ((n:Int) - (i:Nat)) 1) where
 mem:=by simp
 obj:=λ i h st b hb=>by
  have e:b=it:=by simpa using hb
  subst e
  exact⟨_,st,λ v z=>by
   have z':Data.fields _=Data.cell v:=z
   cases z'⟩
 keep:=λ i h h' st k=>k it (by simp) _ st
 item:=by
  intro X Y hw hK hc i B s σ H E I G st hg
  subst Y hw hK
  obtain⟨Z,f1,f2,f3,f4,f5⟩:=G it (by simp)
  have W:=Walks.range (prog:=X.prog) (w:=X.w) (I.ok.hd hc) it J 1 n
  refine W.item i s _ _ hg st λ v h' tk hv F kk=>?_
  obtain⟨t,rfl⟩:=hv
  have I1:Inv X B σ H { s with heap:=h',toks:=tk }:=I.turned (λ b o hb e=>kk b o (by simpa using hb) e) Z f1 f3 f4 f5
  refine⟨_,rfl,bm2 (s:={ s with heap:=h',toks:=tk }) (n := "range_iterator") F rfl rfl (by decide) ⟨.int (J+i),H,I1,⟨t,?_⟩,⟨rfl,rfl⟩,F,λ b hb=>(G b hb).1⟩⟩
  rw[Int.mul_one]
 done:=by
  intro X Y hw hK hc i B s σ H E I G st hg
  subst Y hw hK
  obtain⟨Z,f1,f2,f3,f4,f5⟩:=G it (by simp)
  exact wpAny_pyNext_range_end (I.ok.hd hc) st (by have:n<=i:=hg;omega) λ h' eb=>⟨rfl,I.turned (t':=s.toks) (λ b o hb e=>eb b o hb e) Z f1 f3 f4 f5⟩
 self:=λ _ _ _ _ _ st h=>wpAny_pyIter_rangeiter st h
section
variable {X:Cx} {tg:Expr}
def bI4 (K:ac)(tl:TE):TI:=λ σ H R=>tl σ H λ x H1=>∃ a,x=.ref a/\(∃ xs,SqL K H1 a xs)/\R (Itl K a) H1
def cg6 (K:ac)(tl:TE):TI:=λ σ H R=>tl σ H λ x H1=>∃ a,x=.ref a/\(∃ xs,SqT K H1 a xs)/\R (Itt K a) H1
theorem bw0 {l:Expr}{G:TE}(hl:PE X l G):PI X tg l (bI4 X.K G):=by
 intro B s σ H R I h
 refine thn (hl B s σ H _ I h) λ v s1 ⟨x,J,F,r1,Z⟩=>?_
 obtain⟨a,e,⟨xs,Y⟩,q⟩:=Z
 subst e
 cases r1
 obtain⟨its,rv,p,hz⟩:=F.list Y
 refine dY p.isList ?_
 refine⟨s1.heap.objs.size,[s1.heap.objs.size],_,_,J,rfl,F.kept (t':=s1.toks) λ b o e=>aB _ e,be5 a _,⟨_,be _ rfl,rfl,rfl⟩,λ b hb=>?_,q⟩
 have e:b=s1.heap.objs.size:=by simpa using hb
 subst e
 exact F.fpOk (aw _) (F.hok.fresh (aw _))
theorem bS9 {l:Expr}{G:TE}(hl:PE X l G):PI X tg l (cg6 X.K G):=by
 intro B s σ H R I h
 refine thn (hl B s σ H _ I h) λ v s1 ⟨x,J,F,r1,Z⟩=>?_
 obtain⟨a,e,⟨xs,Y⟩,q⟩:=Z
 subst e
 cases r1
 obtain⟨its,rv,p,hz⟩:=F.tuple Y
 refine iW (show s1.heap.IsTuple a its.toArray from p) ?_
 refine⟨s1.heap.objs.size,[s1.heap.objs.size],_,_,J,rfl,F.kept (t':=s1.toks) λ b o e=>aB _ e,aU5 a _,⟨_,be _ rfl,rfl,rfl⟩,λ b hb=>?_,q⟩
 have e:b=s1.heap.objs.size:=by simpa using hb
 subst e
 exact F.fpOk (aw _) (F.hok.fresh (aw _))
theorem aP0 {F:List (Addr×Obj)}{σ:St}{H:Hp}{s:af}{R:It->Hp->Prop}{E:Value->af->Prop}{h B:Int}{t u v:Tok}{tk:Nat}(I:Inv X F σ H s)(Z:-(2^62)<=h)(Y:h<2^62)(h3:-(2^62)<=B)(J:B<2^62)
  (q:R (Itr h (B - h).toNat) H):wpAny (model X.prog X.w) X.A (kD (.ref s.heap.objs.size)) (PIE X F σ tg R) E { s with heap:=s.heap.push { cls:=.type "range",data:=.fields #[.int h t,.int B u,.int 1 v] },toks:=tk }:=by
 refine wpAny_pyIter_range (IsRange.new ..) (small_one Z Y h3 J) ?_
 have G:Inv X F σ H { s with heap:=s.heap.push { cls:=.type "range",data:=.fields #[.int h t,.int B u,.int 1 v] },toks:=tk }:=I.kept λ b o e=>aB _ e
 refine⟨(s.heap.push { cls:=.type "range",data:=.fields #[.int h t,.int B u,.int 1 v] }).objs.size,[(s.heap.push { cls:=.type "range",data:=.fields #[.int h t,.int B u,.int 1 v] }).objs.size],_,_,H,rfl,
  G.kept (t':=tk) λ b o e=>aB _ e,aR5 _ h (B - h).toNat,?_,λ b hb=>?_,q⟩
 ·have e1:h+((0:Nat):Int)*1=h:=by simp
  have e2:(((B - h).toNat:Nat):Int) - ((0:Nat):Int)=ku h B 1:=by rw[rangeSize_one];split<;>omega
  show IsRangeIter _ _ (h+((0:Nat):Int)*1) ((((B - h).toNat:Nat):Int) - ((0:Nat):Int)) 1
  rw[e1,e2]
  exact be _ rfl
 ·have e:b=(s.heap.push { cls:=.type "range",data:=.fields #[.int h t,.int B u,.int 1 v] }).objs.size:=by simpa using hb
  subst e
  exact G.fpOk (aw _) (G.hok.fresh (aw _))
def bL8 (ta:TA):TI:=λ σ H R=>ta σ H λ vs H1=>∃ j:Int,vs=[.int j]/\-(2^62)<=j/\j<2^62/\R (Itr 0 j.toNat) H1
def bN8 (ta:TA):TI:=λ σ H R=>ta σ H λ vs H1=>∃ i j:Int,vs=[.int i,.int j]/\(-(2^62)<=i/\i<2^62/\-(2^62)<=j/\j<2^62)/\R (Itr i (j - i).toNat) H1
theorem bf7 {a:Expr}{G:TA}{p pos:Pos}(hg:Gl X "range")(hm:X.mg "range"=none)(ha:PA X [a] G)(hs:bw [a] X.env=[(false,eval a X.env)]:=by rfl):PI X tg (.Call (.Name "range" p) [a] [] pos) (bL8 G):=by
 intro B s σ H R I h
 refine Call_ (av5 I hg hm boot_range (dm (thn (ha pos B s σ H _ I h) λ us s1 ⟨vs,Y,J,r1,F⟩=>?_) hs rfl))
 obtain⟨j,e,F,q2,q⟩:=F
 subst e
 cases r1 with
 | cons r rr =>
  cases rr
  obtain⟨t,rfl⟩:=r
  exact call_range_1 (aP0 J (by omega) (by omega) F q2 (by simpa using q))
theorem aW4 {a b:Expr}{J:TA}{p pos:Pos}(hg:Gl X "range")(hm:X.mg "range"=none)(ha:PA X [a,b] J)(hs:bw [a,b] X.env=[(false,eval a X.env),(false,eval b X.env)]:=by rfl)(B:bw [b] X.env=[(false,eval b X.env)]:=by rfl) :
  PI X tg (.Call (.Name "range" p) [a,b] [] pos) (bN8 J):=by
 intro F s σ H R I h
 refine Call_ (av5 I hg hm boot_range (dm (thn (ha pos F s σ H _ I h) λ us s1 ⟨vs,Z,Y,r1,G⟩=>?_) (by rw[hs,B]) (by rw[B];rfl)))
 obtain⟨i,j,e,⟨G,q2,q3,q4⟩,q⟩:=G
 subst e
 cases r1 with
 | cons r rr =>
  cases rr with
  | cons r' rr =>
   cases rr
   obtain⟨t,rfl⟩:=r
   obtain⟨t',rfl⟩:=r'
   exact call_range_2 (aP0 Y G q2 q3 q4 q)
def cj2 (wi:TI)(g:TG)(tb:TS):TS:=λ D σ H=>wi σ H λ J H1=>∃ W:Nat->Nat->St->Hp->Prop,(∃ m,W 0 m σ H1)/\∀ i m σ H,W i m σ H ->
 (J.stop i H/\D.nx σ H)\/(J.go i H/\∃ N:St->Hp->Prop,(∀ σ' H',N σ' H'->∃ m',m'<m/\W (i+1) m' σ' H')/\∀ x H',J.yld i H x H'->g x σ H' λ σ2 H2=>tb { D with nx:=N,ct:=N,bk:=D.nx } σ2 H2)
noncomputable def aD8 (fp:List Addr)(h:Heap):List (Addr×Obj):=fp.filterMap λ b=>(h.get? b).map λ o=>(b,o)
theorem qK {B:List Addr}{h:Heap}{b:Addr}{o:Obj}(hb:b∈B)(e:h.get? b=some o):(b,o)∈aD8 B h:=bR.mpr ⟨b,hb,by rw[e];rfl⟩
theorem ba7 {B:List Addr}{h:Heap}{p:Addr×Obj}(hp:p∈aD8 B h):p.1∈B/\h.get? p.1=some p.2:=by
 obtain⟨b,hb,e⟩:=bR.mp hp
 cases q:h.get? b with
 | none=>rw[q]at e;cases e
 | some o =>
  rw[q]at e
  have e':(b,o)=p:=aE e
  subst e'
  exact⟨hb,q⟩
theorem Inv.pinned {h:List (Addr×Obj)}{σ:St}{H:Hp}{s:af}{B:List Addr}(I:Inv X h σ H s)(J:∀ b∈B,FpOk X h H b)(ho:∀ b∈B,∃ o,s.heap.get? b=some o/\∀ v,o.data≠.cell v):Inv X (h++aD8 B s.heap) σ H s :=
 I.pins_of λ p hp=>(aS.mp hp).elim (λ z=>I.pin p (aK _ z)) λ z=>by
  obtain⟨hb,e⟩:=ba7 z
  obtain⟨F,Y,G,_⟩:=J p.1 hb
  obtain⟨o,e',d⟩:=ho p.1 hb
  rw[e]at e';cases e'
  exact⟨e,F,Y,G,d⟩
theorem Inv.unpinned {h B:List (Addr×Obj)}{σ:St}{H:Hp}{s:af}(I:Inv X (h++B) σ H s):Inv X h σ H s:=I.pins_of λ p hp=>I.pin p (aK _ (bu _ hp))
theorem bt6 {iter:Expr}{body:List Stmt}{wi:TI}{g:TG}{tb:TS}{pos:Pos}(hp:ir (model X.prog X.w) X.A X.env X.xe)(hc:X.calm=true)(hi:PI X tg iter wi)(hg:PG X tg g)(hb:PSs X body tb)
  (hs:∀ x,dq iter X.env x=pure x:=by intro _;rfl):PS X (.For tg iter body [] pos) (cj2 wi g tb):=by
 intro B s σ H D I h
 refine wpAny_For (thn (hi B s σ H _ I h) λ v s1 h1=>thn h1 λ a6 s2 h2=>?_) hs
 obtain⟨it,fp,tn,J,H2,e,I2,T,a5,f2,W,⟨m0,w0⟩,turn⟩:=h2
 subst e
 have F:∀ {H':Hp},(∀ b∈fp,H' b=none)->∀ b∈fp,FpOk X B H' b:=λ hn b hb=>⟨hn b hb,(f2 b hb).2⟩
 refine codeAny_forLoop_any (λ n s'=>∃ i σ' H',Inv X B σ' H' s'/\tn i s'.heap/\(∀ b∈fp,H' b=none)/\W i n σ' H') ?_ m0 ⟨0,σ,H2,I2,a5,λ b hb=>(f2 b hb).1,w0⟩
 rintro n s3 ⟨i,σ3,H3,I3,a2,a1,w3⟩
 rcases turn i n σ3 H3 w3 with⟨stop,qn⟩|⟨go,N,hN,step⟩
 ·refine cJ hp (thn (T.done X rfl rfl rfl hc i B s3 σ3 H3 X.xe I3 (F a1) a2 stop) λ r s4 ⟨hr,I4⟩=>?_)
  subst hr
  exact c5 ⟨σ3,H3,I4,qn⟩
 ·refine cJ hp (thn (T.item X rfl rfl rfl hc i B s3 σ3 H3 X.xe I3 (F a1) a2 go) λ r s4 ⟨u,hr,h4⟩=>?_)
  subst hr
  refine cJ hp (thn h4 λ _ s5 ⟨x,H5,I5,r5,y5,a0,a4⟩=>?_)
  have a3:=I5.pinned (F a4) (T.obj _ _ a0)
  refine cJ hp (thn (hg _ s5 σ3 H5 x u _ a3 r5 (step x H5 y5)) λ _ s6 ⟨σ6,H6,I6,q6⟩=>?_)
  refine cJ hp (thn (hb _ s6 σ6 H6 _ I6 q6) λ f s7 Z=>?_)
  have again:∀ {σ7:St} {Y:Hp},Inv X (B++aD8 fp s5.heap) σ7 Y s7->N σ7 Y->∃ m,m<n/\∃ i σ' H',Inv X B σ' H' s7/\tn i s7.heap/\(∀ b∈fp,H' b=none)/\W i m σ' H':=λ {σ7 Y} G n7=>by
   obtain⟨m',hm,w7⟩:=hN σ7 Y n7
   refine⟨m',hm,i+1,σ7,Y,G.unpinned,T.keep _ _ _ a0 λ b hb o e=>(G.pin (b,o) (aK _ (aK _ (qK hb e)))).1,λ b hb=>?_,w7⟩
   obtain⟨o,e,d⟩:=T.obj _ _ a0 b hb
   exact(G.pin (b,o) (aK _ (aK _ (qK hb e)))).2.1
  cases f with
  | next=>obtain⟨σ7,Y,G,n7⟩:=Z;exact again G n7
  | cont=>obtain⟨σ7,Y,G,n7⟩:=Z;exact again G n7
  | brk=>obtain⟨σ7,Y,G,Z⟩:=Z;exact⟨σ7,Y,G.unpinned,Z⟩
  | ret v=>obtain⟨x7,σ7,Y,G,r7,Z⟩:=Z;exact⟨x7,σ7,Y,G.unpinned,r7,Z⟩
end
abbrev R2:=V->V->Hp->VK->Prop
def OpR (X:Cx)(f:Value->Value->Sem Value)(r:R2):Prop :=
 ∀(pins:List (Addr×Obj)) (s:af) (σ:St) (H:Hp) (x y:V) (v u:Value) (Q:VK),Inv X pins σ H s->RelV x v->RelV y u->r x y H Q ->
  wpAny (model X.prog X.w) X.A (f v u) (EP X pins σ Q) X.xe s
def UnR (X:Cx)(f:Value->Sem Value)(r:V->Hp->VK->Prop):Prop :=
 ∀(pins:List (Addr×Obj)) (s:af) (σ:St) (H:Hp) (x:V) (v:Value) (Q:VK),Inv X pins σ H s->RelV x v->r x H Q ->
  wpAny (model X.prog X.w) X.A (f v) (EP X pins σ Q) X.xe s
def aj1 (X:Cx)(f:Value)(r:List V->Hp->VK->Prop):Prop :=
 ∀(pins:List (Addr×Obj)) (s:af) (σ:St) (H:Hp) (xs:List V) (us:List Value) (Q:VK),Inv X pins σ H s->Vals xs us->r xs H Q ->
  wpAny (model X.prog X.w) X.A (call f us) (EP X pins σ Q) X.xe s
def tOp (r:R2)(ta tb:TE):TE:=λ σ H Q=>ta σ H λ x H1=>tb σ H1 λ y H2=>r x y H2 Q
def tUn (r:V->Hp->VK->Prop)(ta:TE):TE:=λ σ H Q=>ta σ H λ x H1=>r x H1 Q
def rI (C:Int->Int->Prop)(g:Int->Int->V):R2:=λ x y H Q=>∃ i j,x=.int i/\y=.int j/\C i j/\Q (g i j) H
def rI0 (g:Int->Int->V):R2:=λ x y H Q=>∃ i j,x=.int i/\y=.int j/\Q (g i j) H
def rU (g:Int->V):V->Hp->VK->Prop:=λ x H Q=>∃ i,x=.int i/\Q (g i) H
section
variable {X:Cx} {a b c:Expr} {ta tb tc:TE} {pos:Pos}
theorem ci7 (ha:PE X a ta)(hb:PE X b tb){B:List (Addr×Obj)}{s:af}{σ:St}{H:Hp}{R:V->V->Hp->Prop}(I:Inv X B σ H s)
  (h:ta σ H λ x G=>tb σ G λ y F=>R x y F) {Q:Value->af->Prop} {f:Value->Value->Sem Value}
  (Y:∀ v u s2 x y F,Inv X B σ F s2->RelV x v->RelV y u->R x y F->wpAny (model X.prog X.w) X.A (f v u) Q X.xe s2) :
  wpAny (model X.prog X.w) X.A (eval a X.env) (λ v J=>wpAny (model X.prog X.w) X.A (eval b X.env) (λ u Z=>wpAny (model X.prog X.w) X.A (f v u) Q X.xe Z) X.xe J) X.xe s:=by
 refine thn (ha B s σ H _ I h) λ v s1 ⟨x,G,I1,r1,q1⟩=>?_
 refine thn (hb B s1 σ G _ I1 q1) λ u s2 ⟨y,F,I2,r2,q2⟩=>?_
 exact Y v u s2 x y F I2 r1 r2 q2
theorem cd7 {op:jZ}{r:R2}(ho:OpR X (cA op) r)(ha:PE X a ta)(hb:PE X b tb):PE X (.BinOp a op b pos) (tOp r ta tb):=by
 intro B s σ H Q I h
 exact wpAny_BinOp (ci7 ha hb I h λ v u s2 x y Y G J F q=>ho B s2 σ Y x y v u Q G J F q)
theorem cc5 {op:UnaryOp}{r:V->Hp->VK->Prop}(ho:UnR X (unaryOp op) r)(ha:PE X a ta):PE X (.UnaryOp op a pos) (tUn r ta):=by
 intro B s σ H Q I h
 exact UnaryOp_ (thn (ha B s σ H _ I h) λ v s1 ⟨x,G,J,r1,F⟩=>ho B s1 σ G x v Q J r1 F)
theorem opI {f:Value->Value->Sem Value}{C:Int->Int->Prop}{g:Int->Int->Int}
  (rule:∀(i j:Int) (t u:Tok) (s:af) (Q:Value->af->Prop) (E:Value->af->Prop),C i j->Q (.int (g i j) s.toks) { s with toks:=s.toks+1 }->wpAny (model X.prog X.w) X.A (f (.int i t) (.int j u)) Q E s) :
  OpR X f (rI C λ i j=>.int (g i j)):=by
 intro B s σ H x y v u Q I G F h
 obtain⟨i,j,rfl,rfl,hc,q⟩:=h
 obtain⟨t,rfl⟩:=G
 obtain⟨t',rfl⟩:=F
 exact rule i j t t' s _ _ hc ⟨.int (g i j),H,I.tok _,⟨_,rfl⟩,q⟩
theorem co0 {f:Value->Value->Sem Value}{g:Int->Int->Int}
  (rule:∀(i j:Int) (t u:Tok) (s:af) (Q:Value->af->Prop) (E:Value->af->Prop),Q (.int (g i j) s.toks) { s with toks:=s.toks+1 }->wpAny (model X.prog X.w) X.A (f (.int i t) (.int j u)) Q E s) :
  OpR X f (rI0 λ i j=>.int (g i j)):=by
 intro B s σ H x y v u Q I G F h
 obtain⟨i,j,rfl,rfl,q⟩:=h
 obtain⟨t,rfl⟩:=G
 obtain⟨t',rfl⟩:=F
 exact rule i j t t' s _ _ ⟨.int (g i j),H,I.tok _,⟨_,rfl⟩,q⟩
theorem cg9 {f:Value->Value->Sem Value}{g:Int->Int->Bool}
  (rule:∀(i j:Int) (t u:Tok) (s:af) (Q:Value->af->Prop) (E:Value->af->Prop),Q (.bool (g i j)) s->wpAny (model X.prog X.w) X.A (f (.int i t) (.int j u)) Q E s) :
  OpR X f (rI0 λ i j=>.bl (g i j)):=by
 intro B s σ H x y v u Q I G F h
 obtain⟨i,j,rfl,rfl,q⟩:=h
 obtain⟨t,rfl⟩:=G
 obtain⟨t',rfl⟩:=F
 exact rule i j t t' s _ _ ⟨.bl (g i j),H,I,rfl,q⟩
def cm3 (i j:Int):Prop:=0<=j/\j<=1000000/\i.natAbs<2^64
def ca9 (i j:Int):Prop:=(-(2^64)<i/\i<2^64)\/(-(2^64)<j/\j<2^64)
theorem ca9.ok {i j:Int}(h:ca9 i j):IntMulOk i j:=by
 rcases h with⟨B,F⟩|⟨B,F⟩
 ·exact .of_left (intBits_le_64 B F)
 ·exact .of_right (intBits_le_64 B F)
theorem bT6:OpR X (cA .Add) (rI0 λ i j=>.int (i+j)):=co0 λ _ _ _ _ _ _ _ q=>add_int q
theorem bW4:OpR X (cA .Mod) (rI (λ _ j=>0<j) λ i j=>.int (i % j)):=opI λ i j _ _ _ _ _ hc q=>by
 have h:(0:Int)<j:=hc
 exact mod_int' (by omega) (by rw[Int.fmod_eq_emod_of_nonneg i (by omega)];exact q)
theorem bZ5:OpR X (cA .Pow) (rI cm3 λ i j=>.int (i^j.toNat)):=opI λ _ _ _ _ _ _ _ hc q=>pow_int_small hc.1 hc.2.1 hc.2.2 q
theorem bX8:OpR X (cA .LShift) (rI cm3 λ i j=>.int (i*2^j.toNat)):=opI λ _ _ _ _ _ _ _ hc q=>lshift_int_small hc.1 hc.2.1 hc.2.2 q
theorem unI {f:Value->Sem Value}{g:Int->Int}
  (rule:∀(i:Int) (t:Tok) (s:af) (Q:Value->af->Prop) (E:Value->af->Prop),Q (.int (g i) s.toks) { s with toks:=s.toks+1 }->wpAny (model X.prog X.w) X.A (f (.int i t)) Q E s) :
  UnR X f (rU λ i=>.int (g i)):=by
 intro B s σ H x v Q I F h
 obtain⟨i,rfl,q⟩:=h
 obtain⟨t,rfl⟩:=F
 exact rule i t s _ _ ⟨.int (g i),H,I.tok _,⟨_,rfl⟩,q⟩
theorem bK7:UnR X (unaryOp .USub) (rU λ i=>.int (-i)):=unI λ _ _ _ _ _ q=>neg_int q
end
section
variable {X:Cx} {a b c:Expr} {ta tb tc:TE} {pos:Pos}
theorem ce9:OpR X (dB .Lt) (rI0 λ i j=>.bl (decide (i<j))):=cg9 λ _ _ _ _ _ _ _ q=>lt_int q
theorem cg4:OpR X (dB .LtE) (rI0 λ i j=>.bl (decide (i<=j))):=cg9 λ _ _ _ _ _ _ _ q=>le_int q
theorem cf3:OpR X (dB .Gt) (rI0 λ i j=>.bl (decide (j<i))):=cg9 λ _ _ _ _ _ _ _ q=>gt_int q
theorem bF1 {op:CmpOp}{r:R2}(ho:OpR X (dB op) r)(ha:PE X a ta)(hb:PE X b tb)(hm:da op b=false):PE X (.Compare a [op] [b] pos) (tOp r ta tb):=by
 intro B s σ H Q I h
 exact wpAny_Compare1 (ci7 ha hb I h λ v u s2 x y Y G J F q=>ho B s2 σ Y x y v u Q G J F q) hm
def bO0 (t:TE):TT:=λ σ H Q=>t σ H λ x H'=>∃ k,x=.bl k/\Q k H'
theorem bH4 {op:CmpOp}{r:R2}(ho:OpR X (dB op) r)(ha:PE X a ta)(hb:PE X b tb)(hm:da op b=false):PT X (.Compare a [op] [b] pos) (bO0 (tOp r ta tb)):=by
 intro B s σ H Q I h
 refine gT (thn (ha B s σ H _ I h) λ v s1 ⟨x,F,G,r1,q1⟩=>thn (hb B s1 σ F _ G q1) λ u s2 ⟨y,Z,I2,r2,q2⟩ =>
  thn (ho B s2 σ Z x y v u _ I2 r1 r2 q2) λ c s3 ⟨z,J,Y,r3,k,e,q3⟩=>?_) hm
 subst e
 cases r3
 exact cy ⟨J,Y,q3⟩
theorem aq6:(aO:Nat)<2^63:=by rw[fG];decide
theorem aR0:OpR X (cA .Add) (λ x y H Q=>∃ i j,x=.str i/\y=.str j/\i.length+j.length<=aO/\Q (.str (i++j)) H):=by
 intro B s σ H x y v u Q I G F h
 obtain⟨i,j,rfl,rfl,hz,q⟩:=h
 obtain⟨t,rfl⟩:=G
 obtain⟨t',rfl⟩:=F
 exact add_str (λ t' tk=>⟨.str (i++j),H,I.tok _,⟨_,rfl⟩,q⟩) hz
theorem al7 {x:V}{us:List Value}(r:Vals [x] us):∃ u,us=[u]/\RelV x u:=by
 cases r with
 | cons r1 r2=>cases r2;exact⟨_,rfl,r1⟩
theorem bF0 {x y:V}{us:List Value}(r:Vals [x,y] us):∃ u h,us=[u,h]/\RelV x u/\RelV y h:=by
 cases r with
 | cons r1 r2 =>
  cases r2 with
  | cons r3 r4=>cases r4;exact⟨_,_,rfl,r1,r3⟩
theorem bm6:aj1 X (.builtin "abs") (λ B H Q=>∃ i,B=[.int i]/\Q (.int (if i<0 then -i else i)) H):=by
 intro F s σ H B us Q I r h
 obtain⟨i,rfl,q⟩:=h
 obtain⟨u,rfl,t,rfl⟩:=al7 r
 exact call_abs_int λ u tk=>⟨.int (if i<0 then -i else i),H,I.tok _,⟨_,rfl⟩,q⟩
theorem aW2 (hc:X.calm=true):aj1 X (.builtin "min") (λ B H Q=>∃ i j,B=[.int i,.int j]/\Q (.int (if j<i then j else i)) H):=by
 intro F s σ H B us Q I r h
 obtain⟨i,j,rfl,q⟩:=h
 obtain⟨u,G,rfl,⟨t,rfl⟩,⟨t',rfl⟩⟩:=bF0 r
 refine min_two_ints (I.ok.hd hc) λ h' tk k=>⟨_,H,I.kept k,?_,q⟩
 by_cases hj:j<i
 ·rw[if_pos hj,if_pos hj];exact⟨_,rfl⟩
 ·rw[if_neg hj,if_neg hj];exact⟨_,rfl⟩
theorem aW7:aj1 X (.type "int") (λ B H Q=>(∃ i,B=[.int i]/\Q (.int i) H)\/∃ k,B=[.bl k]/\Q (.int (if k then 1 else 0)) H):=by
 intro F s σ H B us Q I r h
 rcases h with⟨i,rfl,q⟩|⟨k,rfl,q⟩
 ·obtain⟨u,rfl,t,rfl⟩:=al7 r
  exact call_int_int ⟨.int i,H,I,⟨_,rfl⟩,q⟩
 ·obtain⟨u,rfl,r1⟩:=al7 r
  cases r1
  exact call_int_bool ⟨.int (if k then 1 else 0),H,I.tok _,⟨_,rfl⟩,q⟩
end
structure ObjM (h:Heap)(x dx C:Addr)(mA:Str->Option Value):Prop where
 obj:h.get? x=some (gJ C dx)
 ns:h.Ns1 dx mA
 ne:dx≠x
theorem ba8 {h:Heap}{G:Addr}{F:Str->Option Value}(n:h.Ns1 G F):∃ od,h.get? G=some od/\∀ name,hX name od=some (F name):=by
 obtain⟨o,es,ep,ho,hd,hk,_,hm⟩:=n
 refine⟨o,ho,λ name=>?_⟩
 have e:=hm name
 unfold nsFind findBy at e
 rw[<-Array.find?_toList]at e
 unfold hX
 rw[hd]
 dsimp only
 split
 ·rename_i y q
  rw[q]at e
  exact congrArg some e
 ·rename_i q
  rw[q]at e
  have a:es.toList.any (·.refKey)=false:=by
   rw[List.any_eq_false]
   intro y hy
   obtain⟨z,t,B⟩:=hk y (Array.mem_toList_iff.mp hy)
   simp[DictEntry.refKey,B]
  have J:¬ es.toList.any (·.refKey)=true:=by rw[a];exact aX
  rw[if_neg J]
  exact congrArg some e
theorem ObjM.look {h:Heap}{x F C:Addr}{B:Str->Option Value}(I:ObjM h x F C B):∃ od,PySem.W.InstAt h x (gJ C F) C (some od)/\∀ name,hX name od=some (B name) :=
 let⟨od,ho,hl⟩:=ba8 I.ns
 ⟨od,⟨I.obj,rfl,rfl,ho⟩,hl⟩
section
variable {prog:aH} {w:World} {A:aV} {E:Value->af->Prop} {s:af} {K:ac} {x dx C f:Addr} {mA:Str->Option Value} {name:Str} {v:Value}
end
theorem aU6.some_of {v:V}{o:Option Value}(r:aU6 (some v) o):∃ u,o=some u/\RelV v u:=by
 cases o with
 | none=>exact(show False from r).elim
 | some u=>exact⟨u,rfl,r⟩
section
variable {P:aH} {w:World} {H H':Hp} {h h':Heap} {a C dx:Addr} {fs fs':List (Str×V)}
theorem bC3 (hok:HOk P w H h)(e:H a=some (.ins C dx fs)):∃ B,ObjM h a dx C B/\(∀ f,aU6 (fs.lookup f) (B f))/\kC B (fs.map (·.1))/\fs.length<=1000/\H dx=some (.own a):=by
 obtain⟨d,z,ne,ob,B,n,r,q⟩:=(show ai3 P w H h a (.ins C dx fs)from hok a _ e)
 exact⟨B,⟨ob,n,ne⟩,r,q,z,d⟩
end
structure Cls (K:ac)(C:Addr):Prop where
 pg:jz K C Str.empty=true
 hd:PySem.W.hasDictIn K C=true
 po:PySem.W.plainOver K C=true
 sa:du K (.ref C) "__setattr__"=some (some (.builtin "object.__setattr__"))
theorem Cls.get {K:ac}{C:Addr}(c:Cls K C)(f:Str):jz K C f=true:=c.pg
section
variable {X:Cx} {pins:List (Addr×Obj)} {σ:St} {H:Hp} {s:af} {a C dx:Addr} {fs:List (Str×V)} {f:Str} {v:V} {A:aV} {E:Value->af->Prop}
end
section
variable {X:Cx} {o e value:Expr} {f:Str} {pos pos' tpos:Pos} {ta tv:TE}
end
section
variable {X:Cx} {pins:List (Addr×Obj)} {σ:St} {H:Hp} {s:af} {A:aV} {E:Value->af->Prop} {Q:Value->af->Prop} {c:Value} {b:Bool}
inductive TyOf (K:ac)(H:Hp):V->Value->Prop where
 | non:TyOf K H .non (.type "NoneType")
 | bl (x:Bool):TyOf K H (.bl x) (.type "bool")
 | int (i:Int):TyOf K H (.int i) (.type "int")
 | str (x:Str):TyOf K H (.str x) (.type "str")
 | flt (x:UInt64):TyOf K H (.flt x) (.type "float")
 | lst {a:Addr} {xs:List V} (e:H a=some (.lst xs)):TyOf K H (.ref a) (.type "list")
 | frz {a:Addr} {o:Obj} {xs:List V} (e:H a=some (.frz o (.lst xs))):TyOf K H (.ref a) (.type "list")
 | tup {a:Addr} {xs:List V} (e:H a=some (.tup xs)):TyOf K H (.ref a) (.type "tuple")
 | dK {a:Addr} {kvs:List (Key×V)} (e:H a=some (.dK kvs)):TyOf K H (.ref a) (.type "dict")
 | dT {a:Addr} {kvs:List (List NI×V)} (e:H a=some (.dT kvs)):TyOf K H (.ref a) (.type "dict")
 | ins {a C dx:Addr} {fs:List (Str×V)} (e:H a=some (.ins C dx fs)) (cl:Cls K C) (ha:du K (.ref C) "__class__"=some (some (.builtin "object.__class__")))
   (hn:jh K (.builtin "object.__class__") "__get__"=some (some (.builtin "getset_descriptor.__get__"))) (htk:jP K (.builtin "object.__class__")=some true)
   (hm:km K C (.type "object")=some true):TyOf K H (.ref a) (.ref C)
theorem qH {x:V}{u t:Value}(I:Inv X pins σ H s)(B:RelV x u)(Z:TyOf X.K H x t)(e:bp X.K t c=some b)(h:∀ tk,Q (.bool b) { s with toks:=tk }) :
  wpAny (model X.prog X.w) A (call (.builtin "isinstance") [u,c]) Q E s:=by
 cases Z with
 | non=>cases(show u=Value.none from B);exact bJ PySem.W.kitx_none I.kIn True.intro e (λ z=>nomatch z) h
 | bl y=>cases(show u=Value.bool y from B);exact bJ PySem.W.kitx_bool I.kIn True.intro e (λ z=>nomatch z) h
 | int i=>obtain⟨t,q⟩:=(show ∃ t,u=Value.int i t from B);cases q;exact bJ PySem.W.kitx_int I.kIn True.intro e (λ z=>nomatch z) h
 | str y=>obtain⟨t,q⟩:=(show ∃ t,u=Value.str y t from B);cases q;exact bJ PySem.W.kitx_str I.kIn True.intro e (λ z=>nomatch z) h
 | flt y=>obtain⟨t,q⟩:=(show ∃ t,u=Value.float y t from B);cases q;exact bJ PySem.W.kitx_float I.kIn True.intro e (λ z=>nomatch z) h
 | @lst a G ea =>
  cases(show u=Value.ref a from B)
  obtain⟨_,_,n,_,F⟩:=(show ai3 X.prog X.w H s.heap a (.lst G)from I.hok a _ ea)
  exact bJ ji I.kIn ⟨_,F,rfl⟩ e (λ z=>nomatch z) h
 | @frz a ob G ea =>
  cases(show u=Value.ref a from B)
  obtain⟨_,_,_,n,_,F⟩:=(show ai3 X.prog X.w H s.heap a (.frz ob (.lst G))from I.hok a _ ea)
  exact bJ ji I.kIn ⟨_,F,rfl⟩ e (λ z=>nomatch z) h
 | @tup a G ea =>
  cases(show u=Value.ref a from B)
  obtain⟨_,_,_,p⟩:=(show ai3 X.prog X.w H s.heap a (.tup G)from I.hok a _ ea)
  obtain⟨o,F,Y,_⟩:=p
  exact bJ iX I.kIn ⟨o,F,Y⟩ e (λ z=>nomatch z) h
 | @dK a kvs ea =>
  cases(show u=Value.ref a from B)
  obtain⟨_,_,vs,_,p⟩:=(show ai3 X.prog X.w H s.heap a (.dK kvs)from I.hok a _ ea)
  obtain⟨o,es,ep,F,Y,_⟩:=p
  exact bJ jj I.kIn ⟨o,F,Y.1⟩ e (λ z=>nomatch z) h
 | @dT a kvs ea =>
  cases(show u=Value.ref a from B)
  obtain⟨_,_,G,_,o,es,ep,F,Y,_⟩:=(show ai3 X.prog X.w H s.heap a (.dT kvs)from I.hok a _ ea)
  exact bJ jj I.kIn ⟨o,F,Y.1⟩ e (λ z=>nomatch z) h
 | @ins a C dx fs ea cl ha hn htk hm =>
  cases(show u=Value.ref a from B)
  obtain⟨mA,O,_⟩:=bC3 I.hok ea
  obtain⟨od,J,_⟩:=O.look
  exact bJ (PySem.W.kitx_own (cl.get _) cl.hd ha hn htk hm) I.kIn J e (λ z=>nomatch z) h
end
structure Room (k:Nat)(A:aV):Prop where
 hd:A.handled=none
 dp:A.depth+3*k+5<recursionLimit
 un:A.units+16*k+200<cLine
theorem Room.mono {j k:Nat}{A:aV}(r:Room k A)(h:j<=k):Room j A:=⟨r.hd,by have:=r.dp;omega,by have:=r.un;omega⟩
theorem Room.deeper {k:Nat}{A:aV}(r:Room (k+1) A)(env:Env):Room k (A.deeper env) :=
 ⟨r.hd,by have:=r.dp;show A.depth+1+3*k+5<_;omega,by have:=r.un;show A.units+3+16*k+200<_;omega⟩
theorem Room.in1 {k:Nat}{A:aV}(r:Room (k+1) A):Room k A.in1 :=
 ⟨r.hd,by have:=r.dp;show A.depth+3*k+5<_;omega,by have:=r.un;show A.units+1+16*k+200<_;omega⟩
theorem Room.depth {k:Nat}{A:aV}(r:Room k A):A.depth<recursionLimit:=by have:=r.dp;omega
theorem Room.units {k:Nat}{A:aV}(r:Room k A):A.units+64<cLine:=by have:=r.un;omega
theorem Room.units0 {k:Nat}{A:aV}(r:Room k A):A.units<cLine:=by have:=r.un;omega
def bh7:TA:=λ _ H Q=>Q [] H
def at9 (ta:TE)(tr:TA):TA:=λ σ H Q=>ta σ H λ x H1=>tr σ H1 λ xs H2=>Q (x::xs) H2
section
variable {X:Cx} {e:Expr} {es:List Expr} {te:TE} {t:TA} {pos:Pos}
theorem aj9:PA X [] bh7:=λ _ _ _ _ H Q I h=>Calls.spliced_nil ⟨[],H,I,.nil,h⟩
theorem zQ (ha:PE X e te)(hr:PA X es t)(hs:bw (e::es) X.env=(false,eval e X.env)::bw es X.env:=by rfl):PA X (e::es) (at9 te t):=by
 intro pos B s σ H Q I h
 rw[hs]
 show wpAny _ _ (spliced ((false,eval e X.env)::dX pos (bw es X.env))) _ _ s
 refine Calls.spliced_cons (thn (ha B s σ H _ I h) λ u s1 ⟨x,Y,Z,r1,F⟩=>?_)
 exact thn (hr pos B s1 σ Y _ Z F) λ us s2 ⟨G,H2,J,r2,q2⟩=>⟨x::G,H2,J,.cons r1 r2,q2⟩
def cm7 (t:TA):TE:=λ σ H Q=>t σ H λ xs H1=>xs.length<=aO/\∀ p,H1 p=none->Q (.ref p) (upd H1 p (.tup xs))
def co2 (t:TA):TE:=λ σ H Q=>t σ H λ xs H1=>xs.length<=aO/\∀ p,H1 p=none->Q (.ref p) (upd H1 p (.lst xs))
theorem bV6 {x1}(h:PA X es t):PE X (.Tuple es x1 pos) (cm7 t):=by
 intro B s σ H Q I Z
 refine wpAny_Tuple_spliced (thn (h pos B s σ H _ I Z) λ us s1 ⟨J,F,G,r,z,q⟩=>⟨by rw[<-r.length];exact z,?_⟩)
 have Y:F s1.heap.objs.size=none:=G.hok.fresh (aw _)
 refine⟨.ref s1.heap.objs.size,upd F s1.heap.objs.size (.tup J),G.laid (t':=s1.toks) (λ b u e=>aB _ e) (aw _) ?_,rfl,q _ Y⟩
 exact⟨z,us,r,⟨_,be _ rfl,rfl,_,rfl⟩⟩
theorem aX4 (h:PA X es t):PE X (.List es pos) (co2 t):=by
 intro B s σ H Q I Z
 refine wpAny_List_spliced (thn (h pos B s σ H _ I Z) λ us s1 ⟨J,F,G,r,z,q⟩=>⟨by rw[<-r.length];exact z,?_⟩)
 have Y:F s1.heap.objs.size=none:=G.hok.fresh (aw _)
 refine⟨.ref s1.heap.objs.size,upd F s1.heap.objs.size (.lst J),G.laid (t':=s1.toks) (λ b u e=>aB _ e) (aw _) ?_,rfl,q _ Y⟩
 exact⟨z,us,0,r,be _ rfl⟩
end
abbrev Sp:=List V->Hp->VK->XK->Prop
abbrev CXT:=List Env->Hp->af->XK->Value->af->Prop
structure Env0 (P:aH)(w:World)(K:ac)(mg:Str->Option Value)(base:Heap)(A:aV)(outer:List Env)(s:af)(H:Hp):Prop where
 frames:A.frames=some outer
 mod:Mod K mg base
 bs:∀ b o,base.get? b=some o->s.heap.get? b=some o/\H b=none
 bsz:base.objs.size<=s.heap.objs.size
 funs:s.heap.FunFrames base outer
 frf:∀ b∈frs outer,H b=none
 hok:HOk P w H s.heap
 bare:fc s.gens
def CE (outer:List Env)(P:aH)(w:World)(H:Hp)(s:af)(Q:VK)(u:Value)(s':af):Prop :=
 ∃ v H',s'.os=s.os/\fc s'.gens/\Un (frs outer) [] H H' s.heap s'.heap/\HOk P w H' s'.heap/\RelV v u/\Q v H'
def CR (CX:CXT)(outer:List Env)(P:aH)(w:World)(H:Hp)(s:af)(Q:VK)(E:XK)(r:j1)(s':af):Prop :=
 match r with
 | .ok (.ret u)=>CE outer P w H s Q u s'
 | .ok _=>False
 | .error e=>CX outer H s E e s'
structure FnOk (P:aH)(w:World)(K:ac)(mg:Str->Option Value)(base:Heap)(CX:CXT)(k:Nat)(f:Addr)(fd:bO)(ps:List Str)(sp:Sp):Prop where
 len:∀ vs H Q E,sp vs H Q E->vs.length=ps.length
 run:∀(A:aV) (outer:List Env) (s:af) (H:Hp) (args:Args) (us:List Value) (vs:List V) (Q:VK) (E:XK),Room k A->Env0 P w K mg base A outer s H->jU s fd args (ps.zip us)->Vals vs us->sp vs H Q E ->
  fI (model P w) A (.call (.ref f) args) (CR CX outer P w H s Q E) s
theorem FnOk.imp {P:aH}{w:World}{K:ac}{mg:Str->Option Value}{base:Heap}{Y:CXT}{k:Nat}{f:Addr}{J:bO}{ps:List Str}{sp G:Sp}(F:FnOk P w K mg base Y k f J ps sp)
  (h:∀ vs H Q E,G vs H Q E->sp vs H Q E):FnOk P w K mg base Y k f J ps G :=
 ⟨λ vs H Q E q=>F.len vs H Q E (h _ _ _ _ q),λ A B s H args us vs Q E hr he hb hv hs=>F.run A B s H args us vs Q E hr he hb hv (h _ _ _ _ hs)⟩
section
variable {X:Cx} {pins:List (Addr×Obj)} {σ:St} {H:Hp} {s s':af}
theorem Inv.env0 (I:Inv X pins σ H s):Env0 X.prog X.w X.K X.mg X.base X.A X.stack s H :=
 ⟨I.ok.frames,I.ok.mod,I.bs,av I.ok.bsz I.sz,I.stack,I.stkFree,I.hok,I.bare⟩
theorem Inv.after {Q:VK}{u:Value}(I:Inv X pins σ H s)(h:CE X.stack X.prog X.w H s Q u s'):EP X pins σ Q u s':=by
 obtain⟨v,H',os,bare,un,hok,r,q⟩:=h
 obtain⟨hh,g,d,t,B⟩:=s'
 obtain rfl:B=s.os:=os
 exact⟨v,H',I.call (h':=hh) (g':=g) (d':=d) (t':=t) (ch:=[]) un hok bare (λ b z=>absurd z (by simp)),r,q⟩
end
def aS7 (sp:Sp)(dvs:List V)(E:XK)(t:TA):TE:=λ σ H Q=>t σ H λ vs H1=>sp (vs++dvs) H1 Q E
def Binds (K:ac)(fd:bO)(ps:List Str)(ds:List Value):Prop :=
 ∀(s:af) (us:List Value),K.In s.heap->(us++ds).length=ps.length->jU s fd ⟨us,[]⟩ (ps.zip (us++ds))
theorem Binds.all {K:ac}{B:bO}{ps:List Str}(h:∀ us:List Value,us.length=ps.length->dZ B ⟨us,[]⟩=pure (ps.zip us)):Binds K B ps []:=λ s us _ hl=>by
 rw[bv]at hl ⊢
 exact .of_eq (h us hl)
def al9 (CX:CXT)(X:Cx)(E:XK):Prop:=∀(pins:List (Addr×Obj)) (σ:St) (H:Hp) (s:af) (e:Value) (s':af),Inv X pins σ H s->CX X.stack H s E e s'->X.xe e s'
section
variable {X:Cx} {CX:CXT} {k:Nat} {f C:Addr} {fd:bO} {ps:List Str} {sp:Sp} {dvs:List V} {ds:List Value} {E:XK} {x m:Str} {p pos apos:Pos} {e o:Expr} {es:List Expr} {ta:TE} {t:TA}
theorem bs1 {B:List (Addr×Obj)}{σ:St}{H:Hp}{s:af}{Q:VK}{us:List Value}{vs:List V}(F:FnOk X.prog X.w X.K X.mg X.base CX k f fd ps sp)(hr:Room k X.A)(hb:Binds X.K fd ps ds)(hd:Vals dvs ds)(hx:al9 CX X E)
  (I:Inv X B σ H s) (r:Vals vs us) (h:sp (vs++dvs) H Q E):wpAny (model X.prog X.w) X.A (call (.ref f) us) (EP X B σ Q) X.xe s:=by
 have r2:Vals (vs++dvs) (us++ds):=r.append hd
 have hl:(us++ds).length=ps.length:=by rw[<-r2.length];exact F.len _ _ _ _ h
 refine wpAny_call (jk (F.run X.A X.stack s H ⟨us,[]⟩ (us++ds) (vs++dvs) Q E hr I.env0 (hb s us I.kIn hl) r2 h) λ r s' G=>?_)
 cases r with
 | error e=>exact hx B σ H s e s' I G
 | ok fl =>
  cases fl with
  | ret u=>exact I.after G
  | next=>exact bz G
  | brk=>exact bz G
  | cont=>exact bz G
theorem ba9 (F:FnOk X.prog X.w X.K X.mg X.base CX k f fd ps sp)(hr:Room k X.A)(hg:Gl X x)(hm:X.mg x=some (.ref f))(hk:cu X.K (.ref f)=true)(hb:Binds X.K fd ps ds)(hd:Vals dvs ds)(hx:al9 CX X E)
  (ha:PA X (e::es) t) (G:(x==("__debug__":Str))=false:=by decide) (he:bw (e::es) X.env=(false,eval e X.env)::bw es X.env:=by rfl) (J:(dX pos (bw es X.env)).any (·.1)=false:=by rfl) :
  PE X (.Call (.Name x p) (e::es) [] pos) (aS7 sp dvs E t):=by
 intro B s σ H Q I h
 refine cV (aJ4 I hg hm ?_ G)
 refine PySem.W.callWith_K (h₀:=X.base) I.ok.mod.kin hk (thn (ha pos B s σ H _ I h) λ us s1 ⟨vs,Z,Y,r,q⟩=>⟨Y.kIn,?_⟩) he J
 exact bs1 F hr hb hd hx Y r q
theorem bn4 (F:FnOk X.prog X.w X.K X.mg X.base CX k f fd ps sp)(hr:Room k X.A)(hg:Gl X x)(hm:X.mg x=some (.ref f))(hk:cu X.K (.ref f)=true)(hb:Binds X.K fd ps ds)(hd:Vals dvs ds)(hx:al9 CX X E)
  (B:(x==("__debug__":Str))=false:=by decide):PE X (.Call (.Name x p) [] [] pos) (aS7 sp dvs E bh7):=by
 intro G s σ H Q I h
 refine cV (aJ4 I hg hm ?_ B)
 exact PySem.W.callWith_K0 I.kIn hk (bs1 (us:=[]) F hr hb hd hx I .nil h)
structure Mk (K:ac)(C f:Addr):Prop where
 makes:PySem.W.makesIn K C=true
 init:du K (.ref C) "__init__"=some (some (.ref f))
 fn:PySem.W.isFn K (.ref f)=true
 kp:cu K (.ref C)=true
end
section
variable {X:Cx} {CX:CXT} {k:Nat} {f C:Addr} {fd:bO} {ps ks:List Str} {sp:Sp} {E:XK} {x m:Str} {p pos apos kpos:Pos} {e o:Expr} {es:List Expr} {kws:List iu} {te ta:TE} {t tk:TA} {nm:Option Str}
variable {g:List Value->List Value->List Value} {gV:List V->List V->List V}
end
structure FnScope (N P:List Str)(sc:Scope):Prop where
 kind:sc.kind=.function
 co:sc.isCoroutine=false
 gen:sc.isGenerator=false
 nd:N.Nodup
 pre:N.take P.length=P
 par:∀ x∈P,sc.names.lookup x=some .local\/sc.names.lookup x=some .cell
 nofree:∀ y∈sc.names,y.2≠.free
theorem aB4 {eJ:Str->Option cw}{x:Str}:∀ {binds:List (Str×Value)} {m:Str->Option Value},(∀ v,(x,v) ∉ binds)->bindL eJ binds m x=m x
 | [],_,_=>rfl
 | (n,v)::r,m,h=>by
  unfold bindL
  rw[aB4 λ w hw=>h w (ao _ hw)]
  split
  ·have:x≠n:=by rintro rfl;exact h v aD
   simp[this]
  ·rfl
theorem aA9 {eJ:Str->Option cw}{x:Str}:∀ {binds:List (Str×Value)} {m:Str->Option Value},(∀ v,(x,v) ∉ binds)->bindC eJ binds m x=m x
 | [],_,_=>rfl
 | (n,v)::r,m,h=>by
  unfold bindC
  rw[aA9 λ w hw=>h w (ao _ hw)]
  split
  ·rfl
  ·have:x≠n:=by rintro rfl;exact h v aD
   simp[this]
theorem ar6 {eJ:Str->Option cw}{x:Str}{v:Value}:∀ {P:List Str} {vs:List Value} {i:Nat} {m:Str->Option Value},P.Nodup->P[i]?=some x->vs[i]?=some v->eJ x=some .local ->
  bindL eJ (P.zip vs) m x=some v
 | [],_,_,_,_,h,_,_=>by simp at h
 | _::_,[],_,_,_,_,h,_=>by simp at h
 | p::P,w::vs,0,m,nd,h1,h2,hk=>by
  simp at h1 h2;subst h1;subst h2
  show bindL eJ ((p,w)::P.zip vs) m p=_
  unfold bindL
  rw[aB4 λ v hv=>(eZ.mp nd).1 (dJ hv).1,if_pos hk]
  simp
 | p::P,w::vs,i+1,m,nd,h1,h2,hk=>by
  show bindL eJ ((p,w)::P.zip vs) m x=_
  unfold bindL
  exact ar6 (i:=i) (eZ.mp nd).2 (by simpa using h1) (by simpa using h2) hk
theorem aq9 {eJ:Str->Option cw}{x:Str}{v:Value}:∀ {P:List Str} {vs:List Value} {i:Nat} {m:Str->Option Value},P.Nodup->P[i]?=some x->vs[i]?=some v->eJ x≠some .local ->
  bindC eJ (P.zip vs) m x=some v
 | [],_,_,_,_,h,_,_=>by simp at h
 | _::_,[],_,_,_,_,h,_=>by simp at h
 | p::P,w::vs,0,m,nd,h1,h2,hk=>by
  simp at h1 h2;subst h1;subst h2
  show bindC eJ ((p,w)::P.zip vs) m p=_
  unfold bindC
  rw[aA9 λ v hv=>(eZ.mp nd).1 (dJ hv).1,if_neg hk]
  simp
 | p::P,w::vs,i+1,m,nd,h1,h2,hk=>by
  show bindC eJ ((p,w)::P.zip vs) m x=_
  unfold bindC
  exact aq9 (i:=i) (eZ.mp nd).2 (by simpa using h1) (by simpa using h2) hk
noncomputable def al4 (N:List Str)(vs:List V):St:=vs.map some++aC (N.length - vs.length) none
noncomputable def au5 (CX:CXT)(P:aH)(w:World)(K:ac)(mg:Str->Option Value)(base:Heap)(N:List Str)(qual:Str)(scope:Scope)(f:Addr)(cd:Value)(A:aV)(outer:List Env)(s:af)(H:Hp)(E:XK):Cx where
 prog:=P
 w:=w
 K:=K
 mg:=mg
 base:=base
 A:=A.deeper (e6 qual scope s.heap.objs.size f cd)
 N:=N
 s₀:=s
 H₀:=H
 env:=e6 qual scope s.heap.objs.size f cd
 outer:=outer
 stack:=e6 qual scope s.heap.objs.size f cd::outer
 ex:=[]
 calm:=true
 fn:=λ _=>true
 pn:=[]
 xe:=λ e s'=>wpAny (model P w) (A.deeper (e6 qual scope s.heap.objs.size f cd)) (leaving (e6 qual scope s.heap.objs.size f cd) e) (λ _ s''=>CX outer H s E e s'') (λ e' s''=>CX outer H s E e' s'') s'
theorem zL {sc:Scope}{n:Nat}{x:Str}(h:sc.names.lookup x=some .cell):∃ c,(aQ n sc.names []).lookup x=some c:=by
 have q:=gr sc.names n [] (.inl h)
 exact fS.mp q
theorem bf5 {CX:CXT}{P:aH}{w:World}{K:ac}{mg:Str->Option Value}{base:Heap}{N ps:List Str}{qual:Str}{scope:Scope}{f:Addr}{Z:Value}{A:aV}{B:List Env}{s s1:af}{H:Hp}{E:XK}{us:List Value}{vs:List V}
  (S:FnScope N ps scope) (hd:A.handled=none) (G:Env0 P w K mg base A B s H) (hl:vs.length=ps.length) (r:Vals vs us)
  (x:fJ s s.heap.objs.size (bindL (e6 qual scope s.heap.objs.size f Z).kindOf (ps.zip us) λ _=>none) (aQ (s.heap.objs.size+1) scope.names []) (bindC (e6 qual scope s.heap.objs.size f Z).kindOf (ps.zip us) λ _=>none) s1) :
  Inv (au5 CX P w K mg base N qual scope f Z A B s H E) [] (al4 N vs) H s1:=by
 have a0:ps.length<=N.length:=by have:=congrArg kN S.pre;rw[bZ]at this;omega
 obtain⟨h1,tk,rfl,hk⟩:=x.done
 have J:∀ b:Addr,b ∉ (au5 CX P w K mg base N qual scope f Z A B s H E).ex:=λ b z=>absurd (show b∈([]:List Addr)from z) (by simp)
 refine⟨⟨G.mod,S.kind,rfl,rfl,aw _,λ y z c h1 F=>?_,λ y hy=>?_,λ y c _ h=>?_,λ _=>hd,hZ G.frames,.inr ⟨rfl,rfl⟩,λ b z=>absurd z (J b),G.bs,G.bsz,λ b _ _=>J b,λ b z=>absurd z (J b),G.funs,G.frf⟩,
  rfl,G.bare,Un.kept hk,⟨_,x.toInCall.ns,λ i y v h1 F h3=>?_⟩,λ y c h=>⟨_,x.cell y c h⟩,G.hok.fresh (aw _),λ y c h=>?_,λ p hp=>absurd (show p∈([]:List (Addr×Obj))from hp) (by simp),G.hok.kept hk,?_⟩
 ·exact gu x.apart (aL h1) (aL F)
 ·have hy:scope.names.lookup y=some .cell\/scope.names.lookup y=some .free:=hy
  rcases hy with hy|hy
  ·exact zL hy
  ·exact absurd rfl (S.nofree _ (aL hy))
 ·exact dU (x.above y c (aL h))
 ·have hi:i<vs.length:=by
   unfold al4 at F
   by_cases hi:i<vs.length
   ·exact hi
   ·rw[aR (by simpa using hi)]at F
    rw[f8]at F
    split at F<;>cases F
  have ha:vs[i]?=some v:=by
   unfold al4 at F
   rw[aP (by simpa using hi),aN]at F
   cases e:vs[i]? with
   | none=>rw[e]at F;cases F
   | some a=>rw[e]at F;cases F;rfl
  obtain⟨u,hu,rv⟩:=r.get ha
  have hp:ps[i]?=some y:=by
   rw[<-S.pre,List.getElem?_take_of_lt (by omega)];exact h1
  have Y:ps.Nodup:=by rw[<-S.pre];exact S.nd.sublist (List.take_sublist _ _)
  refine⟨u,rv,?_⟩
  rcases S.par y (aZ hp)with k|k
  ·exact .inl ⟨k,ar6 Y hp hu k⟩
  ·obtain⟨c,e⟩:=zL (n:=s.heap.objs.size+1) k
   refine .inr ⟨.inl k,c,e,?_⟩
   have q:=x.cell y c e
   rw[aq9 Y hp hu (by show scope.names.lookup y≠_;rw[k];decide)]at q
   exact q
 ·exact G.hok.fresh (dU (x.above y c (aL h)))
 ·unfold al4
  show _=N.length
  rw[ax,aF,List.length_replicate]
  omega
theorem bv9 {CX:CXT}{P:aH}{w:World}{K:ac}{mg:Str->Option Value}{base:Heap}{k:Nat}{f:Addr}{name qual:Str}{params:ci}{body:List Stmt}{scope:Scope}{dV kV Z pm B ct oc:Value}{an od:Option Addr}
  {a2:Array (Option Value)} {N ps:List Str} {sp:Sp} (lk:K.lookup f=some ⟨oc,od,.func (cW name qual params body scope dV kV Z pm an B ct),a2⟩) (a3:fq K B qual=true) (S:FnScope N ps scope)
  (len:∀ vs H Q E,sp vs H Q E->vs.length=ps.length)
  (F:∀(A:aV) (h:List Env) (s:af) (H:Hp) (vs:List V) (Q:VK) (E:XK),Room k (A.deeper (e6 qual scope s.heap.objs.size f B))->sp vs H Q E ->
   ∃ t,PSs (au5 CX P w K mg base N qual scope f B A h s H E) body t/\t { nx:=λ _ H'=>Q .non H',rt:=Q } (al4 N vs) H) :
  FnOk P w K mg base CX (k+1) f (cW name qual params body scope dV kV Z pm an B ct) ps sp:=by
 refine⟨len,λ A h s H args us vs Q E hr Y hb r a0=>?_⟩
 have hl:=len _ _ _ _ a0
 have KX:K.In s.heap:=Y.mod.kin.keeps λ b o e=>(Y.bs b o e).1
 have a1:s.heap.NoLimit:=Y.mod.nolimit.keeps λ b o e=>(Y.bs b o e).1
 have G:∀ y∈ps.zip us,scope.names.lookup y.1=some .local\/(scope.names.lookup y.1=some .cell/\((aQ (s.heap.objs.size+1) scope.names []).lookup y.1).isSome=true):=λ⟨n,v⟩ hy=>by
  rcases S.par n (dJ hy).1 with q|q
  ·exact .inl q
  ·exact .inr ⟨q,gr _ _ _ (.inl q)⟩
 refine gW hr.depth (KX _ _ lk) rfl S.co S.gen rfl (PySem.W.codeRec_of KX a3) (hb _ _ _ _ ?_)
 refine wpAny_newFunctionEnv_cells S.kind G λ env he s1 x=>?_
 subst he
 refine⟨a1.keeps x.toInCall.keep,codeAny_func ?_⟩
 obtain⟨t,ht,hq⟩:=F A h s H vs Q E (hr.deeper _) a0
 have I:Inv (au5 CX P w K mg base N qual scope f B A h s H E) [] (al4 N vs) H s1:=bf5 S hr.hd Y hl r x
 refine br (ht [] s1 (al4 N vs) H _ I hq) (λ fl s' hs=>?_) λ e s' hs=>hs
 have fin:∀ {σ':St} {H':Hp} {v:V} {u:Value},Inv (au5 CX P w K mg base N qual scope f B A h s H E) [] σ' H' s'->RelV v u->Q v H'->CE h P w H s Q u s' :=
  λ {σ' H' v u} J rv q=>⟨v,H',J.os,J.bare,J.base,J.hok,rv,q⟩
 cases fl with
 | ret u =>
  obtain⟨v,σ',H',J,rv,q⟩:=hs
  exact fin J rv q
 | next =>
  obtain⟨σ',H',J,q⟩:=hs
  exact fin (v:=V.non) (u:=Value.none) J rfl q
 | brk =>
  obtain⟨_,_,_,q⟩:=hs
  exact bz q
 | cont =>
  obtain⟨_,_,_,q⟩:=hs
  exact bz q
section
variable {X:Cx} {x:Str} {p pos:Pos} {e:Expr} {es:List Expr} {t:TA} {id T:String} {r:List V->Hp->VK->Prop}
def tCB (r:List V->Hp->VK->Prop)(t:TA):TE:=λ σ H Q=>t σ H λ vs H1=>r vs H1 Q
theorem ax2 (hc:aj1 X (.builtin id) r)(hg:Gl X x)(hm:X.mg x=none)(hv:bA x=some (.builtin id))(ha:PA X (e::es) t)(hn:x ≠ "__name__":=by decide)(F:(x==("__debug__":Str))=false:=by decide)
  (he:bw (e::es) X.env=(false,eval e X.env)::bw es X.env:=by rfl) (G:(dX pos (bw es X.env)).any (·.1)=false:=by rfl):PE X (.Call (.Name x p) (e::es) [] pos) (tCB r t):=by
 intro B s σ H Q I h
 refine cV (av5 I hg hm hv ?_ hn F)
 exact PyProof.Rows.callWith_builtin1 (thn (ha pos B s σ H _ I h) λ us s1 ⟨vs,Y,Z,r1,J⟩=>hc B s1 σ Y vs us Q Z r1 J) he G
theorem at3 (hc:aj1 X (.type T) r)(hg:Gl X x)(hm:X.mg x=none)(hv:bA x=some (.type T))(ha:PA X (e::es) t)(hn:x ≠ "__name__":=by decide)(F:(x==("__debug__":Str))=false:=by decide)
  (he:bw (e::es) X.env=(false,eval e X.env)::bw es X.env:=by rfl) (G:(dX pos (bw es X.env)).any (·.1)=false:=by rfl):PE X (.Call (.Name x p) (e::es) [] pos) (tCB r t):=by
 intro B s σ H Q I h
 refine cV (av5 I hg hm hv ?_ hn F)
 exact dm (thn (ha pos B s σ H _ I h) λ us s1 ⟨vs,Y,Z,r1,J⟩=>hc B s1 σ Y vs us Q Z r1 J) he G
end
end L2
end
noncomputable section
namespace HT
open PySem PyProof.Rows
section
open PySem.SeqAt
open PySem.AutoSeq1 (wpAny_loadPart')
open PySem.MeetsSeq PySem.MeetsSeq2 PySem.MeetsSeq3
end
section
variable {prog:aH} {w:World} {A:aV} {E:Value->af->Prop} {s:af}
theorem cat_tup {t b:Addr}{vs ws:List Value}{Q:Value->af->Prop}(ht:IsTup s.heap t vs.toArray)(hb:IsTup s.heap b ws.toArray)(hv:vs≠[])
  (h1:ws=[]->Q (.ref t) s) (h2:ws≠[]->Q (.ref s.heap.objs.size) { s with heap:=s.heap.push { cls:=.type "tuple",data:=.seq (vs++ws).toArray } })
  (hsz:vs.length+ws.length<=aO):wpAny (model prog w) A (cA .Add (.ref t) (.ref b)) Q E s:=by
 obtain⟨⟨cls,dd,data,sl⟩,ho,hc,n,hd⟩:=id ht
 obtain⟨⟨Z,B,Y,G⟩,h,F,n2,J⟩:=id hb
 simp only at hc hd F J
 subst hc hd F J
 have e:vs.toArray++ws.toArray=(vs++ws).toArray:=by simp
 by_cases hw:ws=[]
 ·exact jl ⟨_,ho,rfl⟩ ⟨_,h,rfl⟩ f9 iP d4 dP (dG _ _)
   (tuple_addW1 t b vs.toArray ws.toArray n n2 dd B sl G (by simpa using hv) (by simp[hw])) ⟨ho,h,h1 hw⟩
 ·refine jl ⟨_,ho,rfl⟩ ⟨_,h,rfl⟩ f9 iP d4 dP (dG _ _)
   (tuple_addW2 t b vs.toArray ws.toArray n n2 dd B sl G (by simpa using hv) (by simpa using hw) (by rw[az,az];exact hsz)) ⟨ho,h,?_⟩
  rw[e]
  exact h2 hw
noncomputable def sIx (n d:Nat):Option Int->Nat
 | none=>d
 | some v=>if v<0 then(v+(n:Int)).toNat else min v.toNat n
theorem sIx_le (n d:Nat)(hd:d<=n)(o:Option Int):sIx n d o<=n:=by
 cases o with
 | none=>exact hd
 | some v =>
  show(if v<0 then(v+(n:Int)).toNat else min v.toNat n)<=n
  by_cases hv:v<0
  ·rw[if_pos hv];omega
  ·rw[if_neg hv];exact Nat.min_le_right _ _
theorem clip_eq (v:Int)(n d:Nat):(if v<0 then max (v+(n:Int)) 0 else min v (n:Int))=((sIx n d (some v):Nat):Int):=by
 show(if v<0 then max (v+(n:Int)) 0 else min v (n:Int))=(((if v<0 then(v+(n:Int)).toNat else min v.toNat n):Nat):Int)
 by_cases hv:v<0
 ·simp only[if_pos hv];omega
 ·simp only[if_neg hv];omega
theorem adjust_gen (h B:Option Int)(n:Nat):dD h B 1 (n:Int)=(((sIx n 0 h:Nat):Int),((sIx n n B:Nat):Int)):=by
 have F:¬((1:Int)<0):=by omega
 unfold dD
 simp only[F,if_false]
 refine Prod.ext ?_ ?_
 ·cases h with
  | none=>rfl
  | some v=>exact clip_eq v n 0
 ·cases B with
  | none=>rfl
  | some v=>exact clip_eq v n n
theorem places_gen (i j:Nat):cI (i:Int) (j:Int) 1=j - i:=by
 unfold cI
 have h:(1:Int) > 0:=by omega
 simp only[h,if_true,Int.ediv_one]
 split<;>omega
theorem slicePart_ {v:Value}{o:Option Int}{Q:Option Int->af->Prop}(p:fT v o)(h:Q o s):wpAny (model prog w) A (jQ v) Q E s:=by
 cases p with
 | none=>exact slicePart_none h
 | int i t=>exact slicePart_int h
theorem sliceApplied_gen {sl:Addr}{vl vu:Value}{B J:Option Int}{n:Nat}{Q:Int×Int×Nat->af->Prop}(hs:s.heap.IsSliceOf sl vl vu .none)(Y:fT vl B)(pu:fT vu J)
  (h:Q (((sIx n 0 B:Nat):Int),1,sIx n n J - sIx n 0 B) s):wpAny (model prog w) A (fv (.ref sl) (pure (n:Int))) Q E s:=by
 obtain⟨os,G,Z,F⟩:=id hs
 unfold fv ke
 refine ai (ai (dQ G F (x:=vl) rfl (ai (dQ G F (x:=vu) rfl (ai (dQ G F (x:=.none) rfl (aA ?_)))))))
 refine ai (slicePart_none ?_)
 show wpAny _ _ (if((1:Int)==0)=true then _ else _) _ _ s
 rw[if_neg (by decide)]
 refine ai (slicePart_ Y (ai (slicePart_ pu (ai (aA ?_)))))
 show wpAny _ _ (match dD B J 1 (n:Int)with|(B,J)=>pure (B,(1:Int),cI B J 1)) _ _ s
 rw[adjust_gen B J n]
 show wpAny _ _ (pure (((sIx n 0 B:Nat):Int),(1:Int),cI ((sIx n 0 B:Nat):Int) ((sIx n n J:Nat):Int) 1)) _ _ s
 rw[places_gen]
 exact aA h
theorem pick_gen (h:Array Value)(i k:Nat):((a7 k).filterMap λ(m:Nat)=>h[((i:Int)+(m:Int)*1).toNat]?).toArray=((h.toList.drop i).take k).toArray:=by
 have e:(λ(m:Nat)=>h[((i:Int)+(m:Int)*1).toNat]?)=λ m=>h[i+m]?:=by
  funext m
  have:((i:Int)+(m:Int)*1).toNat=i+m:=by omega
  rw[this]
 rw[e]
 have:=pick_run h i k
 rw[cj]at this
 have e2:((λ x=>h[x]?) ∘ λ x=>i+x)=λ m=>h[i+m]?:=rfl
 rw[e2]at this
 rw[this]
theorem getItem_tuple_cut {t sl:Addr}{B:Array Value}{vl vu:Value}{G J:Option Int}{Q:Value->af->Prop}(Y:IsTup s.heap t B)(hs:s.heap.IsSliceOf sl vl vu .none)(pl:fT vl G)(pu:fT vu J)
  (hw:¬(sIx B.size 0 G=0/\sIx B.size B.size J=B.size))
  (h:Q (.ref s.heap.objs.size) { s with heap:=s.heap.push { cls:=.type "tuple",data:=.seq ((B.toList.drop (sIx B.size 0 G)).take (sIx B.size B.size J - sIx B.size 0 G)).toArray } })
  (hsz:B.size<=aO):wpAny (model prog w) A (gv (.ref t) (.ref sl)) Q E s:=by
 have F:sizeOk (.seq ((B.toList.drop (sIx B.size 0 G)).take (sIx B.size B.size J - sIx B.size 0 G)).toArray):=by
  show((B.toList.drop (sIx B.size 0 G)).take (sIx B.size B.size J - sIx B.size 0 G)).toArray.size<=aO
  rw[az,bZ,eK,cQ]
  omega
 have hj:sIx B.size B.size J<=B.size:=sIx_le _ _ (aw _) J
 obtain⟨os,a2,Z,a3⟩:=id hs
 have a0:s.TypeIs (.ref sl) "slice":=⟨os,a2,Z⟩
 unfold gv
 try with_reducible refine db ?_
 first|refine ai (aA ?_)|skip
 refine ai (jm Y.typeIs (by decide) ?_)
 refine ai (cT (name:=bH "__getitem__") Y.typeIs bB
  (cD bB Y.typeIs iH ?_ (iY _ _)))
 show wpAny _ _ (cF (.ref t) >>= _) _ _ s
 refine ai (iQ Y ?_)
 refine ai (gy a0 ?_)
 rw[if_pos (by decide)]
 refine ai (sliceApplied_gen hs pl pu ?_)
 have a1:¬((((sIx B.size 0 G:Nat):Int)==0&&(1:Int)==1&&(sIx B.size B.size J - sIx B.size 0 G)==B.size)=true):=by
  intro q
  rw[aj,aj]at q
  have q1:((sIx B.size 0 G:Nat):Int)=0:=eq_of_beq q.1.1
  have q2:sIx B.size B.size J - sIx B.size 0 G=B.size:=eq_of_beq q.2
  exact hw ⟨by omega,by omega⟩
 show wpAny _ _ (if(((sIx B.size 0 G:Nat):Int)==0&&(1:Int)==1&&(sIx B.size B.size J - sIx B.size 0 G)==B.size)=true then _ else _) _ _ s
 rw[if_neg a1,pick_gen]
 first
  | exact ai (m:=cP _) (bG (aA ⟨_,rfl,aA h⟩) F)
  | exact ai (m:=cP _) (bG (ai (aA (aA ⟨_,rfl,aA h⟩))) F)
  | exact ai (ai (m:=cP _) (bG (aA (aA ⟨_,rfl,aA h⟩)) F))
  | exact ai (ai (m:=cP _) (bG (aA ⟨_,rfl,aA h⟩) F))
end
end HT
noncomputable section
namespace L2
open PySem PySem.Spec PyProof.Rows
abbrev TO:=St->Hp->(Option Int->Hp->Prop)->Prop
def PO (X:Cx)(e:Option Expr)(t:TO):Prop :=
 ∀(pins:List (Addr×Obj)) (s:af) (σ:St) (H:Hp) (Q:Option Int->Hp->Prop),Inv X pins σ H s->t σ H Q ->
  wpAny (model X.prog X.w) X.A (evalPart e X.env) (λ u s'=>∃ o H',Inv X pins σ H' s'/\fT u o/\Q o H') X.xe s
noncomputable def aK7:TO:=λ _ H Q=>Q none H
noncomputable def aY5 (t:TE):TO:=λ σ H Q=>t σ H λ x H1=>∃ i,x=.int i/\Q (some i) H1
section
variable {X:Cx} {e:Expr} {te:TE} {lo hi:Option Expr} {tl th:TO} {pos p2:Pos}
theorem bH6:PO X none aK7:=by
 intro B s σ H Q I h
 rw[evalPart_none]
 exact aA ⟨none,H,I,.none,h⟩
theorem bw2 (h:PE X e te):PO X (some e) (aY5 te):=by
 intro B s σ H Q I hw
 rw[evalPart_some]
 refine thn (h B s σ H _ I hw) λ u s1 ⟨x,G,J,r1,F⟩=>?_
 obtain⟨i,rfl,q⟩:=F
 obtain⟨t,rfl⟩:=r1
 exact⟨some i,G,J,.int i t,q⟩
def SlR (X:Cx)(r:V->Option Int->Option Int->Hp->VK->Prop):Prop :=
 ∀(pins:List (Addr×Obj)) (s:af) (σ:St) (H:Hp) (x:V) (v vl vu:Value) (lo hi:Option Int) (sl:Addr) (Q:VK),Inv X pins σ H s->RelV x v->s.heap.IsSliceOf sl vl vu .none->fT vl lo->fT vu hi->r x lo hi H Q ->
  ∃ T id,typeLookup (.type T) "__getitem__"=pure (some (.builtin id))/\s.TypeIs v T/\wpAny (model X.prog X.w) X.A (gv v (.ref sl)) (EP X pins σ Q) X.xe s
def tSl (r:V->Option Int->Option Int->Hp->VK->Prop)(te:TE)(tl th:TO):TE:=λ σ H Q=>te σ H λ x H1=>tl σ H1 λ l H2=>th σ H2 λ u H3=>r x l u H3 Q
theorem bn5 {r:V->Option Int->Option Int->Hp->VK->Prop}(hr:SlR X r)(he:PE X e te)(hl:PO X lo tl)(hu:PO X hi th):PE X (.Subscript e (.Slice lo hi none p2) pos) (tSl r te tl th):=by
 intro B s σ H Q I h
 refine Subscript_ (thn (he B s σ H _ I h) λ v s1 ⟨x,G,Y,r1,q1⟩=>?_)
 refine wpAny_Slice (thn (hl B s1 σ G _ Y q1) λ vl s2 ⟨l,H2,I2,J,q2⟩=>thn (hu B s2 σ H2 _ I2 q2) λ vu s3 ⟨u,F,I3,pu,q3⟩=>?_)
 rw[evalPart_none]
 refine aA ?_
 have Z:Inv X B σ F { s3 with heap:=s3.heap.push { cls:=.type "slice",data:=.fields #[vl,vu,.none] } }:=I3.kept (t':=s3.toks) λ b ob q=>aB _ q
 obtain⟨T,id,hT,ht,hg⟩:=hr B { s3 with heap:=s3.heap.push { cls:=.type "slice",data:=.fields #[vl,vu,.none] } } σ F x v vl vu l u s3.heap.objs.size Q Z r1 (kS ..) J pu q3
 show wpAny (model X.prog X.w) X.A (subscriptTail e (.Slice lo hi none p2) v (.ref s3.heap.objs.size)) (EP X B σ Q) X.xe { s3 with heap:=s3.heap.push { cls:=.type "slice",data:=.fields #[vl,vu,.none] } }
 exact j2 (ops:=[.ref s3.heap.objs.size,v]) ht hT hg (by with_unfolding_all rfl)
noncomputable def aU4 (xs:List V)(lo hi:Option Int):List V:=(xs.drop (HT.sIx xs.length 0 lo)).take (HT.sIx xs.length xs.length hi - HT.sIx xs.length 0 lo)
theorem ar7 (h:List V)(B F:Option Int):(aU4 h B F).length<=h.length:=by
 unfold aU4
 rw[bZ,eK]
 omega
def co8 (K:ac):V->Option Int->Option Int->Hp->VK->Prop:=λ x lo hi H Q=>∃ a xs,x=.ref a/\SqT K H a xs /\
 ¬(HT.sIx xs.length 0 lo=0/\HT.sIx xs.length xs.length hi=xs.length)/\∀ p,H p=none->Q (.ref p) (upd H p (.tup (aU4 xs lo hi)))
theorem ca0:SlR X (co8 X.K):=by
 intro Y s σ H x v vl vu G J sl Q I rx hs pl pu h
 obtain⟨a,F,rfl,hx,hw,q⟩:=h
 cases rx
 obtain⟨its,r,Z,hz⟩:=I.tuple hx
 have B:its.toArray.size=F.length:=by rw[az];exact r.length.symm
 refine⟨"tuple",_,bB.lookup,Z.typeIs,?_⟩
 refine HT.getItem_tuple_cut Z hs pl pu (by rw[B];exact hw) ?_ (by rw[B];exact hz)
 rw[B]
 refine⟨.ref s.heap.objs.size,_,I.laid (t':=s.toks) (o:=.tup (aU4 F G J)) (λ b ob q=>aB _ q) (aw _) ?_,rfl,q _ (I.hok.fresh (aw _))⟩
 exact⟨av (ar7 F G J) hz,_,(r.drop (HT.sIx F.length 0 G)).take (HT.sIx F.length F.length J - HT.sIx F.length 0 G),jA _ _⟩
def ci3 (K:ac):R2:=λ x y H Q=>∃ a b xs ys,x=.ref a/\y=.ref b/\SqT K H a xs/\SqT K H b ys/\xs≠[]/\xs.length+ys.length<=aO /\
 (ys=[]->Q (.ref a) H)/\(ys≠[]->∀ p,H p=none->Q (.ref p) (upd H p (.tup (xs++ys))))
theorem Vals.nil_iff {h:List V}{us:List Value}(r:Vals h us):us=[]↔h=[]:=by
 cases r with
 | nil=>simp
 | cons _ _=>simp
theorem bz5:OpR X (cA .Add) (ci3 X.K):=by
 intro B s σ H x y v u Q I rx G h
 obtain⟨a,b,J,ys,rfl,rfl,ha,hb,hx,hz,Z,q2⟩:=h
 cases rx
 cases G
 obtain⟨its,r1,p1,_⟩:=I.tuple ha
 obtain⟨F,r2,Y,_⟩:=I.tuple hb
 refine HT.cat_tup p1 Y (λ z=>hx (r1.nil_iff.mp z)) (λ z=>⟨.ref a,H,I,rfl,Z (r2.nil_iff.mp z)⟩) (λ z=>?_) (by rw[<-r1.length,<-r2.length];exact hz)
 refine⟨.ref s.heap.objs.size,_,I.laid (t':=s.toks) (o:=.tup (J++ys)) (λ b ob q=>aB _ q) (aw _) ?_,rfl,q2 (λ w=>z (r2.nil_iff.mpr w)) _ (I.hok.fresh (aw _))⟩
 exact⟨by rw[ax];exact hz,_,r1.append r2,jA _ _⟩
end
noncomputable def ixN (n:Nat)(i:Int):Option Nat:=if 0<=i then(if i<n then some i.toNat else none)else if -(n:Int)<=i then some (i+n).toNat else none
noncomputable def atI {α:Type}(xs:List α)(i:Int):Option α:=(ixN xs.length i).bind λ j=>xs[j]?
theorem bg1 {n:Nat}{i:Int}{j:Nat}(h:ixN n i=some j):seqIndex? i n=some j/\j<n/\-(n:Int)<=i/\i<n:=by
 unfold ixN at h
 by_cases h0:0<=i
 ·rw[if_pos h0]at h
  by_cases h1:i<n
  ·rw[if_pos h1]at h
   have e:i.toNat=j:=aE h
   exact⟨by rw[jJ h0 h1,e],by omega,by omega,h1⟩
  ·rw[if_neg h1]at h;cases h
 ·rw[if_neg h0]at h
  by_cases h1:-(n:Int)<=i
  ·rw[if_pos h1]at h
   have e:(i+n).toNat=j:=aE h
   exact⟨by rw[jn (by omega) h1,e],by omega,h1,by omega⟩
  ·rw[if_neg h1]at h;cases h
theorem aL5 {α:Type}{B:List α}{i:Int}{v:α}(h:atI B i=some v):∃ j,seqIndex? i B.length=some j/\B[j]?=some v/\j<B.length/\-(B.length:Int)<=i/\i<B.length:=by
 unfold atI at h
 cases e:ixN B.length i with
 | none=>rw[e]at h;cases h
 | some j =>
  rw[e]at h
  obtain⟨G,F,h3,J⟩:=bg1 e
  exact⟨j,G,h,F,h3,J⟩
def bf3 (b:Expr):Prop:=∀ o i,subscripted b false o i=operate [o,i] (gv o i)
def IxR (X:Cx)(r:R2):Prop :=
 ∀(value slice:Expr) (pins:List (Addr×Obj)) (s:af) (σ:St) (H:Hp) (x y:V) (v u:Value) (Q:VK),Inv X pins σ H s->RelV x v->RelV y u->r x y H Q ->
  subscripted slice false v u=operate [v,u] (gv v u)->wpAny (model X.prog X.w) X.A (subscriptTail value slice v u) (EP X pins σ Q) X.xe s
def MtR (X:Cx)(id:String)(r:V->List V->Hp->VK->Prop):Prop :=
 ∀(pins:List (Addr×Obj)) (s:af) (σ:St) (H:Hp) (x:V) (xs:List V) (v:Value) (us:List Value) (Q:VK),Inv X pins σ H s->RelV x v->Vals xs us->r x xs H Q ->
  wpAny (model X.prog X.w) X.A (call (.builtin id) (v::us)) (EP X pins σ Q) X.xe s
section
variable {X:Cx} {a b:Expr} {ta tb:TE} {pos:Pos}
theorem bV2 {r:R2}(hr:IxR X r)(ha:PE X a ta)(hb:PE X b tb)(hs:bf3 b):PE X (.Subscript a b pos) (tOp r ta tb):=by
 intro B s σ H Q I h
 exact Subscript_ (ci7 ha hb I h λ v u s2 x y Y G J F q=>hr a b B s2 σ Y x y v u Q G J F q (hs _ _))
def cl6 (K:ac):R2:=λ x y H Q=>∃ p xs i v,x=.ref p/\y=.int i/\SqL K H p xs/\atI xs i=some v/\Q v H
def cn3 (K:ac):R2:=λ x y H Q=>∃ p xs i v,x=.ref p/\y=.int i/\SqT K H p xs/\atI xs i=some v/\Q v H
def co6:R2:=λ x y H Q=>∃ z i c,x=.str z/\y=.int i/\z.length<=aO/\atI z.cps.toList i=some c/\Q (.str ⟨#[c]⟩) H
theorem bE3:IxR X (cl6 X.K):=by
 intro J Y B s σ H x y v u Q I rx ry h hs
 obtain⟨p,xs,i,z,rfl,rfl,hq,he,q⟩:=h
 cases rx
 obtain⟨t,rfl⟩:=ry
 obtain⟨its,r,G,hz⟩:=I.list hq
 obtain⟨j,F,h2,h3,h4,h5⟩:=aL5 he
 obtain⟨w,ew,Z⟩:=r.get h2
 have hl:=r.length
 have hn:=aq6
 have fin:EP X B σ Q w s:=⟨z,H,I,Z,q⟩
 by_cases h0:0<=i
 ·have hj:i.toNat=j:=by
   rw[jJ h0 h5]at F
   exact aE F
  exact item_listR G.isList h0 (by omega) (by rw[hj];simpa using ew) fin hs
 ·have hj:(i+(its.toArray.size:Int)).toNat=j:=by
   rw[jn (by omega) h4]at F
   rw[az,<-hl]
   exact aE F
  exact gz (x:=w) G.isList.typeIs jo.lookup
   (wpAny_getItem_list_neg (Q:=λ r s'=>r=w/\EP X B σ Q r s') G.isList (by omega) (by rw[az]<;>omega) (by omega) (by rw[hj];simpa using ew) ⟨rfl,fin⟩) hs
theorem ix_tup:IxR X (cn3 X.K):=by
 intro F G B s σ H x y v u Q I rx Z h hs
 obtain⟨p,xs,i,z,rfl,rfl,hq,he,q⟩:=h
 cases rx
 obtain⟨t,rfl⟩:=Z
 obtain⟨its,r,Y,hz⟩:=I.tuple hq
 obtain⟨j,h1,h2,h3,h4,h5⟩:=aL5 he
 obtain⟨w,ew,J⟩:=r.get h2
 have hl:=r.length
 have hn:=aq6
 have fin:EP X B σ Q w s:=⟨z,H,I,J,q⟩
 exact gz (x:=w) Y.typeIs bB.lookup
  (getItem_tuple (j:=j) (Q:=λ r s'=>r=w/\EP X B σ Q r s') Y (by omega) (by omega) (by rw[az,<-hl];exact h1) (by simpa using ew) ⟨rfl,fin⟩) hs
theorem ix_str:IxR X co6:=by
 intro B F G s σ H x y v u Q I rx Y h hs
 obtain⟨z,i,c,rfl,rfl,hz,he,q⟩:=h
 obtain⟨t,rfl⟩:=rx
 obtain⟨t',rfl⟩:=Y
 obtain⟨j,J,h2,h3,Z,h5⟩:=aL5 he
 have hl:z.cps.toList.length=z.length:=by simp[Str.length]
 rw[hl]at J Z h5
 have hn:=aq6
 exact j2 (j3 s z t) slot_str_getitem.lookup (getItem_str (c:=c) (by
  have e1:decide (i < -(2^63:Int))=false:=decide_eq_false (by omega)
  have e2:decide (i ≥ 2^63)=false:=decide_eq_false (by omega)
  rw[e1,e2,Bool.or_false]) (by rw[J];simpa using h2) ⟨.str ⟨#[c]⟩,H,I.tok _,⟨_,rfl⟩,q⟩) hs
theorem aT1 (its:List Value)(n j:Nat)(u:Value):gA (·.setIfInBounds j u) { cls:=.type "list",data:=.seq its.toArray n }={ cls:=.type "list",data:=.seq (its.set j u).toArray n }:=by
 simp[gA]
theorem Inv.lst {B:List (Addr×Obj)}{σ:St}{H:Hp}{s:af}{p:Addr}{F:List V}(I:Inv X B σ H s)(h:H p=some (.lst F)) :
  ∃(its:List Value) (n:Nat),Vals F its/\s.heap.get? p=some { cls:=.type "list",data:=.seq its.toArray n }/\F.length<=aO:=by
 obtain⟨z,its,n,r,e⟩:=I.hok p _ h
 exact⟨its,n,r,e,z⟩
theorem Inv.lstUpd {B:List (Addr×Obj)}{σ:St}{H:Hp}{s:af}{p:Addr}{J ys:List V}{its its':List Value}{n F:Nat}{f:Obj->Obj}(I:Inv X B σ H s)(h:H p=some (.lst J))
  (ho:s.heap.get? p=some { cls:=.type "list",data:=.seq its.toArray n }) (G:f { cls:=.type "list",data:=.seq its.toArray n }={ cls:=.type "list",data:=.seq its'.toArray F }) (r:Vals ys its') (hz:ys.length<=aO) (t:Nat) :
  Inv X B σ (upd H p (.lst ys)) { s with heap:=s.heap.update p f,toks:=t }:=by
 have e:(s.heap.update p f).get? p=some { cls:=.type "list",data:=.seq its'.toArray F }:=by
  rw[dh f ho (by rw[G]<;>rfl),G]
 refine I.write (x:=p) (e:=p) (by rw[h];trivial) (.inl rfl) (λ b u hb q=>(bT _ _ (cC hb)).trans q) ⟨_,e⟩ ?_
 exact⟨hz,its',F,r,e⟩
def cg5:V->V->V->Hp->(Hp->Prop)->Prop:=λ o i v H Q=>∃ p xs k j,o=.ref p/\i=.int k/\H p=some (.lst xs)/\ixN xs.length k=some j/\Q (upd H p (.lst (xs.set j v)))
theorem bp4:cf7 X cg5:=by
 intro B s σ H o i v ov iv u Q I ro ri Z h
 obtain⟨p,Y,k,j,rfl,rfl,hp,hj,q⟩:=h
 cases ro
 obtain⟨t,rfl⟩:=ri
 obtain⟨its,n,r,ho,hz⟩:=I.lst hp
 obtain⟨F,h2,h3,G⟩:=bg1 hj
 have hl:=r.length
 have hn:=aq6
 have J:Inv X B σ (upd H p (.lst (Y.set j v))) { s with heap:=s.heap.update p (gA (·.setIfInBounds j u)) } :=
  I.lstUpd hp ho (aT1 its n j u) (r.set Z j) (by rw[bK];exact hz) s.toks
 by_cases h0:0<=k
 ·have hk:k.toNat=j:=by
   rw[jJ h0 G]at F
   exact aE F
  exact PySem.W.ki_setAt ho h0 (by omega) (by rw[az,<-hl];exact G) (by rw[hk];exact⟨_,J,q⟩)
 ·have hk:(k+(its.toArray.size:Int)).toNat=j:=by
   rw[jn (by omega) h3]at F
   rw[az,<-hl]
   exact aE F
  exact PySem.W.ki_setBack ho (by omega) (by rw[az,<-hl];exact h3) (by omega) (by rw[hk];exact⟨_,J,q⟩)
theorem aF0 (B F:Option Int)(n:Nat):(dR B F none n).1=((HT.sIx n 0 B:Nat):Int)/\(dR B F none n).2.1=((HT.sIx n n F:Nat):Int)/\(dR B F none n).2.2=1:=by
 refine⟨?_,?_,rfl⟩
 ·cases B with
  | none=>simp[dR,HT.sIx]
  | some i =>
   simp only[dR,HT.sIx,jB,show(1:Int) > 0 by decide,if_true]
   by_cases h:i<0
   ·simp only[h,if_true]<;>omega
   ·simp only[h,if_false]<;>omega
 ·cases F with
  | none=>simp[dR,HT.sIx]
  | some i =>
   simp only[dR,HT.sIx,jB,show(1:Int) > 0 by decide,if_true]
   by_cases h:i<0
   ·simp only[h,if_true]<;>omega
   ·simp only[h,if_false]<;>omega
theorem ax0 (its:List Value)(h B:Option Int):slicePick its.toArray h B none=((its.drop (HT.sIx its.length 0 h)).take (HT.sIx its.length its.length B - HT.sIx its.length 0 h)).toArray:=by
 obtain⟨G,F,h3⟩:=aF0 h B its.toArray.size
 unfold slicePick
 rw[G,F,h3]
 simp only[sliceRange_one,pick_run,az]<;>rfl
def cn5 (K:ac):V->Option Int->Option Int->Hp->VK->Prop:=λ x lo hi H Q=>∃ a xs,x=.ref a/\SqL K H a xs/\∀ p,H p=none->Q (.ref p) (upd H p (.lst (aU4 xs lo hi)))
theorem bG2:SlR X (cn5 X.K):=by
 intro Y s σ H x v vl vu G J sl Q I rx hs pl pu h
 obtain⟨a,B,rfl,hx,q⟩:=h
 cases rx
 obtain⟨its,r,Z,hz⟩:=I.list hx
 have F:=r.length
 refine⟨"list",_,jo.lookup,Z.isList.typeIs,?_⟩
 refine wpAny_getItem_list_slice Z.isList hs pl pu .none (by simp) ?_ (by rw[az]<;>omega)
 rw[ax0,<-F]
 refine⟨.ref s.heap.objs.size,_,I.laid (t':=s.toks) (o:=.lst (aU4 B G J)) (λ b ob q=>aB _ q) (aw _) ?_,rfl,q _ (I.hok.fresh (aw _))⟩
 exact⟨av (ar7 B G J) hz,_,0,(r.drop (HT.sIx B.length 0 G)).take (HT.sIx B.length B.length J - HT.sIx B.length 0 G),be _ rfl⟩
theorem aC9:aj1 X (.builtin "len") (λ Z H Q=>∃ p ys,Z=[.ref p]/\(SqL X.K H p ys\/SqT X.K H p ys)/\Q (.int ys.length) H):=by
 intro Y s σ H Z us Q I r h
 obtain⟨p,ys,rfl,F,q⟩:=h
 obtain⟨u,rfl,rx⟩:=al7 r
 cases rx
 have hn:=aq6
 rcases F with F|F
 ·obtain⟨its,G,J,hz⟩:=I.list F
  have B:=G.length
  exact Calls.call_len_list J.isList (by simp only[az]<;>omega) ⟨.int ys.length,H,I.tok _,⟨s.toks+1,by rw[az,B]⟩,q⟩
 ·obtain⟨its,G,J,hz⟩:=I.tuple F
  have B:=G.length
  exact len_tuple J (by simp only[az]<;>omega) ⟨.int ys.length,H,I.tok _,⟨s.toks+1,by rw[az,B]⟩,q⟩
theorem aE0:aj1 X (.builtin "len") (λ B H Q=>∃ z,B=[.str z]/\z.length<=aO/\Q (.int z.length) H):=by
 intro F s σ H B us Q I r h
 obtain⟨z,rfl,hz,q⟩:=h
 obtain⟨u,rfl,t,rfl⟩:=al7 r
 have hn:=aq6
 exact len_str (by omega) ⟨.int z.length,H,I.tok _,⟨_,rfl⟩,q⟩
theorem aj1.or {f:Value}{r J:List V->Hp->VK->Prop}(h:aj1 X f r)(h':aj1 X f J):aj1 X f (λ F H Q=>r F H Q\/J F H Q):=by
 intro B s σ H F us Q I G q
 rcases q with q|q
 ·exact h B s σ H F us Q I G q
 ·exact h' B s σ H F us Q I G q
theorem aG1:aj1 X (.type "list") (λ xs H Q=>∃ p ys,xs=[.ref p]/\(SqL X.K H p ys\/SqT X.K H p ys)/\∀ l,H l=none->Q (.ref l) (upd H l (.lst ys))):=by
 intro J s σ H xs us Q I r h
 obtain⟨p,ys,rfl,Y,q⟩:=h
 obtain⟨u,rfl,rx⟩:=al7 r
 cases rx
 have fin:∀(its:List Value),Vals ys its->ys.length<=aO->∀(h':Heap) (F:Nat),(∀ b o',s.heap.get? b=some o'->h'.get? b=some o') ->
   h'.get? s.heap.objs.size=some { cls:=.type "list",dict:=none,data:=.seq its.toArray F,slots:=#[] }->EP X J σ Q (.ref s.heap.objs.size) { s with heap:=h' }:=λ its B hz h' F kp e =>
  ⟨.ref s.heap.objs.size,_,I.laid (t':=s.toks) kp (aw _) (show ai3 X.prog X.w _ h' _ (.lst ys)from⟨hz,its,F,B,e⟩),rfl,q _ (I.hok.fresh (aw _))⟩
 rcases Y with Y|Y
 ·obtain⟨its,B,Z,hz⟩:=I.list Y
  have G:=B.length
  obtain⟨o,ho,hc,n,hd⟩:=Z.isList
  exact call_list_seq p (.inl rfl) ho hc hd (λ h' F kp e=>fin its B hz h' F kp e) (by simp only[az]<;>omega)
 ·obtain⟨its,B,Z,hz⟩:=I.tuple Y
  have G:=B.length
  obtain⟨o,ho,hc,n,hd⟩:=Z
  exact call_list_seq p (.inr rfl) ho hc hd (λ h' F kp e=>fin its B hz h' F kp e) (by simp only[az]<;>omega)
theorem ay8:aj1 X (.type "tuple") (λ Z H Q=>∃ p ys,Z=[.ref p]/\((SqL X.K H p ys/\∀ l,H l=none->Q (.ref l) (upd H l (.tup ys)))\/(SqT X.K H p ys/\Q (.ref p) H))):=by
 intro B s σ H Z us Q I r h
 obtain⟨p,ys,rfl,h⟩:=h
 obtain⟨u,rfl,rx⟩:=al7 r
 cases rx
 rcases h with⟨F,q⟩|⟨F,q⟩
 ·obtain⟨its,G,J,hz⟩:=I.list F
  have Y:=G.length
  refine call_tuple_list J.isList (λ h' kp=>?_) (by simp only[az]<;>omega)
  have I1:Inv X B σ H { s with heap:=h' }:=I.kept (t':=s.toks) kp
  have I2:Inv X B σ (upd H h'.objs.size (.tup ys)) { s with heap:=h'.push { cls:=.type "tuple",data:=.seq its.toArray } } :=
   I1.laid (t':=s.toks) (λ b o e=>aB _ e) (aw _) (show ai3 X.prog X.w _ _ _ (.tup ys)from⟨hz,its,G,jA _ _⟩)
  exact⟨.ref h'.objs.size,_,I2,rfl,q _ (I1.hok.fresh (aw _))⟩
 ·obtain⟨its,G,J,hz⟩:=I.tuple F
  exact call_tuple_same J ⟨.ref p,H,I,rfl,q⟩
def tyV (K:ac)(T:String)(x:V)(H:Hp):Prop:=match x with
 | .str _=>T = "str"
 | .int _=>T = "int"
 | .ref p=>(T = "list"/\∃ xs,SqL K H p xs)\/(T = "tuple"/\∃ o,K.lookup p=some o/\o.cls=.type "tuple"/\o.dict=none) \/
   (T = "dict"/\((∃ kvs,H p=some (.dK kvs))\/∃ kvs,H p=some (.dT kvs)))\/(T = "set"/\∃ S n,H p=some (.set S n))
 | _=>False
theorem bt1 {h:List (Addr×Obj)}{σ:St}{H:Hp}{s:af}{T:String}{x:V}{v:Value}(I:Inv X h σ H s)(r:RelV x v)(B:tyV X.K T x H) :
  s.TypeIs v T/\∀ a,v=.ref a->∃ ob,s.heap.get? a=some ob/\ob.dict=none:=by
 cases x with
 | str z =>
  obtain⟨t,rfl⟩:=r
  cases(show T = "str" from B)
  exact⟨j3 s z t,λ _ e=>nomatch e⟩
 | int i =>
  obtain⟨t,rfl⟩:=r
  cases(show T = "int" from B)
  exact⟨gB s i t,λ _ e=>nomatch e⟩
 | ref p =>
  cases r
  rcases B with⟨rfl,Y,J⟩|⟨rfl,o,hk,hc,hd⟩|⟨rfl,hk⟩|⟨rfl,S,n,hk⟩
  ·obtain⟨its,_,G,_⟩:=I.list J
   refine⟨G.isList.typeIs,λ a e=>?_⟩
   cases e
   obtain⟨o,n,e,c,hd,_⟩:=G
   exact⟨o,e,hd⟩
  ·refine⟨⟨o,I.kIn p o hk,hc⟩,λ a e=>?_⟩
   cases e
   exact⟨o,I.kIn _ o hk,hd⟩
  ·have z:∃ o,s.heap.get? p=some o/\o.ExactDict:=by
    rcases hk with⟨F,hk⟩|⟨F,hk⟩
    ·obtain⟨_,_,_,_,o,_,_,e,ex,_⟩:=I.hok p _ hk
     exact⟨o,e,ex⟩
    ·obtain⟨_,_,_,_,o,_,_,e,ex,_⟩:=I.hok p _ hk
     exact⟨o,e,ex⟩
   obtain⟨o,e,ex⟩:=z
   refine⟨⟨o,e,ex.1⟩,λ a e2=>?_⟩
   cases e2
   exact⟨o,e,ex.2.1⟩
  ·obtain⟨o,_,_,_,e,ex,_⟩:=I.hok p _ hk
   refine⟨⟨o,e,ex.1⟩,λ a e2=>?_⟩
   cases e2
   exact⟨o,e,ex.2.1⟩
 | _=>exact bz B
def cn0 (K:ac)(T:String)(r:V->List V->Hp->VK->Prop)(to:TE):TE:=λ σ H Q=>to σ H λ x H1=>tyV K T x H1/\r x [] H1 Q
def tBM (K:ac)(T:String)(r:V->List V->Hp->VK->Prop)(to:TE)(t:TA):TE:=λ σ H Q=>to σ H λ x H1=>tyV K T x H1/\t σ H1 λ xs H2=>r x xs H2 Q
variable {o e:Expr} {es:List Expr} {to:TE} {t:TA} {name:Str} {apos cpos:Pos} {T id:String} {r:V->List V->Hp->VK->Prop}
theorem bX0 (pa:j4 T)(slot:Slot T name id)(J:kE (.builtin id)=pure (.type "method_descriptor"))(hm:MtR X id r)(ho:PE X o to)
  (G:eQ o name X.env (eval o X.env)=eval o X.env:=by rfl) (F:(apos.endLine==cpos.line)=true:=by rfl):PE X (.Call (.Attribute o name apos) [] [] cpos) (cn0 X.K T r to):=by
 intro B s σ H Q I h
 refine wpAny_Call_method0_late G F (thn (ho B s σ H _ I h) λ v s1 ⟨x,H1,Y,r1,ty,Z⟩=>?_)
 obtain⟨h1,h2⟩:=bt1 Y r1 ty
 exact⟨T,id,pa,slot,J,h1,h2,gC rfl (PySem.evalArgs_none (hm B s1 σ H1 x [] v [] Q Y r1 .nil Z))⟩
theorem cg7 (pa:j4 T)(slot:Slot T name id)(Z:kE (.builtin id)=pure (.type "method_descriptor"))(hm:MtR X id r)(ho:PE X o to)(ha:PA X (e::es) t)
  (J:eQ o name X.env (eval o X.env)=eval o X.env:=by rfl)
  (Y:((dX cpos (bw (e::es) X.env)).all (λ x=>!x.1)&&(backToKw cpos (jK [] X.env)).all (λ x=>x.1.isSome)
   && decide ((e::es).length+([]:List iu).length+(if([]:List iu).isEmpty then 0 else 1)<30))=true:=by rfl)
  (G:(apos.endLine==cpos.line)=true:=by rfl) (hs:bw (e::es) X.env=(false,eval e X.env)::bw es X.env:=by rfl) (F:(dX cpos (bw es X.env)).any (·.1)=false:=by rfl) :
  PE X (.Call (.Attribute o name apos) (e::es) [] cpos) (tBM X.K T r to t):=by
 intro B s σ H Q I h
 refine wpAny_Call_method_late J Y G rfl (thn (ho B s σ H _ I h) λ v s1 ⟨x,H1,I1,r1,ty,q1⟩=>?_)
 obtain⟨h1,h2⟩:=bt1 I1 r1 ty
 refine⟨T,id,pa,slot,Z,h1,h2,?_⟩
 have hA:=ha cpos B s1 σ H1 _ I1 q1
 rw[hs]at hA ⊢
 refine gC (by show(false||(dX cpos (bw es X.env)).any (·.1))=false;rw[F]<;>rfl) (ic ?_)
 exact thn hA λ us s2 ⟨vs,H2,I2,r2,q2⟩=>hm B s2 σ H2 x vs v us Q I2 r1 r2 q2
end
def MtM (X:Cx)(id:String)(r:V->List V->Hp->VK->Prop):Prop :=
 ∀(pins:List (Addr×Obj)) (s:af) (σ:St) (H:Hp) (x:V) (xs:List V) (v:Value) (us:List Value) (Q:VK),Inv X pins σ H s->RelV x v->Vals xs us->r x xs H Q ->
  wpAny (model X.prog X.w) X.A (call (.builtin id) (v::us)) (EP X pins σ Q) X.xe s
theorem Vals.one:∀ {x:V} {us:List Value},Vals [x] us->∃ u,us=[u]/\RelV x u
 | _,_,.cons r .nil=>⟨_,rfl,r⟩
theorem Vals.zero:∀ {us:List Value},Vals [] us->us=[]
 | _,.nil=>rfl
theorem Vals.dropLast {B:List V}{us:List Value}(h:Vals B us):Vals B.dropLast us.dropLast:=by
 induction h with
 | nil=>exact .nil
 | cons r t ih =>
  cases t with
  | nil=>exact .nil
  | cons q t'=>exact .cons r ih
theorem Vals.reverse {B:List V}{us:List Value}(h:Vals B us):Vals B.reverse us.reverse:=by
 induction h with
 | nil=>exact .nil
 | cons r t ih=>rw[d5,d5];exact Vals.append ih (.cons r .nil)
theorem Vals.rep {B:List V}{us:List Value}(h:Vals B us):∀ k:Nat,Vals (aC k B).flatten (aC k us).flatten
 | 0=>.nil
 | k+1=>by
  rw[bL,bL,cM,cM]
  exact Vals.append h (Vals.rep h k)
theorem aB3 (its:List Value):∀(k:Nat) (h:List Value),
  j5 (λ x1 B=>x1++B) h.toArray (aC k its.toArray)=(h++(aC k its).flatten).toArray
 | 0,h=>by simp
 | k+1,h=>by
  have e:h.toArray++its.toArray=(h++its).toArray:=by simp
  have e2:(h++its)++(aC k its).flatten=h++(aC (k+1) its).flatten:=by
   rw[bL,cM,bP]
  rw[<-e2,<-aB3 its k (h++its),<-e,bL,c6]
section
variable {X:Cx} {pins:List (Addr×Obj)} {σ:St} {H:Hp} {s:af} {l b:Addr} {xs ys zs:List V}
theorem Inv.lset {its its':List Value}{n:Nat}{f:Array Value->Array Value}{t':Nat}(I:Inv X pins σ H s)(B:H l=some (.lst xs))
  (e:s.heap.get? l=some { cls:=.type "list",data:=.seq its.toArray n }) (h:f its.toArray=its'.toArray) (hv:Vals ys its') (hz:ys.length<=aO) :
  Inv X pins σ (upd H l (.lst ys)) { s with heap:=s.heap.update l (gA f),toks:=t' }:=by
 have q:=PySem.IsL.update e f
 rw[h]at q
 refine I.write (x:=l) (e:=l) (by rw[B];exact trivial) (.inl rfl) (λ F u hb hu=>(bT s.heap (gA f) (cC hb)).trans hu) ⟨_,q⟩ ?_
 exact⟨hz,its',_,hv,q⟩
theorem Inv.lnew {its:List Value}{t':Nat}(I:Inv X pins σ H s)(hv:Vals ys its)(hz:ys.length<=aO) :
  Inv X pins σ (upd H s.heap.objs.size (.lst ys)) { s with heap:=s.heap.push { cls:=.type "list",data:=.seq its.toArray },toks:=t' } :=
 I.laid (λ _ _ q=>aB _ q) (aw _) ⟨hz,its,0,hv,be _ rfl⟩
theorem Inv.fresh (I:Inv X pins σ H s):H s.heap.objs.size=none:=I.hok.fresh (aw _)
theorem Inv.lstM (I:Inv X pins σ H s)(h:H l=some (.lst xs)):xs.length<=aO/\∃(its:List Value) (n:Nat),Vals xs its/\xs.length=its.length/\s.heap.get? l=some { cls:=.type "list",data:=.seq its.toArray n }:=by
 obtain⟨z,its,n,r,e⟩:=I.hok l _ h
 exact⟨z,its,n,r,r.length,e⟩
theorem bo0 {n:Nat}(h:n<=aO):dH n=false:=by
 unfold dH
 exact decide_eq_false (by omega)
end
section
variable {X:Cx}
def bJ0:V->List V->Hp->VK->Prop:=λ x vs H Q=>∃ l xs y,x=.ref l/\vs=[y]/\H l=some (.lst xs)/\xs.length<aO/\Q .non (upd H l (.lst (xs++[y])))
theorem aC5:MtM X "list.append" bJ0:=by
 intro B s σ H x vs v us Q I Z Y h
 obtain⟨l,xs,y,rfl,rfl,G,hz,q⟩:=h
 cases Z
 obtain⟨u,rfl,J⟩:=Y.one
 obtain⟨z,its,n,r,hl,e⟩:=I.lstM G
 refine iZ gX ⟨_,e,rfl⟩ F.entry_list_append (F.args_list_append_2 _ _) (PySem.list_append l its.toArray n u (by rw[az];omega)) ⟨e,?_⟩
 refine⟨.non,_,I.lset (its':=its++[u]) G e (by simp) (r.append (.cons J .nil)) ?_,rfl,q⟩
 rw[ax,di]
 omega
def cp5:R2:=λ x y H Q=>∃ l b xs zs,x=.ref l/\y=.ref b/\H l=some (.lst xs)/\H b=some (.lst zs)/\xs.length+zs.length<=aO/\∀ p,H p=none->Q (.ref p) (upd H p (.lst (xs++zs)))
theorem bW6:OpR X (cA .Add) cp5:=by
 intro F s σ H x y v u Q I rx G h
 obtain⟨l,b,xs,zs,rfl,rfl,Z,hB,hz,q⟩:=h
 cases rx
 cases G
 obtain⟨z,its,n,r,hl,e⟩:=I.lstM Z
 obtain⟨z2,B,n2,r2,Y,e2⟩:=I.lstM hB
 refine PySem.P.add_list e e2 ?_ (by rw[az,az];omega)
 have J:its.toArray++B.toArray=(its++B).toArray:=by simp
 rw[J]
 exact⟨.ref _,_,I.lnew (t':=s.toks) (r.append r2) (by rw[ax];omega),rfl,q _ I.fresh⟩
def cq0:R2:=λ x y H Q=>∃ l k xs,x=.ref l/\y=.int k/\H l=some (.lst xs)/\-(2^63)<=k/\k<2^63/\xs.length*k.toNat<=aO /\
 ∀ p,H p=none->Q (.ref p) (upd H p (.lst (aC k.toNat xs).flatten))
theorem bD9 {α:Type}(h:List α)(k:Nat):(aC k h).flatten.length=k*h.length:=by
 induction k with
 | zero=>simp
 | succ k ih=>rw[bL,cM,ax,ih,Nat.succ_mul,fe]
theorem bV9:OpR X (cA .Mult) cq0:=by
 intro a0 s σ H x y v u Q I rx ry h
 obtain⟨l,k,xs,rfl,rfl,hH,h1,h2,hz,q⟩:=h
 cases rx
 obtain⟨t,rfl⟩:=ry
 obtain⟨z,its,n,r,hl,e⟩:=I.lstM hH
 have G:its.toArray.size*k.toNat<=aO:=by rw[az,<-hl];exact hz
 have Y:¬ its.toArray.size*k.toNat > (2^63 - 1) / 8:=by
  have:(aO:Nat)<=(2^63 - 1) / 8:=by decide
  omega
 have Z:¬(!Builtin.List.listFitsIndex k)=true:=by
  rw[fitsIndex_both h1 h2]
  exact aX
 have B:¬ dH (its.toArray.size*k.toNat)=true:=by
  rw[bo0 G]
  exact aX
 have J:j5 (λ x1 x2=>x1++x2) #[] (aC (if its.toArray.isEmpty=true then 0 else k.toNat) its.toArray)=(aC k.toNat its).flatten.toArray:=by
  have f0:∀ m:Nat,j5 (λ x1 x2=>x1++x2) #[] (aC m its.toArray)=(aC m its).flatten.toArray:=λ m=>by
   have:=aB3 its m []
   rw[cK]at this
   exact this
  rw[f0]
  cases its with
  | nil=>simp
  | cons a r'=>rw[if_neg (by simp)]
 refine fB (T := "list") (U := "int") (by decide) ⟨_,e,rfl⟩ (λ s'=>gB s' k t) noFill_list_mul i0 dN repeat_list iI.lookup
  (iZ dN (gB s k t) iJ (ie _ _) (int___rmul___int_list k t l its.toArray n)
   ⟨e,rfl,⟨_,e,rfl⟩,iZ F.slot_list_mul ⟨_,e,rfl⟩ F.entry_list_mul (F.args_list_mul_2 _ _) (AutoListH.list___mul___list_int_3 l its.toArray n k t Z Y B) ⟨e,?_⟩⟩)
 rw[J]
 exact⟨.ref _,_,I.lnew (t':=s.toks) (r.rep k.toNat) (by rw[bD9,kF];exact hz),rfl,q _ I.fresh⟩
end
section
variable {prog:aH} {w:World} {A:aV} {E:Value->af->Prop} {s:af}
end
section
variable {X:Cx}
end
end L2
end
noncomputable section
namespace Att
open PySem PySem.W PySem.Calls PyProof.Rows
theorem ints_of_wellAll {P:Params}{h:Heap}:∀(ns:List Int) (vs:List Value),WellAll P h vs (ns.map WData.int)->jV vs ns:=by
 intro ns
 induction ns with
 | nil =>
  intro vs w
  rw[gD]at w
  cases w
  exact .nil
 | cons n ns ih =>
  intro vs w
  rw[a8]at w
  cases w with
  | cons a b =>
   cases a
   exact .cons _ _ (ih _ b)
theorem script_of {l:OpenLaw}{n:Nat}(hn:l.most=some n){P:Params}{h:Heap}{args:List WData}{B:List Value}
  (F:l.row.toRowW.claim.pre args=true) (Z:WellAll P h B args) :
  ∃ a vs ns,B=[Value.ref a]/\args=[WData.list (ns.map WData.int)]/\h.get? a=some { cls:=.type "list",data:=.seq vs.toArray }/\jV vs ns/\ns.length<=n:=by
 have a0:WShape.hasAll [] args [.list .int]=true:=(pre_splitW F).1
 have hc:l.pre.holds [] { args:=args }=true:=(pre_splitW F).2
 obtain⟨d,r,rfl,h1,h2⟩:=hasAllW_cons a0
 obtain rfl:=hasAllW_nil h2
 obtain⟨xs,rfl,h3⟩:=hasW_list h1
 obtain⟨ns,rfl⟩:=items_int h3
 have G:ns.length<=n:=by
  unfold OpenLaw.pre at hc
  have J:(WTm.not (.lt (.lit (.int (n:Int))) (.len (.arg 0)))).holds [] { args:=[.list (ns.map .int)] }=true:=by
   have J:=(holds_andW hc).1
   rw[hn]at J
   exact J
  have Y:=condW_of J (w_not (w_lt w_lit (w_len_list (w_arg rfl))))
  rw[aF]at Y
  refine jC λ q=>?_
  have q':(n:Int)<((ns.length:Nat):Int):=by omega
  first
   | (rw[decide_eq_true q']at Y;exact absurd Y (by decide))
   | (simp at Y;omega)
 cases Z with
 | cons w1 w2 =>
  cases w2
  cases w1 with
  | list ho hall=>exact⟨_,_,ns,rfl,rfl,ho,ints_of_wellAll ns _ hall,G⟩
theorem post_true (l:OpenLaw)(args:List WData):l.row.toRowW.claim.post args (.bool true) args=true :=
 postW_of (r:=l.row.toRowW) (X:=(true==true))
  (show WShape.has [] (.bool true) .bool=true by first|rfl|decide|simp[WShape.has,WShape.arms,WShape.armsAll])
  (show(WTm.eq .res (.lit (.bool true))).value [] { args:=args,res:=some (.bool true),after:=args }=some (.bool (true==true))from w_eq_bool (w_res rfl) w_lit) rfl
theorem attach_call {l:OpenLaw}{n:Nat}{q:aH}{loose:List Str}{XP:(Str->Option Value)->Heap->Prop}{YP:World->Heap->Prop}{d:DefRec}
  (hn:l.most=some n) (a2:d.params.defaults=[])
  (call:∀(w:World) (s₀ h:af) (mg mb:Str->Option Value) (fa:Addr) (o:Obj) (pm cd B:Value) (a:Addr) (vs:List Value) (ns:List Int),
   Ground q loose [] XP w s₀ mg mb h.heap->YP w h.heap ->
   h.heap.get? fa=some o->o.data=.func (docDef d.name d.params d.body d.scope pm cd B)->h.heap.CodeRec cd d.name->mg d.name=some (.ref fa) ->
   h.heap.get? a=some { cls:=.type "list",data:=.seq vs.toArray }->jV vs ns->ns.length<=n->h.gens=#[] ->
   fI (model l.prog w) iw (.call (.ref fa) ⟨[.ref a],[]⟩) (λ r s'=>r=.ok (.ret (.bool true))/\OldK h.heap s'.heap/\s'.os=h.os/\fc s'.gens) h) :
  WalkO q loose XP YP l.row.toRowW d [] (λ f vs=>jW f vs):=by
 intro w s₀ h mg mb G Y fa o pm cd B dV kV ho hd a4 hD a3 hg args a5 as Z a6 b1 a1 b0
 obtain rfl:dV=.none:=Dflts.none hD a2
 obtain rfl:kV=.none:=Dflts.noKw hD
 obtain⟨a,vs,ns,rfl,rfl,a0,F,J⟩:=script_of hn Z a1
 refine enter_call (jk (call w s₀ h mg mb fa o pm cd B a vs ns G Y ho (fd_plain hd) a4 a3 a0 F J hg) λ r s' hq=>?_)
 obtain⟨rfl,h2,h3,h4⟩:=hq
 exact⟨.inl ⟨.bool true,.bool true,[],rfl,λ _=>rfl,.bool true,post_true l _,λ _=>⟨List.Pairwise.nil,λ _ hm=>(nomatch hm)⟩⟩,h2,h3,h4⟩
section
variable {prog:aH} {w:World} {A:aV} {E:Value->af->Prop} {s:af} {K:Frag}
end
end Att
noncomputable section
namespace L2
open PySem PySem.Spec PyProof.Rows
theorem aC2:∀ {vs:List Value} {ns:List Int},jV vs ns->Vals (ns.map V.int) vs
 | _,_,.nil=>.nil
 | _,_,.cons n t h=>.cons ⟨t,rfl⟩ (aC2 h)
noncomputable def defArgs (s:Stmt):ci:=match s with
 | .FunctionDef _ a _ _ _ _ _ _ _ _=>a
 | _=>{ posonlyargs:=[],args:=[],vararg:=none,kwonlyargs:=[],kw_defaults:=[],kwarg:=none,defaults:=[] }
noncomputable def zq (s:Stmt):List Stmt:=match s with
 | .FunctionDef _ _ b _ _ _ _ _ _ _=>b
 | _=>[]
noncomputable def defScope (s:Stmt):Scope:=match s with
 | .FunctionDef _ _ _ _ _ _ sc _ _ _=>sc
 | _=>{ kind:=.function,names:=[],isGenerator:=false,isCoroutine:=false }
noncomputable abbrev CX0:CXT:=λ _ _ _ _ _ _=>False
abbrev E0:XK:=λ _ _ _=>False
theorem bT8 {X:Cx}:al9 CX0 X E0:=λ _ _ _ _ _ _ _ h=>h.elim
structure Fun (K:ac)(x qual:Str)(st:Stmt)(f:Addr)(fd:bO):Prop where
 ex:∃(oc:Value) (od:Option Addr) (kV doc pm:Value) (an:Option Addr) (cdv ct:Value) (osl:Array (Option Value)),
  fd=cW x qual (defArgs st) (zq st) (defScope st) .none kV doc pm an cdv ct/\K.lookup f=some ⟨oc,od,.func fd,osl⟩/\fq K cdv qual=true
 kp:cu K (.ref f)=true
section
variable {P:aH} {w:World} {K:ac} {mg:Str->Option Value} {base:Heap}
theorem Fun.ok {x qual:Str}{st:Stmt}{f:Addr}{fd:bO}{N ps:List Str}{k:Nat}{sp:Sp}(F:Fun K x qual st f fd)(S:FnScope N ps (defScope st))(len:∀ vs H Q E,sp vs H Q E->vs.length=ps.length)
  (J:∀(G:Value) (A:aV) (B:List Env) (s:af) (H:Hp) (vs:List V) (Q:VK) (E:XK),Room k (A.deeper (e6 qual (defScope st) s.heap.objs.size f G))->sp vs H Q E ->
   ∃ t,PSs (au5 CX0 P w K mg base N qual (defScope st) f G A B s H E).nox (zq st) t/\t { nx:=λ _ H'=>Q .non H',rt:=Q } (al4 N vs) H):FnOk P w K mg base CX0 (k+1) f fd ps sp:=by
 obtain⟨oc,od,kV,a0,pm,an,G,ct,a1,rfl,lk,Z⟩:=F.ex
 refine bv9 lk Z S len λ A B s H vs Q E hr Y=>?_
 obtain⟨t,h,q⟩:=J G A B s H vs Q E hr Y
 exact⟨t,h.nox,q⟩
theorem Fun.binds {x qual:Str}{st:Stmt}{f:Addr}{Z:bO}{ps:List Str}(F:Fun K x qual st f Z)
  (h:∀(kV B Y:Value) (J:Option Addr) (G ct:Value) (us:List Value),us.length=ps.length->dZ (cW x qual (defArgs st) (zq st) (defScope st) .none kV B Y J G ct) ⟨us,[]⟩=pure (ps.zip us)):Binds K Z ps []:=by
 obtain⟨oc,od,kV,B,Y,J,G,ct,a0,rfl,lk,a1⟩:=F.ex
 exact .all (h kV B Y J G ct)
theorem br1 {x qual:Str}{st:Stmt}{f:Addr}{oc:Value}{od G:Option Addr}{F:Array (Option Value)}{kV B J h ct:Value}(l:K.lookup f=some ⟨oc,od,.func (cW x qual (defArgs st) (zq st) (defScope st) .none kV B J G h ct),F⟩)
  (c:fq K h qual=true) (k:cu K (.ref f)=true):Fun K x qual st f (cW x qual (defArgs st) (zq st) (defScope st) .none kV B J G h ct):=⟨⟨oc,od,kV,B,J,G,h,ct,F,rfl,l,c⟩,k⟩
end
section
variable {X:Cx}
end
theorem cp0 {A B:Prop}(h:B):if false=true then A else B:=by
 rw[if_neg aX]
 exact h
theorem iteT {A B:Prop}(h:A):if true=true then A else B:=by
 rw[if_pos rfl]
 exact h
def ak6 (H H':Hp):Prop:=∀ b o,H b=some o->H' b=some o
theorem ak6.refl (H:Hp):ak6 H H:=λ _ _ h=>h
theorem ak6.trans {H F B:Hp}(a:ak6 H F)(b:ak6 F B):ak6 H B:=λ c o h=>b c o (a c o h)
theorem bc1 {prog:aH}{w:World}{A:aV}{R:j1->af->Prop}{s:af}{J B iter:Expr}{F:List Expr}{scope:Scope}{pos:Pos}{it G:Value}{env:Env}(I:Nat->af->Prop)
  (turn:∀ n s,I n s->wpAny (model prog w) A (jy it) (λ r Z=>match r with
   | none=>R (.ok .next) Z
   | some v=>wpAny (model prog w) A (eY B it v) (λ _ Y=>wpAny (model prog w) A (gm B env v) (λ _ s₂ =>
     wpAny (model prog w) A (forIn F true λ c r=>if r=true then do let ok <- dM c env (eval c env);pure (ForInStep.yield ok)else pure (ForInStep.yield r)) (λ ok s₃ =>
      if ok=true then wpAny (model prog w) A (eval J env) (λ x s₄ =>
       wpAny (model prog w) A (call (.builtin "list.append") [G,x]) (λ _ s₅=>∃ m,m<n/\I m s₅) (jp (model prog w) A env λ e s'=>R (.error e) s') s₄) (jp (model prog w) A env λ e s'=>R (.error e) s') s₃
      else ∃ m,m<n/\I m s₃) (jp (model prog w) A env λ e s'=>R (.error e) s') s₂) (jp (model prog w) A env λ e s'=>R (.error e) s') Y) (jp (model prog w) A env λ e s'=>R (.error e) s') Z) (jp (model prog w) A env λ e s'=>R (.error e) s') s)
  (n:Nat) (h:I n s) :
  fI (model prog w) A (.compLoop (.ListComp J [⟨B,iter,F,0⟩] scope pos) 0 it G env) R s:=by
 refine codeAny_loop rfl I (λ n s hI=>?_) n h
 show wpAny _ A ((compTurn (.ListComp J [⟨B,iter,F,0⟩] scope pos) 0 it G env).onRaise (λ x=>do jD x env;theTreesLotGoes x)) _ _ s
 refine wpAny_noted ?_
 rw[compTurn_list]
 refine ai (iO (ai (br (turn n s hI) (λ r Z h₁=>?_) λ _ _ h'=>h')))
 cases r with
 | none=>exact aA h₁
 | some v =>
  refine ai (br h₁ (λ _ Y a0=>?_) λ _ _ h'=>h')
  refine ai (br a0 (λ _ s₂ h₂=>ai (br h₂ (λ ok s₃ h₃=>?_) λ _ _ h'=>h')) λ _ _ h'=>h')
  cases ok with
  | false=>exact aA ⟨rfl,h₃⟩
  | true =>
   exact ai (ai (br h₃ (λ x s₄ h₄=>ai (br h₄ (λ _ s₅ h₅=>aA (aA ⟨rfl,h₅⟩)) λ _ _ h'=>h')) λ _ _ h'=>h'))
noncomputable def at7 (cells:List (Str×Addr)):List (Str×cw)->List (Str×Addr)->List (Str×Addr)
 | [],acc=>acc
 | (n,k)::r,acc=>at7 cells r (if k==.free then(match cells.lookup n with|some c=>(n,c)::acc|none=>acc)else acc)
theorem al2 {env:Env}:∀(names:List (Str×cw)) (B:List (Str×Addr)),(∀ y∈names,y.2=.free->∃ c,env.cells.lookup y.1=some c) ->
  (forIn names B λ(x:Str×cw) (cs:List (Str×Addr))=>(if x.2==.free then do let c <- cellOf env x.1;pure (ForInStep.yield ((x.1,c)::cs))else pure (ForInStep.yield cs):Sem (ForInStep (List (Str×Addr)))))=pure (at7 env.cells names B)
 | [],B,_=>by rw[fw];rfl
 | (n,k)::r,B,h=>by
  have F:=λ a=>al2 r a λ y hy=>h y (ao _ hy)
  rw[gK]
  unfold at7
  cases e:(k==NameKind.free)with
  | false =>
   simp only[ag,if_false]
   exact F B
  | true =>
   have hk:k=.free:=by simpa using e
   obtain⟨c,hc⟩:=h (n,k) aD hk
   have e1:cellOf env n=pure c:=by unfold cellOf;rw[hc]
   simp only[if_true,e1,hc]
   exact F _
theorem al1 {scope:Scope}{env:Env}(h:∀ y∈scope.names,y.2=.free->∃ c,env.cells.lookup y.1=some c):closureFor scope env=pure (at7 env.cells scope.names []):=by
 have:=al2 (env:=env) scope.names [] h
 show(forIn scope.names [] (λ(x:Str×cw) (cs:List (Str×Addr))=>(if x.2==.free then do let c <- cellOf env x.1;pure (ForInStep.yield ((x.1,c)::cs))else pure (ForInStep.yield cs):Sem (ForInStep (List (Str×Addr))))) >>= λ cs=>pure cs)=_
 rw[this]
 rfl
theorem clOf_mem {cells:List (Str×Addr)}{n:Str}{c:Addr}:∀ {names:List (Str×cw)} {B:List (Str×Addr)},(n,c)∈at7 cells names B->cells.lookup n=some c\/(n,c)∈B
 | [],_,h=>.inr h
 | (m,k)::r,B,h=>by
  unfold at7 at h
  rcases clOf_mem h with z|z
  ·exact .inl z
  ·cases e:(k==NameKind.free)with
   | false=>simp only[e,ag,if_false]at z;exact .inr z
   | true =>
    simp only[e,if_true]at z
    cases q:cells.lookup m with
    | none=>rw[q]at z;exact .inr z
    | some d =>
     rw[q]at z
     rcases aI.mp z with y|y
     ·cases y;exact .inl q
     ·exact .inr y
theorem aM2 {cells:List (Str×Addr)}{n:Str}{c:Addr}(hc:cells.lookup n=some c):∀ {names:List (Str×cw)} {B:List (Str×Addr)},((n,NameKind.free)∈names\/(n,c)∈B)->(n,c)∈at7 cells names B
 | [],_,h=>by rcases h with h|h;(exact absurd h (by simp));exact h
 | (m,k)::r,B,h=>by
  unfold at7
  refine aM2 hc ?_
  rcases h with h|h
  ·rcases aI.mp h with e|h
   ·cases e
    right
    simp[hc]
   ·exact .inl h
  ·right
   cases e:(k==NameKind.free)with
   | false=>simpa using h
   | true =>
    simp only[if_true]
    cases q:cells.lookup m with
    | none=>exact h
    | some d=>exact ao _ h
theorem am9 {α:Type}{n:Str}{c:α}:∀ {l:List (Str×α)},(n,c)∈l->(∀ d,(n,d)∈l->d=c)->l.lookup n=some c
 | (m,d)::r,h,u=>by
  rw[bf]
  cases e:n==m with
  | true =>
   have e':=beq_iff_eq.mp e
   subst e'
   rw[u d aD]
  | false =>
   rcases aI.mp h with z|z
   ·cases z;simp at e
   ·exact am9 z λ d' h'=>u d' (ao _ h')
theorem aH8 {cells:List (Str×Addr)}{n:Str}{c:Addr}{names:List (Str×cw)}(hc:cells.lookup n=some c)(h:(n,NameKind.free)∈names):(at7 cells names []).lookup n=some c:=by
 refine am9 (aM2 hc (.inl h)) λ d hd=>?_
 rcases clOf_mem hd with z|z
 ·rw[hc]at z;exact(aE z).symm
 ·exact absurd z (by simp)
theorem zd:∀(names:List (Str×cw)) (n:Nat) (h:List (Str×Addr)),aQ n names h=aQ n names []++h
 | [],_,h=>by simp[aQ]
 | (x,k)::r,n,h=>by
  unfold aQ
  split
  ·rw[zd r (n+1) ((x,n)::h),zd r (n+1) [(x,n)]]
   simp
  ·exact zd r n h
theorem zt:∀ {names:List (Str×cw)} {n:Nat} {B:List (Str×Addr)} {x:Str} {c:Addr},(x,c)∈aQ n names B->(x,NameKind.cell)∈names\/(x,c)∈B
 | [],_,_,_,_,h=>.inr h
 | (y,k)::r,n,B,x,c,h=>by
  unfold aQ at h
  split at h
  ·rename_i hk
   rcases zt h with z|z
   ·exact .inl (ao _ z)
   ·rcases aI.mp z with e|z
    ·cases e
     have:k=.cell:=by simpa using hk
     subst this
     exact .inl aD
    ·exact .inr z
  ·rcases zt h with z|z
   ·exact .inl (ao _ z)
   ·exact .inr z
theorem zy {α:Type}(x:Str):∀(l r:List (Str×α)),(l++r).lookup x=(l.lookup x).or (r.lookup x)
 | [],r=>by simp
 | (y,v)::l,r=>by
  rw[bX,bf,bf]
  cases x==y with
  | true=>rfl
  | false=>exact zy x l r
noncomputable def zO (N':List Str)(src:List (Option Nat))(scope:Scope)(XN:List Str)(xs:Scope):Bool :=
 (scope.kind==.function) &&
 (scope.names.all λ y=>!(y.2==.free)||(xs.names.lookup y.1==some .cell||xs.names.lookup y.1==some .free)) &&
 (scope.names.all λ y=>!(y.2==.local)||scope.names.lookup y.1==some .local) &&
 (scope.names.all λ y=>!(y.2==.cell)||(scope.names.all λ z=>!(z.1==y.1)||z.2==.cell)) &&
 (src.length==N'.length) &&
 ((N'.zip src).all λ y=>match y.2 with|none=>true|some j=>XN[j]?==some y.1&&scope.names.lookup y.1==some .free)
structure CompCk (N':List Str)(src:List (Option Nat))(scope:Scope)(XN:List Str)(xs:Scope):Prop where
 kind:scope.kind=.function
 fr:∀ y∈scope.names,y.2=.free->xs.names.lookup y.1=some .cell\/xs.names.lookup y.1=some .free
 loc:∀ y∈scope.names,y.2=.local->scope.names.lookup y.1=some .local
 cel:∀ y∈scope.names,y.2=.cell->∀ z∈scope.names,z.1=y.1->z.2=.cell
 len:src.length=N'.length
 sr:∀(i j:Nat) (x:Str),src[i]?=some (some j)->N'[i]?=some x->XN[j]?=some x/\scope.names.lookup x=some .free
theorem bu3 {B:List Str}{src:List (Option Nat)}{scope:Scope}{G:List Str}{F:Scope}(h:zO B src scope G F=true):CompCk B src scope G F:=by
 unfold zO at h
 simp only[aj]at h
 obtain⟨⟨⟨⟨⟨h1,h2⟩,h3⟩,h4⟩,Y⟩,Z⟩:=h
 refine⟨by simpa using h1,λ y hy e=>?_,λ y hy e=>?_,λ y hy e z hz J=>?_,by simpa using Y,λ i j x e1 e2=>?_⟩
 ·have:=aU.mp h2 y hy
  simpa [e]using this
 ·have:=aU.mp h3 y hy
  simpa [e]using this
 ·have:=aU.mp h4 y hy
  simp only[e,beq_self_eq_true,au,kn]at this
  have:=aU.mp this z hz
  simpa [J]using this
 ·have hm:(x,some j)∈B.zip src:=by
   refine aZ (i:=i) ?_
   rw[List.getElem?_zip_eq_some]
   exact⟨e2,e1⟩
  have:=aU.mp Z _ hm
  simpa using this
noncomputable abbrev zB (X:Cx)(N':List Str)(scope:Scope)(C:Addr)(cells:List (Str×Addr))(s:af)(H:Hp)(ex:List Addr):Cx where
 prog:=X.prog
 w:=X.w
 K:=X.K
 mg:=X.mg
 base:=X.base
 A:=X.A
 N:=N'
 s₀:=s
 H₀:=H
 env:={ scope:=eR scope X.env,locals:=C,globals:=X.env.globals,cells:=cells,qual:=X.env.qual,func:=none,code:=X.env.code,frame:=X.env.frame,builtins:=X.env.builtins }
 outer:=X.stack
 stack:=X.stack
 ex:=ex
 fn:=λ x=>scope.names.lookup x==some .cell
 calm:=X.calm
 pn:=[]
 xe:=λ _ _=>False
def PIf (X:Cx)(ifs:List Expr)(t:TT):Prop :=
 ∀(pins:List (Addr×Obj)) (s:af) (σ:St) (H:Hp) (Q:Bool->Hp->Prop),Inv X pins σ H s->t σ H Q ->
  wpAny (model X.prog X.w) X.A (forIn ifs true λ c r=>if r=true then do let ok <- dM c X.env (eval c X.env);pure (ForInStep.yield ok)else pure (ForInStep.yield r)) (TP X pins σ Q) X.xe s
def cp2:TT:=λ _ H Q=>Q true H
theorem bx2 {X:Cx}:PIf X [] cp2:=λ _ _ _ H _ I h=>wpAny_tests_nil ⟨H,I,h⟩
theorem bv4 {X:Cx}{c:Expr}{t:TT}(h:PT X c t):PIf X [c] t:=λ B s σ H Q I hw=>wpAny_tests_one (h B s σ H Q I hw)
noncomputable def aD1 (src:List (Option Nat))(σ:St):St:=src.map λ o=>match o with|none=>none|some j=>(σ[j]?).join
def tComp (src:List (Option Nat))(wi:TI)(g:TG)(tc:TT)(te:TE):TE:=λ σ H Q=>wi σ H λ J H1=>∀ D,H1 D=none ->
 ∃ W:Nat->Nat->St->Hp->Prop,(∃ m,W 0 m (aD1 src σ) (upd H1 D (.lst [])))/\∀ i m σ' H',W i m σ' H' ->
  (J.stop i H'/\Q (.ref D) H')\/(J.go i H'/\∃ N:St->Hp->Prop,(∀ σ2 H2,N σ2 H2->∃ m',m'<m/\W (i+1) m' σ2 H2) /\
   ∀ x H2,J.yld i H' x H2->g x σ' H2 λ σ3 H3=>tc σ3 H3 λ b H4=>if b=true then te σ3 H4 λ v H5=>∃ ys,H5 D=some (.lst ys)/\ys.length<aO/\N σ3 (upd H5 D (.lst (ys++[v])))else N σ3 H4)
theorem qf {env:Env}:∀ {names:List (Str×cw)} {x:Str} {k:cw},names.lookup x=some k ->
  (names.map λ(n,k)=>if(k==NameKind.free&&env.scope.kind==.function&&env.kindOf n==some .cell)then(n,NameKind.cell)else(n,k)).lookup x =
   some (if(k==NameKind.free&&env.scope.kind==.function&&env.kindOf x==some .cell)then NameKind.cell else k)
 | [],_,_,h=>by simp at h
 | (n,k)::r,x,k',h=>by
  have B:=@qf env r x k'
  show kO x ((if(k==NameKind.free&&env.scope.kind==.function&&env.kindOf n==some .cell)=true then(n,NameKind.cell)else(n,k))::_)=_
  cases hx:x==n with
  | true =>
   have e:=beq_iff_eq.mp hx
   subst e
   simp only[bf,hx]at h
   cases h
   by_cases hc:(k==NameKind.free&&env.scope.kind==.function&&env.kindOf x==some .cell)=true
   ·rw[if_pos hc,if_pos hc];simp only[bf,hx]
   ·rw[if_neg hc,if_neg hc];simp only[bf,hx]
  | false =>
   simp only[bf,hx]at h
   by_cases hc:(k==NameKind.free&&env.scope.kind==.function&&env.kindOf n==some .cell)=true
   ·rw[if_pos hc];simp only[bf,hx];exact B h
   ·rw[if_neg hc];simp only[bf,hx];exact B h
theorem z0 {env:Env}:∀ {names:List (Str×cw)} {x:Str},names.lookup x=none ->
  (names.map λ(n,k)=>if(k==NameKind.free&&env.scope.kind==.function&&env.kindOf n==some .cell)then(n,NameKind.cell)else(n,k)).lookup x=none
 | [],_,_=>rfl
 | (n,k)::r,x,h=>by
  have B:=@z0 env r x
  show kO x ((if(k==NameKind.free&&env.scope.kind==.function&&env.kindOf n==some .cell)=true then(n,NameKind.cell)else(n,k))::_)=_
  cases hx:x==n with
  | true=>simp only[bf,hx]at h;cases h
  | false =>
   simp only[bf,hx]at h
   by_cases hc:(k==NameKind.free&&env.scope.kind==.function&&env.kindOf n==some .cell)=true
   ·rw[if_pos hc];simp only[bf,hx];exact B h
   ·rw[if_neg hc];simp only[bf,hx];exact B h
theorem au8 {X:Cx}{N':List Str}{src:List (Option Nat)}{scope:Scope}{a4:List (Addr×Obj)}{σ:St}{H:Hp}{s s4:af}{fp:List Addr}
  (G:CompCk N' src scope X.N X.env.scope) (I:Inv X a4 σ H s) (hf:∀ b∈fp,FpOk X a4 H b) (b2:∀ b∈fp,b<s.heap.objs.size)
  (e4:∃ tk,s4={ s with heap:=eM (s.heap.push { cls:=.type "dict",data:=.dict #[] }) scope.names,toks:=tk }) :
  Inv (zB X N' scope s.heap.objs.size (aQ (s.heap.objs.size+1) scope.names (at7 X.env.cells scope.names [])) s H fp) [] (aD1 src σ) H s4:=by
 obtain⟨tk,rfl⟩:=e4
 have hk:∀ b o,s.heap.get? b=some o->(eM (s.heap.push { cls:=.type "dict",data:=.dict #[] }) scope.names).get? b=some o:=λ b o e=>c7 _ _ b o (aB _ e)
 have ok:=cellsFrom_ok scope.names (s.heap.push { cls:=.type "dict",data:=.dict #[] }) (s.heap.objs.size+1) [] ⟨λ _ _ hm=>(nomatch hm),List.Pairwise.nil⟩ (by rw[b9];exact aw _)
 rw[b9]at ok
 have Z:=zd scope.names (s.heap.objs.size+1) (at7 X.env.cells scope.names [])
 have lk:∀ x c,(aQ (s.heap.objs.size+1) scope.names (at7 X.env.cells scope.names [])).lookup x=some c ->
   ((x,c)∈aQ (s.heap.objs.size+1) scope.names []/\(x,NameKind.cell)∈scope.names)\/(X.env.cells.lookup x=some c/\(aQ (s.heap.objs.size+1) scope.names []).lookup x=none):=λ x c e=>by
  rw[Z,zy]at e
  cases q:(aQ (s.heap.objs.size+1) scope.names []).lookup x with
  | some d =>
   rw[q]at e
   have e':d=c:=aE e
   subst e'
   have hm:=aL q
   refine .inl ⟨hm,?_⟩
   rcases zt hm with z|z
   ·exact z
   ·exact absurd z (by simp)
  | none =>
   rw[q]at e
   have e':(at7 X.env.cells scope.names []).lookup x=some c:=e
   rcases clOf_mem (aL e')with z|z
   ·exact .inr ⟨z,rfl⟩
   ·exact absurd z (by simp)
 have up:∀ x c,(x,c)∈aQ (s.heap.objs.size+1) scope.names []->s.heap.objs.size+1<=c:=λ x c h=>(ok.empty x c h).2
 have b1:∀ x c,X.env.cells.lookup x=some c->c<s.heap.objs.size:=λ x c h=>by
  obtain⟨v,q⟩:=I.cell x c h
  exact q.lt
 have a3:∀ b,b<s.heap.objs.size->b≠s.heap.objs.size:=λ b h=>aJ h
 have a6:∀ b∈fp,H b=none/\b≠X.env.locals/\b ∉ X.fs:=λ b hb=>⟨(hf b hb).1,(hf b hb).2.1,(hf b hb).2.2.1⟩
 have b5:(eM (s.heap.push { cls:=.type "dict",data:=.dict #[] }) scope.names).Ns s.heap.objs.size (λ _=>none):=(kP s.heap (.type "dict")).keeps (c7 _ _)
 have Y:∀ x k,scope.names.lookup x=some k->(eR scope X.env).names.lookup x=some (if(k==NameKind.free&&X.env.scope.kind==.function&&X.env.kindOf x==some .cell)then NameKind.cell else k):=λ x k e=>qf (env:=X.env) e
 have a0:∀ x,scope.names.lookup x=none->(eR scope X.env).names.lookup x=none:=λ x e=>z0 (env:=X.env) e
 have b0:∀ x c,(x,NameKind.free)∈scope.names->X.env.cells.lookup x=some c->(aQ (s.heap.objs.size+1) scope.names (at7 X.env.cells scope.names [])).lookup x=some c:=λ x c hx hc=>by
  rw[Z,zy]
  cases q:(aQ (s.heap.objs.size+1) scope.names []).lookup x with
  | some d =>
   rcases zt (aL q)with z|z
   ·have:=G.cel _ z rfl _ hx rfl
    cases this
   ·exact absurd z (by simp)
  | none=>exact aH8 hc hx
 have a5:∀ x,(x,NameKind.free)∈scope.names->∃ c,X.env.cells.lookup x=some c:=λ x hx=>I.ok.has x (G.fr _ hx rfl)
 refine⟨⟨I.ok.mod,G.kind,I.ok.glob,I.ok.blt,aw _,λ x y c e1 e2=>?_,λ x hx=>?_,λ x c hx e=>?_,I.ok.hd,I.ok.frames,.inl rfl,λ b hb=>⟨a3 b (b2 b hb),λ x c e z=>?_⟩,I.bs,av I.ok.bsz I.sz,λ b o e hb=>?_,λ b hb z=>?_,I.stack,I.stkFree⟩,
  rfl,I.bare,Un.kept hk,⟨_,b5,λ i x v e1 e2 e3=>?_⟩,λ x c e=>?_,I.hok.fresh (aw _),λ x c e=>?_,λ p hp=>absurd (show p∈([]:List (Addr×Obj))from hp) (by simp),I.hok.kept hk,by unfold aD1;rw[aF];exact G.len⟩
 ·rcases lk x c e1 with⟨a1,_⟩|⟨a1,_⟩<;>rcases lk y c e2 with⟨a2,_⟩|⟨a2,_⟩
  ·exact gu ok.apart a1 a2
  ·exact absurd (aG (b1 _ _ a2) (fK (up _ _ a1))) (bC _)
  ·exact absurd (aG (b1 _ _ a1) (fK (up _ _ a2))) (bC _)
  ·exact I.ok.inj x y c a1 a2
 ·cases q:scope.names.lookup x with
  | none =>
   have F:(eR scope X.env).names.lookup x=some .cell\/(eR scope X.env).names.lookup x=some .free:=hx
   rw[a0 x q]at F
   rcases F with z|z<;>cases z
  | some k =>
   have F:(eR scope X.env).names.lookup x=some .cell\/(eR scope X.env).names.lookup x=some .free:=hx
   rw[Y x k q]at F
   cases k with
   | free =>
    obtain⟨c,hc⟩:=a5 x (aL q)
    exact⟨c,b0 x c (aL q) hc⟩
   | cell =>
    obtain⟨c,hc⟩:=zL (n:=s.heap.objs.size+1) q
    exact⟨c,by show(aQ _ _ _).lookup x=_;rw[Z,zy,hc];rfl⟩
   | _=>rcases F with z|z<;>cases z
 ·have F:(scope.names.lookup x==some .cell)=true:=hx
  have q:scope.names.lookup x=some .cell:=by simpa using F
  rcases lk x c e with⟨a,_⟩|⟨a,b⟩
  ·have:=up _ _ a;show s.heap.objs.size<=c;omega
  ·obtain⟨d,hd⟩:=zL (n:=s.heap.objs.size+1) q
   rw[hd]at b;cases b
 ·subst z
  rcases lk x c e with⟨a,_⟩|⟨a,_⟩
  ·exact absurd (aG (b2 c hb) (fK (up _ _ a))) (bC _)
  ·exact(hf c hb).2.2.2.2.1 x c a rfl
 ·rcases(hf b hb).2.2.2.1 with z|z
  ·exact I.ok.noex b o e z
  ·exact absurd (aG (aM e) (av I.ok.bsz z)) (bC _)
 ·rcases aI.mp (I.stkSub b z)with y|y
  ·exact(a6 b hb).2.1 y
  ·exact(a6 b hb).2.2 y
 ·have B:(aD1 src σ)[i]?=some (some v):=e2
  unfold aD1 at B
  rw[aN]at B
  cases q:src[i]? with
  | none=>rw[q]at B;cases B
  | some o =>
   rw[q]at B
   cases o with
   | none=>cases B
   | some j =>
    have J:(σ[j]?).join=some v:=aE B
    have ej:σ[j]?=some (some v):=by
     cases q2:σ[j]? with
     | none=>rw[q2]at J;cases J
     | some o2=>rw[q2]at J;exact congrArg some J
    obtain⟨h1,h2⟩:=G.sr i j x q e1
    have hm:=aL h2
    obtain⟨mX,b6,b4⟩:=I.loc
    have b3:Vis X.env.scope x:=by
     rcases G.fr _ hm rfl with z|z
     ·exact .inr (.inl z)
     ·exact .inr (.inr z)
    obtain⟨u,ru,look⟩:=b4 j x v h1 ej b3
    refine⟨u,ru,.inr ?_⟩
    have hcell:∃ c,X.env.cells.lookup x=some c/\s.heap.IsCell c (some u):=by
     rcases look with⟨z,_⟩|⟨_,c,z1,z2⟩
     ·have z':X.env.scope.names.lookup x=some .local:=z
      rcases G.fr _ hm rfl with y|y<;>(rw[z']at y;cases y)
     ·exact⟨c,z1,z2⟩
    obtain⟨c,c1,c2⟩:=hcell
    refine⟨?_,c,b0 x c hm c1,c2.keeps hk⟩
    show(eR scope X.env).names.lookup x=some .cell\/(eR scope X.env).names.lookup x=some .free
    rw[Y x _ h2]
    by_cases hc:(NameKind.free==NameKind.free&&X.env.scope.kind==.function&&X.env.kindOf x==some .cell)=true
    ·rw[if_pos hc];exact .inl rfl
    ·rw[if_neg hc];exact .inr rfl
 ·rcases lk x c e with⟨a,_⟩|⟨a,_⟩
  ·exact⟨_,(ok.empty x c a).1⟩
  ·obtain⟨v,q⟩:=I.cell x c a
   exact⟨v,q.keeps hk⟩
 ·rcases lk x c e with⟨a,_⟩|⟨a,_⟩
  ·exact I.hok.fresh (by have:=up _ _ a;omega)
  ·exact I.freeC x c a
theorem aP7 {X:Cx}{N':List Str}{scope:Scope}{h:List (Addr×Obj)}{σ σ':St}{H F:Hp}{s s5:af}{G:List Addr}{cells:List (Str×Addr)}{h':Heap}
  (I:Inv X h σ H s) (Y:∀ b∈G,FpOk X h H b) (J:Inv (zB X N' scope s.heap.objs.size cells s H G) [] σ' F s5) (hs:dW s.heap.objs.size s5.heap h') :
  Inv X h σ F { s5 with heap:=h' }:=by
 have B:∀ b o,s.heap.get? b=some o->b≠s.heap.objs.size:=λ b o e=>aJ (aM e)
 have u:Un (frs X.stack) G H F s.heap s5.heap:=J.base
 refine I.call' (s':={ s5 with heap:=h' }) (ch:=G) J.os ⟨λ b o e n hb hx=>?_,λ b o e n hb hx=>?_,λ b o e n hx=>u.free b o e n hx,λ b o e hx=>?_,u.tups,u.frzs,u.tbls⟩ (λ b o e=>?_) J.bare λ b hb=>⟨(Y b hb).2.2.2.1,(Y b hb).2.1,(Y b hb).2.2.2.2.1,(Y b hb).2.2.2.2.2⟩
 ·exact(hs.2 b (B b o e)).trans (u.keep b o e n hb hx)
 ·obtain⟨sl,q⟩:=u.slot b o e n hb hx
  exact⟨sl,(hs.2 b (B b o e)).trans q⟩
 ·obtain⟨Z,q⟩:=u.there b o e hx
  exact⟨Z,(hs.2 b (B b o e)).trans q⟩
 ·have fr:F s.heap.objs.size=none:=J.free
  refine(J.hok b o e).stay (λ c w' hc q=>(hs.2 c ?_).trans q) (λ _ q=>q) λ _ _ q=>q
  rintro rfl
  rcases hc with z|hc
  ·rw[<-z,fr]at e;cases e
  ·rw[fr]at hc;cases hc
theorem an0 {M:Model}{A:aV}{E:Value->af->Prop}{s:af}{scope:Scope}{globals:Addr}{F:List (Str×Addr)}{qual:Str}{B:Env}{Q:Env->af->Prop}
  (h:Q { scope:=scope,locals:=s.heap.objs.size,globals:=globals,cells:=aQ (s.heap.objs.size+1) scope.names F,qual:=qual,func:=none,code:=B.code,frame:=B.frame,builtins:=B.builtins }
   { s with heap:=eM (s.heap.push { cls:=.type "dict",data:=.dict #[] }) scope.names }) :
  wpAny M A (fy scope globals F [] qual none .none (some B)) Q E s:=by
 simp only[fy,i3,if_true]
 refine ai (wpAny_alloc ?_)
 refine ai (wpAny_layCells _ (λ name kind cells=>by cases hkc:kind==NameKind.cell<;>simp[hkc]) _ _ _ _ ?_)
 rw[show({ s with heap:=s.heap.push { cls:=.type "dict",data:=.dict #[] } }:af).heap.objs.size=s.heap.objs.size+1 from b9 ..]
 refine ai ?_
 rw[fw]
 exact aA (aA h)
theorem aG0 {X':Cx}{R:j1->af->Prop}{a5 tg iter:Expr}{a2:List Expr}{scope:Scope}{pos:Pos}{g:TG}{tc:TT}{te:TE}{J:It}{Y:List Addr}{it D:Addr}{tn:Nat->Heap->Prop}{W:Nat->Nat->St->Hp->Prop}
  {QD:Hp->Prop} {σ0:St} {H0:Hp} {s4:af} {m0:Nat} (hx:X'.xe=λ _ _=>False) (B:X'.calm=true) (I4:Inv X' [] σ0 H0 s4) (T:Turn X'.prog X'.w X'.K tg J Y it tn) (a6:tn 0 s4.heap)
  (F:∀ H':Hp,(∀ b∈Y,H' b=none)->∀ b∈Y,FpOk X' [] H' b) (b1:∀ b∈Y,H0 b=none) (w0:W 0 m0 σ0 H0)
  (turn:∀ i m σ' H',W i m σ' H'->(J.stop i H'/\QD H')\/(J.go i H'/\∃ N:St->Hp->Prop,(∀ σ2 H2,N σ2 H2->∃ m',m'<m/\W (i+1) m' σ2 H2) /\
   ∀ x H2,J.yld i H' x H2->g x σ' H2 λ σ3 G=>tc σ3 G λ b H4=>if b=true then te σ3 H4 λ v H5=>∃ ys,H5 D=some (.lst ys)/\ys.length<aO/\N σ3 (upd H5 D (.lst (ys++[v])))else N σ3 H4))
  (hg:PG X' tg g) (hif:PIf X' a2 tc) (he:PE X' a5 te) (a4:∀ σ' H' s',Inv X' [] σ' H' s'->QD H'->R (.ok .next) s') :
  fI (model X'.prog X'.w) X'.A (.compLoop (.ListComp a5 [⟨tg,iter,a2,0⟩] scope pos) 0 (.ref it) (.ref D) X'.env) R s4:=by
 have nox:∀ {α:Type} {t:Sem α} {Q Q':α->af->Prop} {E:Value->af->Prop} {s:af},wpAny (model X'.prog X'.w) X'.A t Q X'.xe s->(∀ a s,Q a s->Q' a s)->wpAny (model X'.prog X'.w) X'.A t Q' E s :=
  λ h hQ=>br h hQ λ _ _ z=>by rw[hx]at z;exact z.elim
 refine bc1 (λ n s'=>∃ i σ' H',Inv X' [] σ' H' s'/\tn i s'.heap/\(∀ b∈Y,H' b=none)/\W i n σ' H') ?_ m0 ⟨0,σ0,H0,I4,a6,b1,w0⟩
 rintro n s3 ⟨i,σ3,G,I3,a1,a3,w3⟩
 rcases turn i n σ3 G w3 with⟨stop,qn⟩|⟨go,N,hN,step⟩
 ·refine nox (T.done X' rfl rfl rfl B i [] s3 σ3 G X'.xe I3 (F G a3) a1 stop) λ r s4 ⟨hr,I4⟩=>?_
  subst hr
  exact a4 σ3 G s4 I4 qn
 ·refine nox (T.item X' rfl rfl rfl B i [] s3 σ3 G X'.xe I3 (F G a3) a1 go) λ r s4 ⟨u,hr,h4⟩=>?_
  subst hr
  refine nox h4 λ _ s5 ⟨x,H5,I5,r5,y5,a0,b2⟩=>?_
  have b0:=I5.pinned (F H5 b2) (T.obj _ _ a0)
  refine nox (hg _ s5 σ3 H5 x u _ b0 r5 (step x H5 y5)) λ _ s6 ⟨σ6,H6,I6,q6⟩=>?_
  have again:∀ {σ7:St} {Z:Hp} {s7:af},Inv X' ([]++aD8 Y s5.heap) σ7 Z s7->N σ7 Z->∃ m,m<n/\∃ i σ' H',Inv X' [] σ' H' s7/\tn i s7.heap/\(∀ b∈Y,H' b=none)/\W i m σ' H':=λ {σ7 Z s7} I7 n7=>by
   obtain⟨m',hm,w7⟩:=hN σ7 Z n7
   refine⟨m',hm,i+1,σ7,Z,I7.unpinned,T.keep _ _ _ a0 λ b hb o e=>(I7.pin (b,o) (aK _ (aK _ (qK hb e)))).1,λ b hb=>?_,w7⟩
   obtain⟨o,e,d⟩:=T.obj _ _ a0 b hb
   exact(I7.pin (b,o) (aK _ (aK _ (qK hb e)))).2.1
  refine nox (hif _ s6 σ6 H6 _ I6 q6) λ b s7 ⟨Z,I7,q7⟩=>?_
  cases b with
  | false =>
   rw[if_neg aX]at q7 ⊢
   exact again I7 q7
  | true =>
   rw[if_pos rfl]at q7 ⊢
   refine nox (he _ s7 σ6 Z _ I7 q7) λ v s8 ⟨y,H8,I8,r8,ys,hy,hz,q8⟩=>?_
   refine nox (aC5 _ s8 σ6 H8 (.ref D) [y] (.ref D) [v] (λ _ H9=>N σ6 H9) I8 rfl (.cons r8 .nil) ⟨D,ys,y,rfl,rfl,hy,hz,q8⟩) λ v9 s9 ⟨_,H9,I9,_,q9⟩=>?_
   exact again I9 q9
theorem aX5 {X:Cx}{a3 tg iter:Expr}{a2:List Expr}{scope:Scope}{pos:Pos}{wi:TI}{g:TG}{tc:TT}{te:TE}(Z:List Str)(src:List (Option Nat))
  (b3:zO Z src scope X.N X.env.scope=true) (hi:PI X tg iter wi) (G:X.calm=true)
  (b0:∀(C:Addr) (cells:List (Str×Addr)) (s:af) (H:Hp) (ex:List Addr),PG (zB X Z scope C cells s H ex) tg g/\PIf (zB X Z scope C cells s H ex) a2 tc/\PE (zB X Z scope C cells s H ex) a3 te)
  (hs:∀ x,dq iter X.env x=pure x:=by intro _;rfl):PE X (.ListComp a3 [⟨tg,iter,a2,0⟩] scope pos) (tComp src wi g tc te):=by
 intro B s σ H Q I h
 have ck:=bu3 b3
 rw[eval_ListComp]
 have hcl:=al1 (scope:=scope) (env:=X.env) λ y hy e=>I.ok.has y.1 (ck.fr y hy e)
 refine fU (use:=none) rfl hs hcl ck.kind ck.loc (thn (hi B s σ H _ I h) λ v s1 h1=>thn h1 λ b5 s2 h2=>?_)
 obtain⟨it,F,tn,J,H2,e,I2,T,a1,f2,W⟩:=h2
 subst e
 have hD:=I2.fresh
 obtain⟨W,⟨m0,w0⟩,turn⟩:=W _ hD
 have I3:=I2.lnew (its:=[]) (ys:=[]) (t':=s2.toks) .nil (cN _)
 have a0:∀ b∈F,b<s2.heap.objs.size:=λ b hb=>by obtain⟨o,q,_⟩:=T.obj _ _ a1 b hb;exact aM q
 have f3:∀ b∈F,FpOk X B (upd H2 s2.heap.objs.size (.lst [])) b:=λ b hb=>⟨by rw[zm (aJ (a0 b hb))];exact(f2 b hb).1,(f2 b hb).2⟩
 refine bG (an0 ?_)
 generalize Y:({ s2 with heap:=s2.heap.push { cls:=.type "list",data:=.seq ([]:List Value).toArray },toks:=s2.toks }:af)=s3 at I3
 have b4:({ s2 with heap:=s2.heap.push { cls:=.type "list",data:=.seq ([]:List Value).toArray } }:af)=s3:=Y
 have b1:∀ b∈F,b<s3.heap.objs.size:=λ b hb=>by
  rw[<-Y]
  show b<(s2.heap.push _).objs.size
  rw[b9]
  exact fL (a0 b hb)
 have I4:=au8 (s4:={ s3 with heap:=eM (s3.heap.push { cls:=.type "dict",data:=.dict #[] }) scope.names }) ck I3 f3 b1 ⟨_,rfl⟩
 have a4:tn 0 (eM (s3.heap.push { cls:=.type "dict",data:=.dict #[] }) scope.names):=T.keep _ _ _ a1 λ b hb o e=>c7 _ _ b o (aB _ (by rw[<-Y];exact aB _ e))
 obtain⟨hg,hif,he⟩:=b0 s3.heap.objs.size (aQ (s3.heap.objs.size+1) scope.names (at7 X.env.cells scope.names [])) s3 (upd H2 s2.heap.objs.size (.lst [])) F
 have a5:∀ H':Hp,(∀ b∈F,H' b=none)->∀ b∈F,FpOk (zB X Z scope s3.heap.objs.size (aQ (s3.heap.objs.size+1) scope.names (at7 X.env.cells scope.names [])) s3 (upd H2 s2.heap.objs.size (.lst [])) F) [] H' b:=λ H' hn b hb =>
  ⟨hn b hb,(I4.ok.exf b hb).1,I4.ok.exfs b hb,.inl hb,λ x c e=>(I4.ok.exf b hb).2 x c e,λ p hp=>absurd (show p∈([]:List (Addr×Obj))from hp) (by simp)⟩
 have T':Turn X.prog X.w X.K tg J F it tn:=T
 have b2:∀ b∈F,upd H2 s2.heap.objs.size (.lst []) b=none:=λ b hb=>(f3 b hb).1
 have L:=aG0 (X':=zB X Z scope s3.heap.objs.size (aQ (s3.heap.objs.size+1) scope.names (at7 X.env.cells scope.names [])) s3 (upd H2 s2.heap.objs.size (.lst [])) F) (R:=compPost (model X.prog X.w) X.A X.xe none (EP X B σ Q) (Value.ref s2.heap.objs.size) s3.heap.objs.size) (iter:=iter) (scope:=scope) (pos:=pos) (QD:=λ H'=>Q (.ref s2.heap.objs.size) H') rfl G I4 T' a4 a5 b2 w0 turn hg hif he
  (λ σ' H' s' J' q=>by
   obtain⟨mm,hn,_⟩:=J'.loc
   exact⟨mm,hn,λ h' a6=>⟨.ref s2.heap.objs.size,H',aP7 I3 f3 J' a6,rfl,q⟩⟩)
 exact gE L (T.self _ _ _ _ _ a4 L)
section
variable {X:Cx}
theorem cc6:bA "abs"=some (.builtin "abs"):=by decide +kernel
theorem ci9:bA "len"=some (.builtin "len"):=by decide +kernel
theorem bB3:bA "min"=some (.builtin "min"):=by decide +kernel
theorem aE5:bA "isinstance"=some (.builtin "isinstance"):=by decide +kernel
theorem bX5:bA "int"=some (.type "int"):=by decide +kernel
theorem bO6:bA "bool"=some (.type "bool"):=by decide +kernel
theorem bP5:bA "str"=some (.type "str"):=by decide +kernel
theorem ba5:bA "tuple"=some (.type "tuple"):=by decide +kernel
theorem bt9:bA "list"=some (.type "list"):=by decide +kernel
def ce8 (i j:Int):Prop:=0<j/\j<2^4096
theorem aU7 {y:Int}(h0:0<y)(h:y<2^4096):y.natAbs.log2<9000:=by
 have hn:y.natAbs<2^4096:=by
  have:(y.natAbs:Int)=y:=by omega
  have B:(y.natAbs:Int)<((2^4096:Nat):Int):=by rw[this];simpa using h
  exact jq.mp B
 have:=(Nat.log2_lt (by omega)).mpr hn
 omega
theorem bk7:OpR X (cA .FloorDiv) (rI ce8 λ i j=>.int (i / j)):=opI λ i j _ _ _ _ _ hc q=>by
 refine floordiv_int (by have:=hc.1;omega) ?_ (.inl (PyProof.noPylong_of_log2 (aU7 hc.1 hc.2)))
 rw[Int.fdiv_eq_ediv_of_nonneg i (by have:=hc.1;omega)]
 exact q
theorem aQ1 {K:ac}(hK:X.K=K):IxR X (cl6 K):=by subst hK;exact bE3
theorem bI1 {K:ac}(hK:X.K=K):IxR X (cn3 K):=by subst hK;exact ix_tup
theorem as2 {K:ac}(hK:X.K=K):aj1 X (.builtin "len") (λ h H Q=>∃ p ys,h=[.ref p]/\(SqL K H p ys\/SqT K H p ys)/\Q (.int ys.length) H):=by subst hK;exact aC9
theorem aK5 {K:ac}(hK:X.K=K):aj1 X (.type "tuple") (λ h H Q=>∃ p ys,h=[.ref p]/\((SqL K H p ys/\∀ l,H l=none->Q (.ref l) (upd H l (.tup ys)))\/(SqT K H p ys/\Q (.ref p) H))):=by subst hK;exact ay8
theorem aR2 {K:ac}(hK:X.K=K):aj1 X (.type "list") (λ h H Q=>∃ p ys,h=[.ref p]/\(SqL K H p ys\/SqT K H p ys)/\∀ l,H l=none->Q (.ref l) (upd H l (.lst ys))):=by subst hK;exact aG1
theorem bk9 {K:ac}{tg l:Expr}{h:TE}(hK:X.K=K)(hl:PE X l h):PI X tg l (bI4 K h):=by subst hK;exact bw0 hl
theorem bH1 {K:ac}{tg l:Expr}{h:TE}(hK:X.K=K)(hl:PE X l h):PI X tg l (cg6 K h):=by subst hK;exact bS9 hl
theorem bB1 {K:ac}{pos:Pos}{es:List Expr}{k:Nat}{t:TGs}{n:Nat}(hK:X.K=K)(hc:X.calm=true)(h:PGs X es t)
  (hn:(cG es X.env).length=n:=by rfl) (B:(cG es X.env).findIdx? (·.1)=none:=by rfl):PG X (.Tuple es k pos) (ch2 K n t):=by subst hK;exact ca2 hc h hn B
end
structure DefAt (K:ac)(mg:Str->Option Value)(x:Str)(st:Stmt)(ps:List Str)(f:Addr)(fd:bO):Prop where
 fn:Fun K x x st f fd
 mg:mg x=some (.ref f)
 bi:Binds K fd ps []
@[irreducible] noncomputable def cq2 (p:Prop):Prop:=p
theorem ak6.new {p:Addr}{H B:Hp}{o:HO}(h:ak6 H B)(hp:B p=none):ak6 H (L2.upd B p o):=λ x o e=>by
 have e1:=h x o e
 rw[zm (zr e1 hp)]
 exact e1
section
variable {prog:aH} {w:World} {A:aV} {R:j1->af->Prop} {I:Addr} {fp wr:List Addr} {n:Nat} {P:Nat->Value->Prop} {St:Nat->Heap->Prop} {kw:List (Str×Value)}
theorem bc6 (W:Walks prog w A.in1 I fp wr n P St)(bt:Nat->Nat->Bool)(b0:CmpOf prog w A.in1 .Lt P bt)(S:Addr)(a6:S ∉ fp) :
  ∀(k j:Nat) (s:af) (vb:Value) (c:Nat),n - (j+1)=k->j+1<=n->St (j+1) s.heap->P (dC bt j) vb ->
  s.heap.get? S=some { cls:=.type "list",dict:=none,data:=.seq #[vb,vb] c,slots:=#[] } ->
  (∀ v h' tk,P (dC bt (n - 1)) v->(∀ b o,b ∉ wr->b≠S->s.heap.get? b=some o->h'.get? b=some o)->R (.ok (.ret v)) { s with heap:=h',toks:=tk }) ->
  fI (model prog w) A (.builtin "min.loop" ⟨[.ref I,.none,.ref S],kw⟩) R s:=by
 have b1:S ∉ wr:=λ h=>a6 (W.sub _ h)
 have Y:(toString "min"++toString ".loop":String) = "min.loop":=by decide
 intro k
 induction k with
 | zero =>
  intro j s vb c hk hj a4 a1 hS hR
  have b2:j+1=n:=by omega
  refine gL ga ?_
  rw[eT cE _]
  show wpAny _ A.in1 (iy (.ref S) >>= _) _ _ s
  refine ai (cS hS rfl ?_)
  show wpAny _ A.in1 (tryCatch (jy (.ref I)) _ >>= _) _ _ s
  refine ai (d6 (W.done s _ _ (b2▸a4) λ h' tk F=>?_))
  have J:=F S _ b1 hS
  show wpAny _ A.in1 (updateSeq S (λ _=>#[]) >>= _) _ _ _
  refine ai ?_
  refine gM J rfl (ai (ig (aA ?_)))
  refine hR vb _ tk (by rw[<-b2];exact a1) λ b o B G e=>(bT _ _ (cC G)).trans (F b o B e)
 | succ k ih =>
  intro j s vb c hk hj a4 a1 hS hR
  have hlt:j+1<n:=by omega
  refine gL ga ?_
  rw[eT cE _]
  show wpAny _ A.in1 (iy (.ref S) >>= _) _ _ s
  refine ai (cS hS rfl ?_)
  show wpAny _ A.in1 (tryCatch (jy (.ref I)) _ >>= _) _ _ s
  refine ai (d6 (W.item (j+1) s _ _ hlt a4 λ v h' tk hP a2 F=>?_))
  have J:=F S _ b1 hS
  show wpAny _ A.in1 (tryCatch (jd [v,v] (richCompare .Lt v vb >>= _)) _ >>= _) _ _ _
  refine ai (d6 (db (ai (b0 (j+1) (dC bt j) v vb _ _ _ hP a1 ?_))))
  refine ai (db (cy ?_))
  refine ai (ig (aA ?_))
  cases hb:bt (j+1) (dC bt j)with
  | true =>
   simp only[if_true]
   refine ai ?_
   refine gM J rfl (ai (ig ?_))
   rw[Y]
   refine aA ⟨fW cE _,ih (j+1) _ v _ (by omega) hlt (W.frame _ _ _ a2 λ b b3 o e=>?_) (by simp only[dC,hb,if_true];exact hP) (dh _ J rfl)
    λ v' a3 Z a5 a0=>?_⟩
   ·exact(bT _ _ (λ h:S=b=>a6 (by rw[h];exact b3))).trans e
   ·exact hR v' a3 Z a5 λ b o B G e=>a0 b o B G ((bT _ _ (cC G)).trans (F b o B e))
  | false =>
   simp only[ag,if_false]
   refine ai (ig ?_)
   rw[Y]
   refine aA ⟨fW cE _,ih (j+1) _ vb c (by omega) hlt a2 (by simp only[dC,hb,ag,if_false];exact a1) J λ v' a3 Z a5 a0=>?_⟩
   exact hR v' a3 Z a5 λ b o B G e=>a0 b o B G (F b o B e)
theorem aT2 (W:Walks prog w A.in1 I fp wr n P St)(bt:Nat->Nat->Bool)(Z:CmpOf prog w A.in1 .Lt P bt)(S:Addr)(J:S ∉ fp){s:af}{c:Nat}{d:Value}(a1:St 0 s.heap)
  (hS:s.heap.get? S=some { cls:=.type "list",dict:=none,data:=.seq #[] c,slots:=#[] })
  (h0:n=0->∀ h' tk,(∀ b o,b ∉ wr->b≠S->s.heap.get? b=some o->h'.get? b=some o)->R (.ok (.ret d)) { s with heap:=h',toks:=tk })
  (hR:0<n->∀ v h' tk,P (dC bt (n - 1)) v->(∀ b o,b ∉ wr->b≠S->s.heap.get? b=some o->h'.get? b=some o)->R (.ok (.ret v)) { s with heap:=h',toks:=tk }) :
  fI (model prog w) A (.builtin "min.loop" ⟨[.ref I,.none,.ref S],[(bH "default",d)]⟩) R s:=by
 have a6:S ∉ wr:=λ h=>J (W.sub _ h)
 have G:(toString "min"++toString ".loop":String) = "min.loop":=by decide
 refine gL ga ?_
 rw[eT cE _]
 show wpAny _ A.in1 (iy (.ref S) >>= _) _ _ s
 refine ai (cS hS rfl ?_)
 show wpAny _ A.in1 (tryCatch (jy (.ref I)) _ >>= _) _ _ s
 rcases Nat.eq_zero_or_pos n with hn|hn
 ·refine ai (d6 (W.done s _ _ (hn▸a1) λ h' tk B=>?_))
  show wpAny _ A.in1 (rule _ >>= _) _ _ _
  refine ai (eG (aA ?_))
  exact h0 hn h' tk λ b o F _ e=>B b o F e
 ·refine ai (d6 (W.item 0 s _ _ hn a1 λ v h' tk hP a3 B=>?_))
  have Y:=B S _ a6 hS
  show wpAny _ A.in1 (updateSeq S (λ _=>#[v,v]) >>= _) _ _ _
  refine ai ?_
  refine gM Y rfl ?_
  rw[G]
  refine aA ⟨fW cE _,bc6 W bt Z S J _ 0 _ v _ rfl hn (W.frame _ _ _ a3 λ b b0 o e=>?_) hP (dh _ Y rfl) λ v' a5 a0 b1 a2=>?_⟩
  ·exact(bT _ _ (λ h:S=b=>J (by rw[h];exact b0))).trans e
  ·exact hR hn v' a5 a0 b1 λ b o F a4 e=>a2 b o F a4 ((bT _ _ (cC a4)).trans (B b o F e))
end
theorem aX9 (a d:Value):argsOk "min" ⟨[a],[(bH "default",d)]⟩:=by unfold argsOk;kernel_rfl
theorem qT (val : Nat -> Int) : ∀ k j, j <= k -> val (dC (λ i j => decide (val i < val j)) k) <= val j
  | 0, j, h => by have : j = 0 := by omega
                  subst this; exact ii _
  | k + 1, j, h => by
    have ih := qT val k
    unfold dC
    by_cases hb : val (k + 1) < val (dC (λ i j => decide (val i < val j)) k)
    · rw[if_pos (by simpa using hb)]
      by_cases hj : j = k + 1
      · subst hj; exact ii _
      · have := ih j (by omega); omega
    · rw[if_neg (by simpa using hb)]
      by_cases hj : j = k + 1
      · subst hj; omega
      · exact ih j (by omega)
def bE4 (K:ac):V->V->Hp->VK->Prop:=λ x d H Q=>∃ a ns,x=.ref a/\SqL K H a (ns.map V.int)/\(ns=[]->Q d H)/\∀ m∈ns,(∀ y∈ns,m<=y)->Q (.int m) H
theorem ay9 {ns:List Int}{its:List Value}(r:Vals (ns.map V.int) its){i:Nat}{v:Value}(h:its[i]?=some v):∃ z t,ns[i]?=some z/\v=Value.int z t:=by
 have hl:=r.length
 rw[aF]at hl
 have B:i<its.length:=(ae.mp h).1
 obtain⟨u,e1,q⟩:=r.get (i:=i) (x:=.int ns[i]) (by rw[aN,aq (by omega)];rfl)
 rw[h]at e1;cases e1
 obtain⟨t,rfl⟩:=q
 exact⟨_,t,aq (by omega),rfl⟩
theorem bi4 {X:Cx}{B:List (Addr×Obj)}{σ:St}{H:Hp}{s:af}{x d:V}{u Z:Value}{Q:VK}(hc:X.calm=true)(I:Inv X B σ H s)(rx:RelV x u)(rd:RelV d Z)(h:bE4 X.K x d H Q) :
  wpAny (model X.prog X.w) X.A (call (.builtin "min") [u] [(bH "default",Z)]) (EP X B σ Q) X.xe s:=by
 obtain⟨a,ns,rfl,hS,q0,qm⟩:=h
 cases rx
 obtain⟨its,rv,pl,hz⟩:=I.list hS
 have hl:=rv.length
 rw[aF]at hl
 have Y:(toString "min"++toString ".loop":String) = "min.loop":=by decide
 refine kmb_tree F.kind_min F.plain_min F.entry_min (aX9 _ _) ?_
 show wpAny _ X.A.in1 (fg "min" ["key", "default"] 0 ⟨[],[(bH "default",Z)]⟩ >>= _) _ _ s
 refine ai (wpAny_of_eq (show fg "min" ["key", "default"] 0 ⟨[],[(bH "default",Z)]⟩=pure [none,some Z]from rfl) ?_)
 refine ai (aA ?_)
 refine ai (dY pl.isList ?_)
 have a1:a<s.heap.objs.size:=by obtain⟨o,_,e,_⟩:=pl;exact aM e
 have W:=kT (prog:=X.prog) (w:=X.w) (A:=X.A.in1) (I.ok.hd hc) s.heap.objs.size a (aJ a1) its.toArray
 refine ai (bG ?_)
 generalize J:s.heap.push _=h2
 have G:h2.objs.size=s.heap.objs.size+1:=by rw[<-J,b9]
 have a0:∀ b o,s.heap.get? b=some o->h2.get? b=some o:=λ b o e=>by rw[<-J];exact aB _ e
 have a3:h2.objs.size ∉ [s.heap.objs.size,a]:=by
  rw[G]
  intro z
  rcases aI.mp z with z|z
  ·exact absurd z (Nat.succ_ne_self _)
  ·have z':s.heap.objs.size+1=a:=by simpa using z
   exact absurd (aG a1 (by rw[<-z'];exact dv _)) (bC _)
 have a4:(h2.push { cls:=.type "list",data:=.seq ([]:List Value).toArray }).IsListIter s.heap.objs.size a 0/\(h2.push { cls:=.type "list",data:=.seq ([]:List Value).toArray }).IsList a its.toArray:=by
  refine⟨⟨_,aB _ (by rw[<-J];exact be _ rfl),rfl,rfl⟩,?_⟩
  obtain⟨o,e,r⟩:=pl.isList
  exact⟨o,aB _ (a0 _ _ e),r⟩
 let val:Nat->Int:=λ i=>ns.getD i 0
 have a2:∀ i v,its.toArray[i]?=some v->∃ t,v=Value.int (val i) t:=λ i v e=>by
  obtain⟨z,t,e1,e2⟩:=ay9 rv (i:=i) (v:=v) (by rw[dj]at e;exact e)
  refine⟨t,?_⟩
  rw[e2]
  show Value.int z t=Value.int (ns.getD i 0) t
  rw[bF,e1]
  rfl
 rw[Y]
 have nx:∀(h':Heap) (tk:Nat),(∀ b o,b ∉ [s.heap.objs.size]->b≠h2.objs.size->(h2.push { cls:=.type "list",data:=.seq ([]:List Value).toArray }).get? b=some o->h'.get? b=some o)->Inv X B σ H { s with heap:=h',toks:=tk }:=λ h' tk k=>I.kept λ b o e=>by
  refine k b o ?_ ?_ (aB _ (a0 b o e))
  ·intro z
   have z':b=s.heap.objs.size:=by simpa using z
   exact absurd (aM e) (by rw[z'];exact bC _)
  ·intro z
   exact absurd (aM e) (by rw[z,G];exact j6.mpr (dv _))
 refine aA ⟨fW cE _,aT2 (d:=Z) W _ (ko val a2) h2.objs.size a3 a4 (be _ rfl) (λ hn h' tk k=>?_) λ hn v h' tk hP k=>?_⟩
 ·have e:ns=[]:=by
   have:its.toArray.size=0:=hn
   have:its.length=0:=by simpa using this
   exact bQ.mp (by omega)
  exact⟨d,H,nx h' tk k,rd,q0 e⟩
 ·obtain⟨z,t,e1,e2⟩:=ay9 rv (i:=dC (λ i j=>decide (val i<val j)) (its.toArray.size - 1)) (v:=v) (by rw[dj]at hP;exact hP)
  subst e2
  have hv:val (dC (λ i j=>decide (val i<val j)) (its.toArray.size - 1))=z:=by
   show ns.getD _ 0=z
   rw[bF,e1]
   rfl
  refine⟨.int z,H,nx h' tk k,⟨t,rfl⟩,qm z (aZ e1) λ y hy=>?_⟩
  obtain⟨j,hj,e3⟩:=dw.mp hy
  have:=qT val (its.toArray.size - 1) j (by simp only[az];omega)
  rw[hv]at this
  have e4:val j=y:=by
   show ns.getD j 0=y
   rw[bF,aq hj]
   exact e3
  omega
def cc9 (K:ac)(ta td:TE):TE:=λ σ H Q=>ta σ H λ x H1=>td σ H1 λ d H2=>bE4 K x d H2 Q
theorem bJ1 {X:Cx}{K:ac}{e Z:Expr}{G J:TE}{p pos kp:Pos}(hK:X.K=K)(hc:X.calm=true)(hg:Gl X "min")(hm:X.mg "min"=none)(ha:PE X e G)(hd:PE X Z J)
  (hs:bw [e] X.env=[(false,eval e X.env)]:=by rfl) :
  PE X (.Call (.Name "min" p) [e] [⟨some "default",Z,kp⟩] pos) (cc9 K G J):=by
 subst hK
 intro B s σ H Q I h
 refine cV (av5 I hg hm bB3 ?_)
 have h':at9 G bh7 σ H (λ vs F=>match vs with|[x]=>J σ F λ d H2=>bE4 X.K x d H2 Q|_=>False):=h
 refine callWith_kw (env:=X.env) (thn ((zQ ha aj9 hs) pos B s σ H _ I h') λ us s1 ⟨vs,F,I1,r1,Y⟩=>?_) (by rw[hs];rfl) (by rw[hs];rfl)
 match vs,Y,r1 with
 | [x],Y,r1 =>
  obtain⟨u,rfl,ru⟩:=al7 r1
  refine kws_cons (thn (hd B s1 σ F _ I1 Y) λ v s2 ⟨d,H2,I2,rd,q2⟩=>kws_nil ?_)
  exact bi4 hc I2 ru rd q2
inductive D where
 | non|bl (b:Bool)|int (i:Int)|str (x:Str)|tup (l:List D)|lst (l:List D)
mutual
noncomputable def D.deep:D->Nat
 | .tup l=>D.deepL l+1
 | .lst l=>D.deepL l+1
 | _=>0
noncomputable def D.deepL:List D->Nat
 | []=>0
 | d::l=>max (D.deep d) (D.deepL l)
end
section
variable {X:Cx}
end
section
variable {X:Cx}
def ci0 (K:ac):R2:=λ x y H Q=>∃ a b xs ys,x=.ref a/\y=.ref b/\SqT K H a xs/\SqT K H b ys/\xs.length+ys.length<=aO/\∀ p H',ak6 H H'->SqT K H' p (xs++ys)->(H' p=some (.tup (xs++ys))\/(p=a/\ys=[])\/(p=b/\xs=[]))->Q (.ref p) H'
theorem bz7 {prog:aH}{w:World}{A:aV}{E:Value->af->Prop}{s:af}{t b:Addr}{ws:List Value}{Q:Value->af->Prop}(ht:IsTup s.heap t ([]:List Value).toArray)(hb:IsTup s.heap b ws.toArray)(h1:Q (.ref b) s) :
  wpAny (model prog w) A (cA .Add (.ref t) (.ref b)) Q E s:=by
 obtain⟨⟨cls,dd,data,sl⟩,ho,hc,n,hd⟩:=id ht
 obtain⟨⟨Z,J,G,Y⟩,F,B,n2,h⟩:=id hb
 simp only at hc hd B h
 subst hc hd B h
 exact jl ⟨_,ho,rfl⟩ ⟨_,F,rfl⟩ f9 iP d4 dP (dG _ _)
   (tuple_addW0 t b _ ws.toArray n n2 dd J sl Y rfl) ⟨ho,F,h1⟩
theorem bC7 {K:ac}(hK:X.K=K):OpR X (cA .Add) (ci0 K):=by
 subst hK
 intro B s σ H x y v u Q I J F h
 obtain⟨a,b,G,ys,e1,e2,ha,hb,hz,q⟩:=h
 by_cases hx:G=[]
 ·subst e1;subst e2;subst hx
  cases J;cases F
  obtain⟨its,r1,p1,_⟩:=I.tuple ha
  obtain⟨Y,r2,Z,_⟩:=I.tuple hb
  obtain rfl:its=[]:=r1.nil_iff.mpr rfl
  exact bz7 p1 Z ⟨.ref b,H,I,rfl,q b H (ak6.refl H) hb (.inr (.inr ⟨rfl,rfl⟩))⟩
 ·refine bz5 B s σ H x y v u Q I J F ⟨a,b,G,ys,e1,e2,ha,hb,hx,hz,λ z=>?_,λ z p hp=>?_⟩
  ·subst z
   exact q a H (ak6.refl H) (by rw[bv];exact ha) (.inr (.inl ⟨rfl,rfl⟩))
  ·exact q p _ ((ak6.refl H).new hp) (SqT.of zx) (.inl zx)
def cp1 (K:ac):V->Option Int->Option Int->Hp->VK->Prop:=λ x lo hi H Q=>∃ a xs,x=.ref a/\SqT K H a xs/\∀ p H',ak6 H H'->SqT K H' p (aU4 xs lo hi)->(H' p=some (.tup (aU4 xs lo hi))\/(p=a/\aU4 xs lo hi=xs))->Q (.ref p) H'
theorem az8 {prog:aH}{w:World}{A:aV}{E:Value->af->Prop}{s:af}{t sl:Addr}{B:Array Value}{vl vu:Value}{F Y:Option Int}{Q:Value->af->Prop}(J:IsTup s.heap t B)(hs:s.heap.IsSliceOf sl vl vu .none)(pl:fT vl F)(pu:fT vu Y)
  (hw:HT.sIx B.size 0 F=0/\HT.sIx B.size B.size Y=B.size) (h:Q (.ref t) s):wpAny (model prog w) A (gv (.ref t) (.ref sl)) Q E s:=by
 obtain⟨os,a1,Z,a2⟩:=id hs
 have a0:s.TypeIs (.ref sl) "slice":=⟨os,a1,Z⟩
 unfold gv
 try with_reducible refine db ?_
 first|refine ai (aA ?_)|skip
 refine ai (jm J.typeIs (by decide) ?_)
 refine ai (cT (name:=bH "__getitem__") J.typeIs bB
  (cD bB J.typeIs iH ?_ (iY _ _)))
 show wpAny _ _ (cF (.ref t) >>= _) _ _ s
 refine ai (iQ J ?_)
 refine ai (gy a0 ?_)
 rw[if_pos (by decide)]
 refine ai (HT.sliceApplied_gen hs pl pu ?_)
 have G:((((HT.sIx B.size 0 F:Nat):Int)==0&&(1:Int)==1&&(HT.sIx B.size B.size Y - HT.sIx B.size 0 F)==B.size)=true):=by
  rw[hw.1,hw.2]
  simp
 show wpAny _ _ (if(((HT.sIx B.size 0 F:Nat):Int)==0&&(1:Int)==1&&(HT.sIx B.size B.size Y - HT.sIx B.size 0 F)==B.size)=true then _ else _) _ _ s
 rw[if_pos G]
 refine ai (ai (gy J.typeIs (aA ?_)))
 rw[if_pos (by decide)]
 exact ai (eG (aA ⟨_,rfl,aA h⟩))
theorem aw7 {B:List V}{F G:Option Int}(h:HT.sIx B.length 0 F=0/\HT.sIx B.length B.length G=B.length):aU4 B F G=B:=by
 unfold aU4
 rw[h.1,h.2]
 simp
theorem bG7 {K:ac}(hK:X.K=K):SlR X (cp1 K):=by
 subst hK
 intro G s σ H x v vl vu Z Y sl Q I rx hs J pu h
 obtain⟨a,B,e1,hx,q⟩:=h
 by_cases hw:HT.sIx B.length 0 Z=0/\HT.sIx B.length B.length Y=B.length
 ·subst e1
  cases rx
  obtain⟨its,r,ht,hz⟩:=I.tuple hx
  have F:its.toArray.size=B.length:=by rw[az];exact r.length.symm
  refine⟨"tuple",_,bB.lookup,ht.typeIs,?_⟩
  exact az8 ht hs J pu (by rw[F];exact hw) ⟨.ref a,H,I,rfl,q a H (ak6.refl H) (by rw[aw7 hw];exact hx) (.inr ⟨rfl,aw7 hw⟩)⟩
 ·exact ca0 G s σ H x v vl vu Z Y sl Q I rx hs J pu ⟨a,B,e1,hx,hw,λ p hp=>q p _ ((ak6.refl H).new hp) (SqT.of zx) (.inl zx)⟩
theorem bn2 {K:ac}(hK:X.K=K):SlR X (cn5 K):=by subst hK;exact bG2
end
noncomputable def Its (x:Str):It:=⟨λ i _=>i<x.cps.size,λ i H v H'=>H'=H/\∃ c,x.cps[i]?=some c/\v=.str ⟨#[c]⟩,λ i _=>x.cps.size<=i⟩
theorem aN4 {P:aH}{w:World}{K:ac}{tg:Expr}{G:String}{x:Str}{t:Tok}(it:Addr)(hn:["enumerate", "zip", "dict_itemiterator", "dict_reverseitemiterator", "odict_iterator", "itertools.zip_longest", "itertools.pairwise"].contains G=false)
  (W:∀ A:aV,A.handled=none->Walks P w A it [it] [it] x.cps.size (SignAt x) (λ i h=>h.IsStrIter it G x t i))
  (J:∀(A:aV) (s:af) (i:Nat) (Q:Option Value->af->Prop) (E:Value->af->Prop),A.handled=none->s.heap.IsStrIter it G x t i->x.cps[i]?=none->(∀ h',jL it s.heap h'->Q none { s with heap:=h' })->wpAny (model P w) A (jy (.ref it)) Q E s)
  (F:∀(A:aV) (i:Nat) (s:af) (Q:Value->af->Prop) (E:Value->af->Prop),s.heap.IsStrIter it G x t i->Q (.ref it) s->wpAny (model P w) A (kD (.ref it)) Q E s):Turn P w K tg (Its x) [it] it (λ i h=>h.IsStrIter it G x t i) where
 mem:=by simp
 obj:=λ i h st b hb=>by
  have e:b=it:=by simpa using hb
  subst e
  obtain⟨o,ho,hc,hd⟩:=st
  exact⟨o,ho,λ v z=>by rw[hd]at z;cases z⟩
 keep:=λ i h h' st k=>by
  obtain⟨o,ho,r⟩:=st
  exact⟨o,k it (by simp) _ ho,r⟩
 item:=by
  intro X hP hw hK hc i B s σ H E I Z st hg
  subst hP hw hK
  obtain⟨f0,f1,f2,f3,f4,f5⟩:=Z it (by simp)
  refine(W X.A (I.ok.hd hc)).item i s _ _ hg st λ v h' tk hv Y kk=>?_
  obtain⟨c,u,a0,rfl⟩:=hv
  have I1:Inv X B σ H { s with heap:=h',toks:=tk }:=I.turned (λ b o hb e=>kk b o (by simpa using hb) e) f0 f1 f3 f4 f5
  obtain⟨o,ho,hcl,hd⟩:=id Y
  exact⟨_,rfl,bm2 (s:={ s with heap:=h',toks:=tk }) (n:=G) ho hcl hd hn ⟨.str ⟨#[c]⟩,H,I1,⟨u,rfl⟩,⟨rfl,c,a0,rfl⟩,Y,λ b hb=>(Z b hb).1⟩⟩
 done:=by
  intro X hP hw hK hc i B s σ H E I Z st hg
  subst hP hw hK
  obtain⟨f0,f1,f2,f3,f4,f5⟩:=Z it (by simp)
  have a1:x.cps.size<=i:=hg
  exact J X.A s i _ E (I.ok.hd hc) st (by simp;omega) λ h' eb=>⟨rfl,I.turned (t':=s.toks) (λ b o hb e=>eb b o hb e) f0 f1 f3 f4 f5⟩
 self:=λ A i s Q E st h=>F A i s Q E st h
def cn6 (tl:TE):TI:=λ σ H R=>tl σ H λ v H1=>∃ x,v=.str x/\R (Its x) H1
theorem bS8 {X:Cx}{tg l:Expr}{Z:TE}(hl:PE X l Z):PI X tg l (cn6 Z):=by
 intro B s σ H R I h
 refine thn (hl B s σ H _ I h) λ v s1 ⟨v0,H1,J,r1,q1⟩=>?_
 obtain⟨x,e,q⟩:=q1
 subst e
 obtain⟨t,rfl⟩:=r1
 have fin:∀(Y:String) (o:Obj),o={ cls:=.type Y,data:=.fields #[.str x t,.int 0 0] }->Turn X.prog X.w X.K tg (Its x) [s1.heap.objs.size] s1.heap.objs.size (λ i h=>h.IsStrIter s1.heap.objs.size Y x t i)->PIE X B σ tg R (.ref s1.heap.objs.size) { s1 with heap:=s1.heap.push o }:=λ Y o eo T=>by
  subst eo
  refine⟨s1.heap.objs.size,[s1.heap.objs.size],_,_,H1,rfl,J.kept (t':=s1.toks) λ b o e=>aB _ e,T,⟨_,be _ rfl,rfl,rfl⟩,λ b hb=>?_,q⟩
  have e:b=s1.heap.objs.size:=by simpa using hb
  subst e
  exact J.fpOk (aw _) (J.hok.fresh (aw _))
 cases ha:x.cps.all (·<128)
 ·exact wpAny_pyIter_wide ha (fin "str_iterator" _ rfl (aN4 _ (by decide) (λ A F=>Walks.strWide F _ x t) (λ A s i Q E F st hx G=>wpAny_pyNext_wide_end F st hx G) λ A i s Q E st h=>wpAny_pyIter_striter_wide st h))
 ·exact wpAny_pyIter_ascii ha (fin "str_ascii_iterator" _ rfl (aN4 _ (by decide) (λ A F=>Walks.strAscii F _ x t) (λ A s i Q E F st hx G=>wpAny_pyNext_ascii_end F st hx G) λ A i s Q E st h=>wpAny_pyIter_striter_ascii st h))
section
variable {X:Cx} {K:ac} {T id:String} {name:Str} {o e:Expr} {es:List Expr} {to:TE} {t:TA} {r:V->List V->Hp->VK->Prop} {apos cpos:Pos}
theorem bW9 (hK:X.K=K)(pa:j4 T)(slot:Slot T name id)(J:kE (.builtin id)=pure (.type "method_descriptor"))(hm:MtR X id r)(ho:PE X o to)(ha:PA X (e::es) t)
  (F:eQ o name X.env (eval o X.env)=eval o X.env:=by rfl)
  (G:((dX cpos (bw (e::es) X.env)).all (λ x=>!x.1)&&(backToKw cpos (jK [] X.env)).all (λ x=>x.1.isSome)
   && decide ((e::es).length+([]:List iu).length+(if([]:List iu).isEmpty then 0 else 1)<30))=true:=by rfl)
  (B:(apos.endLine==cpos.line)=true:=by rfl) (hs:bw (e::es) X.env=(false,eval e X.env)::bw es X.env:=by rfl) (h:(dX cpos (bw es X.env)).any (·.1)=false:=by rfl) :
  PE X (.Call (.Attribute o name apos) (e::es) [] cpos) (tBM K T r to t):=by
 subst hK
 exact cg7 pa slot J hm ho ha F G B hs h
end
structure Mach where
 letters:Int
 rooms:Int
 begins:List Int
 ends:List Int
 doors:List (Int×Str×Int×Int)
noncomputable def ci4 (q:Int×Str×Int×Int):D:=.tup [.int q.1,.str q.2.1,.int q.2.2.1,.int q.2.2.2]
noncomputable def Mach.D (M:Mach):D:=.tup [.int M.letters,.int M.rooms,.tup (M.begins.map .int),.tup (M.ends.map .int),.tup (M.doors.map ci4)]
noncomputable def ltr (i:Nat):Str:=⟨#[97+i]⟩
structure DoorOk (letters rooms:Int)(q:Int×Str×Int×Int):Prop where
 s0:0<=q.1
 s1:q.1<rooms
 l:∃ i:Nat,(i:Int)<letters/\q.2.1=ltr i
 g0:0<=q.2.2.1
 g1:q.2.2.1<rooms
 t0:0<=q.2.2.2
 t1:q.2.2.2<=3
structure RoomsOk (rooms:Int)(l:List Int):Prop where
 mem:∀ r∈l,0<=r/\r<rooms
 up:l.Pairwise (· < ·)
structure Mach.Ok (most:Nat)(M:Mach):Prop where
 l0:1<=M.letters
 l1:M.letters<=3
 r0:1<=M.rooms
 r1:M.rooms<=5
 b:RoomsOk M.rooms M.begins
 e:RoomsOk M.rooms M.ends
 d:∀ q∈M.doors,DoorOk M.letters M.rooms q
 m:M.doors.length<=most
mutual
noncomputable def D.tups:D->Bool
 | .lst _=>false
 | .tup l=>D.tupsL l
 | _=>true
noncomputable def D.tupsL:List D->Bool
 | []=>true
 | d::l=>D.tups d&&D.tupsL l
end
end L2
end
noncomputable section
namespace L2
end L2
end
noncomputable section
namespace L2
open PySem PySem.Spec PyProof.Rows
noncomputable def addO:Option Int->Option Int->Option Int
 | some a,some b=>some (a+b)
 | _,_=>none
noncomputable def cutO (k:Int):Option Int->Option Int
 | none=>none
 | some p=>some (if p<=k then p else k+1)
noncomputable def minO:List Int->Option Int
 | []=>none
 | a::l=>some (match minO l with|none=>a|some b=>if b<a then b else a)
theorem aU1 {X:Cx}{Y tg iter:Expr}{G:List Expr}{scope:Scope}{pos Z py:Pos}{y:Str}{i:Nat}{wi:TI}{g:TG}{tc:TT}{te:TE}(N':List Str)(src:List (Option Nat))
  (hN:X.N.Nodup) (b1:X.N[i]?=some y) (a4:X.env.scope.names.lookup y=some .local)
  (b3:zO N' src scope X.N X.env.scope=true) (hi:PI X tg iter wi) (a1:X.calm=true)
  (b4:∀(C:Addr) (cells:List (Str×Addr)) (s:af) (H:Hp) (ex:List Addr),PG (zB X N' scope C cells s H ex) tg g/\PIf (zB X N' scope C cells s H ex) G tc/\PE (zB X N' scope C cells s H ex) Y te)
  (hs:∀ x,dq iter X.env x=pure x:=by intro _;rfl)
  (b5:eI (.ListComp Y [⟨tg,iter,G,0⟩] scope pos) (some (.Name y py)) Z.line X.env=pure true:=by rfl) :
  PS X (.Assign [.Name y py] (.ListComp Y [⟨tg,iter,G,0⟩] scope pos) Z) (bk8 (tComp src wi g tc te) (aF9 i)):=by
 intro B s σ H D0 I h
 have ck:=bu3 b3
 rw[exec_Assign_Name_used _ _ _ _ b5]
 refine ai (iO (ai ?_))
 show wpAny _ X.A (do let _ <- comprehension (.ListComp Y [⟨tg,iter,G,0⟩] scope pos) scope X.env _ (newList []) false (eval iter X.env) (some (gm (.Name y py) X.env))) _ _ s
 have hcl:=al1 (scope:=scope) (env:=X.env) λ y hy e=>I.ok.has y.1 (ck.fr y hy e)
 refine ai (br (fU (use:=some (gm (.Name y py) X.env)) (Q:=λ _ s'=>SP X B D0 .next s') rfl hs hcl ck.kind ck.loc (thn (hi B s σ H _ I h) λ v s1 h1=>thn h1 λ c1 s2 h2=>?_)) (λ _ s' hq=>aA (aA hq)) λ _ _ e=>e)
 obtain⟨it,F,tn,J,H2,e,I2,T,a3,f2,W⟩:=h2
 subst e
 have hD:=I2.fresh
 obtain⟨W,⟨m0,w0⟩,turn⟩:=W _ hD
 have I3:=I2.lnew (its:=[]) (ys:=[]) (t':=s2.toks) .nil (cN _)
 have a5:∀ b∈F,b<s2.heap.objs.size:=λ b hb=>by obtain⟨o,q,_⟩:=T.obj _ _ a3 b hb;exact aM q
 have f3:∀ b∈F,FpOk X B (upd H2 s2.heap.objs.size (.lst [])) b:=λ b hb=>⟨by rw[zm (aJ (a5 b hb))];exact(f2 b hb).1,(f2 b hb).2⟩
 refine bG (an0 ?_)
 generalize a0:({ s2 with heap:=s2.heap.push { cls:=.type "list",data:=.seq ([]:List Value).toArray },toks:=s2.toks }:af)=s3 at I3
 have c0:({ s2 with heap:=s2.heap.push { cls:=.type "list",data:=.seq ([]:List Value).toArray } }:af)=s3:=a0
 have b2:∀ b∈F,b<s3.heap.objs.size:=λ b hb=>by
  rw[<-a0]
  show b<(s2.heap.push _).objs.size
  rw[b9]
  exact fL (a5 b hb)
 have I4:=au8 (s4:={ s3 with heap:=eM (s3.heap.push { cls:=.type "dict",data:=.dict #[] }) scope.names }) ck I3 f3 b2 ⟨_,rfl⟩
 have a2:tn 0 (eM (s3.heap.push { cls:=.type "dict",data:=.dict #[] }) scope.names):=T.keep _ _ _ a3 λ b hb o e=>c7 _ _ b o (aB _ (by rw[<-a0];exact aB _ e))
 obtain⟨hg,hif,he⟩:=b4 s3.heap.objs.size (aQ (s3.heap.objs.size+1) scope.names (at7 X.env.cells scope.names [])) s3 (upd H2 s2.heap.objs.size (.lst [])) F
 have a6:∀ H':Hp,(∀ b∈F,H' b=none)->∀ b∈F,FpOk (zB X N' scope s3.heap.objs.size (aQ (s3.heap.objs.size+1) scope.names (at7 X.env.cells scope.names [])) s3 (upd H2 s2.heap.objs.size (.lst [])) F) [] H' b:=λ H' hn b hb =>
  ⟨hn b hb,(I4.ok.exf b hb).1,I4.ok.exfs b hb,.inl hb,λ x c e=>(I4.ok.exf b hb).2 x c e,λ p hp=>absurd (show p∈([]:List (Addr×Obj))from hp) (by simp)⟩
 have T':Turn X.prog X.w X.K tg J F it tn:=T
 have b6:∀ b∈F,upd H2 s2.heap.objs.size (.lst []) b=none:=λ b hb=>(f3 b hb).1
 have L:=aG0 (X':=zB X N' scope s3.heap.objs.size (aQ (s3.heap.objs.size+1) scope.names (at7 X.env.cells scope.names [])) s3 (upd H2 s2.heap.objs.size (.lst [])) F) (R:=compPost (model X.prog X.w) X.A X.xe (some (gm (.Name y py) X.env)) (λ _ s'=>SP X B D0 .next s') (Value.ref s2.heap.objs.size) s3.heap.objs.size) (iter:=iter) (scope:=scope) (pos:=pos) (QD:=λ H'=>D0.nx (σ.set i (some (.ref s2.heap.objs.size))) H') rfl a1 I4 T' a2 a6 b6 w0 turn hg hif he
  (λ σ' H' s' J' q=>by
   have J2:=aP7 I3 f3 J' (Heap.SameBut.refl _ _)
   obtain⟨mm,hn,_⟩:=J'.loc
   have nL:s3.heap.objs.size≠X.env.locals:=jg I3.lt
   have nC:∀ x c,X.env.cells.lookup x=some c->c≠s3.heap.objs.size:=λ x c e=>by
    obtain⟨v,z⟩:=I3.cell x c e
    exact aJ z.lt
   show wpAny _ X.A (gm (.Name y py) X.env (.ref s2.heap.objs.size)) _ _ _
   refine jf (aB6 (v:=.ref s2.heap.objs.size) J2 hN b1 (.inl a4) rfl (λ s5 I5 sb=>?_) (.inr a4))
   obtain⟨aa,sb,ha⟩:=sb
   have na:s3.heap.objs.size≠aa:=by
    rcases ha with z|z
    ·rw[z];exact nL
    ·exact λ e=>nC _ _ z e.symm
   refine⟨mm,hn.sameBut sb na,λ h' b0=>⟨_,H',I5.turned (t':=s5.toks) (λ b o hb e=>(b0.2 b hb).trans e) J'.free nL (.inr I3.sz) nC λ p hp z=>?_,q⟩⟩
   exact absurd (aM (I3.pin p hp).1) (by rw[z];exact bC _))
 exact gE L (T.self _ _ _ _ _ a2 L)
def cp7:V->Option Int->Option Int->Hp->VK->Prop:=λ x lo hi H Q=>∃ z,x=.str z/\z.length<=aO/\Q (.str (e7 z lo hi)) H
theorem aF1 {v:Value}{o:Option Int}(p:fT v o):∃ q:Option (Int×Tok),v=partValue q/\q.map (·.1)=o:=by
 cases p with
 | none=>exact⟨none,rfl,rfl⟩
 | int i t=>exact⟨some (i,t),rfl,rfl⟩
theorem bZ1 {X:Cx}:SlR X cp7:=by
 intro Z s σ H x v vl vu J G sl Q I rx hs pl pu h
 obtain⟨z,rfl,hz,q⟩:=h
 obtain⟨t,rfl⟩:=rx
 obtain⟨l,rfl,el⟩:=aF1 pl
 obtain⟨u,rfl,eu⟩:=aF1 pu
 refine⟨"str",_,F.slot_str_getitem.lookup,j3 s z t,?_⟩
 refine wpAny_getItem_str_slice (l:=l) (u:=u) (st:=none) hs rfl ?_
 unfold sliceMade
 have e:slicePicked z l u none=bE J G 1 z.length:=by
  unfold slicePicked
  rw[el,eu]
  rfl
 rw[e]
 unfold e7 at q
 split
 ·rename_i hc
  have B:((1:Int)==1&&(bE J G 1 z.length).length==z.length)=true:=hc
  rw[if_pos B]at q
  exact⟨.str z,H,I,⟨t,rfl⟩,q⟩
 ·rename_i hc
  have B:¬((1:Int)==1&&(bE J G 1 z.length).length==z.length)=true:=hc
  rw[if_neg B]at q
  have Y:(Str.mk (ik (λ x=>z.cps[x]?) (bE J G 1 z.length)).toArray).length<=aO:=by
   show(ik (λ x=>z.cps[x]?) (bE J G 1 z.length)).toArray.size<=aO
   rw[az]
   exact av (List.length_filterMap_le _ _) (av (sliceIndices_le J G z.length) hz)
  exact⟨Y,.str _,H,I.tok _,⟨_,rfl⟩,q⟩
section
variable {M:Model} {A:aV} {E:Value->af->Prop} {s₀ s:af} {m cm:Str->Option Value} {env:Env} {cs:List (Str×Addr)}
theorem bz8 {n:Str}{v:Value}{Q:Unit->af->Prop}(z:fJ s₀ env.locals m cs cm s)(B:env.scope.kind=.function)(kl:env.kindOf n=some .local)
  (go:∀ s',fJ s₀ env.locals (λ y=>if y=n then some v else m y) cs cm s'->Q () s'):wpAny M A (f7 env n v) Q E s:=by
 refine gS kl z.toInCall.ns (λ g h gs=>go _ ⟨⟨?a,h,λ b o e=>?b,z.toInCall.fresh⟩,λ k c e=>?c,z.apart,z.above⟩) (by rw[B];rfl)
 case a=>obtain⟨F,tk,e⟩:=z.toInCall.same;subst e;exact⟨g,_,rfl⟩
 case b=>exact gs.extBut b o (aJ (aG (aM e) z.toInCall.fresh)) (z.toInCall.keep b o e)
 case c=>exact(z.cell k c e).sameBut gs (jg (z.above k c (aL e)))
theorem bx7 {n:Str}{c:Addr}{v:Value}{Q:Unit->af->Prop}(z:fJ s₀ env.locals m cs cm s)(G:env.scope.kind=.function)(B:env.kindOf n=some .cell)
  (e1:env.cells.lookup n=some c) (e2:cs.lookup n=some c) (go:∀ s',fJ s₀ env.locals m cs (λ y=>if y=n then some v else cm y) s'->Q () s'):wpAny M A (f7 env n v) Q E s:=by
 have up:=z.above n c (aL e2)
 refine hJ G B e1 (z.cell n c e2) λ g h gs=>go _ ⟨⟨?a,z.toInCall.ns.sameBut gs (aJ up),λ b o e=>?b,z.toInCall.fresh⟩,λ k F e=>?c,z.apart,z.above⟩
 case a=>obtain⟨J,tk,e⟩:=z.toInCall.same;subst e;exact⟨g,_,rfl⟩
 case b=>exact gs.extBut b o (aJ (d7 (aG (aM e) z.toInCall.fresh) up)) (z.toInCall.keep b o e)
 case c =>
  by_cases q:k=n
  ·subst q
   rw[e2]at e;cases e
   simpa using h
  ·rw[if_neg q]
   exact(z.cell k F e).sameBut gs λ y=>q (gu z.apart (aL e) (y▸aL e2))
theorem aK9 (f:Str×Value->PUnit->Sem (ForInStep PUnit))(J:∀ n v u,f (n,v) u=(do f7 env n v;pure (.yield ⟨⟩)))(F:env.scope.kind=.function)(sub:∀ n c,cs.lookup n=some c->env.cells.lookup n=some c) :
  ∀(bs:List (Str×Value)) (m G:Str->Option Value) (s:af) (Q:PUnit->af->Prop),fJ s₀ env.locals m cs G s ->
   (∀ y∈bs,env.kindOf y.1=some .local\/(env.kindOf y.1=some .cell/\∃ c,cs.lookup y.1=some c)) ->
   (∀ s',fJ s₀ env.locals (bindL env.kindOf bs m) cs (bindC env.kindOf bs G) s'->Q ⟨⟩ s')->wpAny M A (forIn bs ⟨⟩ f) Q E s
 | [],m,G,s,Q,z,_,go=>by rw[fw];exact aA (go s z)
 | (n,v)::r,m,G,s,Q,z,hy,go=>by
  rw[gK,J]
  have hr:=λ y (q:y∈r)=>hy y (ao _ q)
  rcases hy (n,v) aD with kl|⟨Y,c,e2⟩
  ·refine ai (ai (bz8 z F kl λ s' z'=>aA (aK9 f J F sub r _ _ s' Q z' hr λ h B=>go h ?_)))
   unfold bindL bindC;rw[if_pos kl,if_pos kl];exact B
  ·have Z:¬ env.kindOf n=some .local:=by rw[Y];decide
   refine ai (ai (bx7 z F Y (sub n c e2) e2 λ s' z'=>aA (aK9 f J F sub r _ _ s' Q z' hr λ h B=>go h ?_)))
   unfold bindL bindC;rw[if_neg Z,if_neg Z];exact B
end
theorem av6 {M:Model}{A:aV}{E:Value->af->Prop}{s:af}{scope:Scope}{globals:Addr}{h:List (Str×Addr)}{binds:List (Str×Value)}{qual:Str}{func:Option Addr}{code:Value}{builtins:Addr}{Q:Env->af->Prop}
  (F:scope.kind=.function) (hy:∀ y∈binds,scope.names.lookup y.1=some .local\/(scope.names.lookup y.1=some .cell/\∃ c,(aQ (s.heap.objs.size+1) scope.names []).lookup y.1=some c))
  (go:∀ env,env=newEnv scope s.heap.objs.size globals (aQ (s.heap.objs.size+1) scope.names h) qual func code none builtins ->
   ∀ s',fJ s env.locals (bindL env.kindOf binds λ _=>none) (aQ (s.heap.objs.size+1) scope.names []) (bindC env.kindOf binds λ _=>none) s'->Q env s') :
  wpAny M A (fy scope globals h binds qual func code none builtins) Q E s:=by
 simp only[fy,Option.isSome_none,ag,if_false]
 refine ai (wpAny_alloc (ai (wpAny_layCells _ (λ nm kd G=>by cases q:kd==NameKind.cell<;>simp[q]) _ _ _ _ ?_)))
 have ok:=cellsFrom_ok scope.names (s.heap.push { cls:=.type "frame",data:=.dict #[] }) (s.heap.objs.size+1) [] ⟨λ _ _ hm=>(nomatch hm),List.Pairwise.nil⟩ (by rw[b9];exact aw _)
 have B:({ s with heap:=s.heap.push { cls:=.type "frame",data:=.dict #[] } }:af).heap.objs.size=s.heap.objs.size+1:=b9 ..
 rw[b9]at ok
 rw[B]
 refine ai (aK9 (s₀:=s) (cs:=aQ (s.heap.objs.size+1) scope.names []) (env:=newEnv scope s.heap.objs.size globals (aQ (s.heap.objs.size+1) scope.names h) qual func code none builtins)
  _ (λ _ _ _=>rfl) F (λ n c e=>?sub) binds (λ _=>none) (λ _=>none) _ _ ⟨⟨⟨_,_,rfl⟩,?ns,λ b o e=>?k,aw _⟩,λ n c e=>(ok.empty n c (aL e)).1,ok.apart,λ n c e=>(ok.empty n c e).2⟩ hy λ s' x=>aA (go _ rfl s' x))
 case sub =>
  show(aQ _ _ _).lookup n=some c
  rw[zd,zy,e];rfl
 case ns=>exact(kP s.heap (.type "frame")).keeps (c7 _ _)
 case k=>exact c7 _ _ b o (aB _ e)
noncomputable def aD2 (c:Addr)(qual:Str):HO:=.ext λ h=>h.CodeRec (.ref c) qual
noncomputable def bJ2 (f:Addr)(fd:bO):HO:=.ext λ h=>h.get? f=some { cls:=.type "function",data:=.func fd }
theorem aF7 {P:aH}{w:World}{H:Hp}{h:Heap}{c:Addr}{q:Str}(x:HOk P w H h)(e:H c=some (aD2 c q)):h.CodeRec (.ref c) q:=(x c _ e).1
theorem az6 {P:aH}{w:World}{H:Hp}{h:Heap}{f:Addr}{B:bO}(x:HOk P w H h)(e:H f=some (bJ2 f B)):h.get? f=some { cls:=.type "function",data:=.func B }:=(x f _ e).1
noncomputable def isC (cells:List (Str×Addr))(b:Addr):Bool:=cells.any λ p=>cells.lookup p.1==some b
theorem bf6 {cells:List (Str×Addr)}{b:Addr}:isC cells b=true↔∃ x,cells.lookup x=some b:=by
 unfold isC
 rw[jE]
 constructor
 ·rintro⟨p,_,e⟩;exact⟨p.1,by simpa using e⟩
 ·rintro⟨x,e⟩;exact⟨(x,b),aL e,by simpa using e⟩
noncomputable def ai6 (cells:List (Str×Addr))(H:Hp):Hp:=λ b=>if isC cells b=true then none else H b
noncomputable def Put (cells:List (Str×Addr))(H H':Hp):Hp:=λ b=>if isC cells b=true then H b else H' b
theorem ai6.cell {cells:List (Str×Addr)}{H:Hp}{b:Addr}(h:isC cells b=true):ai6 cells H b=none:=if_pos h
theorem ai6.ne {cells:List (Str×Addr)}{H:Hp}{b:Addr}(h:isC cells b≠true):ai6 cells H b=H b:=if_neg h
theorem ai6.some {cells:List (Str×Addr)}{H:Hp}{b:Addr}{o:HO}(h:ai6 cells H b=some o):isC cells b≠true/\H b=some o:=by
 unfold ai6 at h
 split at h
 ·cases h
 ·rename_i z;exact⟨z,h⟩
theorem ai6.none {cells:List (Str×Addr)}{H:Hp}{b:Addr}(h:H b=none):ai6 cells H b=none:=by
 unfold ai6
 split
 ·rfl
 ·exact h
theorem Put.cell {cells:List (Str×Addr)}{H H':Hp}{b:Addr}(h:isC cells b=true):Put cells H H' b=H b:=if_pos h
theorem Put.ne {cells:List (Str×Addr)}{H H':Hp}{b:Addr}(h:isC cells b≠true):Put cells H H' b=H' b:=if_neg h
def Cells (clos:List (Str×Addr))(H:Hp):Prop:=∀ x c,clos.lookup x=some c->∃ o v,H c=some (.frz o (.own c))/\o.data=.cell v
theorem Cells.at {B:List (Str×Addr)}{H:Hp}(z:Cells B H){b:Addr}(h:isC B b=true):∃ o v,H b=some (.frz o (.own b))/\o.data=.cell v:=by
 obtain⟨x,e⟩:=bf6.mp h
 exact z x b e
def Cap (clos:List (Str×Addr))(H:Hp)(fr:List Str)(cap:List V):Prop:=∀(i:Nat) (x:Str) (v:V),fr[i]?=some x->cap[i]?=some v->∃ c o u,clos.lookup x=some c/\H c=some (.frz o (.own c))/\o.data=.cell (some u)/\RelV v u
structure LamScope (N ps fr:List Str)(sc:Scope):Prop where
 kind:sc.kind=.function
 co:sc.isCoroutine=false
 gen:sc.isGenerator=false
 nd:N.Nodup
 app:N=ps++fr
 par:∀ x∈ps,sc.names.lookup x=some .local\/sc.names.lookup x=some .cell
 frs:∀ x∈fr,sc.names.lookup x=some .free
 cel:∀ y∈sc.names,y.2=.cell->sc.names.lookup y.1=some .cell
noncomputable def aH0 (P:aH)(w:World)(K:ac)(mg:Str->Option Value)(base:Heap)(N:List Str)(qual:Str)(scope:Scope)(f:Addr)(cd:Value)(clos:List (Str×Addr))(A:aV)(outer:List Env)(s:af)(H:Hp):Cx where
 prog:=P
 w:=w
 K:=K
 mg:=mg
 base:=base
 A:=A.deeper (cX qual scope s.heap.objs.size f cd (aQ (s.heap.objs.size+1) scope.names clos))
 N:=N
 s₀:=s
 H₀:=ai6 clos H
 env:=cX qual scope s.heap.objs.size f cd (aQ (s.heap.objs.size+1) scope.names clos)
 outer:=outer
 stack:=cX qual scope s.heap.objs.size f cd (aQ (s.heap.objs.size+1) scope.names clos)::outer
 ex:=[]
 fn:=λ x=>scope.names.lookup x==some .cell
 calm:=true
 pn:=[]
 xe:=λ _ _=>False
theorem HOk.drop {P:aH}{w:World}{H:Hp}{h:Heap}{B:List (Str×Addr)}(x:HOk P w H h)(z:Cells B H):HOk P w (ai6 B H) h:=λ b o e=>by
 obtain⟨_,e'⟩:=ai6.some e
 have G:∀ c u,H c=some u->(∀ o v,u≠.frz o v)->isC B c≠true:=λ c u q d y=>by
  obtain⟨o,v,F,_⟩:=z.at y
  rw[q]at F;cases F
  exact d _ _ rfl
 exact(x b o e').stay (λ _ _ _ q=>q) (λ c q=>by rw[ai6.ne (G c _ q λ _ _=>by nofun)];exact q) λ c J q=>by rw[ai6.ne (G c _ q λ _ _=>by nofun)];exact q
theorem bg5 {P:aH}{w:World}{K:ac}{mg:Str->Option Value}{base:Heap}{N ps fr:List Str}{qual:Str}{scope:Scope}{f:Addr}{cd:Value}{h:List (Str×Addr)}{A:aV}{B:List Env}{s s1:af}{H:Hp}{us:List Value}{vs cap:List V}
  (S:LamScope N ps fr scope) (hd:A.handled=none) (F:Env0 P w K mg base A B s H) (hl:vs.length=ps.length) (a3:cap.length=fr.length) (r:Vals vs us)
  (hc:Cells h H) (inj:∀ x y c,h.lookup x=some c->h.lookup y=some c->x=y) (a2:∀ x,scope.names.lookup x=some .free->∃ c,h.lookup x=some c) (Y:Cap h H fr cap)
  (x:fJ s s.heap.objs.size (bindL (cX qual scope s.heap.objs.size f cd (aQ (s.heap.objs.size+1) scope.names h)).kindOf (ps.zip us) λ _=>none) (aQ (s.heap.objs.size+1) scope.names [])
   (bindC (cX qual scope s.heap.objs.size f cd (aQ (s.heap.objs.size+1) scope.names h)).kindOf (ps.zip us) λ _=>none) s1) :
  Inv (aH0 P w K mg base N qual scope f cd h A B s H) [] (vs.map some++cap.map some) (ai6 h H) s1:=by
 obtain⟨h1,tk,rfl,hk⟩:=x.done
 have J:∀ b:Addr,b ∉ (aH0 P w K mg base N qual scope f cd h A B s H).ex:=λ b z=>absurd (show b∈([]:List Addr)from z) (by simp)
 have lk:∀ y c,(aQ (s.heap.objs.size+1) scope.names h).lookup y=some c->(aQ (s.heap.objs.size+1) scope.names []).lookup y=some c\/((aQ (s.heap.objs.size+1) scope.names []).lookup y=none/\h.lookup y=some c):=λ y c e=>by
  rw[zd,zy]at e
  cases q:(aQ (s.heap.objs.size+1) scope.names []).lookup y with
  | some d=>rw[q]at e;left;simpa using e
  | none=>rw[q]at e;right;exact⟨rfl,by simpa using e⟩
 have own:∀ y c,(aQ (s.heap.objs.size+1) scope.names []).lookup y=some c->s.heap.objs.size<c:=λ y c e=>x.above y c (aL e)
 have Z:∀ y c,h.lookup y=some c->c<s.heap.objs.size:=λ y c e=>by
  obtain⟨o,v,q,_⟩:=hc y c e
  exact F.hok.lt q
 have hx:∀ y c,h.lookup y=some c->scope.names.lookup y=some .free->(aQ (s.heap.objs.size+1) scope.names h).lookup y=some c:=λ y c e k=>by
  rw[zd,zy]
  cases q:(aQ (s.heap.objs.size+1) scope.names []).lookup y with
  | none=>exact e
  | some d =>
   rcases zt (aL q)with z|z
   ·rw[S.cel _ z rfl]at k;cases k
   ·exact absurd z (by simp)
 have dn:∀ b,H b=none->ai6 h H b=none:=λ b e=>ai6.none e
 refine⟨⟨F.mod,S.kind,rfl,rfl,aw _,λ y z c a b=>?inj,λ y hy=>?has,λ y c hy e=>?cab,λ _=>hd,hZ F.frames,.inr ⟨rfl,rfl⟩,λ b z=>absurd z (J b),λ b o e=>⟨(F.bs b o e).1,dn b (F.bs b o e).2⟩,F.bsz,λ b _ _=>J b,λ b z=>absurd z (J b),F.funs,λ b hb=>dn b (F.frf b hb)⟩,
  rfl,F.bare,Un.kept hk,⟨_,x.toInCall.ns,λ i y v q1 q2 q3=>?loc⟩,λ y c e=>?cell,dn _ (F.hok.fresh (aw _)),λ y c e=>?freeC,λ p hp=>absurd (show p∈([]:List (Addr×Obj))from hp) (by simp),(F.hok.drop hc).kept hk,?len⟩
 case inj =>
  rcases lk y c a with a|⟨_,a⟩<;>rcases lk z c b with b|⟨_,b⟩
  ·exact gu x.apart (aL a) (aL b)
  ·exact absurd (d7 (own _ _ a) (Z _ _ b)) (bC _)
  ·exact absurd (d7 (own _ _ b) (Z _ _ a)) (bC _)
  ·exact inj y z c a b
 case has =>
  have hy:scope.names.lookup y=some .cell\/scope.names.lookup y=some .free:=hy
  rcases hy with hy|hy
  ·obtain⟨c,e⟩:=zL (n:=s.heap.objs.size+1) hy
   refine⟨c,?_⟩
   show(aQ (s.heap.objs.size+1) scope.names h).lookup y=some c
   rw[zd,zy,e];rfl
  ·obtain⟨c,e⟩:=a2 y hy
   exact⟨c,hx y c e hy⟩
 case cab =>
  have hy:(scope.names.lookup y==some .cell)=true:=hy
  have a1:scope.names.lookup y=some .cell:=by simpa using hy
  rcases lk y c e with a|⟨a,_⟩
  ·exact dU (own y c a)
  ·obtain⟨d,q⟩:=zL (n:=s.heap.objs.size+1) a1
   rw[q]at a;cases a
 case loc =>
  have a0:ps.Nodup:=by have:=S.nd;rw[S.app]at this;exact(List.nodup_append.mp this).1
  by_cases hi:i<vs.length
  ·have ha:vs[i]?=some v:=by
    rw[aP (by simpa using hi),aN]at q2
    cases e:vs[i]? with
    | none=>rw[e]at q2;cases q2
    | some a=>rw[e]at q2;cases q2;rfl
   obtain⟨u,hu,rv⟩:=r.get ha
   have hp:ps[i]?=some y:=by
    have G:N[i]?=some y:=q1
    rw[S.app,aP (by omega)]at G;exact G
   refine⟨u,rv,?_⟩
   rcases S.par y (aZ hp)with k|k
   ·exact .inl ⟨k,ar6 a0 hp hu k⟩
   ·obtain⟨c,e⟩:=zL (n:=s.heap.objs.size+1) k
    refine .inr ⟨.inl k,c,?_,?_⟩
    ·show(aQ (s.heap.objs.size+1) scope.names h).lookup y=some c
     rw[zd,zy,e];rfl
    ·have q:=x.cell y c e
     rw[aq9 a0 hp hu (by show scope.names.lookup y≠_;rw[k];decide)]at q
     exact q
  ·have hf:fr[i - vs.length]?=some y:=by
    have G:N[i]?=some y:=q1
    rw[S.app,aR (by omega)]at G;rw[hl];exact G
   have hv:cap[i - vs.length]?=some v:=by
    rw[aR (by simpa using hi),aN,aF]at q2
    cases e:cap[i - vs.length]? with
    | none=>rw[e]at q2;cases q2
    | some a=>rw[e]at q2;cases q2;rfl
   obtain⟨c,o,u,e1,e2,e3,e4⟩:=Y _ y v hf hv
   have kf:=S.frs y (aZ hf)
   refine⟨u,e4,.inr ⟨.inr kf,c,hx y c e1 kf,?_⟩⟩
   exact⟨o,hk c o (F.hok c _ e2).1,e3⟩
 case cell =>
  rcases lk y c e with a|⟨_,a⟩
  ·exact⟨_,x.cell y c a⟩
  ·obtain⟨o,v,q,d⟩:=hc y c a
   exact⟨v,o,hk c o (F.hok c _ q).1,d⟩
 case freeC =>
  rcases lk y c e with a|⟨_,a⟩
  ·exact dn c (F.hok.fresh (dU (own y c a)))
  ·exact ai6.cell (bf6.mpr ⟨y,a⟩)
 case len =>
  show _=N.length
  rw[S.app]
  simp[hl,a3]
theorem bc5 {P:aH}{w:World}{B:List Env}{H H':Hp}{s s':af}{h:List (Str×Addr)}(hok:HOk P w H s.heap)(hc:Cells h H)(frf:∀ b∈frs B,H b=none)
  (un:Un (frs B) [] (ai6 h H) H' s.heap s'.heap) (J:HOk P w H' s'.heap):Un (frs B) [] H (Put h H H') s.heap s'.heap/\HOk P w (Put h H H') s'.heap:=by
 have nc:∀ b,H b=none->isC h b≠true:=λ b e y=>by
  obtain⟨o,v,q,_⟩:=hc.at y
  rw[e]at q;cases q
 have G:∀ c u,H c=some u->(∀ o v,u≠.frz o v)->isC h c≠true:=λ c u q d y=>by
  obtain⟨o,v,Z,_⟩:=hc.at y
  rw[q]at Z;cases Z
  exact d _ _ rfl
 have F:∀ b,isC h b=true->H' b=none:=λ b y=>by
  obtain⟨o,v,q,_⟩:=hc.at y
  exact un.free b o (hok b _ q).1 (ai6.cell y) (by simp)
 refine⟨⟨λ b o e n hb hx=>un.keep b o e (ai6.none n) hb hx,λ b o e n hb hx=>un.slot b o e (ai6.none n) hb hx,λ b o e n hx=>?_,λ b o e hx=>un.there b o e hx,λ b Y e=>?_,λ b o u e=>?_,λ b ps e=>?_⟩,λ b o e=>?_⟩
 ·rw[Put.ne (nc b n)];exact un.free b o e (ai6.none n) hx
 ·have z:=G b _ e λ _ _=>by nofun
  rw[Put.ne z];exact un.tups b Y (by rw[ai6.ne z];exact e)
 ·by_cases z:isC h b=true
  ·rw[Put.cell z];exact e
  ·rw[Put.ne z];exact un.frzs b o u (by rw[ai6.ne z];exact e)
 ·have z:=G b _ e λ _ _=>by nofun
  rw[Put.ne z];exact un.tbls b ps (by rw[ai6.ne z];exact e)
 ·by_cases z:isC h b=true
  ·rw[Put.cell z]at e
   obtain⟨ob,v,q,d⟩:=hc.at z
   rw[q]at e;cases e
   have g:=(hok b _ q).1
   have g':=un.keep b ob g (ai6.cell z) (λ y=>by rw[frf b y]at q;cases q) (by simp)
   exact⟨g',ob,g'⟩
  ·rw[Put.ne z]at e
   have np:∀ c u,H' c=some u->Put h H H' c=some u:=λ c u q=>by
    rw[Put.ne λ y=>by rw[F c y]at q;cases q];exact q
   exact(J b o e).stay (λ _ _ _ q=>q) (λ c q=>np c _ q) λ c Y q=>np c _ q
structure ClOk (P:aH)(w:World)(K:ac)(mg:Str->Option Value)(base:Heap)(k:Nat)(R:Hp->Prop)(f:Addr)(sp:Sp):Prop where
 run:∀(A:aV) (outer:List Env) (s:af) (H:Hp) (us:List Value) (vs:List V) (Q:VK),Room k A->Env0 P w K mg base A outer s H->R H->Vals vs us->sp vs H Q E0 ->
  fI (model P w) A (.call (.ref f) ⟨us,[]⟩) (CR CX0 outer P w H s Q E0) s
def aK3 (H:Hp)(f:Addr)(qual:Str)(params:ci)(body:Expr)(scope:Scope)(fr:List Str)(cap:List V)(clos:List (Str×Addr)):Prop :=
 ∃ pm c' ctv,H f=some (bJ2 f (dz "<lambda>" qual params body scope clos pm (.ref c') ctv))/\H c'=some (aD2 c' qual)/\Cells clos H /\
  (∀ x y c,clos.lookup x=some c->clos.lookup y=some c->x=y)/\(∀ x,scope.names.lookup x=some .free->∃ c,clos.lookup x=some c)/\Cap clos H fr cap
def BM (mg:Str->Option Value)(base:Heap):Prop:=∃ bm ob,mg "__builtins__"=some (.ref bm)/\bm≠gk/\base.get? bm=some ob/\ob.cls=.type "module"/\ob.dict=some gk/\ob.data=.plain
noncomputable def lamCheck (scope xs:Scope):Bool:=scope.names.all λ y=>!(y.2==.free)||(xs.names.lookup y.1==some .cell||xs.names.lookup y.1==some .free)
structure Caught (cl:List (Str×Addr))(N:List Str)(kd:Str->Option cw)(σ:St)(H1 H2:Hp):Prop where
 ne:∀ b,isC cl b≠true->H2 b=H1 b
 free:∀ b,isC cl b=true->H1 b=none
 cells:Cells cl H2
 cap:∀(i:Nat) (x:Str) (v:V) (c:Addr),N[i]?=some x->σ[i]?=some (some v)->(kd x=some .cell\/kd x=some .free)->cl.lookup x=some c->∃ o u,H2 c=some (.frz o (.own c))/\o.data=.cell (some u)/\RelV v u
 inj:∀ x y c,cl.lookup x=some c->cl.lookup y=some c->x=y
def cb1 (K:ac)(H:Hp)(f:Addr):Prop:=(∃ fd,H f=some (bJ2 f fd))\/∃ oc od fd sl,K.lookup f=some ⟨oc,od,.func fd,sl⟩
theorem cb1.at {X:Cx}{B:List (Addr×Obj)}{σ:St}{H:Hp}{s:af}{f:Addr}(h:cb1 X.K H f)(I:Inv X B σ H s):PySem.W.FnAt f s.heap:=by
 rcases h with⟨F,h⟩|⟨oc,od,F,sl,h⟩
 ·exact⟨_,_,_,_,az6 I.hok h⟩
 ·exact⟨_,_,_,_,I.kIn _ _ h⟩
noncomputable def aE8 (K:ac)(names:List Str):List (Str×Addr×Addr):=names.filterMap λ x=>(bj K x).map λ p=>(x,p)
theorem aw2 {K:ac}{names:List Str}{y:Str×Addr×Addr}:y∈aE8 K names↔y.1∈names/\bj K y.1=some y.2:=by
 unfold aE8
 rw[bR]
 constructor
 ·rintro⟨x,hx,e⟩
  obtain⟨p,hp,rfl⟩:=cb.mp e
  exact⟨hx,hp⟩
 ·rintro⟨hx,e⟩
  exact⟨y.1,hx,by rw[e];rfl⟩
def bE0 (K:ac)(names:List Str)(base:Heap):Prop:=∀ x∈names,∀ c P,bj K x=some (c,P)->cc base c P
def bB7 (K:ac)(names:List Str)(H:Hp):Prop:=∀ x∈names,∀ c P,bj K x=some (c,P)->H P=some (.tbl #[])
noncomputable def bL3 (K:ac)(names:List Str)(ts:List Addr):Bool:=names.all λ x=>match bj K x with
 | some (c,P)=>jF K c P&&ts.contains P
 | none=>true
theorem ax3 {K:ac}{x:Str}(h:(bj K x).isSome=true):bj K x=some (((bj K x).getD (0,0)).1,((bj K x).getD (0,0)).2):=by
 obtain⟨p,e⟩:=fS.mp h
 rw[e]
 rfl
def bL6 (H:Hp)(P:Addr)(q:Str):Prop:=∃ ps:Array Value,H P=some (.tbl ps)/\TriplesOk ps.toList/\∀ pos cv,codeAmong pos ps.toList=some cv->∃ c',cv=.ref c'/\H c'=some (aD2 c' q)
def TabsH (T:List (Addr×Str))(H:Hp):Prop:=∀ y∈T,bL6 H y.1 y.2
def bS7 (H H':Hp):Prop:=∀ b o,(∀ ps,o≠.tbl ps)->H b=some o->H' b=some o
theorem bS7.of {H B:Hp}(a:ak6 H B):bS7 H B:=λ c o _ h=>a c o h
theorem TabsH.keep {T:List (Addr×Str)}{H H':Hp}(h:TabsH T H)(k:∀ b o,(∀ F,o≠.lst F)->H b=some o->H' b=some o):TabsH T H':=λ y hy=>by
 obtain⟨ps,e,t,c⟩:=h y hy
 refine⟨ps,k _ _ (λ _=>by nofun) e,t,λ pos B q=>?_⟩
 obtain⟨G,e1,e2⟩:=c pos B q
 exact⟨G,e1,k _ _ (λ _=>by unfold aD2;nofun) e2⟩
theorem TabsH.same {T:List (Addr×Str)}{H H':Hp}(h:TabsH T H)(s:ak6 H H'):TabsH T H':=h.keep λ b o _ e=>s b o e
theorem TabsH.new {T:List (Addr×Str)}{H:Hp}{a:Addr}{o:HO}(h:TabsH T H)(n:H a=none):TabsH T (upd H a o):=h.same ((ak6.refl H).new n)
theorem TabsH.put {T:List (Addr×Str)}{H:Hp}{a:Addr}{o:HO}{B:List V}(h:TabsH T H)(n:H a=some (.lst B)):TabsH T (upd H a o):=h.keep λ b u d e=>by
 rw[zm λ z=>by subst z;rw[n]at e;cases e;exact d _ rfl];exact e
theorem TabsH.init {T:List (Addr×Str)}{H:Hp}(h:∀ p∈T.map (·.1),H p=some (.tbl #[])):TabsH T H:=λ y hy =>
 ⟨#[],h _ (bV hy),trivial,λ pos B e=>by simp[codeAmong]at e⟩
theorem Caught.same {cells:List (Str×Addr)}{N:List Str}{kd:Str->Option cw}{σ:St}{B F:Hp}(h:Caught cells N kd σ B F):ak6 B F:=λ b o e=>by
 rw[h.ne b λ z=>by rw[h.free b z]at e;cases e];exact e
theorem Fun.okC {P:aH}{w:World}{K:ac}{mg:Str->Option Value}{base:Heap}{x qual:Str}{st:Stmt}{f c:Addr}{J:bO}{N ps:List Str}{k:Nat}{sp:Sp}(F:Fun K x qual st f J)(a0:J.code=.ref c)(S:FnScope N ps (defScope st))(len:∀ vs H Q E,sp vs H Q E->vs.length=ps.length)
  (G:∀(A:aV) (B:List Env) (s:af) (H:Hp) (vs:List V) (Q:VK) (E:XK),Room k (A.deeper (e6 qual (defScope st) s.heap.objs.size f (.ref c)))->sp vs H Q E ->
   ∃ t,PSs (au5 CX0 P w K mg base N qual (defScope st) f (.ref c) A B s H E).nox (zq st) t/\t { nx:=λ _ H'=>Q .non H',rt:=Q } (al4 N vs) H):FnOk P w K mg base CX0 (k+1) f J ps sp:=by
 obtain⟨oc,od,kV,a1,pm,an,Y,ct,a2,rfl,lk,hc⟩:=F.ex
 have e:Y=.ref c:=a0
 subst e
 refine bv9 lk hc S len λ A B s H vs Q E hr Z=>?_
 obtain⟨t,h,q⟩:=G A B s H vs Q E hr Z
 exact⟨t,h.nox,q⟩
theorem aW9 {X:Cx}{K:ac}(hc:X.calm=true)(hK:X.K=K):aj1 X (.builtin "min") (λ xs H Q=>∃ a ns,xs=[.ref a]/\SqL K H a (ns.map V.int)/\ns≠[]/\∀ m∈ns,(∀ y∈ns,m<=y)->Q (.int m) H):=by
 subst hK
 intro a0 s σ H xs us Q I r h
 obtain⟨a,ns,rfl,hS,Y,q⟩:=h
 obtain⟨u,rfl,ru⟩:=al7 r
 cases ru
 obtain⟨its,G,J,hz⟩:=I.list hS
 have hl:=G.length
 rw[aF]at hl
 have Z:0<ns.length:=iK.mpr Y
 refine call_min_walk (dY J.isList ?_)
 have B:a<s.heap.objs.size:=by obtain⟨o,_,e,_⟩:=J;exact aM e
 have W:=kT (prog:=X.prog) (w:=X.w) (A:=X.A.in1) (I.ok.hd hc) s.heap.objs.size a (aJ B) its.toArray
 let val:Nat->Int:=λ i=>ns.getD i 0
 have F:∀ i v,its.toArray[i]?=some v->∃ t,v=Value.int (val i) t:=λ i v e=>by
  obtain⟨z,t,e1,e2⟩:=ay9 G (i:=i) (v:=v) (by rw[dj]at e;exact e)
  refine⟨t,?_⟩
  rw[e2]
  show Value.int z t=Value.int (ns.getD i 0) t
  rw[bF,e1]
  rfl
 refine⟨_,_,_,_,_,_,_,rfl,W,⟨⟨_,be _ rfl,rfl,rfl⟩,?_⟩,λ b hb=>?_,by rw[az];omega,ko val F,λ v h' tk hP k=>?_⟩
 ·obtain⟨o,e,r⟩:=J.isList
  exact⟨o,aB _ e,r⟩
 ·show b<(s.heap.push _).objs.size
  rw[b9]
  rcases aI.mp hb with z|z
  ·rw[z];exact cU _
  ·have z':b=a:=by simpa using z
   rw[z'];exact fL B
 ·obtain⟨z,t,e1,e2⟩:=ay9 G (i:=dC (λ i j=>decide (val i<val j)) (its.toArray.size - 1)) (v:=v) (by rw[dj]at hP;exact hP)
  subst e2
  have hv:val (dC (λ i j=>decide (val i<val j)) (its.toArray.size - 1))=z:=by
   show ns.getD _ 0=z
   rw[bF,e1]
   rfl
  refine⟨.int z,H,I.kept (h':=h') (t':=tk) λ b o q=>k b o ?_ (aB _ q),⟨t,rfl⟩,q z (aZ e1) λ y hy=>?_⟩
  ·intro z
   have z':b=s.heap.objs.size:=by simpa using z
   exact absurd (aM q) (by rw[z'];exact bC _)
  ·obtain⟨j,hj,e3⟩:=dw.mp hy
   have:=qT val (its.toArray.size - 1) j (by simp only[az];omega)
   rw[hv]at this
   have e4:val j=y:=by
    show ns.getD j 0=y
    rw[bF,aq hj]
    exact e3
   omega
noncomputable def mx (a b:Int):Int:=if b > a then b else a
section
variable {X:Cx}
end
noncomputable def mx3 (a b c:Int):Int:=mx (mx a b) c
noncomputable def rnd (x:Int):Int:=if x=0\/x=3 then x else 2
noncomputable def sharp (n:Nat)(s:Nat->Nat->Int)(i j:Nat):Int:=(minO ((a7 n).map λ k=>mx3 (s i k) (rnd (s k k)) (s k j))).getD 3
section
variable {n:Nat} {s:Nat->Nat->Int}
end
def au4 (H:Hp)(f:Addr)(name qual:Str)(params:ci)(body:List Stmt)(scope:Scope)(fr:List Str)(cap:List V)(clos:List (Str×Addr)):Prop :=
 ∃ doc pm c' ctv,H f=some (bJ2 f (fM name qual params body scope clos .none .none doc pm none (.ref c') ctv))/\H c'=some (aD2 c' qual)/\Cells clos H /\
  (∀ x y c,clos.lookup x=some c->clos.lookup y=some c->x=y)/\(∀ x,scope.names.lookup x=some .free->∃ c,clos.lookup x=some c)/\Cap clos H fr cap
theorem au4.fn {K:ac}{H:Hp}{f:Addr}{name qual:Str}{params:ci}{body:List Stmt}{scope:Scope}{fr:List Str}{cap:List V}{B:List (Str×Addr)}(h:au4 H f name qual params body scope fr cap B):cb1 K H f:=by
 obtain⟨F,Z,Y,J,G,_⟩:=h
 exact .inl ⟨_,G⟩
end L2
end
noncomputable section
namespace L2
open PySem PySem.Spec PyProof.Rows Builtin
section
variable {P:aH} {w:World} {A:aV} {E:Value->af->Prop} {s:af}
theorem aI0 {it t:Addr}{i:Nat}{l:Array Value}{v:Value}{Q:Value->af->Prop}(h:s.heap.IsTupleIter it t i)(F:s.heap.IsTuple t l)(hv:l[i]?=some v)
  (k:∀ h',h'.IsTupleIter it t (i+1)->dW it s.heap h'->Q v { s with heap:=h' }):wpAny (model P w) A (bU (.ref it)) Q E s:=by
 obtain⟨o,e1,e2,e3⟩:=id h
 obtain⟨p,p1,_,n,B⟩:=F
 unfold bU
 refine ai (cT (name:=bH "__next__") h.typeIs cH (cD cH h.typeIs fh ?_ (e8 _)))
 show wpAny _ _ (field (.ref it) 0 >>= _) _ _ _
 refine ai (dQ e1 e3 (x:=.ref t) rfl ?_)
 show wpAny _ _ (if(Value.ref t==Value.none)=true then _ else _) _ _ _
 rw[if_neg (show ¬((Value.ref t==Value.none)=true)from λ z=>nomatch z)]
 show wpAny _ _ (field (.ref it) 1 >>= _) _ _ _
 refine ai (dQ e1 e3 (x:=.int i 0) rfl ?_)
 show wpAny _ _ (iy (.ref t) >>= _) _ _ _
 refine ai (cS p1 B ?_)
 simp only[bD,hv]
 refine ai (wpAny_setField e1 e3 (by simp) (aA ⟨v,rfl,aA (k _ ⟨_,dh _ e1 (Obj.isFreed_of_fields (i4 e3 _)),(Obj.cls_mapFields ..).trans e2,by rw[i4 e3];simp[rawInt]⟩ (iL ..))⟩))
theorem aT6 {it t:Addr}{i:Nat}{l:Array Value}{Q:Value->af->Prop}(hh:A.handled=none)(h:s.heap.IsTupleIter it t i)(F:s.heap.IsTuple t l)(hv:l[i]?=none)
  (k:∀ h' e,jL it s.heap h'->(∃ o,h'.get? e=some o/\o.cls=.type "StopIteration")->E (.ref e) { s with heap:=h' }):wpAny (model P w) A (bU (.ref it)) Q E s:=by
 obtain⟨o,e1,e2,e3⟩:=id h
 obtain⟨p,p1,_,n,B⟩:=F
 unfold bU
 refine ai (cT (name:=bH "__next__") h.typeIs cH (cD cH h.typeIs fh ?_ (e8 _)))
 show wpAny _ _ (field (.ref it) 0 >>= _) _ _ _
 refine ai (dQ e1 e3 (x:=.ref t) rfl ?_)
 show wpAny _ _ (if(Value.ref t==Value.none)=true then _ else _) _ _ _
 rw[if_neg (show ¬((Value.ref t==Value.none)=true)from λ z=>nomatch z)]
 show wpAny _ _ (field (.ref it) 1 >>= _) _ _ _
 refine ai (dQ e1 e3 (x:=.int i 0) rfl ?_)
 show wpAny _ _ (iy (.ref t) >>= _) _ _ _
 refine ai (cS p1 B ?_)
 simp only[bD,hv]
 refine ai (eG (ai (wpAny_setField e1 e3 (by simp) ?_)))
 show wpAny _ _ (newExc (.type "StopIteration") [] >>= _) _ _ (_:af)
 refine ai ?_
 simp only[newExc,newTuple]
 refine ai (bG ?_ (by size_fits))
 refine ai (m:=firstArgMember _ _) (wpAny_of_eq (a:=Value.none) (by first|rfl|(simp only[firstArgMember];rfl)) (bG ?_ (by size_fits)))
 simp only[raiseNew]
 refine ai (wpAny_handled ?_)
 first|rw[show A.in1.handled=none from hh]|rw[hh]
 exact ai (aA (wpAny_throw (k _ _ (((iL ..).extBut.push _).push _) ⟨_,be _ rfl,rfl⟩)))
end
structure Dw (P:aH)(w:World)(K:ac)(J:It)(it:Addr)(tn:Nat->Heap->Prop):Prop where
 obj:∀ i h,tn i h->∃ o,h.get? it=some o/\∀ v,o.data≠.cell v
 keep:∀ i h h',tn i h->(∀ o,h.get? it=some o->h'.get? it=some o)->tn i h'
 item:∀(X:Cx),X.prog=P->X.w=w->X.K=K->∀(A:aV) (i:Nat) (pins:List (Addr×Obj)) (s:af) (σ:St) (H:Hp) (Q:Value->af->Prop) (E:Value->af->Prop),Inv X pins σ H s->tn i s.heap->J.go i H ->
  (∀ x u h' tk,RelV x u->J.yld i H x H->tn (i+1) h'->dW it s.heap h'->Q u { s with heap:=h',toks:=tk })->wpAny (model P w) A (bU (.ref it)) Q E s
 done:∀(X:Cx),X.prog=P->X.w=w->X.K=K->∀(A:aV) (i:Nat) (pins:List (Addr×Obj)) (s:af) (σ:St) (H:Hp) (Q:Value->af->Prop) (E:Value->af->Prop),A.handled=none->Inv X pins σ H s->tn i s.heap->J.stop i H ->
  (∀ h' e,jL it s.heap h'->(∃ o,h'.get? e=some o/\o.cls=.type "StopIteration")->E (.ref e) { s with heap:=h' })->wpAny (model P w) A (bU (.ref it)) Q E s
theorem bF7 {P:aH}{w:World}{K:ac}(a it:Addr):Dw P w K (Itl K a) it (λ i h=>h.IsListIter it a i) where
 obj:=λ i h st=>by
  obtain⟨o,e,c,d⟩:=st
  exact⟨o,e,λ v z=>by rw[d]at z;cases z⟩
 keep:=λ i h h' st k=>st.at k
 item:=by
  intro X J hw hK A i B s σ H Q E I st hg k
  subst J hw hK
  obtain⟨xs,x,F,hx⟩:=hg
  obtain⟨its,G,p,hz⟩:=I.list F
  obtain⟨u,hu,Z⟩:=G.get hx
  exact wpAny_nextOf_list_item st p.isList (x:=u) (by simpa using hu) λ h' Y sb=>k x u h' s.toks Z ⟨rfl,λ ys hy=>by rw[I.list_inj hy F];exact hx⟩ Y sb
 done:=by
  intro X J hw hK A i B s σ H Q E hA I st hg k
  subst J hw hK
  obtain⟨xs,F,hx⟩:=hg
  obtain⟨its,G,p,hz⟩:=I.list F
  have hl:=G.length
  exact wpAny_nextOf_list_end hA st p.isList (by simp;omega) k
theorem bU1 {P:aH}{w:World}{K:ac}(a it:Addr):Dw P w K (Itt K a) it (λ i h=>h.IsTupleIter it a i) where
 obj:=λ i h st=>by
  obtain⟨o,e,c,d⟩:=st
  exact⟨o,e,λ v z=>by rw[d]at z;cases z⟩
 keep:=λ i h h' st k=>st.at k
 item:=by
  intro X J hw hK A i B s σ H Q E I st hg k
  subst J hw hK
  obtain⟨xs,x,F,hx⟩:=hg
  obtain⟨its,G,p,hz⟩:=I.tuple F
  obtain⟨u,hu,Z⟩:=G.get hx
  exact aI0 st (show s.heap.IsTuple a its.toArray from p) (v:=u) (by simpa using hu) λ h' Y sb=>k x u h' s.toks Z ⟨rfl,λ ys hy=>by rw[I.tuple_inj hy F];exact hx⟩ Y sb
 done:=by
  intro X J hw hK A i B s σ H Q E hA I st hg k
  subst J hw hK
  obtain⟨xs,F,hx⟩:=hg
  obtain⟨its,G,p,hz⟩:=I.tuple F
  have hl:=G.length
  exact aT6 hA st (show s.heap.IsTuple a its.toArray from p) (by simp;omega) k
theorem bO4 {P:aH}{w:World}{K:ac}(x:Str)(t:Tok)(it:Addr):Dw P w K (Its x) it (λ i h=>h.IsStrIter it (il x) x t i) where
 obj:=λ i h st=>by
  obtain⟨o,e,c,d⟩:=st
  exact⟨o,e,λ v z=>by rw[d]at z;cases z⟩
 keep:=λ i h h' st k=>by
  obtain⟨o,ho,r⟩:=st
  exact⟨o,k _ ho,r⟩
 item:=by
  intro X J hw hK A i G s σ H Q E I st hg k
  subst J hw hK
  have B:i<x.cps.size:=hg
  have hc:x.cps[i]?=some x.cps[i]:=by simp[B]
  unfold il at st k
  cases ha:x.cps.all (·<128)
  ·rw[ha]at st k
   exact wpAny_nextOf_wide_item st hc λ h' F Y=>k (.str ⟨#[x.cps[i]]⟩) _ h' (s.toks+1) ⟨_,rfl⟩ ⟨rfl,_,hc,rfl⟩ F Y
  ·rw[ha]at st k
   exact wpAny_nextOf_ascii_item st hc λ h' F Y=>k (.str ⟨#[x.cps[i]]⟩) _ h' (s.toks+1) ⟨_,rfl⟩ ⟨rfl,_,hc,rfl⟩ F Y
 done:=by
  intro X J hw hK A i G s σ H Q E Z I st hg k
  subst J hw hK
  have B:x.cps.size<=i:=hg
  have hc:x.cps[i]?=none:=by simp[B]
  unfold il at st
  cases ha:x.cps.all (·<128)
  ·rw[ha]at st
   exact wpAny_nextOf_wide_end Z st hc k
  ·rw[ha]at st
   exact wpAny_nextOf_ascii_end Z st hc k
section
variable {X:Cx} {pins:List (Addr×Obj)} {σ:St} {H:Hp} {s:af} {A:aV} {E:Value->af->Prop} {J1 J2:It} {t1 t2:Nat->Heap->Prop} {z ti to i1 i2:Addr} {n:Nat} {a b:Value}
end
def Mkr (v:Value)(o:Obj)(h:Heap):Prop:=∀(P:aH) (w:World) (A:aV) (E:Value->af->Prop) (s:af) (Q:Value->af->Prop),(∀ b u,h.get? b=some u->s.heap.get? b=some u) ->
 Q (.ref s.heap.objs.size) { s with heap:=s.heap.push o }->wpAny (model P w) A (kD v) Q E s
def Sr (K:ac)(H:Hp)(x:V)(J:It):Prop:=(∃ a,x=.ref a/\(∃ xs,SqL K H a xs)/\J=Itl K a)\/(∃ a,x=.ref a/\(∃ xs,SqT K H a xs)/\J=Itt K a)\/∃ y,x=.str y/\J=Its y
theorem Sr.mk {X:Cx}{B:List (Addr×Obj)}{σ:St}{H:Hp}{s:af}{x:V}{u:Value}{J:It}(I:Inv X B σ H s)(h:Sr X.K H x J)(r:RelV x u) :
  ∃(o:Obj) (G:Addr->Nat->Heap->Prop),o.isFreed=false/\Mkr u o s.heap/\(∀ it,Dw X.prog X.w X.K J it (G it))/\∀ it h',h'.get? it=some o->G it 0 h':=by
 rcases h with⟨a,e,⟨Y,F⟩,e'⟩|⟨a,e,⟨Y,F⟩,e'⟩|⟨y,e,e'⟩
 ·subst e e';cases r
  obtain⟨its,Z,p,hz⟩:=I.list F
  exact⟨_,λ it i h=>h.IsListIter it a i,rfl,λ P w A E s' Q hk q=>dY (p.isList.at λ o e=>hk _ _ e) q,λ it=>bF7 a it,λ it h' e=>⟨_,e,rfl,rfl⟩⟩
 ·subst e e';cases r
  obtain⟨its,Z,p,hz⟩:=I.tuple F
  exact⟨_,λ it i h=>h.IsTupleIter it a i,rfl,λ P w A E s' Q hk q=>iW (Heap.IsTuple.at (show s.heap.IsTuple a its.toArray from p) λ o e=>hk _ _ e) q,λ it=>bU1 a it,λ it h' e=>⟨_,e,rfl,rfl⟩⟩
 ·subst e e';obtain⟨t,rfl⟩:=r
  exact⟨_,λ it i h=>h.IsStrIter it (il y) y t i,rfl,λ P w A E s' Q hk q=>wpAny_pyIter_strU q,λ it=>bO4 y t it,λ it h' e=>⟨_,e,rfl,rfl⟩⟩
end L2
end
noncomputable section
namespace L2
open PySem PySem.Spec PyProof.Rows Builtin
open AutoSeq1 (wpAny_loadPart')
section
variable {X:Cx} {pins:List (Addr×Obj)} {σ:St} {H:Hp} {s:af} {A:aV} {E:Value->af->Prop} {J1:It} {t1:Nat->Heap->Prop} {z it:Addr} {n:Nat} {old:Value}
end
end L2
end
noncomputable section
namespace L2
open PySem PySem.Spec PyProof.Rows Builtin
open AutoSeq1 (wpAny_loadPart')
theorem aJ0:fillsNumberSlot (.type "tuple") "mul"=pure false :=
 PySem.fillsNumberSlot_seq (id := "tuple.__mul__") (r:=some (.builtin "tuple.__rmul__")) d8.lookup (by decide +kernel) gd.lookup (by decide +kernel)
theorem aR7:seqRepeat? (.type "tuple")=pure (some (.builtin "tuple.__mul__")):=by
 unfold seqRepeat?
 rw[jG (T := "tuple") (name := "__mul__") (id := "tuple.__mul__") d8.lookup (by decide +kernel),jG (T := "tuple") (name := "__rmul__") (id := "tuple.__rmul__") gd.lookup (by decide +kernel)]
 rfl
theorem aB7 (a:Int)(t:Tok)(l:Addr)(o:Obj)(B:Array Value)(n:Nat)(F:Option Addr)(sl:Array (Option Value)) :
  Meets (Builtin.«int.__rmul__» ⟨[.int a t,.ref l],[]⟩) (λ _ R s=>s.heap.get? l=some { cls:=.type "tuple",dict:=F,data:=.seq B n,slots:=sl }/\R (.ok (.ret Value.notImplemented)) s) :=
 .of_wp λ prog w A R s h=>by obtain⟨hp,g,d,tk,os⟩:=s;obtain⟨hl,h⟩:=h;wp_walk;exact⟨_,rfl,h⟩
noncomputable def at6 {α:Type}:Nat->List α->List α
 | 0,_=>[]
 | n+1,a=>a++at6 n a
theorem aO2 {α:Type}(l:List α):∀(n:Nat) (h:Array α),(aC n l.toArray).foldl (·++·) h=h++(at6 n l).toArray
 | 0,h=>by simp[at6]
 | n+1,h=>by rw[bL,c6,aO2 l n];simp[at6]
theorem aB1 {α:Type}(a:Array α):∀(n:Nat) (h:Array α),((aC n a).foldl (·++·) h).size=h.size+a.size*n
 | 0,h=>by simp
 | n+1,h=>by rw[bL,c6,aB1 a n,Array.size_append,Nat.mul_succ];omega
def TmA (items:Array Value)(k:Int)(l:Addr)(R:Value->af->Prop)(s:af):Prop :=
 ((items.isEmpty||k==1)=true->R (.ref l) s)/\((items.isEmpty||k==1)=false->R (.ref s.heap.objs.size) { s with heap:=s.heap.push { cls:=.type "tuple",data:=.seq ((aC k.toNat items).foldl (·++·) #[]) } })
theorem aY4 {P:aH}{w:World}{A:aV}{E:Value->af->Prop}{s:af}{l:Addr}{B:Array Value}{k:Int}{t:Tok}{Q:Value->af->Prop}(h0:0<=k)(Y:k<=1000000)(hz:B.size*k.toNat<=1000000)(hl:IsTup s.heap l B)
  (h:TmA B k l Q s):wpAny (model P w) A (call (.builtin "tuple.__mul__") [.ref l,.int k t]) Q E s:=by
 refine cD d8 hl.typeIs PySem.F.entry_tuple_mul ?_ (PySem.F.args_tuple_mul_2 _ _)
 obtain⟨G,q2⟩:=h
 show wpAny _ _ (asIndex (.int k t) >>= _) _ _ _
 refine ai (aA ?_)
 rw[if_neg (by rw[decide_eq_false (by omega),decide_eq_false (by omega)];decide)]
 show wpAny _ _ (cF (.ref l) >>= _) _ _ _
 refine ai (iQ hl ?_)
 have J:(B.size:Int)*k<=1000000:=by
  have:((B.size*k.toNat:Nat):Int)<=1000000:=by omega
  rw[jR,e9 h0]at this
  exact this
 cases hb:(B.isEmpty||k==1)with
 | true =>
  rw[if_pos rfl]
  unfold j7
  refine ai (ai (gy hl.typeIs (aA ?_)))
  rw[if_pos (by decide)]
  exact ai (eG (aA ⟨_,rfl,G hb⟩))
 | false =>
  rw[if_neg aX]
  have he:B.isEmpty=false:=by
   rw[eU]at hb;exact hb.1
  have q:=q2 hb
  show wpAny _ _ (if(decide (k<=0)||B.isEmpty)=true then _ else _) _ _ _
  by_cases hk:k<=0
  ·rw[if_pos (by rw[decide_eq_true hk];rfl)]
   have:k.toNat=0:=by omega
   rw[this]at q
   exact ai (bG (aA ⟨_,rfl,q⟩) (by size_fits))
  ·rw[if_neg (by rw[decide_eq_false hk,he];decide)]
   show wpAny _ _ (if(B.size:Int)*k > (2^63 - 1) / 8 then _ else _) _ _ _
   rw[if_neg (by omega)]
   show wpAny _ _ (if fz ((B.size:Int)*k)=true then _ else _) _ _ _
   rw[if_neg (by unfold fz;rw[decide_eq_false (by unfold aO;omega)];decide)]
   refine ai (bG (aA ⟨_,rfl,q⟩) ?_)
   show Array.size _<=aO
   rw[aB1]
   show 0+_<=_
   rw[gF]
   have h3:B.size*k.toNat<=aO:=av hz (by decide)
   exact h3
theorem aO9 {α:Type}:∀ n,at6 n ([]:List α)=[]
 | 0=>rfl
 | n+1=>by simp[at6,aO9 n]
theorem bp2 {α:Type}(l:List α):at6 1 l=l:=by simp[at6]
theorem aM3 {α:Type}(l:List α):∀ n,(at6 n l).length=l.length*n
 | 0=>by simp[at6]
 | n+1=>by simp[at6,aM3 l n,jM];omega
theorem Vals.repT {h:List V}{us:List Value}(r:Vals h us):∀ n,Vals (at6 n h) (at6 n us)
 | 0=>.nil
 | n+1=>r.append (Vals.repT r n)
def cf2 (K:ac):R2:=λ x y H Q=>∃ a xs n,x=.ref a/\y=.int n/\SqT K H a xs/\(0<=n/\n<=1000000/\xs.length*n.toNat<=1000000)/\∀ p H',ak6 H H'->SqT K H' p (at6 n.toNat xs)->(H' p=some (.tup (at6 n.toNat xs))\/(p=a/\at6 n.toNat xs=xs))->Q (.ref p) H'
theorem bx0 {X:Cx}{K:ac}(hK:X.K=K):OpR X (cA .Mult) (cf2 K):=by
 subst hK
 intro G s σ H x y v u Q I rx J h
 obtain⟨a,F,n,rfl,rfl,ha,⟨h0,Z,hz⟩,q⟩:=h
 cases rx
 obtain⟨t,rfl⟩:=J
 obtain⟨its,r1,p1,Y⟩:=I.tuple ha
 have B:=r1.length
 obtain⟨⟨cls,dd,data,sl⟩,ho,hc,n1,hd⟩:=id p1
 simp only at hc hd
 subst hc hd
 refine fB (T := "tuple") (U := "int") (by decide) p1.typeIs (λ s'=>gB s' n t) aJ0 i0 dN aR7 iI.lookup
  (iZ dN (gB s n t) iJ (ie _ _) (aB7 n t a default its.toArray n1 dd sl) ⟨ho,⟨rfl,p1.typeIs,aY4 h0 Z (by rw[az,<-B];exact hz) p1 ⟨λ hb=>?_,λ hb=>?_⟩⟩⟩)
 ·have ex:at6 n.toNat F=F:=by
   rw[bS]at hb
   rcases hb with hb|hb
   ·have hi:its=[]:=by simpa using hb
    have hx:F=[]:=r1.nil_iff.mp hi
    rw[hx,aO9]
   ·have:n=1:=by simpa using hb
    subst this
    exact bp2 _
  exact⟨.ref a,H,I,rfl,q a H (ak6.refl H) (by rw[ex];exact ha) (.inr ⟨rfl,ex⟩)⟩
 ·have hp:=I.hok.fresh (aw s.heap.objs.size)
  refine⟨.ref s.heap.objs.size,_,I.laid (t':=s.toks) (o:=.tup (at6 n.toNat F)) (λ b ob q=>aB _ q) (aw _) ?_,rfl,q _ _ ((ak6.refl H).new hp) (SqT.of zx) (.inl zx)⟩
  refine⟨by rw[aM3];exact av hz (by decide),at6 n.toNat its,r1.repT _,?_⟩
  rw[show(at6 n.toNat its).toArray=(aC n.toNat its.toArray).foldl (·++·) #[]by rw[aO2];simp]
  exact⟨_,be _ rfl,rfl,_,rfl⟩
end L2
end
noncomputable section
namespace L2
open PySem PySem.Spec PyProof.Rows
theorem ap0 {A:aV}{k:Nat}(hr:Room k A):A.units+2<cLine:=Nat.lt_of_le_of_lt (Nat.add_le_add_left (by decide:2<=64) _) hr.units
section
variable {κ:Type} [DecidableEq κ]
noncomputable def aG8 (kvs:List (κ×V))(k:κ):Option V:=(kvs.find? λ kv=>decide (kv.1=k)).map (·.2)
noncomputable def aG7 (kvs:List (κ×V))(k:κ)(v:V):List (κ×V) :=
 if(kvs.any λ kv=>decide (kv.1=k))=true then kvs.map (λ kv=>if kv.1=k then(kv.1,v)else kv)else kvs++[(k,v)]
theorem ap7 {p:κ×V}{r:List (κ×V)}{k:κ}(e:p.1=k):aG8 (p::r) k=some p.2:=by simp[aG8,c8,e]
theorem ap8 {p:κ×V}{r:List (κ×V)}{k:κ}(e:¬ p.1=k):aG8 (p::r) k=aG8 r k:=by simp[aG8,c8,e]
theorem ay3 (k:κ):∀ h:List (κ×V),(h.any λ B=>decide (B.1=k))=(aG8 h k).isSome
 | []=>rfl
 | p::r=>by
  rw[fX]
  by_cases e:p.1=k
  ·simp only[ap7 e,decide_eq_true e,Bool.true_or,i3]
  ·rw[ap8 e,decide_eq_false e,kn];exact ay3 k r
theorem ar1 (h:List (κ×V))(k:κ)(v:V):(aG7 h k v).length<=h.length+1:=by
 unfold aG7
 split
 ·rw[aF];omega
 ·rw[ax,bq,gN];omega
theorem aU6.isSome_eq {o:Option V}{u:Option Value}(r:aU6 o u):o.isSome=u.isSome:=by
 cases o with
 | none=>cases u with
  | none=>rfl
  | some _=>exact(show False from r).elim
 | some _=>cases u with
  | none=>exact(show False from r).elim
  | some _=>rfl
theorem aU6.getD {o:Option V}{u:Option Value}{d:V}{d':Value}(r:aU6 o u)(h:RelV d d'):RelV (o.getD d) (u.getD d'):=by
 cases o with
 | none=>cases u with
  | none=>exact h
  | some _=>exact(show False from r).elim
 | some _=>cases u with
  | none=>exact(show False from r).elim
  | some _=>exact r
theorem KV.val {B:List (κ×V)}{vs:List (κ×Value)}(r:KV B vs)(k:κ):aU6 (aG8 B k) (iz vs k):=by
 unfold KV at r
 induction r with
 | nil=>exact True.intro
 | @cons p q ps qs h t ih =>
  obtain⟨F,G⟩:=h
  by_cases e:p.1=k
  ·have e':q.1=k:=F.symm.trans e
   have b:iz (q::qs) k=some q.2:=by simp[iz,c8,e']
   rw[ap7 e,b];exact G
  ·have e':¬ q.1=k:=λ z=>e (F.trans z)
   have b:iz (q::qs) k=iz qs k:=by simp[iz,c8,e']
   rw[ap8 e,b];exact ih
theorem KV.any {B:List (κ×V)}{vs:List (κ×Value)}(r:KV B vs)(k:κ):(B.any λ F=>decide (F.1=k))=vs.any λ F=>decide (F.1=k):=by
 unfold KV at r
 induction r with
 | nil=>rfl
 | cons h t ih=>rw[fX,fX,ih,h.1]
theorem KV.repl {F:List (κ×V)}{vs:List (κ×Value)}(r:KV F vs)(k:κ){y:V}{u:Value}(J:RelV y u) :
  KV (F.map λ B=>if B.1=k then(B.1,y)else B) (vs.map λ B=>if B.1=k then(B.1,u)else B):=by
 unfold KV at r ⊢
 induction r with
 | nil=>exact .nil
 | @cons p q ps qs h t ih =>
  rw[a8,a8]
  refine .cons ?_ ih
  obtain⟨G,Y⟩:=h
  by_cases e:p.1=k
  ·rw[if_pos e,if_pos (G.symm.trans e)];exact⟨G,J⟩
  ·rw[if_neg e,if_neg (λ z=>e (G.trans z))];exact⟨G,Y⟩
theorem KV.put {h:List (κ×V)}{vs:List (κ×Value)}(r:KV h vs)(k:κ){y:V}{u:Value}(B:RelV y u):KV (aG7 h k y) (stored vs k u):=by
 unfold aG7 stored
 rw[r.any k]
 by_cases e:(vs.any λ F=>decide (F.1=k))=true
 ·rw[if_pos e,if_pos e];exact r.repl k B
 ·rw[if_neg e,if_neg e];exact kQ r ⟨rfl,B⟩
theorem KV.length {h:List (κ×V)}{vs:List (κ×Value)}(r:KV h vs):h.length=vs.length:=eP r
end
theorem ba4 {P:aH}{w:World}{k:Key}{u:Value}(r:RelV (kV k) u):(zR P w).is k u=true:=by
 cases k with
 | inl i=>obtain⟨t,e⟩:=(show ∃ t,u=Value.int i t from r);subst e;exact aL4 P w i t
 | inr x=>obtain⟨t,e⟩:=(show ∃ t,u=Value.str x t from r);subst e;exact aJ3 P w x t
theorem bV3 {P:aH}{w:World}{f:FK}{u:Value}(h:RelV (fV f) u):fIs f u=true:=by
 cases f with
 | none=>cases(show u=Value.none from h);rfl
 | some k=>exact ba4 (P:=P) (w:=w) h
theorem aE1 {P:aH}{w:World}:∀ {ks:List FK} {us:List Value},Vals (ks.map fV) us->ItemsAre (qI P w) ks us
 | [],_,r=>by rw[gD]at r;cases r;exact .nil
 | k::ks,_,r=>by
  rw[a8]at r
  cases r with
  | cons h t=>exact .cons (bV3 (P:=P) (w:=w) h) (aE1 t)
theorem bP1 {P:aH}{w:World}{H:Hp}{h:Heap}(ok:HOk P w H h):∀ {ks:List NI} {F:List V} {us:List Value},cR (NAt H) ks F->Vals F us->cR (NIs P w h) ks us
 | _,_,_,.nil,r=>by cases r;exact .nil
 | _,_,_,.cons (a:=k) q t,r=>by
  cases r with
  | cons B t1 =>
   refine .cons ?_ (bP1 ok t t1)
   cases k with
   | inl f=>cases q;exact bV3 (P:=P) (w:=w) B
   | inr l =>
    obtain⟨c,rfl,e⟩:=q
    cases B
    obtain⟨_,its,r,o,B,G,n,h3⟩:=(show ai3 P w H h c (.tup (l.map fV))from ok c _ e)
    exact⟨c,rfl,o,its.toArray,n,B,G,h3,by simpa using aE1 r⟩
abbrev KT (H:Hp):List (List NI×V)->List (List NI×Addr×Value)->Prop:=cR λ p q=>p.1=q.1/\NK H p.1 q.2.1/\RelV p.2 q.2.2
theorem KT.val {H:Hp}{B:List (List NI×V)}{F:List (List NI×Addr×Value)}(r:KT H B F)(k:List NI):aU6 (aG8 B k) ((atKey F k).map (·.2)):=by
 induction r with
 | nil=>exact True.intro
 | @cons p q ps qs h t ih =>
  obtain⟨G,_,J⟩:=h
  by_cases e:p.1=k
  ·have e':q.1=k:=G.symm.trans e
   have b:atKey (q::qs) k=some q.2:=by simp[atKey,c8,e']
   rw[ap7 e,b];exact J
  ·have e':¬ q.1=k:=λ z=>e (G.trans z)
   have b:atKey (q::qs) k=atKey qs k:=by simp[atKey,c8,e']
   rw[ap8 e,b];exact ih
theorem KT.repl {H:Hp}{B:List (List NI×V)}{J:List (List NI×Addr×Value)}(r:KT H B J)(k:List NI){y:V}{u:Value}(Z:RelV y u) :
  KT H (B.map λ G=>if G.1=k then(G.1,y)else G) (J.map (putAt k u)):=by
 induction r with
 | nil=>exact .nil
 | @cons p q ps qs h t ih =>
  rw[a8,a8]
  refine .cons ?_ ih
  obtain⟨F,Y,h3⟩:=h
  unfold putAt
  by_cases e:p.1=k
  ·rw[if_pos e,if_pos (F.symm.trans e)];exact⟨F,Y,Z⟩
  ·rw[if_neg e,if_neg (λ z=>e (F.trans z))];exact⟨F,Y,h3⟩
theorem KT.put {H:Hp}{h:List (List NI×V)}{B:List (List NI×Addr×Value)}(r:KT H h B)(k:List NI){b:Addr}{y:V}{u:Value}(hb:NK H k b)(F:RelV y u) :
  KT H (aG7 h k y) (storedH B k b u):=by
 have e:(h.any λ G=>decide (G.1=k))=(atKey B k).isSome:=by
  rw[ay3,(r.val k).isSome_eq,fN]
 unfold aG7 storedH
 rw[e]
 by_cases q:(atKey B k).isSome=true
 ·rw[if_pos q,if_pos q];exact r.repl k F
 ·rw[if_neg q,if_neg q];exact kQ r ⟨rfl,hb,F⟩
theorem KT.keeps {H H':Hp}{h:List (List NI×V)}{B:List (List NI×Addr×Value)}(r:KT H h B)(F:∀ b ys,H b=some (.tup ys)->H' b=some (.tup ys)):KT H' h B :=
 cR.mapP r λ _ _ z=>⟨z.1,z.2.1.mono F,z.2.2⟩
section
variable {P:aH} {w:World} {H:Hp} {h:Heap} {a:Addr}
theorem bZ8 {u:HO}(ok:HOk P w H h)(e:Rd H a u):ai3 P w H h a u:=e.ok ok
theorem aV4 {B:List (Key×V)}(ok:HOk P w H h)(e:Rd H a (.dK B)):B.length<=aO/\(a==dt)=false/\∃ vs,KV B vs/\h.DictOf (zR P w) a vs :=
 show ai3 P w H h a (.dK B)from bZ8 ok e
theorem cg1 {B:List (Key×V)}(ok:HOk P w H h)(e:H a=some (.dK B)):B.length<=aO/\(a==dt)=false/\∃ vs,KV B vs/\h.DictOf (zR P w) a vs:=aV4 ok (.inl e)
theorem av2 {ks:List NI}(ok:HOk P w H h)(e:NK H ks a):(aw6 P w).is h ks a:=by
 obtain⟨B,e,p⟩:=e
 obtain⟨_,its,r,o,G,F,n,h3⟩:=(show ai3 P w H h a (.tup B)from ok a _ e)
 exact⟨o,its.toArray,n,G,F,h3,by simpa using bP1 ok p r⟩
theorem bg3 {B:List (List NI×V)}(ok:HOk P w H h)(e:Rd H a (.dT B)):B.length<=aO/\(a==dt)=false /\
  ∃ F,KT H B F/\h.DictOfH (aw6 P w) a F:=by
 obtain⟨z,y,F,r,o,es,ep,Y,J,h3,Z,G⟩:=(show ai3 P w H h a (.dT B)from bZ8 ok e)
 refine⟨z,y,F,r,o,es,ep,Y,J,h3,Z,λ x hx=>?_,G⟩
 have all:∀ {l:List (List NI×V)} {m:List (List NI×Addr×Value)},KT H l m->∀ x∈m,(aw6 P w).is h x.1 x.2.1:=by
  intro l m q
  induction q with
  | nil=>intro x hx;exact nomatch hx
  | @cons p q ps qs hq t ih =>
   intro x hx
   rcases aI.mp hx with e|hx
   ·subst e
    exact av2 ok (by rw[<-hq.1];exact hq.2.1)
   ·exact ih x hx
 exact all r x hx
theorem ca3 {B:List (List NI×V)}(ok:HOk P w H h)(e:H a=some (.dT B)):B.length<=aO/\(a==dt)=false /\
  ∃ F,KT H B F/\h.DictOfH (aw6 P w) a F:=bg3 ok (.inl e)
end
def aG5 (H:Hp)(a:Addr)(y:V)(r:Option V):Prop :=
 (∃ kvs k,Rd H a (.dK kvs)/\y=kV k/\r=aG8 kvs k)\/∃ kvs k b,Rd H a (.dT kvs)/\y=.ref b/\NK H k b/\r=aG8 kvs k
def bI3 (H:Hp)(a:Addr)(y v:V)(H':Hp):Prop :=
 (∃ kvs k,H a=some (.dK kvs)/\y=kV k/\kvs.length<aO/\H'=upd H a (.dK (aG7 kvs k v))) \/
 ∃ kvs k b,H a=some (.dT kvs)/\y=.ref b/\NK H k b/\kvs.length<aO/\H'=upd H a (.dT (aG7 kvs k v))
theorem aG5.k {H:Hp}{a:Addr}{h:List (Key×V)}{k:Key}(e:H a=some (.dK h)):aG5 H a (kV k) (aG8 h k):=.inl ⟨h,k,.inl e,rfl,rfl⟩
theorem aG5.t {H:Hp}{a b:Addr}{h:List (List NI×V)}{k:List NI}(e:H a=some (.dT h))(eb:NK H k b):aG5 H a (.ref b) (aG8 h k):=.inr ⟨h,k,b,.inl e,rfl,eb,rfl⟩
theorem bI3.k {H:Hp}{a:Addr}{h:List (Key×V)}{k:Key}{v:V}(e:H a=some (.dK h))(hl:h.length<aO):bI3 H a (kV k) v (upd H a (.dK (aG7 h k v))):=.inl ⟨h,k,e,rfl,hl,rfl⟩
theorem bI3.t {H:Hp}{a b:Addr}{h:List (List NI×V)}{k:List NI}{v:V}(e:H a=some (.dT h))(eb:NK H k b)(hl:h.length<aO) :
  bI3 H a (.ref b) v (upd H a (.dT (aG7 h k v))):=.inr ⟨h,k,b,e,rfl,eb,hl,rfl⟩
section
variable {X:Cx} {pins:List (Addr×Obj)} {σ:St} {H:Hp} {s:af} {a:Addr} {y v:V} {u r:Value} {o:Option V} {A:aV} {E:Value->af->Prop}
theorem Inv.big (I:Inv X pins σ H s):dt<s.heap.objs.size:=by
 have h:bn<s.heap.objs.size:=(I.mod.glob.keeps I.bk).lt
 exact d7 (by decide) h
theorem aF5 {Q:Value->af->Prop}(hu:A.units+2<cLine)(I:Inv X pins σ H s)(g:aG5 H a y (some v))(ry:RelV y u)(h:∀ G s',Inv X pins σ H s'->RelV v G->Q G s') :
  wpAny (model X.prog X.w) A (gv (.ref a) u) Q E s:=by
 rcases g with⟨Z,k,e,J,l⟩|⟨Z,k,b,e,J,eb,l⟩
 ·subst J
  obtain⟨z,hd,vs,B,dd⟩:=aV4 I.hok e
  obtain⟨G,hw,F⟩:=aU6.some_of (v:=v) (o:=iz vs k) (by rw[l];exact B.val k)
  exact wpAny_getItem_of (ba4 ry) dd.mapOf hw (h G _ (I.tok _) F)
 ·subst J
  cases(show u=Value.ref b from ry)
  obtain⟨z,hd,xs,B,dd⟩:=bg3 I.hok e
  obtain⟨G,hw,F⟩:=aU6.some_of (v:=v) (o:=(atKey xs k).map (·.2)) (by rw[l];exact B.val k)
  obtain⟨p,hp,Y⟩:=cb.mp hw
  refine wpAny_getItem_heap (show _<_ from hu) (av2 I.hok eb) dd hp ?_
  rw[Y]
  exact h G _ (I.tok _) F
theorem ck7 {Q:Value->af->Prop}(hu:A.units+2<cLine)(I:Inv X pins σ H s)(g:aG5 H a y o)(J:RelV y u)(h:∀ s',Inv X pins σ H s'->Q (.bool o.isSome) s') :
  wpAny (model X.prog X.w) A (dB .In u (.ref a)) Q E s:=by
 rcases g with⟨G,k,e,F,l⟩|⟨G,k,b,e,F,eb,l⟩
 ·subst F
  obtain⟨z,hd,vs,B,dd⟩:=aV4 I.hok e
  refine wpAny_in_of (ba4 J) hd dd.mapOf ?_
  rw[<-(B.val k).isSome_eq,<-l]
  exact h _ (I.tok _)
 ·subst F
  cases(show u=Value.ref b from J)
  obtain⟨z,hd,Y,B,dd⟩:=bg3 I.hok e
  refine wpAny_in_heap (show _<_ from hu) (av2 I.hok eb) hd dd ?_
  have q:=(B.val k).isSome_eq
  rw[fN]at q
  rw[<-q,<-l]
  exact h _ (I.tok _)
theorem aW8 {Q:Value->af->Prop}(hu:A.units+2<cLine)(I:Inv X pins σ H s)(g:aG5 H a y o)(J:RelV y u)(h:∀ s',Inv X pins σ H s'->Q (.bool (!o.isSome)) s') :
  wpAny (model X.prog X.w) A (dB .NotIn u (.ref a)) Q E s:=by
 rcases g with⟨G,k,e,F,l⟩|⟨G,k,b,e,F,eb,l⟩
 ·subst F
  obtain⟨z,hd,vs,B,dd⟩:=aV4 I.hok e
  refine wpAny_notIn_of (ba4 J) hd dd.mapOf ?_
  rw[<-(B.val k).isSome_eq,<-l]
  exact h _ (I.tok _)
 ·subst F
  cases(show u=Value.ref b from J)
  obtain⟨z,hd,Y,B,dd⟩:=bg3 I.hok e
  refine wpAny_notIn_heap (show _<_ from hu) (av2 I.hok eb) hd dd ?_
  have q:=(B.val k).isSome_eq
  rw[fN]at q
  rw[<-q,<-l]
  exact h _ (I.tok _)
theorem aJ6 {h':Heap}{t':Nat}{ob:HO}(I:Inv X pins σ H s)(mu:Mut (H a))(hs:dW a s.heap h')(he:∃ q,h'.get? a=some q)(new:ai3 X.prog X.w (upd H a ob) h' a ob) :
  Inv X pins σ (upd H a ob) { s with heap:=h',toks:=t' } :=
 I.write (x:=a) (e:=a) mu (.inl rfl) (λ b q hb z=>(hs.2 b hb).trans z) he new
theorem bJ8 {P:aH}{w:World}{H':Hp}{h':Heap}{h:List (Key×V)}{vs:List (Key×Value)}(z:h.length<=aO)(hd:(a==dt)=false)(B:KV h vs)(dd:h'.DictOf (zR P w) a vs) :
  ai3 P w H' h' a (.dK h):=⟨z,hd,vs,B,dd⟩
theorem aB5 {H':Hp}{Q:Unit->af->Prop}(hu:A.units+2<cLine)(I:Inv X pins σ H s)(g:bI3 H a y v H')(ry:RelV y u)(rv:RelV v r)(h:∀ s',Inv X pins σ H' s'->Q () s') :
  wpAny (model X.prog X.w) A (setItem (.ref a) u r) Q E s:=by
 rcases g with⟨F,k,e,Y,l,Z⟩|⟨F,k,b,e,Y,eb,l,Z⟩
 ·subst Y Z
  obtain⟨z,hd,vs,B,dd⟩:=cg1 I.hok e
  have hz:vs.length<=aO:=by rw[<-B.length];exact z
  have hl:(aG7 F k v).length<=aO:=by have:=ar1 F k v;omega
  refine wpAny_setItem_pairs (hsz:=hz) (ba4 ry) dd λ h' G hs=>h _ ?_
  have he:∃ q,h'.get? a=some q:=let⟨q,_,_,J,_⟩:=G;⟨q,J⟩
  exact aJ6 I (by rw[e];exact True.intro) hs he (bJ8 hl hd (B.put k rv) G)
 ·subst Y Z
  cases(show u=Value.ref b from ry)
  obtain⟨z,hd,xs,B,dd⟩:=ca3 I.hok e
  have hz:xs.length<=aO:=by rw[<-eP B];exact z
  have hl:(aG7 F k v).length<=aO:=by have:=ar1 F k v;omega
  refine wpAny_setItem_heap (hsz:=hz) (show _<_ from hu) (av2 I.hok eb) dd λ h' G hs=>h _ ?_
  obtain⟨q,es,ep,J,h2,h3,h4,_,h5⟩:=G
  refine aJ6 I (by rw[e];exact True.intro) hs ⟨q,J⟩ ⟨hl,hd,_,(B.put k eb rv).keeps λ c ys ec=>?_,q,es,ep,J,h2,h3,h4,h5⟩
  rw[zm (bY0 ec e (λ z=>nomatch z))]
  exact ec
end
section
variable {X:Cx} {pins:List (Addr×Obj)} {σ:St} {H:Hp} {s:af} {a:Addr} {kvs:List (Key×V)} {k:Key} {u:Value} {A:aV} {E:Value->af->Prop}
end
theorem ar2 {X:Cx}{h:List (Addr×Obj)}{σ:St}{H:Hp}{s:af}{a:Addr}{y:V}{o:Option V}(I:Inv X h σ H s)(g:aG5 H a y o):s.TypeIs (.ref a) "dict":=by
 rcases g with⟨B,k,e,_,_⟩|⟨B,k,b,e,_,_,_⟩
 ·obtain⟨_,_,vs,_,dd⟩:=aV4 I.hok e
  exact dd.typeIs
 ·obtain⟨_,_,F,_,dd⟩:=bg3 I.hok e
  exact dd.typeIs
section
variable {X:Cx} {o i e value:Expr} {pos pos' tpos:Pos} {td ty tv:TE}
end
theorem bo1 {P:aH}{w:World}{H:Hp}(h:Heap)(hb:dt<h.objs.size):ai3 P w H (h.push { cls:=.type "dict",data:=.dict #[] }) h.objs.size (.dT []) :=
 ⟨cN _,beq_eq_false_iff_ne.mpr (cC (aJ hb)),[],.nil,_,#[],0,be _ rfl,⟨rfl,rfl,rfl⟩,rfl,rfl,List.nodup_nil⟩
section
variable {X:Cx} {pos:Pos}
end
noncomputable def br8:List (TE×TE)->St->Hp->(List (V×V)->Hp->Prop)->Prop
 | [],_,H,Q=>Q [] H
 | (tk,tv)::r,σ,H,Q=>tk σ H λ x H1=>tv σ H1 λ y H2=>br8 r σ H2 λ ps H3=>Q ((x,y)::ps) H3
abbrev VV:List (V×V)->List (Value×Value)->Prop:=cR λ p q=>RelV p.1 q.1/\RelV p.2 q.2
def PPs (X:Cx)(pos:Pos)(keys:List (Option Expr))(values:List Expr)(trs:List (TE×TE)):Prop :=
 ∀(pins:List (Addr×Obj)) (s:af) (σ:St) (H:Hp) (Q:List (V×V)->Hp->Prop),Inv X pins σ H s->br8 trs σ H Q ->
  wpAny (model X.prog X.w) X.A (evalPairs (pairTrees keys values X.env pos)) (λ vs s'=>∃ ps H',Inv X pins σ H' s'/\VV ps vs/\Q ps H') X.xe s
theorem bD6 {X:Cx}{pos:Pos}:PPs X pos [] [] []:=λ B s σ H Q I h=>pairTrees_nil_walk ⟨[],H,I,.nil,h⟩
theorem bl6 {X:Cx}{pos:Pos}{k v:Expr}{ks:List (Option Expr)}{vs:List Expr}{tk J:TE}{F:List (TE×TE)}(hk:PE X k tk)(hv:PE X v J)(hr:PPs X pos ks vs F) :
  PPs X pos (some k::ks) (v::vs) ((tk,J)::F):=λ B s σ H Q I h =>
 pairTrees_cons_walk (thn (hk B s σ H _ I h) λ u s1 ⟨x,Z,I1,rx,q1⟩=>thn (hv B s1 σ Z _ I1 q1) λ w2 s2 ⟨y,H2,I2,Y,q2⟩ =>
  thn (hr B s2 σ H2 _ I2 q2) λ ws s3 ⟨ps,H3,I3,G,q3⟩=>⟨(x,y)::ps,H3,I3,.cons ⟨rx,Y⟩ G,q3⟩)
structure M2 (X:Cx)(o:Expr)(m:Str)(apos:Pos)(e f:Expr)(cpos:Pos):Prop where
 base:eQ o m X.env (eval o X.env)=eval o X.env
 few:((dX cpos (bw [e,f] X.env)).all (λ x=>!x.1)&&(backToKw cpos (jK [] X.env)).all (λ x=>x.1.isSome)
  && decide (([e,f]:List Expr).length+([]:List iu).length+(if([]:List iu).isEmpty then 0 else 1)<30))=true
 line:(apos.endLine==cpos.line)=true
 trees:dX cpos (bw [e,f] X.env)=[(false,eval e X.env),(false,eval f X.env)]
section
variable {X:Cx} {pins:List (Addr×Obj)} {σ:St} {H:Hp} {s:af} {a:Addr} {y d:V} {u r:Value} {o:Option V} {A:aV} {E:Value->af->Prop}
end
section
variable {X:Cx} {o e f:Expr} {apos cpos:Pos} {td ty tx:TE}
end
section
variable {P:aH} {w:World} {A:aV} {E:Value->af->Prop} {s:af}
end
section
variable {X:Cx} {pins:List (Addr×Obj)} {σ:St} {H:Hp} {s:af}
end
section
variable {prog:aH} {w:World} {A:aV} {R:j1->af->Prop} {I:Addr} {fp wr:List Addr} {n:Nat} {P:Nat->Value->Prop} {St:Nat->Heap->Prop} {kw:List (Str×Value)}
end
def XAt (h:Heap)(x C:Addr):Prop:=∃ ox,h.get? x=some ox/\ox.cls=Value.ref C
theorem XAt.type {M:Model}{h:Heap}{x C:Addr}(I:XAt h x C):PySem.W.Looks M h (kE (Value.ref x)) (Value.ref C):=by
 obtain⟨G,F,B⟩:=I
 exact B▸kK (kX F) kW
noncomputable def zu (h:Heap)(l:List Addr):Heap:={ h with objs:=h.objs.mapIdx λ i o=>if i∈l then { o with data:=.freed } else o }
theorem zp {h:Heap}{l:List Addr}{b:Addr}(hb:b∈l):(zu h l).get? b=none:=by
 unfold Heap.get? zu
 simp only[gY]
 cases e:h.objs[b]? with
 | none=>rfl
 | some o=>simp only[ak,if_pos hb]
theorem qy {h:Heap}{l:List Addr}{b:Addr}(hb:b ∉ l):(zu h l).get? b=h.get? b:=by
 unfold Heap.get? zu
 simp only[gY]
 cases e:h.objs[b]? with
 | none=>rfl
 | some o=>simp only[ak,if_neg hb]
theorem zV {h:Heap}{l:List Addr}:(zu h l).StaysIn h:=λ b o e=>by
 by_cases hb:b∈l
 ·rw[zp hb]at e;cases e
 ·rwa [qy hb]at e
theorem without_none {h:Heap}{l:List Addr}{b:Addr}(e:(zu h l).get? b=none):b∈l\/h.get? b=none:=by
 by_cases hb:b∈l
 ·exact .inl hb
 ·rw[qy hb]at e;exact .inr e
theorem aq7 {h base B:Heap}:∀ {l:List Env},h.FunFrames base l->(∀ b∈frs l,B.get? b=none)->h.FunFrames B l
 | [],_,_=>True.intro
 | env::l,⟨k,⟨L,o,hf,_,ho,hd⟩,r⟩,hb=>by
  have hm:frs (env::l)=L::frs l:=by unfold frs;rw[aY,hf]
  rw[hm]at hb
  exact⟨k,⟨L,o,hf,hb L (aD ..),ho,hd⟩,aq7 r λ b z=>hb b (ao _ z)⟩
theorem HOk.part {P:aH}{w:World}{H:Hp}{h h':Heap}(x:HOk P w H h)(k:∀ b u o,H b=some u->h.get? b=some o->h'.get? b=some o):HOk P w H h':=λ a o e =>
 (x a o e).stay (λ b u hb q=>by
  rcases hb with rfl|hb
  ·exact k _ _ _ e q
  ·exact k _ _ _ hb q) (λ _ q=>q) λ _ _ q=>q
theorem ai3.at_ {P:aH}{w:World}{H:Hp}{h:Heap}{a:Addr}{o:HO}(x:ai3 P w H h a o):∃ u,h.get? a=some u:=by
 cases o with
 | lst xs=>obtain⟨_,_,_,_,e⟩:=x;exact⟨_,e⟩
 | tup xs=>obtain⟨_,_,_,ob,e,_⟩:=x;exact⟨_,e⟩
 | dK kvs=>obtain⟨_,_,_,_,o,_,_,e,_⟩:=x;exact⟨_,e⟩
 | dT kvs=>obtain⟨_,_,_,_,o,_,_,e,_⟩:=x;exact⟨_,e⟩
 | set S n=>obtain⟨o,_,_,_,e,_⟩:=x;exact⟨_,e⟩
 | ins C dx fs=>obtain⟨_,_,_,e,_⟩:=x;exact⟨_,e⟩
 | own y=>exact x
 | xd fs=>obtain⟨_,⟨_,_,_,e,_⟩,_⟩:=x;exact⟨_,e⟩
 | rng lo hi=>obtain⟨_,_,_,e⟩:=x;exact⟨_,e⟩
 | frz ob u=>obtain⟨e,_⟩:=x;exact⟨_,e⟩
 | tbl ps=>exact⟨_,(show h.get? a=some _ from x)⟩
 | met f y=>exact⟨_,(show h.get? a=some _ from x)⟩
 | ext φ=>obtain⟨_,e,_⟩:=x;exact e
structure Fly (h0:Heap)(H:Hp)(h:Heap)(a C:Addr):Prop where
 new:h0.get? a=none
 free:H a=none
 at_:∃ a0 oe vs T oT ts,h.get? a=some oe/\(oe.cls=.ref C/\vs[0]?=some a0)/\oe.data=.fields vs/\vs[1]?=some (.ref T)/\h0.get? T=none/\H T=none/\T≠a/\h.get? T=some oT/\oT.data=.fields ts/\ts[3]?=some .none
section
variable {X:Cx} {pins:List (Addr×Obj)} {σ:St} {H:Hp} {s:af} {a C:Addr} {a0:Value}
theorem bg7 (I:Inv X pins σ H s)(F:X.ex=[]){bs:List Addr}(a1:∀ b∈frs X.stack,b∈bs)(hb:∀ b∈bs,b∈frs X.stack\/(X.s₀.heap.get? b=none/\H b=none))(n0:X.s₀.heap.get? a=none)(nH:H a=none)(h:∀ b∈X.fs,b∈frs X.stack)
  {h':Heap} (L:Heap.LeftW (zu s.heap bs) X.stack a (.ref C) a0 s.heap h'):Un X.fs [] X.H₀ H X.s₀.heap h'/\HOk X.prog X.w H h'/\Fly X.s₀.heap H h' a C:=by
 obtain⟨st,ff,tr,sl⟩:=L
 have un:=I.base
 rw[F]at un
 have keep:∀ b o,b ∉ bs->s.heap.get? b=some o->h'.get? b=some o:=λ b o n e=>st b o (by rw[qy n];exact e)
 have slot:∀ b o,b∈frs X.stack->s.heap.get? b=some o->∃ sl,h'.get? b=some { o with slots:=sl }:=λ b o n e=>by
  obtain⟨_,Y,e',d⟩:=I.stack.mem n
  rw[e]at e';cases e'
  exact sl b o e d
 have out:∀ b o,X.s₀.heap.get? b=some o->b ∉ frs X.stack->b ∉ bs:=λ b o e n z=>by
  rcases hb b z with q|⟨q,_⟩
  ·exact n q
  ·rw[e]at q;cases q
 have G:∀ b o,X.s₀.heap.get? b=some o->b ∉ X.fs->b ∉ frs X.stack:=λ b o e n z=>by
  rcases aI.mp (I.stkSub b z)with q|q
  ·subst q
   exact absurd (aM e) (j6.mpr I.ok.above)
  ·exact n q
 refine⟨⟨λ b o e n B nx=>?_,λ b o e n B nx=>?_,un.free,λ b o e nx=>?_,un.tups,un.frzs,un.tbls⟩,I.hok.part λ b u o e q=>?_,⟨n0,nH,?_⟩⟩
 ·exact keep b o (out b o e (G b o e B)) (un.keep b o e n B nx)
 ·obtain⟨a2,e1⟩:=un.slot b o e n B nx
  obtain⟨J,e2⟩:=slot b _ (h b B) e1
  exact⟨J,e2⟩
 ·obtain⟨o1,e1⟩:=un.there b o e nx
  by_cases z:b∈frs X.stack
  ·obtain⟨_,e2⟩:=slot b _ z e1
   exact⟨_,e2⟩
  ·exact⟨_,keep b o1 (out b o e z) e1⟩
 ·refine keep b o (λ z=>?_) q
  rcases hb b z with y|⟨_,y⟩
  ·rw[I.stkFree b y]at e;cases e
  ·rw[y]at e;cases e
 ·obtain⟨oe,vs,T,oT,ts,h1,h2,h3,h4,h5,h6,h7,Z,h9⟩:=tr
  have key:X.s₀.heap.get? T=none/\H T=none:=by
   rcases without_none h5 with z|z
   ·rcases hb T z with y|y
    ·obtain⟨_,Y,e',d⟩:=ff.mem y
     rw[h7]at e';cases e'
     exact absurd Z (d _)
    ·exact y
   ·refine⟨?_,?_⟩
    ·cases e:X.s₀.heap.get? T with
     | none=>rfl
     | some o=>obtain⟨Y,e'⟩:=un.there T o e (by simp);rw[z]at e';cases e'
    ·cases e:H T with
     | none=>rfl
     | some o=>obtain⟨u,e'⟩:=(I.hok T o e).at_;rw[z]at e';cases e'
  exact⟨a0,oe,vs,T,oT,ts,h1,h2,h3,h4,key.1,key.2,h6,h7,Z,h9⟩
theorem bg8 {Z:Obj}{vs:Array Value}(I:Inv X pins σ H s)(Y:X.ex=[])(h:X.stack=X.env::X.outer)(G:X.env.frame=some X.env.locals)(n0:X.s₀.heap.get? a=none)(nH:H a=none)
  (h1:s.heap.get? a=some Z) (h2:Z.cls=.ref C) (h3:Z.data=.fields vs) (h4:vs[1]?=some .none) (h5:vs[0]?=some a0) {Q:Unit->af->Prop} {E:Value->af->Prop}
  (k:∀ h',Un X.fs [] X.H₀ H X.s₀.heap h'->HOk X.prog X.w H h'->Fly X.s₀.heap H h' a C->Q () { s with heap:=h' }):wpAny (model X.prog X.w) X.A (leaving X.env (.ref a)) Q E s:=by
 have J:s.heap.FunFrames (zu s.heap (a::frs X.stack)) X.stack:=aq7 I.stack λ b hb=>zp (ao _ hb)
 have B:∀ b∈X.fs,b∈frs X.stack:=λ b hb=>by rw[h];unfold frs;rw[aY,G];exact ao _ hb
 have F:=I.ok.frames
 rw[h]at F
 refine wpAny_leaving_firstW (base:=zu s.heap (a::frs X.stack)) F (by rw[<-h];exact J) G h1 zV (zp (aD ..)) h3 h4 h5 λ h' L=>?_
 rw[h2,<-h]at L
 obtain⟨u,o,f⟩:=bg7 I Y (λ b hb=>ao _ hb) (λ b hb=>by
  rcases aI.mp hb with q|q
  ·subst q;exact .inr ⟨n0,nH⟩
  ·exact .inl q) n0 nH B L
 exact k h' u o f
theorem aV2 (I:Inv X pins σ H s)(Z:X.ex=[])(h:X.stack=X.env::X.outer)(J:X.env.frame=some X.env.locals)(F:Fly X.s₀.heap H s.heap a C){Q:Unit->af->Prop}{E:Value->af->Prop}
  (k:∀ h',Un X.fs [] X.H₀ H X.s₀.heap h'->HOk X.prog X.w H h'->Fly X.s₀.heap H h' a C->Q () { s with heap:=h' }):wpAny (model X.prog X.w) X.A (leaving X.env (.ref a)) Q E s:=by
 obtain⟨n0,nH,a0,oe,vs,T,oT,ts,h1,h2,h3,h4,h5,h6,h7,h8,h9,a1⟩:=F
 have Y:s.heap.FunFrames (zu s.heap (a::T::frs X.stack)) X.stack:=aq7 I.stack λ b hb=>zp (ao _ (ao _ hb))
 have B:∀ b∈X.fs,b∈frs X.stack:=λ b hb=>by rw[h];unfold frs;rw[aY,J];exact ao _ hb
 have G:=I.ok.frames
 rw[h]at G
 refine wpAny_leaving_nextW (base:=zu s.heap (a::T::frs X.stack)) G (by rw[<-h];exact Y) J ⟨oe,vs,T,oT,ts,h1,h2,h3,h4,zp (by simp),h7,h8,h9,a1⟩ zV (zp (aD ..)) λ h' L=>?_
 rw[<-h]at L
 obtain⟨u,o,f⟩:=bg7 I Z (λ b hb=>ao _ (ao _ hb)) (λ b hb=>by
  rcases aI.mp hb with q|q
  ·subst q;exact .inr ⟨n0,nH⟩
  ·rcases aI.mp q with q|q
   ·subst q;exact .inr ⟨h5,h6⟩
   ·exact .inl q) n0 nH B L
 exact k h' u o f
end
noncomputable def CX1 (P:aH)(w:World):CXT:=λ outer H s E e s'=>∃ a C H',e=.ref a/\s'.os=s.os/\fc s'.gens/\Un (frs outer) [] H H' s.heap s'.heap/\HOk P w H' s'.heap/\Fly s.heap H' s'.heap a C/\E e (some C) H'
theorem CX1.inv {X:Cx}{B:List (Addr×Obj)}{σ:St}{H:Hp}{s s':af}{E:XK}{e:Value}(I:Inv X B σ H s)(J:X.ex=[])(h:CX1 X.prog X.w X.stack H s E e s') :
  ∃ a C H',e=.ref a/\Inv X B σ H' s'/\Fly X.s₀.heap H' s'.heap a C/\E e (some C) H':=by
 obtain⟨a,C,H',rfl,os,bare,un,hok,F,q⟩:=h
 have G:∀ b,s.heap.get? b=none->X.s₀.heap.get? b=none:=λ b z=>by
  cases e:X.s₀.heap.get? b with
  | none=>rfl
  | some o=>obtain⟨o',e'⟩:=I.base.there b o e (by rw[J];simp);rw[z]at e';cases e'
 obtain⟨n0,nH,a0,oe,vs,T,Y,ts,h1,h2,h3,Z,h5,h6,h7⟩:=F
 exact⟨a,C,H',rfl,I.call' os un hok bare (ch:=[]) (λ b z=>absurd z (by simp)),⟨G _ n0,nH,a0,oe,vs,T,Y,ts,h1,h2,h3,Z,G _ h5,h6,h7⟩,q⟩
section
variable {P:aH} {w:World} {K:ac} {mg:Str->Option Value} {base:Heap} {N:List Str} {qual:Str} {scope:Scope} {f:Addr} {cd:Value} {A:aV} {outer:List Env} {s0:af} {H0:Hp} {E:XK}
theorem ci1:al9 (CX1 P w) (au5 (CX1 P w) P w K mg base N qual scope f cd A outer s0 H0 E) E:=by
 intro B σ H s e s' I h
 obtain⟨a,C,H',rfl,J,F,q⟩:=CX1.inv I rfl h
 exact aV2 J rfl rfl rfl F λ h' u o G=>⟨a,C,H',rfl,J.os,J.bare,u,o,G,q⟩
def aS4 (X:Cx)(E:XK):Prop:=∀(pins:List (Addr×Obj)) (σ:St) (H:Hp) (s:af) (h':Heap) (a C:Addr) (args:List Value),Inv X pins σ H s->Heap.MadeExcOf s.heap h' a (.ref C) args->E (.ref a) (some C) H->X.xe (.ref a) { s with heap:=h' }
theorem cd4:aS4 (au5 (CX1 P w) P w K mg base N qual scope f cd A outer s0 H0 E) E:=by
 intro h σ H s h' a C args I M q
 have J:Inv (au5 (CX1 P w) P w K mg base N qual scope f cd A outer s0 H0 E) h σ H { s with heap:=h' }:=I.kept (t':=s.toks) M.keeps
 obtain⟨t,B,_⟩:=M.there
 refine bg8 (a0:=.ref t) J rfl rfl rfl ?_ ?_ B rfl rfl rfl rfl λ Y u o F=>⟨a,C,H,rfl,J.os,J.bare,u,o,F,q⟩
 ·show s0.heap.get? a=none
  cases e:s0.heap.get? a with
  | none=>rfl
  | some o =>
   obtain⟨G,e'⟩:=I.base.there a o e (by show a ∉ ([]:List Addr);simp)
   rw[M.new]at e';cases e'
 ·cases e:H a with
  | none=>rfl
  | some o =>
   obtain⟨u,e'⟩:=(I.hok a o e).at_
   rw[M.new]at e';cases e'
end
noncomputable def excTail:List Value:=[.type "ValueError",.type "Exception",.type "BaseException",.type "object"]
noncomputable def nsQ (K:ac)(N:Addr):Bool:=match K.lookup N with
 | some ⟨_,_,.dict es _,_⟩=>(es.all λ e=>match e.key with|.str _ _=>true|_=>false)&&j8.all λ n=>(nsFind es n).isNone
 | _=>false
noncomputable def bq1 (K:ac):List Value->Bool
 | .ref A::tl=>(match K.lookup A with|some ⟨_,_,.cls cd,_⟩=>nsQ K cd.ns|_=>false)&&bq1 K tl
 | l=>l==excTail
noncomputable def cf1 (K:ac)(C:Addr):Bool:=match K.lookup C with
 | some ⟨c,_,.cls cd,⟨[_,_,_,_,k4,_]⟩⟩=>c==.type "type"&&(!cd.hasDel&&(nsQ K cd.ns&&((match cd.mro with|m::tl=>m==.ref C&&bq1 K tl|[]=>false)&&k4==some (.builtin "ValueError.__new__"))))
 | _=>false
theorem bq7 {K:ac}{N:Addr}(h:nsQ K N=true):∃ B:Str->Option Value,(∀ n∈j8,B n=none)/\∀ h:Heap,K.In h->h.Ns N B:=by
 unfold nsQ at h
 split at h
 ·rename_i c d es ep sl e
  rw[aj]at h
  refine⟨nsFind es,λ n hn=>?_,λ hp hK=>⟨_,es,ep,hK _ _ e,rfl,λ x hx=>?_,λ _=>rfl⟩⟩
  ·have:=aU.mp h.2 n hn
   exact Option.isNone_iff_eq_none.mp this
  ·have:=Array.all_eq_true'.mp h.1 x hx
   split at this
   ·rename_i q;exact⟨_,_,q⟩
   ·cases this
 ·cases h
theorem aN9 {K:ac}:∀ {l:List Value},bq1 K l=true->∀ h:Heap,K.In h->OwnTailQ h excTail l
 | l,h,hp,hK=>by
  unfold bq1 at h
  split at h
  ·rename_i A Y
   rw[aj]at h
   obtain⟨B,F⟩:=h
   split at B
   ·rename_i c d J sl e
    obtain⟨G,q,n⟩:=bq7 B
    exact .own (hK _ _ e) (n hp hK) q (aN9 F hp hK)
   ·cases B
  ·have:=eq_of_beq h
   subst this
   exact .base
structure ExcCls (K:ac)(C:Addr):Prop where
 obj:∃ bm N nm q bs hdct sn sub ab col dd k0 k1 k2 k3 k5 mN,K.lookup C=some (excClassObj nm q C N bs bm hdct sn sub ab col dd k0 k1 k2 k3 k5 "ValueError.__new__")/\(∀ n∈j8,mN n=none)/\∀ h:Heap,K.In h->h.Ns N mN/\OwnTailQ h excTail bm
theorem bB0 {K:ac}{C:Addr}(h:cf1 K C=true):ExcCls K C:=by
 unfold cf1 at h
 split at h
 ·rename_i c dd Y k0 k1 k2 k3 k4 k5 e
  obtain⟨nm,bs,a0,N,q,hdct,sn,sub,ab,col,G⟩:=Y
  simp only[aj,d9]at h
  obtain⟨h1,F,h3,B,Z⟩:=h
  split at B
  ·rename_i m tl
   rw[aj]at B
   have e1:=eq_of_beq h1
   have J:=eq_of_beq Z
   have e4:=eq_of_beq B.1
   subst e1 J e4
   have F:G=false:=F
   subst F
   obtain⟨mN,q',n⟩:=bq7 h3
   exact⟨tl,N,nm,q,bs,hdct,sn,sub,ab,col,dd,k0,k1,k2,k3,k5,mN,e,q',λ hp hK=>⟨n hp hK,aN9 B.2 hp hK⟩⟩
  ·cases B
 ·cases h
noncomputable def excI (K:ac)(C:Addr):Bool:=du K (.ref C) (bH "__getattribute__")==some (some (.builtin "BaseException.__getattribute__"))&&(du K (.ref C) (bH "__getattr__")==some none&&(du K (.ref C) (bH "__class__")==some (some (.builtin "object.__class__"))&&(jh K (.builtin "object.__class__") (bH "__get__")==some (some (.builtin "getset_descriptor.__get__"))&&(jP K (.builtin "object.__class__")==some true&&km K C (.type "object")==some true))))
section
variable {X:Cx} {E:XK} {C:Addr} {x:Str}
theorem bl4 {np B pos p:Pos}{y:Str}{j:Nat}(T:aS4 X E)(hc:ExcCls X.K C)(hg:Gl X x)(hm:X.mg x=some (.ref C))(hh:X.A.handled=none)(hd:(x==("__debug__":Str))=false) :
  PS X (.Raise (some (.Call (.Name x np) [.Constant (.str y) j p] [] B)) none pos) (λ D σ H=>∀ a,E (.ref a) (some C) H):=by
 intro h s σ H D I q
 obtain⟨bm,N,nm,q',bs,hdct,sn,sub,ab,col,dd,k0,k1,k2,k3,k5,mN,e,Z,hN⟩:=hc.obj
 have J:=hN _ I.kIn
 refine wpAny_Raise_call_subT (nm:=nm) (q:=q') (C:=C) (N:=N) (bs:=bs) (hdct:=hdct) (sn:=sn) (sub:=sub) (ab:=ab) (col:=col) (dd:=dd) (k0:=k0) (k1:=k1) (k2:=k2) (k3:=k3) (k5:=k5) io (OwnTail.hasType J.2.tail io.hasBase) hh rfl (Z _ (aD ..)) ?_
 refine thn (aI7 (v:=.ref C) hg hm rfl hd h s σ H (λ v F=>v=.ref C/\F=H) I ⟨rfl,rfl⟩) λ u s1 ⟨v,F,I1,r,e1,e2⟩=>?_
 subst e1 e2
 refine⟨r,ic ?_⟩
 have pa:PA X [.Constant (.str y) j p] (at9 (tC (.str y)) bh7):=zQ br9 aj9
 refine thn (pa B h s1 σ F (λ vs Y=>vs.length=1/\Y=F) I1 ⟨rfl,rfl⟩) λ us s2 ⟨vs,Y,G,r2,e3,e4⟩=>?_
 subst e4
 have hl:us.length=1:=by rw[<-r2.length];exact e3
 refine⟨rfl,by show us.length<=_;rw[hl];decide,G.kIn _ _ e,(hN _ G.kIn).1,(hN _ G.kIn).2.tail,λ h' a M=>?_⟩
 exact T h σ Y s2 h' a C us G M (q a)
end
structure Tr (X:Cx)(pins:List (Addr×Obj))(σ:St)(H:Hp)(s:af)(a C:Addr)(fl:Value):Prop where
 inv:Inv X pins σ H s
 n0:X.s₀.heap.get? a=none
 nH:H a=none
 np:∀ p∈X.pn++pins,p.1≠a
 tr:∃ a0 oe vs T oT ts,s.heap.get? a=some oe/\(oe.cls=.ref C/\vs[0]?=some a0)/\oe.data=.fields vs/\vs[1]?=some (.ref T)/\X.s₀.heap.get? T=none/\H T=none/\(∀ p∈X.pn++pins,p.1≠T)/\T≠a/\s.heap.get? T=some oT/\oT.data=.fields ts/\ts[3]?=some fl
section
variable {X:Cx} {pins:List (Addr×Obj)} {σ:St} {H:Hp} {s:af} {a C T:Addr} {fl fl' a0:Value} {h':Heap}
theorem Tr.stk (h:X.stack=X.env::X.outer)(B:X.env.frame=some X.env.locals):∀ b∈X.fs,b∈frs X.stack:=λ b hb=>by rw[h];unfold frs;rw[aY,B];exact ao _ hb
theorem Tr.moved (t:Tr X pins σ H s a C fl)(J:X.ex=[])(b4:X.stack=X.env::X.outer)(b5:X.env.frame=some X.env.locals){oT:Obj}{ts:Array Value}(Z:X.s₀.heap.get? T=none)(G:H T=none)(a1:∀ p∈X.pn++pins,p.1≠T)(b3:s.heap.get? T=some oT)(c0:oT.data=.fields ts)
  (st:(zu s.heap (a::T::frs X.stack)).StaysIn h') (ff:h'.FunFrames (zu s.heap (a::T::frs X.stack)) X.stack) (tr:h'.TracedAtW (zu s.heap (a::T::frs X.stack)) a (.ref C) a0 fl')
  (sl:∀ b o,s.heap.get? b=some o->(∀ vs,o.data≠.fields vs)->∃ sl,h'.get? b=some { o with slots:=sl }):Tr X pins σ H { s with heap:=h' } a C fl':=by
 have I:=t.inv
 have un:=I.base
 rw[J]at un
 have Y:=Tr.stk b4 b5
 obtain⟨b0,oe,vs,_,_,_,g1,_,g3,_⟩:=t.tr
 have a2:∀ b,b∈a::T::frs X.stack->b=a\/b=T\/b∈frs X.stack:=λ b hb=>by
  rcases aI.mp hb with q|q
  ·exact .inl q
  ·exact .inr (aI.mp q)
 have keep:∀ b o,b≠a->b≠T->b ∉ frs X.stack->s.heap.get? b=some o->h'.get? b=some o:=λ b o n1 n2 n3 e=>st b o (by
  rw[qy λ z=>(a2 b z).elim n1 λ z=>z.elim n2 n3];exact e)
 have slot:∀ b o,b∈frs X.stack->s.heap.get? b=some o->∃ sl,h'.get? b=some { o with slots:=sl }:=λ b o n e=>by
  obtain⟨_,o',e',d⟩:=I.stack.mem n
  rw[e]at e';cases e'
  exact sl b o e d
 have b2:∀ b o,X.s₀.heap.get? b=some o->b ∉ X.fs->b ∉ frs X.stack:=λ b o e n z=>by
  rcases aI.mp (I.stkSub b z)with q|q
  ·subst q
   exact absurd (aM e) (j6.mpr I.ok.above)
  ·exact n q
 have B:∀ b o,X.s₀.heap.get? b=some o->b≠a/\b≠T:=λ b o e=>⟨λ z=>(by rw[z,t.n0]at e;cases e),λ z=>(by rw[z,Z]at e;cases e)⟩
 have c1:∀ b o,s.heap.get? b=some o->(∀ vs,o.data≠.fields vs)->b≠a/\b≠T:=λ b o e d=>⟨λ z=>(by rw[z,g1]at e;cases e;exact d _ g3),λ z=>(by rw[z,b3]at e;cases e;exact d _ c0)⟩
 have up:∀ b o,s.heap.get? b=some o->(∀ vs,o.data≠.fields vs)->∃ sl,h'.get? b=some { o with slots:=sl }:=sl
 have a3:Inv X pins σ H { s with heap:=h' }:=by
  refine⟨I.ok,I.os,I.bare,?_,?_,λ x c e=>?_,I.free,I.freeC,λ p hp=>?_,I.hok.part λ b u o e q=>?_,I.len⟩
  ·rw[J]
   refine⟨λ b o e n nf nx=>?_,λ b o e n nf nx=>?_,un.free,λ b o e nx=>?_,un.tups,un.frzs,un.tbls⟩
   ·exact keep b o (B b o e).1 (B b o e).2 (b2 b o e nf) (un.keep b o e n nf nx)
   ·obtain⟨b1,e1⟩:=un.slot b o e n nf nx
    obtain⟨F,e2⟩:=slot b _ (Y b nf) e1
    exact⟨F,e2⟩
   ·obtain⟨o1,e1⟩:=un.there b o e nx
    by_cases z:b∈frs X.stack
    ·obtain⟨_,e2⟩:=slot b _ z e1
     exact⟨_,e2⟩
    ·exact⟨_,keep b o1 (B b o e).1 (B b o e).2 z e1⟩
  ·obtain⟨m,⟨o,es,ep,ho,hd,hr⟩,hl⟩:=I.loc
   obtain⟨b1,e1⟩:=up _ o ho (λ vs z=>by rw[hd]at z;cases z)
   refine⟨m,⟨_,es,ep,e1,hd,hr⟩,λ i x v h1 h2 h3=>?_⟩
   obtain⟨u,r,lk⟩:=hl i x v h1 h2 h3
   refine⟨u,r,?_⟩
   rcases lk with z|⟨z1,c,z2,oc,z3,z4⟩
   ·exact .inl z
   ·obtain⟨F,e2⟩:=up c oc z3 (λ vs z=>by rw[z4]at z;cases z)
    exact .inr ⟨z1,c,z2,_,e2,z4⟩
  ·obtain⟨v,oc,z3,z4⟩:=I.cell x c e
   obtain⟨F,e2⟩:=up c oc z3 (λ vs z=>by rw[z4]at z;cases z)
   exact⟨v,_,e2,z4⟩
  ·obtain⟨q1,q2,q3,q4,q5⟩:=I.pin p hp
   refine⟨keep _ _ (t.np p hp) (a1 p hp) (λ z=>?_) q1,q2,q3,q4,q5⟩
   rcases aI.mp (I.stkSub _ z)with q|q
   ·exact q3 q
   ·exact q4 q
  ·refine keep b o (λ z=>?_) (λ z=>?_) (λ z=>?_) q
   ·rw[z,t.nH]at e;cases e
   ·rw[z,G]at e;cases e
   ·rw[I.stkFree b z]at e;cases e
 refine⟨a3,t.n0,t.nH,t.np,?_⟩
 obtain⟨a6,a5,h,a4,b6,h1,h2,h3,h4,h5,h6,h7,h8,h9⟩:=tr
 have key:X.s₀.heap.get? h=none/\H h=none/\∀ p∈X.pn++pins,p.1≠h:=by
  rcases without_none h5 with z|z
  ·rcases a2 h z with y|y|y
   ·exact absurd y h6
   ·subst y;exact⟨Z,G,a1⟩
   ·obtain⟨_,o',e',d⟩:=ff.mem y
    rw[h7]at e';cases e'
    exact absurd h8 (d _)
  ·refine⟨?_,?_,λ p hp y=>?_⟩
   ·cases e:X.s₀.heap.get? h with
    | none=>rfl
    | some o=>obtain⟨o',e'⟩:=un.there h o e (by simp);rw[z]at e';cases e'
   ·cases e:H h with
    | none=>rfl
    | some o=>obtain⟨u,e'⟩:=(I.hok h o e).at_;rw[z]at e';cases e'
   ·have:=(I.pin p hp).1
    rw[y,z]at this;cases this
 exact⟨a0,a6,a5,h,a4,b6,h1,h2,h3,h4,key.1,key.2.1,key.2.2,h6,h7,h8,h9⟩
theorem Tr.noted (t:Tr X pins σ H s a C .none)(J:X.ex=[])(h:X.stack=X.env::X.outer)(F:X.env.frame=some X.env.locals){Q:Unit->af->Prop}{E:Value->af->Prop}
  (k:∀ h' fl,Tr X pins σ H { s with heap:=h' } a C fl->Q () { s with heap:=h' }):wpAny (model X.prog X.w) X.A (jD (.ref a) X.env) Q E s:=by
 have I:=t.inv
 obtain⟨a0,oe,vs,T,oT,ts,h1,h2,h3,h4,h5,h6,Y,h7,h8,h9,Z⟩:=t.tr
 have G:s.heap.FunFrames (zu s.heap (a::T::frs X.stack)) X.stack:=aq7 I.stack λ b hb=>zp (ao _ (ao _ hb))
 have B:=I.ok.frames
 rw[h]at B
 refine wpAny_noteFrame_onW (base:=zu s.heap (a::T::frs X.stack)) B (by rw[<-h];exact G) F ⟨oe,vs,T,oT,ts,h1,h2,h3,h4,zp (by simp),h7,h8,h9,Z⟩ zV (zp (aD ..)) λ h' L=>?_
 rw[<-h]at L
 obtain⟨st,ff,tr,sl⟩:=L
 exact k h' _ (t.moved J h F h5 h6 Y h8 h9 st ff tr sl)
theorem Tr.down (t:Tr X pins σ H s a C fl)(B:X.ex=[])(F:X.stack=X.env::X.outer)(J:X.env.frame=some X.env.locals){A:aV}{Q:Unit->af->Prop}{E:Value->af->Prop}
  (k:∀ h',Tr X pins σ H { s with heap:=h' } a C .none->Q () { s with heap:=h' }):wpAny (model X.prog X.w) A (kx (.ref a) none) Q E s:=by
 have I:=t.inv
 obtain⟨a0,oe,vs,T,oT,ts,h1,h2,h3,h4,h5,h6,G,h7,h8,Z,Y⟩:=t.tr
 have h:s.heap.FunFrames (zu s.heap (a::T::frs X.stack)) X.stack:=aq7 I.stack λ b hb=>zp (ao _ (ao _ hb))
 refine wpAny_setFlight_noneW (base:=zu s.heap (a::T::frs X.stack)) zV h ⟨oe,vs,T,oT,ts,h1,h2,h3,h4,zp (by simp),h7,h8,Z,Y⟩ λ h' st ff tr sl=>?_
 exact k h' (t.moved B F J h5 h6 G h8 Z st ff tr.at λ b o e d=>⟨o.slots,sl b o e d⟩)
theorem CX1.tr {s':af}{E:XK}{e:Value}(I:Inv X pins σ H s)(B:X.ex=[])(h:CX1 X.prog X.w X.stack H s E e s') :
  ∃ a C H',e=.ref a/\Tr X pins σ H' s' a C .none/\E e (some C) H':=by
 have h0:=h
 obtain⟨a,C,H',rfl,os,bare,un,hok,F,q⟩:=h
 obtain⟨a',C',a1,e,J,G,q'⟩:=CX1.inv I B h0
 have Y:∀ b,s.heap.get? b=none->X.s₀.heap.get? b=none:=λ b z=>by
  cases e:X.s₀.heap.get? b with
  | none=>rfl
  | some o=>obtain⟨o',e'⟩:=I.base.there b o e (by rw[B];simp);rw[z]at e';cases e'
 have pn:∀ b,s.heap.get? b=none->∀ p∈X.pn++pins,p.1≠b:=λ b z p hp y=>by
  have:=(I.pin p hp).1
  rw[y,z]at this;cases this
 obtain⟨n0,nH,a0,oe,vs,T,oT,ts,h1,h2,h3,h4,Z,h6,h7⟩:=F
 exact⟨a,C,H',rfl,⟨I.call' os un hok bare (ch:=[]) (λ b z=>absurd z (by simp)),Y _ n0,nH,pn _ n0,a0,oe,vs,T,oT,ts,h1,h2,h3,h4,Y _ Z,h6,pn _ Z,h7⟩,q⟩
end
noncomputable abbrev Cx.hnd (X:Cx)(a:Addr)(oe:Obj):Cx:={ X with A:=X.A.mark (some (.ref a)),calm:=false,pn:=(a,oe)::X.pn,xe:=λ _ _=>False }
section
variable {X:Cx} {pins:List (Addr×Obj)} {σ:St} {H:Hp} {s:af} {a C:Addr} {oe:Obj} {fl:Value}
theorem Cx.Ok.hnd (ok:X.Ok)(a:Addr)(h:Obj):(X.hnd a h).Ok:=⟨ok.mod,ok.kind,ok.glob,ok.blt,ok.above,ok.inj,ok.has,ok.cab,(λ z=>by cases z),ok.frames,ok.stk,ok.exf,ok.bs,ok.bsz,ok.noex,ok.exfs,ok.funs,ok.frf⟩
theorem Inv.apart (I:Inv X pins σ H s){b:Addr}{o:Obj}{vs:Array Value}(e:s.heap.get? b=some o)(d:o.data=.fields vs):b≠X.env.locals/\b ∉ X.fs/\∀ v,o.data≠.cell v:=by
 refine⟨λ z=>?_,λ z=>?_,λ v z=>by rw[d]at z;cases z⟩
 ·obtain⟨m,⟨h,es,ep,ho,hd,_⟩,_⟩:=I.loc
  rw[<-z,e]at ho;cases ho
  rw[d]at hd;cases hd
 ·obtain⟨_,h,e',d'⟩:=I.funs.mem z
  rw[e]at e';cases e'
  exact d' _ d
theorem Inv.hnd {vs:Array Value}(I:Inv X pins σ H s)(e:s.heap.get? a=some oe)(n:H a=none)(d:oe.data=.fields vs):Inv (X.hnd a oe) pins σ H s :=
 ⟨I.ok.hnd a oe,I.os,I.bare,I.base,I.loc,I.cell,I.free,I.freeC,λ p hp=>by
  rcases aI.mp hp with z|z
  ·subst z;exact⟨e,n,I.apart e d⟩
  ·exact I.pin p z,I.hok,I.len⟩
theorem Inv.unhnd (ok:X.Ok)(I:Inv (X.hnd a oe) pins σ H s):Inv X pins σ H s:=⟨ok,I.os,I.bare,I.base,I.loc,I.cell,I.free,I.freeC,λ p hp=>I.pin p (ao _ hp),I.hok,I.len⟩
theorem Tr.own (t:Tr X pins σ H s a C fl):∃ h vs,s.heap.get? a=some h/\h.cls=.ref C/\h.data=.fields vs:=by
 obtain⟨a0,h,vs,T,G,ts,F,B,h3,_⟩:=t.tr
 exact⟨h,vs,F,B.1,h3⟩
theorem Tr.again (t:Tr X pins σ H s a C fl){Q:V->Hp->Prop}{e:Expr}{v:V}(he:∀ h,PE (X.hnd a h) e (tC v)){E:Value->af->Prop}{R:Value->af->Prop}
  (k:∀ u s',RelV v u->Tr X pins σ H s' a C fl->R u s'):wpAny (model X.prog X.w) (X.A.mark (some (.ref a))) (eval e X.env) R E s:=by
 obtain⟨a0,h,vs,T,B,ts,h1,h2,h3,h4,h5,h6,G,h7,h8,h9,Y⟩:=t.tr
 have I:=t.inv
 have J:Inv (X.hnd a h) ((T,B)::pins) σ H s:=(I.hnd h1 t.nH h3).pins_of λ p hp=>by
  rcases aI.mp hp with z|z
  ·subst z;exact⟨h8,h6,I.apart h8 h9⟩
  ·exact I.pin p (aK _ z)
 refine br (he h ((T,B)::pins) s σ H (λ w Z=>w=v/\Z=H) J ⟨rfl,rfl⟩) (λ u s1 ⟨w,Z,F,r,e1,e2⟩=>?_) (λ _ _ z=>bz z)
 subst e1 e2
 refine k u s1 r ⟨(F.pins_of λ p hp=>F.pin p (aK _ (ao _ hp))).unhnd I.ok,t.n0,t.nH,t.np,a0,h,vs,T,B,ts,(F.pin (a,h) (aD ..)).1,h2,h3,h4,h5,h6,G,h7,(F.pin (T,B) (aK _ (aD ..))).1,h9,Y⟩
end
section
variable {prog:aH} {w:World} {A:aV} {R:j1->af->Prop} {I:Addr} {fp wr:List Addr} {n:Nat} {P:Nat->Value->Prop} {St:Nat->Heap->Prop} {h₀:Heap}
end
def bu5 (tk tv:TE):TE:=λ σ H Q=>∀ p,H p=none->tk σ (upd H p (.dT [])) λ x H1=>tv σ H1 λ y H2=>H2 p=some (.dT [])/\∃ b k,x=.ref b/\NK H2 k b/\Q (.ref p) (upd H2 p (.dT [(k,y)]))
theorem bk0 {X:Cx}{pos:Pos}{e f:Expr}{tk Z:TE}(hu:X.A.units+1<cLine)(hk:PE X e tk)(hv:PE X f Z):PE X (.Dict [some e] [f] pos) (bu5 tk Z):=by
 intro F s σ H Q I q
 have hn:=I.hok.fresh (aw s.heap.objs.size)
 have I1:=I.laid (a:=s.heap.objs.size) (o:=.dT []) (h':=s.heap.push { cls:=.type "dict",data:=.dict #[] }) (t':=s.toks) (λ _ _ q=>aB _ q) (aw _) (bo1 s.heap I.big)
 refine wpAny_Dict_any rfl rfl (by nofun) (by show 1<=15;decide) (thn (bl6 hk hv bD6 F _ σ _ (λ ps B=>match ps with
  | [(x,y)]=>B s.heap.objs.size=some (.dT [])/\∃ b k,x=.ref b/\NK B k b/\Q (.ref s.heap.objs.size) (upd B s.heap.objs.size (.dT [(k,y)]))
  | _=>False) I1 (q _ hn)) λ ws s2 ⟨ps,B,J,h,r⟩=>?_)
 obtain⟨x,y,eps,e2,b,k,ex,nk,r2⟩:∃ x y,ps=[(x,y)]/\B s.heap.objs.size=some (.dT [])/\∃ b k,x=.ref b/\NK B k b/\Q (.ref s.heap.objs.size) (upd B s.heap.objs.size (.dT [(k,y)])):=by
  split at r
  ·exact⟨_,_,rfl,r⟩
  ·exact r.elim
 subst eps ex
 cases h with
 | @cons _ w _ _ h1 t =>
  cases t
  obtain⟨w1,w2⟩:=w
  cases(show w1=Value.ref b from h1.1)
  unfold storeAll
  rw[gK]
  obtain⟨z,hd,xs,h,dd⟩:=ca3 J.hok e2
  cases h
  refine ai (ai (wpAny_dictSet_heap (knd:=aw6 X.prog X.w) (show _<_ from hu) (av2 J.hok nk) dd λ h' G hs=>?_))
  refine aA ?_
  show wpAny _ _ (forIn ([]:List (Value×Value)) _ _) _ _ _
  rw[fw]
  refine aA ⟨.ref _,_,?_,rfl,r2⟩
  obtain⟨qo,es,ep,Y,h2,h3,h4,_,h5⟩:=G
  refine aJ6 J (by rw[e2];exact True.intro) hs ⟨qo,Y⟩ ⟨by show 1<=aO;rw[fG];omega,hd,_,.cons ⟨rfl,nk.mono λ c ys ec=>?_,h1.2⟩ .nil,qo,es,ep,Y,h2,h3,h4,h5⟩
  rw[zm (bY0 ec e2 (λ z=>nomatch z))]
  exact ec
section
variable {X:Cx} {pins:List (Addr×Obj)} {σ:St} {H:Hp} {s:af} {a C:Addr} {oe:Obj} {fl:Value}
theorem be2 {x:Str}{np pos:Pos}{b₀:Stmt}{h:List Stmt}{rest:List fY}{th:TS}{D:Ends}(t:Tr X pins σ H s a C .none)(B:X.ex=[])(F:X.stack=X.env::X.outer)(G:X.env.frame=some X.env.locals)
  (hc:ExcCls X.K C) (hg:Gl X x) (hm:X.mg x=some (.ref C)) (hd:(x==("__debug__":Str))=false)
  (hb:∀ Z,Z.cls=.ref C->PSs (X.hnd a Z) (b₀::h) th) (hq:th { nx:=λ _ _=>False,rt:=D.rt } σ H) :
  wpAny (model X.prog X.w) X.A (jD (.ref a) X.env) (λ _ s₂=>wpAny (model X.prog X.w) X.A (kx (.ref a) none) (λ _ s₃=>wpAny (model X.prog X.w) X.A (handleBy (.ref a) X.env (.ExceptHandler (some (.Name x np)) none (b₀::h) pos::rest)) (SP X pins D) X.xe s₃) X.xe s₂) X.xe s:=by
 obtain⟨bm,N,nm,q,bs,hdct,sn,sub,ab,col,dd,k0,k1,k2,k3,k5,mN,e,a2,b0⟩:=hc.obj
 refine t.noted B F G λ h2 fl t2=>t2.down B F G λ h3 t3=>?_
 refine handleBy_own (bmB:=excTail) (newId := "ValueError.__new__") (mg:=X.mg) (x:=x) (C:=C) rfl ?_
 refine t3.again (Q:=λ _ _=>True) (v:=.ref C) (λ Z=>aI7 (X:=X.hnd a Z) hg hm rfl hd) λ u s4 r Y=>?_
 have K4:=b0 _ Y.inv.kIn
 obtain⟨a0,b3,a4,a3,b2⟩:=Y.own
 refine⟨r,⟨hm,bm,N,nm,q,bs,hdct,sn,sub,ab,col,dd,k0,k1,k2,k3,k5,mN,Y.inv.kIn _ _ e,K4.1,a2,K4.2⟩,⟨a0,a4,a3⟩,?_⟩
 refine Y.down B F G λ h5 t5=>?_
 obtain⟨J,b1,a6,a5,a1⟩:=t5.own
 have J7:Inv (X.hnd a J) pins σ H { s4 with heap:=h5 }:=t5.inv.hnd a6 t5.nH a1
 refine br (hb J a5 pins _ _ H { nx:=λ _ _=>False,rt:=D.rt } J7 hq) (λ f s8 z=>?_) (λ _ _ z=>bz z)
 cases f with
 | next=>obtain⟨_,_,_,z⟩:=z;exact bz z
 | brk=>obtain⟨_,_,_,z⟩:=z;exact bz z
 | cont=>obtain⟨_,_,_,z⟩:=z;exact bz z
 | ret u8 =>
  obtain⟨v8,σ8,H8,J8,r8,q8⟩:=z
  exact⟨v8,σ8,H8,J8.unhnd t5.inv.ok,r8,q8⟩
end
theorem bn8 {X:Cx}{e:Expr}:PE X e (λ _ _ _=>False):=λ _ _ _ _ _ _ z=>z.elim
theorem bj8 {X:Cx}{e:Expr}:PG X e (λ _ _ _ _=>False):=λ _ _ _ _ _ _ _ _ _ z=>z.elim
theorem PG.nox {X:Cx}{e:Expr}{t:TG}(h:PG X.nox e t):PG X e t:=λ B s σ H v u Q I r hw =>
 br (h B s σ H v u Q (I.wish _) r hw) (λ _ _ ⟨σ',H',F,q⟩=>⟨σ',H',F.unwish,q⟩) λ _ _ z=>bz z
theorem PI.nox {X:Cx}{tg e:Expr}{t:TI}(h:PI X.nox tg e t):PI X tg e t:=λ B s σ H R I hw =>
 br (h B s σ H R (I.wish _) hw) (λ _ _ z=>br z (λ _ _ z=>by
  obtain⟨it,Y,G,J,H2,e,I2,T,F,Z,q⟩:=z
  exact⟨it,Y,G,J,H2,e,I2.unwish,T,F,Z,q⟩) λ _ _ z=>bz z) λ _ _ z=>bz z
section
variable {X:Cx} {pins:List (Addr×Obj)} {σ:St} {H:Hp} {s:af} {a C D':Addr} {oe:Obj} {fl:Value}
end
def aR1 (op:CmpOp)(A:aV)(s:af)(y x:Value)(b:Bool):Prop :=
 ∀(prog:aH) (w:World) (E:Value->af->Prop) (Q:Value->af->Prop),Q (.bool b) s->wpAny (model prog w) A (richCompare op y x) Q E s
section
open PySem.AutoSeq1 (wpAny_loadPart')
open PySem.MeetsSeq PySem.MeetsSeq2 PySem.MeetsSeq3 PySem.SeqAt
theorem bf4 (l b:Addr)(G J x1 F:Value)(n n2:Nat)(dd Z:Option Addr)(sl a0:Array (Option Value))(e1 e2 r1 r2:Bool) :
  Meets (Builtin.«tuple.__lt__» ⟨[.ref l,.ref b],[]⟩)
   (λ A R s=>s.heap.get? l=some { cls:=.type "tuple",dict:=dd,data:=.seq #[G,x1] n,slots:=sl }/\s.heap.get? b=some { cls:=.type "tuple",dict:=Z,data:=.seq #[J,F] n2,slots:=a0 } /\
    EqAt A.in1 s G J e1/\EqAt A.in1 s x1 F e2/\aR1 .Lt A.in1 s G J r1/\aR1 .Lt A.in1 s x1 F r2 /\
    R (.ok (.ret (.bool (if e1 then(if e2 then false else r2)else r1)))) s) :=
 .of_wp λ prog w A R s h=>by
  obtain⟨hp,g,d,tk,os⟩:=s;obtain⟨hl,hb,a3,a5,Y,a4,h⟩:=h
  have f2:=AutoSeq1.sub_tuple_tuple
  wp_walk using wpAny_loadPart' hl,wpAny_loadPart' hb,eF _ (λ rest b s'=>b.1=none/\s'=⟨hp,g,d,tk,os⟩/\(rest=[(G,J),(x1,F)]\/(rest=[(x1,F)]/\e1=true)\/(rest=[]/\e1=true/\e2=true))) _
  case turn =>
   rintro⟨y,x⟩ rest b s' ⟨B,rfl,hz⟩
   rcases hz with hz|⟨hz,rfl⟩|⟨hz,_⟩
   ·cases hz
    refine ai (a3 prog w _ _ ?_)
    cases e1 with
    | true =>
     wp_walk
     exact⟨rfl,rfl,.inr (.inl ⟨rfl,rfl⟩)⟩
    | false =>
     simp only[ar,if_true]
     refine ai (eG (ai (Y prog w _ _ ?_)))
     wp_walk
     exact⟨_,rfl,by simpa using h⟩
   ·cases hz
    refine ai (a5 prog w _ _ ?_)
    cases e2 with
    | true =>
     wp_walk
     exact⟨rfl,rfl,.inr (.inr ⟨rfl,rfl,rfl⟩)⟩
    | false =>
     simp only[ar,if_true]
     refine ai (eG (ai (a4 prog w _ _ ?_)))
     wp_walk
     exact⟨_,rfl,by simpa using h⟩
   ·cases hz
  case fin =>
   rintro⟨b1,b2⟩ s' ⟨B,rfl,hz⟩
   simp only at B
   subst B
   rcases hz with hz|⟨hz,_⟩|⟨_,rfl,rfl⟩
   ·cases hz
   ·cases hz
   wp_walk
   exact⟨_,rfl,by simpa [jt]using h⟩
  case h =>
   exact⟨rfl,rfl,.inl rfl⟩
end
section
variable {A:aV} {s:af}
theorem bD4 {l b:Addr}{Z a2 x1 Y:Value}{e1 e2 r1 r2:Bool}(hl:s.heap.IsTuple l #[Z,x1])(hb:s.heap.IsTuple b #[a2,Y])(hu:A.units<cLine)
  (h1:eN A.in1 s Z a2 e1) (h2:eN A.in1 s x1 Y e2) (h3:aR1 .Lt A.in1 s Z a2 r1) (h4:aR1 .Lt A.in1 s x1 Y r2):aR1 .Lt A s (.ref l) (.ref b) (if e1 then(if e2 then false else r2)else r1):=λ prog w E Q h=>by
 obtain⟨⟨cls,dd,data,sl⟩,ho,hc,n,hd⟩:=id hl
 obtain⟨⟨a5,a3,a0,a4⟩,J,G,n2,B⟩:=id hb
 simp only at hc hd G B
 subst hc hd G B
 exact richCompare_meets_room (op:=.Lt) ⟨_,ho,rfl⟩ ⟨_,J,rfl⟩ F.slot_tuple_lt F.entry_tuple_lt (F.args_tuple_lt_2 _ _) (bf4 l b Z a2 x1 Y n n2 dd a3 sl a4 e1 e2 r1 r2)
  ⟨ho,J,h1,h2,h3,h4,show Value.bool _≠Value.notImplemented/\Q (.bool _) s from⟨(λ x=>nomatch x),h⟩⟩ hu
end
section
variable {prog:aH} {w:World} {A:aV} {E:Value->af->Prop} {s:af} {x y:Str} {t u:Tok}
end
end L2
end
noncomputable section
namespace DV
inductive D where
 | non|bl (b:Bool)|int (i:Int)|str (x:List Nat)|tup (l:List D)|ref (n:Nat)|fn (f:String)|clo (f:String) (cs:List D)
noncomputable instance:DecidableEq D:=λ a b=>gf (a=b)
noncomputable instance (x:D):Decidable (x=.non):=match x with
 | .non=>.isTrue rfl
 | .bl _=>.isFalse nofun
 | .int _=>.isFalse nofun
 | .str _=>.isFalse nofun
 | .tup _=>.isFalse nofun
 | .ref _=>.isFalse nofun
 | .fn _=>.isFalse nofun
 | .clo _ _=>.isFalse nofun
inductive O where
 | lst (l:List D)|ro (l:List D)|dic (l:List (D×D))|ins (c:String) (fs:List (String×D))|dit (l:List (D×D))
noncomputable instance:DecidableEq O:=λ a b=>gf (a=b)
noncomputable abbrev Sto:=List O
noncomputable def O.kd:O->Nat
 | .lst _=>0|.ro _=>1|.dic _=>2|.ins _ _=>3|.dit _=>4
inductive R (α:Type) where
 | ok (a:α) (s:Sto)|exc (e:D) (s:Sto)|bad
noncomputable abbrev M (α:Type):=Sto->R α
noncomputable def R.bind {α β:Type}(r:R α)(f:α->Sto->R β):R β:=match r with
 | .ok a s=>f a s
 | .exc e s=>.exc e s
 | .bad=>.bad
@[simp] theorem R.bind_ok {α β:Type} (a:α) (s:Sto) (f:α->Sto->R β):(R.ok a s).bind f=f a s:=rfl
@[simp] theorem R.bind_bad {α β:Type} (f:α->Sto->R β):(R.bad:R α).bind f=.bad:=rfl
@[simp] theorem R.bind_exc {α β:Type} (e:D) (s:Sto) (f:α->Sto->R β):(R.exc e s:R α).bind f=.exc e s:=rfl
theorem R.bind_inv {α β:Type}{r:R α}{f:α->Sto->R β}{b:β}{t:Sto}(h:r.bind f=.ok b t):∃ a s,r=.ok a s/\f a s=.ok b t:=by
 cases r with
 | ok a s=>exact⟨a,s,rfl,h⟩
 | exc e s=>cases h
 | bad=>cases h
@[simp] theorem R.bind_assoc {α β γ:Type} (r:R α) (f:α->Sto->R β) (g:β->Sto->R γ):(r.bind f).bind g=r.bind λ a s=>(f a s).bind g:=by cases r<;>rfl
mutual
noncomputable def D.bnd (n:Nat):D->Bool
 | .tup l=>D.bndL n l
 | .ref k=>decide (k<n)
 | .clo _ l=>D.bndL n l
 | _=>true
noncomputable def D.bndL (n:Nat):List D->Bool
 | []=>true
 | d::l=>D.bnd n d&&D.bndL n l
end
noncomputable def O.bnd (n:Nat):O->Bool
 | .lst l=>D.bndL n l
 | .ro l=>D.bndL n l
 | .dic l=>D.bndL n (l.map (·.1))&&D.bndL n (l.map (·.2))
 | .ins _ fs=>D.bndL n (fs.map (·.2))
 | .dit l=>D.bndL n (l.map (·.1))&&D.bndL n (l.map (·.2))
mutual
noncomputable def D.plain:D->Bool
 | .non=>true|.int _=>true|.str _=>true
 | .tup l=>D.plainL l
 | _=>false
noncomputable def D.plainL:List D->Bool
 | []=>true
 | d::l=>D.plain d&&D.plainL l
end
mutual
noncomputable def D.ncl:D->Bool
 | .tup l=>D.nclL l
 | .clo _ _=>false
 | _=>true
noncomputable def D.nclL:List D->Bool
 | []=>true
 | d::l=>D.ncl d&&D.nclL l
end
noncomputable def O.ncl:O->Bool
 | .lst l=>D.nclL l
 | .ro l=>D.nclL l
 | .dic l=>D.nclL (l.map (·.2))
 | .dit l=>D.nclL (l.map (·.2))
 | _=>false
noncomputable def D.key:D->Bool
 | .int _=>true|.str _=>true|_=>false
noncomputable def D.hdI:List D->Bool
 | .int _::_=>true|.non::_=>true|.tup _::_=>true|_=>false
noncomputable def D.keyF:D->Bool
 | .int _=>true|.non=>true|.str x=>decide (x.length<=1000)|_=>false
noncomputable def D.keyS:D->Bool
 | .tup l=>D.hdI l&&(l.all D.keyF&&decide (l.length<=1000))|d=>D.keyF d
noncomputable def D.keyT:D->Bool
 | .tup l=>D.hdI l&&(l.all D.keyS&&decide (l.length<=1000))|_=>false
noncomputable def LIM:Nat:=1000000
@[irreducible] noncomputable def BIG:Nat:=2^60000
@[irreducible] noncomputable def DIVL:Nat:=2^4096
inductive BOp where
 | add|sub|mul|fdiv|mod|pow|shl|shr|band|bor
 deriving DecidableEq
inductive COp where
 | eq|ne|lt|le|gt|ge|isin|notin
 deriving DecidableEq
inductive Cn where
 | non|bl (b:Bool)|int (i:Int)|str (x:List Nat)
 deriving DecidableEq
noncomputable def Cn.d:Cn->D
 | .non=>.non|.bl b=>.bl b|.int i=>.int i|.str x=>.str x
inductive Bi where
 | len|abs|int|str|min2|max2|max3|min3|isInt|isBool|isStr|isTup|isList|ord
 deriving DecidableEq
inductive Mk where
 | tuple|list|all|any|sum|min|max|sorted|lenset
 deriving DecidableEq
inductive Mt where
 | append|pop|index|count|reverse|clear|bitlen|get1|get2|setdefault|update|split|partition
 deriving DecidableEq
inductive Tg where
 | one (i:Nat)|tup (is:List Nat)
 deriving DecidableEq
mutual
inductive E where
 | var (i:Nat)|cst (c:Cn)|glob (x:String)
 | bin (op:BOp) (a b:E)|neg (a:E)|not (a:E)
 | cmp (op:COp) (a b:E)|chain (o p:COp) (a b c:E)
 | isN (a:E)|notN (a:E)|isB (a:E) (b:Bool)|notB (a:E) (b:Bool)
 | and (a b:E)|or (a b:E)|ite (c a b:E)
 | tup (es:Es)|lst (es:Es)|dic (ks vs:Es)|dicT|dicU (k v:E)|get2 (o k d:E)|bitl (a:E)|lrng (a:E)|fstr (es:Es)|inC (e:E) (c:String)|getC (c:String) (e:E)
 | ix (a b:E)|slL (a lo:E)|slU (a hi:E)|slLU (a lo hi:E)|rev (a:E)
 | call (f:String) (as:As)|callC (f:String) (as:As)|callV (i:Nat) (es:Es)
 | bi (b:Bi) (es:Es)|mk (k:Mk) (l:L)|mkD (k:Mk) (l:L) (d:E)
 | meth (m:Mt) (o:E) (es:Es)|ext (o:E) (l:L)|extS (o e:E)|join (o e:E)|mks (k:Mk) (e:E)|mkDs (k:Mk) (e d:E)|minK (id:String) (e:E) (j:Int)|spl (o:E) (c:Nat)
inductive Es where
 | nil|cons (e:E) (es:Es)
inductive As where
 | nil|ex (e:E) (as:As)|lam (id:String) (caps:List Nat) (as:As)|fn (f:String) (as:As)
inductive I where
 | seq (e:E)|rng1 (a:E)|rng2 (a b:E)|rng3 (a b:E) (c:Int)|rngD (a:E)|enum (it:I)|zip (a b:I)|items (e:E)
inductive L where
 | comp (tg:Tg) (it:I) (e:E) (caps:List (Option Nat))|compIf (tg:Tg) (it:I) (c e:E) (caps:List (Option Nat))|disp (es:Es)|seq (e:E)|itm (e:E)
end
mutual
inductive S where
 | asg (tg:Tg) (e:E)|setIx (o i e:E)|aug (i:Nat) (e:E)|ex (e:E)|ret (e:E)|retN
 | ite (c:E) (a b:Ss)|whl (c:E) (b:Ss)|for_ (tg:Tg) (it:I) (b:Ss)|pass|cont|brk|raise|und (i:Nat)
inductive Ss where
 | nil|cons (s:S) (ss:Ss)
end
noncomputable abbrev Env:=List (Option D)
noncomputable def aj2 (o:O):M D:=λ s=>.ok (.ref s.length) (s++[o])
noncomputable def pur (d:D):M D:=λ s=>.ok d s
noncomputable def bad {α:Type}:M α:=λ _=>.bad
noncomputable def mulOk (a b:Int):Bool:=decide (a.natAbs<2^64)||decide (b.natAbs<2^64)||(decide (a.natAbs<BIG)&&decide (b.natAbs<BIG))
noncomputable def rep:Nat->List Nat->List Nat
 | 0,_=>[]
 | n+1,a=>a++rep n a
noncomputable def aV3:Nat->List D->List D
 | 0,_=>[]
 | n+1,a=>a++aV3 n a
noncomputable def ao3:BOp->D->D->M D
 | .add,.int a,.int b=>pur (.int (a+b))
 | .add,.str a,.str b=>if a.length+b.length<=LIM then pur (.str (a++b))else bad
 | .add,.tup a,.tup b=>if a.length+b.length<=LIM then pur (.tup (a++b))else bad
 | .add,.ref a,.ref b=>λ s=>match s[a]?,s[b]? with
  | some (.lst l),some (.lst m)=>if l.length+m.length<=LIM then aj2 (.lst (l++m)) s else .bad
  | _,_=>.bad
 | .mul,.int a,.int b=>if mulOk a b then pur (.int (a*b))else bad
 | .mul,.str a,.int n=>if 0<=n/\n<=1000000/\a.length*n.toNat<=LIM then pur (.str (rep n.toNat a))else bad
 | .mul,.tup a,.int n=>if 0<=n/\n<=1000000/\a.length*n.toNat<=LIM then pur (.tup (aV3 n.toNat a))else bad
 | .mul,.ref a,.int n=>λ s=>match s[a]? with
  | some (.lst l)=>if 0<=n/\n<=1000000/\l.length*n.toNat<=LIM then aj2 (.lst (aV3 n.toNat l)) s else .bad
  | _=>.bad
 | .fdiv,.int a,.int b=>if 0<b/\b<(DIVL:Int)then pur (.int (a / b))else bad
 | .mod,.int a,.int b=>if 0<b then pur (.int (a % b))else bad
 | .pow,.int a,.int b=>if 0<=b/\b<=1000000/\a.natAbs<2^64 then pur (.int (a^b.toNat))else bad
 | .shl,.int a,.int b=>if 0<=b/\b<=1000000/\a.natAbs<2^64 then pur (.int (a*2^b.toNat))else bad
 | _,_,_=>bad
noncomputable def kd (s:Sto):D->Nat
 | .non=>0|.bl _=>1|.int _=>1|.str _=>2|.tup _=>3
 | .ref r=>match s[r]? with|some (.lst _)=>4|_=>9
 | _=>9
noncomputable def aL6 (a b:Nat):Bool:=a==9||b==9||a==b
noncomputable def b2i (b:Bool):Int:=if b then 1 else 0
noncomputable def aV5:D->D->Option Bool
 | .non,.non=>some true
 | .bl a,.bl b=>some (a==b)
 | .int a,.int b=>some (a==b)
 | .bl a,.int b=>some (b2i a==b)
 | .int a,.bl b=>some (a==b2i b)
 | .str a,.str b=>some (a==b)
 | _,_=>none
noncomputable def aj3 (s:Sto)(a b:D):Option Bool:=match aV5 a b with
 | some z=>some z
 | none=>if aL6 (kd s a) (kd s b)then none else some false
noncomputable def eqL (f:D->D->Option Bool):List D->List D->Option Bool
 | [],[]=>some true
 | [],_::_=>some false
 | _::_,[]=>some false
 | a::l,b::m=>match f a b,eqL f l m with
  | some x,some y=>some (x&&y)
  | _,_=>none
noncomputable def eqv (s:Sto):Nat->D->D->Option Bool
 | 0,a,b=>aj3 s a b
 | n+1,a,b=>match a,b with
  | .tup l,.tup m=>eqL (eqv s n) l m
  | .ref x,.ref y=>match s[x]?,s[y]? with
   | some (.lst l),some (.lst m)=>if l.length=m.length then eqL (eqv s n) l m else some false
   | _,_=>none
  | a,b=>aj3 s a b
noncomputable def DEEP:Nat:=30
noncomputable def eqM (a b:D):M D:=λ s=>match eqv s DEEP a b with
 | some r=>.ok (.bl r) s
 | none=>.bad
noncomputable def inL (s:Sto)(x:D):List D->Option Bool
 | []=>some false
 | y::l=>match eqv s DEEP y x,inL s x l with
  | some a,some b=>some (a||b)
  | _,_=>none
noncomputable def look (k:D):List (D×D)->Option D
 | []=>none
 | (a,v)::l=>if a=k then some v else look k l
noncomputable def inM (a b:D):M Bool:=λ s=>match b with
 | .tup l=>match inL s a l with|some r=>.ok r s|none=>.bad
 | .ref r=>match s[r]? with
  | some (.lst l)=>match inL s a l with|some r=>.ok r s|none=>.bad
  | some (.dic l)=>if a.key then .ok (look a l).isSome s else .bad
  | some (.dit l)=>if a.keyT then .ok (look a l).isSome s else .bad
  | _=>.bad
 | .str y=>match a with|.str [c]=>.ok (decide (c∈y)) s|_=>.bad
 | _=>.bad
noncomputable def bm3:D->Option (Int×List Nat)
 | .tup [.int i,.str x]=>some (i,x)
 | _=>none
noncomputable def ltP (i:Int)(x:List Nat)(j:Int)(y:List Nat):Bool:=if i=j then decide (x<y)else decide (i<j)
noncomputable def bT5 (f:Int->List Nat->Int->List Nat->Bool)(a b:D):M D:=λ s=>match bm3 a,bm3 b with
 | some (i,x),some (j,y)=>.ok (.bl (f i x j y)) s
 | _,_=>.bad
noncomputable def qB:COp->D->D->M D
 | .eq,a,b=>eqM a b
 | .ne,a,b=>λ s=>match eqv s DEEP a b with|some r=>.ok (.bl (!r)) s|none=>.bad
 | .lt,.int a,.int b=>pur (.bl (decide (a<b)))
 | .lt,.tup l,.tup m=>bT5 ltP (.tup l) (.tup m)
 | .le,.int a,.int b=>pur (.bl (decide (a<=b)))
 | .gt,.int a,.int b=>pur (.bl (decide (b<a)))
 | .isin,a,b=>λ s=>(inM a b s).bind λ r s=>.ok (.bl r) s
 | .notin,a,b=>λ s=>(inM a b s).bind λ r s=>.ok (.bl (!r)) s
 | _,_,_=>bad
noncomputable def ixn (n:Nat)(i:Int):Option Nat:=if 0<=i then(if i<n then some i.toNat else none)else if -(n:Int)<=i then some (i+n).toNat else none
noncomputable def sbd (n:Nat)(i:Int):Nat:=if 0<=i then min i.toNat n else(i+n).toNat
noncomputable def loB (n:Nat):Option Int->Nat
 | none=>0
 | some i=>sbd n i
noncomputable def hiB (n:Nat):Option Int->Nat
 | none=>n
 | some i=>sbd n i
noncomputable def aG6 {α:Type}(l:List α)(lo hi:Option Int):List α:=(l.drop (loB l.length lo)).take (hiB l.length hi - loB l.length lo)
noncomputable def ixM (a b:D):M D:=λ s=>match a,b with
 | .tup l,.int i=>match(ixn l.length i).bind λ j=>l[j]? with|some d=>.ok d s|none=>.bad
 | .str l,.int i=>match(ixn l.length i).bind λ j=>l[j]? with|some c=>.ok (.str [c]) s|none=>.bad
 | .ref r,b=>match s[r]? with
  | some (.lst l)=>match b with
   | .int i=>match(ixn l.length i).bind λ j=>l[j]? with|some d=>.ok d s|none=>.bad
   | _=>.bad
  | some (.ro l)=>match b with
   | .int i=>match(ixn l.length i).bind λ j=>l[j]? with|some d=>.ok d s|none=>.bad
   | _=>.bad
  | some (.dic l)=>if b.key then match look b l with|some d=>.ok d s|none=>.bad else .bad
  | some (.dit l)=>if b.keyT then match look b l with|some d=>.ok d s|none=>.bad else .bad
  | _=>.bad
 | _,_=>.bad
noncomputable def slM (a:D)(lo hi:Option Int):M D:=λ s=>match a with
 | .tup l=>.ok (.tup (aG6 l lo hi)) s
 | .str l=>.ok (.str (aG6 l lo hi)) s
 | .ref r=>match s[r]? with
  | some (.lst l)=>aj2 (.lst (aG6 l lo hi)) s
  | _=>.bad
 | _=>.bad
noncomputable def cf5 (a:D):M D:=λ s=>match a with
 | .str l=>.ok (.str l.reverse) s
 | .ref r=>match s[r]? with
  | some (.lst l)=>aj2 (.lst l.reverse) s
  | _=>.bad
 | _=>.bad
noncomputable def au2:List D->Option (List Bool)
 | []=>some []
 | .bl b::l=>(au2 l).map (b::·)
 | _=>none
noncomputable def qk:List D->Option (List Int)
 | []=>some []
 | .int i::l=>(qk l).map (i::·)
 | _=>none
noncomputable def am7:List D->Option (List (List Nat))
 | []=>some []
 | .str i::l=>(am7 l).map (i::·)
 | _=>none
noncomputable def bA2 (d:D):M D:=λ s=>match d with
 | .tup l=>.ok (.int l.length) s
 | .str l=>.ok (.int l.length) s
 | .ref r=>match s[r]? with
  | some (.lst l)=>.ok (.int l.length) s
  | some (.ro l)=>.ok (.int l.length) s
  | _=>.bad
 | _=>.bad
noncomputable def isK (k:Nat)(d:D):M D:=λ s=>match d with
 | .non=>.ok (.bl false) s
 | .bl _=>.ok (.bl (k==1||k==2)) s
 | .int _=>.ok (.bl (k==1)) s
 | .str _=>.ok (.bl (k==3)) s
 | .tup _=>.ok (.bl (k==4)) s
 | .ref r=>match s[r]? with
  | some (.lst _)=>.ok (.bl (k==5)) s
  | _=>.bad
 | _=>.bad
noncomputable def bi1 (f:D->M D):List D->M D
 | [d]=>f d
 | _=>bad
noncomputable def aS5:List D->M D
 | [.str [c]]=>λ s=>if 48<=c/\c<=57 then .ok (.int ((c - 48:Nat):Int)) s else .bad
 | _=>bad
noncomputable def aZ1:List D->M D
 | [.int i]=>λ s=>if 0<=i/\i<=9 then .ok (.str [48+i.toNat]) s else .bad
 | [.str w]=>λ s=>.ok (.str w) s
 | _=>bad
noncomputable def bi:Bi->List D->M D
 | .len,l=>bi1 bA2 l
 | .abs,l=>λ s=>match qk l with|some [i]=>.ok (.int (if i<0 then -i else i)) s|_=>.bad
 | .int,l=>λ s=>match au2 l with|some [b]=>.ok (.int (if b then 1 else 0)) s|some _=>.bad|none=>aS5 l s
 | .str,l=>aZ1 l
 | .min2,l=>λ s=>match qk l with|some [a,b]=>.ok (.int (if b<a then b else a)) s|_=>.bad
 | .max2,l=>λ s=>match qk l with|some [a,b]=>.ok (.int (if b > a then b else a)) s|_=>.bad
 | .max3,l=>λ s=>match qk l with|some [a,b,c]=>.ok (.int (max (max a b) c)) s|_=>.bad
 | .isInt,l=>bi1 (isK 1) l
 | .isBool,l=>bi1 (isK 2) l
 | .isStr,l=>bi1 (isK 3) l
 | .isTup,l=>bi1 (isK 4) l
 | .isList,l=>bi1 (isK 5) l
 | _,_=>bad
noncomputable def minI:List Int->Option Int
 | []=>none
 | a::l=>some (l.foldl min a)
noncomputable def ck2:List Int->Option Int
 | []=>none
 | a::l=>some (l.foldl max a)
noncomputable def ins (a:Int):List Int->List Int
 | []=>[a]
 | b::l=>if a<=b then a::b::l else b::ins a l
noncomputable def bM0:List Int->List Int
 | []=>[]
 | a::l=>ins a (bM0 l)
noncomputable def cp4 (is:List Int):Bool:=is.all (λ i=>decide (-1000000000<=i/\i<=1000000000))&&decide (is.length<=1000000)
noncomputable def mk:Mk->List D->M D
 | .tuple,l=>λ s=>.ok (.tup l) s
 | .list,l=>aj2 (.lst l)
 | .all,l=>λ s=>match au2 l with|some bs=>.ok (.bl (bs.all id)) s|none=>.bad
 | .any,l=>λ s=>match au2 l with|some bs=>.ok (.bl (bs.any id)) s|none=>.bad
 | .sum,l=>λ s=>match qk l with|some is=>if cp4 is then .ok (.int is.sum) s else .bad|none=>.bad
 | .min,l=>λ s=>match(qk l).bind minI with|some m=>.ok (.int m) s|none=>.bad
 | .max,l=>λ s=>match(qk l).bind ck2 with|some m=>.ok (.int m) s|none=>.bad
 | .sorted,l=>λ s=>match qk l with|some is=>aj2 (.lst ((bM0 is).map D.int)) s|none=>.bad
 | .lenset,l=>bad
noncomputable def mkD (k:Mk)(l:List D)(d:D):M D:=λ s=>match k with
 | .min=>match qk l with|some is=>(match minI is with|some m=>.ok (.int m) s|none=>.ok d s)|none=>.bad
 | .max=>match qk l with|some is=>(match ck2 is with|some m=>.ok (.int m) s|none=>.ok d s)|none=>.bad
 | _=>.bad
noncomputable def aw9 (k v:D)(l:List (D×D)):List (D×D):=if(look k l).isSome then l.map (λ p=>if p.1=k then(p.1,v)else p)else l++[(k,v)]
noncomputable def setIx (o i v:D):Sto->R Unit:=λ s=>match o with
 | .ref r=>match s[r]? with
  | some (.lst l)=>match i with
   | .int i=>match ixn l.length i with|some j=>.ok () (s.set r (.lst (l.set j v)))|none=>.bad
   | _=>.bad
  | some (.dic l)=>if i.key&&decide (l.length<LIM)then .ok () (s.set r (.dic (aw9 i v l)))else .bad
  | some (.dit l)=>if i.keyT&&decide (l.length<LIM)then .ok () (s.set r (.dit (aw9 i v l)))else .bad
  | _=>.bad
 | _=>.bad
noncomputable def cd8 (o k e:D):M D:=λ s=>match o with
 | .ref r=>match s[r]? with
  | some (.dit l)=>if k.keyT then .ok ((look k l).getD e) s else .bad
  | _=>.bad
 | _=>.bad
noncomputable def idx (s:Sto)(x:D):Nat->List D->Option Nat
 | _,[]=>none
 | n,y::l=>match eqv s DEEP y x with
  | some true=>some n
  | some false=>idx s x (n+1) l
  | none=>none
noncomputable def meth:Mt->D->List D->M D
 | .append,.ref r,[d]=>λ s=>match s[r]? with
  | some (.lst l)=>if l.length<LIM then .ok .non (s.set r (.lst (l++[d])))else .bad
  | _=>.bad
 | .pop,.ref r,[]=>λ s=>match s[r]? with
  | some (.lst l)=>match l.getLast? with|some d=>.ok d (s.set r (.lst l.dropLast))|none=>.bad
  | _=>.bad
 | .reverse,.ref r,[]=>λ s=>match s[r]? with
  | some (.lst l)=>.ok .non (s.set r (.lst l.reverse))
  | _=>.bad
 | .clear,.ref r,[]=>λ s=>match s[r]? with
  | some (.lst l)=>.ok .non (s.set r (.lst []))
  | _=>.bad
 | .index,.ref r,[d]=>λ s=>match s[r]? with
  | some (.lst l)=>match inL s d l,idx s d 0 l with|some true,some n=>.ok (.int n) s|_,_=>.bad
  | _=>.bad
 | _,_,_=>bad
noncomputable def bU2 (o:D)(l:List D):M D:=λ s=>match o with
 | .ref r=>match s[r]? with
  | some (.lst m)=>if m.length+l.length<=LIM then .ok .non (s.set r (.lst (m++l)))else .bad
  | _=>.bad
 | _=>.bad
noncomputable def bV4 (sep:List Nat):List (List Nat)->List Nat
 | []=>[]
 | [p]=>p
 | p::q::ps=>p++(sep++bV4 sep (q::ps))
noncomputable def aW3 (c:Nat):List Nat->List (List Nat)
 | []=>[[]]
 | x::l=>if x=c then[]::aW3 c l else match aW3 c l with
  | p::ps=>(x::p)::ps
  | []=>[[x]]
noncomputable def cd6 (c:Nat)(x:D):M D:=λ s=>match x with
 | .str w=>if w.length+2<=LIM then aj2 (.lst ((aW3 c w).map D.str)) s else .bad
 | _=>.bad
noncomputable def bw4 (x y:D):M D:=λ s=>match x with
 | .str []=>match y with
  | .ref r=>match s[r]? with
   | some (.lst l)=>match am7 l with
    | some ss=>if ss.flatten.length<=LIM then .ok (.str ss.flatten) s else .bad
    | none=>.bad
   | _=>.bad
  | _=>.bad
 | .str (c::sep)=>match y with
  | .ref r=>match s[r]? with
   | some (.lst l)=>match am7 l with
    | some ss=>if(ss.map λ w=>w.length+(c::sep).length).sum<=LIM then .ok (.str (bV4 (c::sep) ss)) s else .bad
    | none=>.bad
   | _=>.bad
  | _=>.bad
 | _=>.bad
noncomputable def extS (o d:D):M D:=λ s=>match d with
 | .ref k=>match s[k]? with
  | some (.lst l)=>bU2 o l s
  | _=>.bad
 | _=>.bad
structure Fns where
 call:String->List D->M D
 lam:String->List D->List D->M D
 con:String->Option D
 xcall:String->List D->Sto->Option (String×Sto)
 xc:String->Bool
 xt:String->Bool
 cdc:String->Option (List (List Nat×List Nat))
noncomputable def aH1 (ρ:Env)(i:Nat):M D:=λ s=>match ρ[i]? with|some (some d)=>.ok d s|_=>.bad
noncomputable def by1 (ρ:Env):List Nat->Option (List D)
 | []=>some []
 | i::is=>match ρ[i]?,by1 ρ is with|some (some d),some l=>some (d::l)|_,_=>none
noncomputable def qb (ρ:Env)(caps:List (Option Nat)):Env:=caps.map λ o=>match o with|none=>none|some j=>(ρ[j]?).join
noncomputable def au1 (ρ:Env)(i:Nat)(d:D):Option Env:=if i < ρ.length then some (ρ.set i (some d))else none
noncomputable def ar9 (ρ:Env)(i:Nat):Option Env:=if i < ρ.length then some (ρ.set i none)else none
noncomputable def at1 (ρ:Env):List Nat->List D->Option Env
 | [],[]=>some ρ
 | i::is,d::l=>(au1 ρ i d).bind λ ρ=>at1 ρ is l
 | _,_=>none
noncomputable def zP (ρ:Env):Tg->D->Option Env
 | .one i,d=>au1 ρ i d
 | .tup is,.tup l=>at1 ρ is l
 | _,_=>none
structure Sq where
 its:List D
 src:List Nat
noncomputable def aA8 (d:D):M Sq:=λ s=>match d with
 | .tup l=>.ok ⟨l,[]⟩ s
 | .str l=>.ok ⟨l.map λ c=>.str [c],[]⟩ s
 | .ref r=>match s[r]? with
  | some (.lst l)=>.ok ⟨l,[r]⟩ s
  | some (.ro l)=>.ok ⟨l,[]⟩ s
  | _=>.bad
 | _=>.bad
noncomputable def aS0 (d:D):M Sq:=λ s=>match d with
 | .tup l=>.ok ⟨l,[]⟩ s
 | .str l=>.ok ⟨l.map λ c=>.str [c],[]⟩ s
 | .ref r=>match s[r]? with
  | some (.lst l)=>.ok ⟨l,[r]⟩ s
  | some (.ro l)=>.ok ⟨l,[]⟩ s
  | _=>.bad
 | _=>.bad
noncomputable def bk4 (d:D):M Sq:=λ s=>match d with
 | .tup l=>.ok ⟨l,[]⟩ s
 | .ref r=>match s[r]? with
  | some (.lst l)=>.ok ⟨l,[r]⟩ s
  | some (.ro l)=>.ok ⟨l,[]⟩ s
  | _=>.bad
 | _=>.bad
noncomputable def cp3 (p:D×D):D:=match p.1 with
 | .tup l=>.tup (l++[p.2])
 | _=>.non
noncomputable def ce0 (d:D):Sto->R (List D):=λ s=>match d with
 | .ref r=>match s[r]? with
  | some (.dit l)=>if l.length<=LIM then .ok (l.map cp3) s else .bad
  | _=>.bad
 | _=>.bad
noncomputable def bJ5 (d:D):Sto->R (List D):=λ s=>match d with
 | .tup l=>.ok l s
 | .str l=>.ok (l.map λ c=>.str [c]) s
 | .ref r=>match s[r]? with
  | some (.lst l)=>.ok l s
  | some (.ro l)=>.ok l s
  | _=>.bad
 | _=>.bad
noncomputable def bt7 (d:D):Sto->R (List D):=λ s=>match d with
 | .ref r=>match s[r]? with
  | some (.lst l)=>.ok l s
  | _=>.bad
 | _=>.bad
noncomputable def cp9 (j:Int):D->Option Int
 | .tup l=>match(ixn l.length j).bind λ k=>l[k]? with|some (.int z)=>some z|_=>none
 | _=>none
noncomputable def bT1 (j:Int):List D->Option (List Int)
 | []=>some []
 | d::l=>match cp9 j d with
  | some z=>(match bT1 j l with|some zs=>some (z::zs)|none=>none)
  | none=>none
noncomputable def cc4 (f:Nat->Int):Nat->Nat
 | 0=>0
 | k+1=>if f (k+1)<f (cc4 f k)then k+1 else cc4 f k
noncomputable def bv5 (j:Int)(l:List D):M D:=λ s=>match bT1 j l with
 | some ks=>(match l[cc4 (λ i=>ks.getD i 0) (l.length - 1)]? with|some d=>.ok d s|none=>.bad)
 | none=>.bad
noncomputable def W62:Int:=4611686018427387904
noncomputable def qC (a b:Int):List D:=(a7 (b - a).toNat).map λ(k:Nat)=>.int (a+k)
noncomputable def bitsN (i:Int):Nat:=if i=0 then 0 else i.natAbs.log2+1
noncomputable def bW0 (x:D):M D:=λ s=>match x with|.int i=>.ok (.int (bitsN i:Nat)) s|_=>.bad
noncomputable def bM9 (x:D):M D:=λ s=>match x with|.int i=>if 0<=i/\i<=1000000 then aj2 (.lst (qC 0 i)) s else .bad|_=>.bad
noncomputable def ch8 (a:Int):List D:=(a7 (a+1).toNat).map λ(k:Nat)=>.int (a+(k:Int)*(-1))
noncomputable def co1 (a b c:Int):List D:=if 0<c then(a7 ((b - a+c - 1) / c).toNat).map λ(k:Nat)=>.int (a+c*k)else(a7 ((a - b+(-c) - 1) / (-c)).toNat).map λ(k:Nat)=>.int (a+c*k)
noncomputable def by4 (n:Nat):List D->List D
 | []=>[]
 | d::l=>.tup [.int n,d]::by4 (n+1) l
noncomputable def cc3:List D->List D->List D
 | a::l,b::m=>.tup [a,b]::cc3 l m
 | _,_=>[]
noncomputable def chk (s0 s:Sto)(src:List Nat):Bool:=src.all λ r=>decide (s[r]?=s0[r]?)
noncomputable def tru {α:Type}(r:R D)(f:Bool->Sto->R α):R α:=r.bind λ d s=>match d with|.bl b=>f b s|_=>.bad
@[simp] theorem ad2 {α:Type} (b:Bool) (s:Sto) (f:Bool->Sto->R α):tru (.ok (.bl b) s) f=f b s:=rfl
noncomputable def ak0 (ok:Sto->Bool)(g:D->Env->Sto->R (Option D×Env)):List D->Env->Sto->R (List D)
 | [],_,s=>if ok s then .ok [] s else .bad
 | d::l,ρ,s=>if ok s then(g d ρ s).bind λ p s=>(ak0 ok g l p.2 s).bind λ r s=>.ok (match p.1 with|some v=>v::r|none=>r) s else .bad
noncomputable def bT3 (l:List D):M D:=λ s=>match am7 l with|some ws=>if ws.flatten.length<=LIM then .ok (.str ws.flatten) s else .bad|none=>.bad
noncomputable def ck9 (F:Fns)(c:String)(x:D):M D:=λ s=>match F.cdc c,x with|some kvs,.str w=>.ok (.bl (kvs.lookup w).isSome) s|_,_=>.bad
noncomputable def bL0 (F:Fns)(c:String)(x:D):M D:=λ s=>match F.cdc c,x with|some kvs,.str w=>(match kvs.lookup w with|some v=>if v.length<=LIM then .ok (.str v) s else .bad|none=>.bad)|_,_=>.bad
mutual
noncomputable def ev (F:Fns):E->Env->Sto->R D
 | .var i,ρ,s=>aH1 ρ i s
 | .cst c,_,s=>.ok c.d s
 | .glob x,_,s=>match F.con x with|some d=>.ok d s|none=>.bad
 | .bin op a b,ρ,s=>(ev F a ρ s).bind λ x s=>(ev F b ρ s).bind λ y s=>ao3 op x y s
 | .neg a,ρ,s=>(ev F a ρ s).bind λ x s=>match x with|.int i=>.ok (.int (-i)) s|_=>.bad
 | .not a,ρ,s=>tru (ev F a ρ s) λ b s=>.ok (.bl (!b)) s
 | .cmp op a b,ρ,s=>(ev F a ρ s).bind λ x s=>(ev F b ρ s).bind λ y s=>qB op x y s
 | .chain o p a b c,ρ,s=>(ev F a ρ s).bind λ x s=>(ev F b ρ s).bind λ y s=>tru (qB o x y s) λ k s=>if k then(ev F c ρ s).bind λ z s=>qB p y z s else .ok (.bl false) s
 | .isN a,ρ,s=>(ev F a ρ s).bind λ x s=>.ok (.bl (decide (x=.non))) s
 | .notN a,ρ,s=>(ev F a ρ s).bind λ x s=>.ok (.bl (!decide (x=.non))) s
 | .isB a b,ρ,s=>(ev F a ρ s).bind λ x s=>match x with|.bl c=>.ok (.bl (c==b)) s|_=>.bad
 | .notB a b,ρ,s=>(ev F a ρ s).bind λ x s=>match x with|.bl c=>.ok (.bl (!(c==b))) s|_=>.bad
 | .and a b,ρ,s=>tru (ev F a ρ s) λ c s=>if c then tru (ev F b ρ s) λ c s=>.ok (.bl c) s else .ok (.bl false) s
 | .or a b,ρ,s=>tru (ev F a ρ s) λ c s=>if c then .ok (.bl true) s else tru (ev F b ρ s) λ c s=>.ok (.bl c) s
 | .ite c a b,ρ,s=>tru (ev F c ρ s) λ k s=>if k then ev F a ρ s else ev F b ρ s
 | .tup es,ρ,s=>(evs F es ρ s).bind λ l s=>.ok (.tup l) s
 | .lst es,ρ,s=>(evs F es ρ s).bind λ l s=>aj2 (.lst l) s
 | .dic .nil .nil,ρ,s=>aj2 (.dic []) s
 | .dic (.cons k .nil) (.cons v .nil),ρ,s=>(ev F k ρ (s++[.dic []])).bind λ kd s1=>(ev F v ρ s1).bind λ vd s2=>if kd.key=true/\s2[s.length]?=some (.dic [])then .ok (.ref s.length) (s2.set s.length (.dic [(kd,vd)]))else .bad
 | .dic _ _,ρ,s=>.bad
 | .dicT,_,s=>aj2 (.dit []) s
 | .dicU k v,ρ,s=>(ev F k ρ (s++[.dit []])).bind λ kd s1=>(ev F v ρ s1).bind λ vd s2=>if kd.keyT=true/\s2[s.length]?=some (.dit [])then .ok (.ref s.length) (s2.set s.length (.dit [(kd,vd)]))else .bad
 | .get2 o k d,ρ,s=>(ev F o ρ s).bind λ x s=>(ev F k ρ s).bind λ y s=>(ev F d ρ s).bind λ z s=>cd8 x y z s
 | .bitl a,ρ,s=>(ev F a ρ s).bind λ x s=>bW0 x s
 | .lrng a,ρ,s=>(ev F a ρ s).bind λ x s=>bM9 x s
 | .fstr es,ρ,s=>(evs F es ρ s).bind λ l s=>bT3 l s
 | .inC e c,ρ,s=>(ev F e ρ s).bind λ x s=>ck9 F c x s
 | .getC c e,ρ,s=>(ev F e ρ s).bind λ x s=>bL0 F c x s
 | .ix a b,ρ,s=>(ev F a ρ s).bind λ x s=>(ev F b ρ s).bind λ y s=>ixM x y s
 | .slL a lo,ρ,s=>(ev F a ρ s).bind λ x s=>(ev F lo ρ s).bind λ y s=>match y with|.int i=>slM x (some i) none s|_=>.bad
 | .slU a hi,ρ,s=>(ev F a ρ s).bind λ x s=>(ev F hi ρ s).bind λ y s=>match y with|.int i=>slM x none (some i) s|_=>.bad
 | .slLU a lo hi,ρ,s=>(ev F a ρ s).bind λ x s=>(ev F lo ρ s).bind λ y s=>match y with|.int i=>(ev F hi ρ s).bind (λ z s=>match z with|.int j=>slM x (some i) (some j) s|_=>.bad)|_=>.bad
 | .rev a,ρ,s=>(ev F a ρ s).bind λ x s=>cf5 x s
 | .call f as,ρ,s=>(am6 F as ρ s).bind λ l s=>F.call f l s
 | .callC f as,ρ,s=>(am6 F as ρ s).bind λ l s=>(F.call f l s).bind λ d s'=>if(d.ncl&&s'.all O.ncl)=true then .ok d s' else .bad
 | .callV i es,ρ,s=>(evs F es ρ s).bind λ l s=>match ρ[i]? with
  | some (some (.fn f))=>F.call f l s
  | some (some (.clo id cs))=>F.lam id cs l s
  | _=>.bad
 | .bi b es,ρ,s=>(evs F es ρ s).bind λ l s=>bi b l s
 | .mk k it,ρ,s=>(evL F it ρ s).bind λ q s=>mk k q s
 | .mkD k it d,ρ,s=>(evL F it ρ s).bind λ q s=>(ev F d ρ s).bind λ d s=>mkD k q d s
 | .meth m o es,ρ,s=>(ev F o ρ s).bind λ x s=>(evs F es ρ s).bind λ l s=>meth m x l s
 | .ext o it,ρ,s=>(ev F o ρ s).bind λ x s=>(evL F it ρ s).bind λ q s=>bU2 x q s
 | .extS o e,ρ,s=>(ev F o ρ s).bind λ x s=>(ev F e ρ s).bind λ y s=>extS x y s
 | .join o e,ρ,s=>(ev F o ρ s).bind λ x s=>(ev F e ρ s).bind λ y s=>bw4 x y s
 | .mks k e,ρ,s=>(ev F e ρ s).bind λ x s=>(bt7 x s).bind λ q s=>mk k q s
 | .mkDs k e d,ρ,s=>(ev F e ρ s).bind λ x s=>(ev F d ρ s).bind λ z s=>(bt7 x s).bind λ q s=>mkD k q z s
 | .minK _ e j,ρ,s=>(ev F e ρ s).bind λ x s=>(bt7 x s).bind λ q s=>bv5 j q s
 | .spl o c,ρ,s=>(ev F o ρ s).bind λ x s=>cd6 c x s
noncomputable def evs (F:Fns):Es->Env->Sto->R (List D)
 | .nil,_,s=>.ok [] s
 | .cons e es,ρ,s=>(ev F e ρ s).bind λ d s=>(evs F es ρ s).bind λ l s=>.ok (d::l) s
noncomputable def am6 (F:Fns):As->Env->Sto->R (List D)
 | .nil,_,s=>.ok [] s
 | .ex e as,ρ,s=>(ev F e ρ s).bind λ d s=>(am6 F as ρ s).bind λ l s=>.ok (d::l) s
 | .lam id caps as,ρ,s=>match by1 ρ caps with
  | some cs=>(am6 F as ρ s).bind λ l s=>.ok (.clo id cs::l) s
  | none=>.bad
 | .fn f as,ρ,s=>(am6 F as ρ s).bind λ l s=>.ok (.fn f::l) s
noncomputable def evI (F:Fns):I->Env->Sto->R Sq
 | .seq e,ρ,s=>(ev F e ρ s).bind λ d s=>aA8 d s
 | .rng1 a,ρ,s=>(ev F a ρ s).bind λ x s=>match x with|.int i=>if -W62<=i/\i<W62 then .ok ⟨qC 0 i,[]⟩ s else .bad|_=>.bad
 | .rng2 a b,ρ,s=>(ev F a ρ s).bind λ x s=>(ev F b ρ s).bind λ y s=>match x,y with|.int i,.int j=>if(-W62<=i/\i<W62)/\-W62<=j/\j<W62 then .ok ⟨qC i j,[]⟩ s else .bad|_,_=>.bad
 | .rng3 a b c,ρ,s=>(ev F a ρ s).bind λ x s=>(ev F b ρ s).bind λ y s=>match x,y with|.int i,.int j=>if c=2/\(0<=i/\i<1048576)/\0<=j/\j<1048576 then .ok ⟨co1 i j c,[]⟩ s else .bad|_,_=>.bad
 | .rngD a,ρ,s=>(ev F a ρ s).bind λ x s=>match x with|.int i=>if 0<=i/\i<1048576 then .ok ⟨ch8 i,[]⟩ s else .bad|_=>.bad
 | .enum (.seq e),ρ,s=>(ev F e ρ s).bind λ d s=>(bk4 d s).bind λ q s=>.ok ⟨by4 0 q.its,q.src⟩ s
 | .zip (.seq a) (.seq b),ρ,s=>(ev F a ρ s).bind λ x s=>(ev F b ρ s).bind λ y s=>(aS0 x s).bind λ p s=>(aS0 y s).bind λ q s=>.ok ⟨cc3 p.its q.its,p.src++q.src⟩ s
 | .enum _,_,_=>.bad
 | .zip _ _,_,_=>.bad
 | .items e,ρ,s=>.bad
noncomputable def evL (F:Fns):L->Env->Sto->R (List D)
 | .comp tg it e caps,ρ,s=>(evI F it ρ s).bind λ q s0=>if q.its.length<=LIM then ak0 (λ s=>chk s0 s q.src) (λ d ρ s=>match zP ρ tg d with
   | some ρ=>(ev F e ρ s).bind λ v s=>.ok (some v,ρ) s
   | none=>.bad) q.its (qb ρ caps) s0 else .bad
 | .compIf tg it c e caps,ρ,s=>(evI F it ρ s).bind λ q s0=>if q.its.length<=LIM then ak0 (λ s=>chk s0 s q.src) (λ d ρ s=>match zP ρ tg d with
   | some ρ=>tru (ev F c ρ s) λ k s=>if k then(ev F e ρ s).bind λ v s=>.ok (some v,ρ) s else .ok (none,ρ) s
   | none=>.bad) q.its (qb ρ caps) s0 else .bad
 | .disp es,ρ,s=>evs F es ρ s
 | .seq e,ρ,s=>(ev F e ρ s).bind λ d s=>bJ5 d s
 | .itm e,ρ,s=>(ev F e ρ s).bind λ d s=>ce0 d s
end
inductive Ct where
 | next (ρ:Env)|ret (d:D)|cont (ρ:Env)|brk (ρ:Env)
noncomputable def at8 (ok:Sto->Bool)(g:D->Env->Sto->R Ct):List D->Env->Sto->R Ct
 | [],ρ,s=>if ok s then .ok (.next ρ) s else .bad
 | d::l,ρ,s=>if ok s then(g d ρ s).bind λ c s=>match c with
   | .next ρ=>at8 ok g l ρ s
   | .cont ρ=>at8 ok g l ρ s
   | .brk ρ=>.ok (.next ρ) s
   | .ret d=>.ok (.ret d) s
  else .bad
noncomputable def qU (c:Env->Sto->R D)(g:Env->Sto->R Ct):Nat->Env->Sto->R Ct
 | 0,_,_=>.bad
 | n+1,ρ,s=>tru (c ρ s) λ b s=>if b then(g ρ s).bind λ c' s=>match c' with
   | .next ρ=>qU c g n ρ s
   | .cont ρ=>qU c g n ρ s
   | .brk ρ=>.ok (.next ρ) s
   | .ret d=>.ok (.ret d) s
  else .ok (.next ρ) s
open Classical in
noncomputable def whl (c:Env->Sto->R D)(g:Env->Sto->R Ct)(ρ:Env)(s:Sto):R Ct :=
 if h:∃ n,qU c g n ρ s≠.bad then qU c g h.choose ρ s else .bad
mutual
noncomputable def ex (F:Fns):S->Env->Sto->R Ct
 | .asg tg e,ρ,s=>(ev F e ρ s).bind λ d s=>match zP ρ tg d with|some ρ=>.ok (.next ρ) s|none=>.bad
 | .setIx o i e,ρ,s=>(ev F e ρ s).bind λ d s=>(ev F o ρ s).bind λ x s=>(ev F i ρ s).bind λ y s=>(setIx x y d s).bind λ _ s=>.ok (.next ρ) s
 | .aug i e,ρ,s=>(aH1 ρ i s).bind λ x s=>(ev F e ρ s).bind λ y s=>match x,y with
  | .int a,.int b=>match au1 ρ i (.int (a+b))with|some ρ=>.ok (.next ρ) s|none=>.bad
  | _,_=>.bad
 | .ex e,ρ,s=>(ev F e ρ s).bind λ _ s=>.ok (.next ρ) s
 | .ret e,ρ,s=>(ev F e ρ s).bind λ d s=>.ok (.ret d) s
 | .retN,_,s=>.ok (.ret .non) s
 | .ite c a b,ρ,s=>tru (ev F c ρ s) λ k s=>if k then exs F a ρ s else exs F b ρ s
 | .whl c b,ρ,s=>whl (ev F c) (exs F b) ρ s
 | .for_ tg it b,ρ,s=>(evI F it ρ s).bind λ q s0=>at8 (λ s=>chk s0 s q.src) (λ d ρ s=>match zP ρ tg d with
   | some ρ=>exs F b ρ s
   | none=>.bad) q.its ρ s0
 | .pass,ρ,s=>.ok (.next ρ) s
 | .cont,ρ,s=>.ok (.cont ρ) s
 | .brk,ρ,s=>.ok (.brk ρ) s
 | .raise,_,_=>.bad
 | .und i,ρ,s=>match ar9 ρ i with|some ρ=>.ok (.next ρ) s|none=>.bad
noncomputable def exs (F:Fns):Ss->Env->Sto->R Ct
 | .nil,ρ,s=>.ok (.next ρ) s
 | .cons st ss,ρ,s=>(ex F st ρ s).bind λ c s=>match c with|.next ρ=>exs F ss ρ s|c=>.ok c s
end
structure Df where
 name:String
 ps:Nat
 vs:Nat
 body:Ss
structure Lm where
 id:String
 ps:Nat
 cs:Nat
 body:E
inductive HT where
 | ve
 | isi (cs:List String)|one (c:String)|not (t:HT)|or (a b:HT)
inductive Hd where
 | ret (t:HT)|iff (t:HT) (b:Bool) (h:Hd)|nob (b:Bool)|noe|iffN (t:HT) (h:Hd)|aoN (a b:HT)|sup (x:String) (h:Hd)
noncomputable def subC (c d:String):Bool:=c==d||(d == "TollError"||d == "ValueError")
noncomputable def HT.val (c:String):HT->Bool
 | .isi cs=>cs.any (subC c)
 | .one d=>subC c d
 | .not t=>!t.val c
 | .or a b=>if a.val c then true else b.val c
 | .ve=>true
noncomputable def HT.ok (p:String->Bool):HT->Bool
 | .isi cs=>cs.all p
 | .one d=>p d
 | .not t=>t.ok p
 | .or a b=>a.ok p&&b.ok p
 | .ve=>true
noncomputable def Hd.val (c:String):Hd->Bool
 | .ret t=>t.val c
 | .iff t b h=>if t.val c then b else h.val c
 | .nob b=>b
 | .noe=>false
 | .iffN _ h=>h.val c
 | .aoN a b=>a.val c&&b.val c
 | .sup _ h=>h.val c
noncomputable def Hd.ok (p:String->Bool):Hd->Bool
 | .ret t=>t.ok p
 | .iff t _ h=>t.ok p&&h.ok p
 | .nob _=>true
 | .noe=>true
 | .iffN t h=>t.ok p&&h.ok p
 | .aoN a b=>a.ok p&&b.ok p
 | .sup x h=>p x&&h.ok p
noncomputable def Hd.vD (c:String):Hd->D
 | .ret t=>.bl (t.val c)
 | .iff t b h=>if t.val c then .bl b else h.vD c
 | .nob b=>.bl b
 | .noe=>.non
 | .iffN t h=>if t.val c then .non else h.vD c
 | .aoN a b=>if a.val c then(if b.val c then .bl true else .non)else .non
 | .sup _ h=>h.vD c
noncomputable def Hd.cls (c:String):Hd->String
 | .sup x _=>x|_=>c
noncomputable def al8 (ok:Sto->Bool)(g:D->Env->Sto->R Ct)(gx:D->Env->Sto->Option (String×Sto)):List D->Env->Sto->Option (String×Sto)
 | [],_,_=>none
 | d::l,ρ,s=>if ok s then match g d ρ s with
   | .ok (.next ρ1) s1=>al8 ok g gx l ρ1 s1
   | .ok (.cont ρ1) s1=>al8 ok g gx l ρ1 s1
   | .ok _ _=>none
   | _=>gx d ρ s
  else none
noncomputable def zG (c:Env->Sto->R D)(g:Env->Sto->R Ct)(gx:Env->Sto->Option (String×Sto)):Nat->Env->Sto->Option (String×Sto)
 | 0,_,_=>none
 | n+1,ρ,s=>match c ρ s with
  | .ok (.bl true) s1=>match g ρ s1 with
   | .ok (.next ρ1) s2=>zG c g gx n ρ1 s2
   | .ok (.cont ρ1) s2=>zG c g gx n ρ1 s2
   | .ok _ _=>none
   | _=>gx ρ s1
  | _=>none
open Classical in
noncomputable def whlX (c:Env->Sto->R D)(g:Env->Sto->R Ct)(gx:Env->Sto->Option (String×Sto))(ρ:Env)(s:Sto):Option (String×Sto):=if h:∃ n,(zG c g gx n ρ s).isSome=true then zG c g gx h.choose ρ s else none
inductive XB where
 | no|rais (c:String)|call (f:String) (as:As)|iteT (c:E) (a r:XB)|seq (s:S) (b:XB)
 | iteE (c:E) (a r:XB)|forX (tg:Tg) (it:I) (b:Ss) (x:XB)|whlX (c:E) (b:Ss) (x:XB)
noncomputable def xB (F:Fns):XB->Env->Sto->Option (String×Sto)
 | .no,_,_=>none
 | .rais c,_,s=>if F.xc c=true then some (c,s)else none
 | .call f as,ρ,s=>match am6 F as ρ s with|.ok l s1=>F.xcall f l s1|_=>none
 | .iteT c a r,ρ,s=>match ev F c ρ s with|.ok (.bl b) s1=>if b then xB F a ρ s1 else xB F r ρ s1|_=>none
 | .seq st b,ρ,s=>match ex F st ρ s with|.ok (.next ρ1) s1=>xB F b ρ1 s1|_=>none
 | .forX tg it b x,ρ,s=>match evI F it ρ s with
  | .ok q s0=>al8 (λ s=>chk s0 s q.src) (λ d ρ s=>match zP ρ tg d with
   | some ρ=>exs F b ρ s
   | none=>.bad) (λ d ρ s=>match zP ρ tg d with
   | some ρ=>xB F x ρ s
   | none=>none) q.its ρ s0
  | _=>none
 | .iteE c a r,ρ,s=>match ev F c ρ s with|.ok (.bl b) s1=>if b then xB F a ρ s1 else xB F r ρ s1|_=>none
 | .whlX c b x,ρ,s=>DV.whlX (ev F c) (exs F b) (xB F x) ρ s
structure Xf where
 ps:Nat
 vs:Nat
 body:XB
structure Tf where
 ps:Nat
 vs:Nat
 body:Ss
 xb:XB
 c:String
 i:Nat
 h:Hd
 tl:Ss
 pre:Ss
structure Pr where
 df:String->Option Df
 lm:String->Option Lm
 con:String->Option D
 xf:String->Option Xf
 tf:String->Option Tf
 xc:String->Bool
 xt:String->Bool
 cdc:String->Option (List (List Nat×List Nat))
noncomputable def ar0 (st st':Sto):Bool:=(a7 st.length).all λ i=>decide (st'[i]?=st[i]?)||(match st'[i]? with|some o=>o.bnd st.length|none=>false)
noncomputable def zo (st:Sto)(d:D)(st':Sto):R D :=
 if ar0 st st' then
  match d with
  | .ref r=>if r<st.length then .ok d (st'.take st.length)else match st'[r]? with
   | some o=>if o.bnd st.length then .ok (.ref st.length) (st'.take st.length++[o])else .ok d st'
   | none=>.bad
  | d=>if d.bnd st.length then .ok d (st'.take st.length)else .ok d st'
 else .ok d st'
noncomputable def Hd.out (h:Hd)(c:String)(s s':Sto):R D:=match h with
 | .noe=>zo s (.ref s'.length) (s'++[.lst []])
 | h=>zo s (h.vD c) s'
noncomputable def aB8 (F:Fns)(d:Tf)(s:Sto)(ρ0:Env)(s0:Sto):R D:=match xB F d.xb ρ0 s0 with
 | some (c,s')=>if c=d.c/\F.xc c=true/\d.h.ok F.xt=true then d.h.out c s s' else .bad
 | none=>(exs F d.body ρ0 s0).bind λ c s1=>match c with
  | .ret v=>zo s v s1
  | .next ρ=>(exs F d.tl ρ s1).bind λ c s2=>match c with
   | .ret v=>zo s v s2
   | .next _=>zo s .non s2
   | _=>.bad
  | _=>.bad
noncomputable def bj4 (F:Fns)(d:Tf)(l:List D)(s:Sto):R D:=match exs F d.pre (l.map some++aC d.vs none) s with
 | .ok (.next ρ0) s0=>aB8 F d s ρ0 s0
 | _=>.bad
noncomputable def aa0 (P:Pr):Nat->Fns
 | 0=>⟨λ _ _ _=>.bad,λ _ _ _ _=>.bad,P.con,λ _ _ _=>none,P.xc,P.xt,P.cdc⟩
 | n+1=>⟨λ f l s=>match P.df f with
   | some d=>if l.length=d.ps then(exs (aa0 P n) d.body (l.map some++aC d.vs none) s).bind λ c s'=>match c with
     | .ret v=>zo s v s'
     | .next _=>zo s .non s'
     | _=>.bad else .bad
   | none=>match P.tf f with
    | some d=>if l.length=d.ps then bj4 (aa0 P n) d l s else .bad
    | none=>.bad,
  λ id cs l s=>match P.lm id with
   | some d=>if l.length=d.ps/\cs.length=d.cs/\(D.nclL l&&D.nclL cs&&s.all O.ncl)=true then(ev (aa0 P n) d.body (l.map some++cs.map some) s).bind λ v s'=>zo s v s' else .bad
   | none=>.bad,P.con,
  λ f l s=>match P.xf f with
   | some d=>if l.length=d.ps then xB (aa0 P n) d.body (l.map some++aC d.vs none) s else none
   | none=>none,P.xc,P.xt,P.cdc⟩
def KP (s s':Sto):Prop:=∀(i:Nat) (o:O),s[i]?=some o->∃ o',s'[i]?=some o'/\o'.kd=o.kd
theorem KP.refl (s:Sto):KP s s:=λ i o h=>⟨o,h,rfl⟩
theorem KP.trans {a b c:Sto}(h:KP a b)(g:KP b c):KP a c:=λ i o e=>by
 obtain⟨B,e1,k1⟩:=h i o e
 obtain⟨F,e2,k2⟩:=g i B e1
 exact⟨F,e2,k2.trans k1⟩
theorem KP.app (s t:Sto):KP s (s++t):=λ i o e=>⟨o,by rw[aP (ae.mp e).1];exact e,rfl⟩
theorem KP.set {s:Sto}{r:Nat}{o B:O}(h:s[r]?=some B)(k:o.kd=B.kd):KP s (s.set r o):=λ i u e=>by
 by_cases z:r=i
 ·subst z
  rw[h]at e;cases e
  exact⟨o,a9 (ae.mp h).1,k⟩
 ·exact⟨u,by rw[bh z];exact e,rfl⟩
def KR {α:Type}(s:Sto)(r:R α):Prop:=∀ a s',r=.ok a s'->KP s s'
theorem KR.bad {α:Type}{s:Sto}:KR s (.bad:R α):=λ _ _ h=>by cases h
theorem KR.ok {α:Type}{s:Sto}{a:α}:KR s (.ok a s):=λ _ _ h=>by cases h;exact KP.refl _
theorem KR.bind {α β:Type}{s:Sto}{r:R α}{f:α->Sto->R β}(h:KR s r)(g:∀ a s1,KR s1 (f a s1)):KR s (r.bind f):=λ b s' e=>by
 obtain⟨a,s1,e1,e2⟩:=R.bind_inv e
 exact(h a s1 e1).trans (g a s1 b s' e2)
theorem KR.tru {α:Type}{s:Sto}{r:R D}{f:Bool->Sto->R α}(h:KR s r)(g:∀ a s1,KR s1 (f a s1)):KR s (tru r f):=KR.bind h λ a s1=>by
 cases a with
 | bl b=>exact g b s1
 | _=>exact KR.bad
theorem KR.if {α:Type}{s:Sto}{c:Prop}[Decidable c]{a b:R α}(h:KR s a)(g:KR s b):KR s (if c then a else b):=by split;exact h;exact g
theorem KR.al {s:Sto}{o:O}:KR s (aj2 o s):=λ _ _ h=>by cases h;exact KP.app _ _
theorem KR.pu {s:Sto}{d:D}:KR s (pur d s):=λ _ _ h=>by cases h;exact KP.refl _
theorem KR.bd {s:Sto}:KR s ((DV.bad:M D) s):=λ _ _ h=>by cases h
theorem KR.im {s:Sto}{c:Prop}{_:Decidable c}{d:D}:KR s ((if c then pur d else DV.bad:M D) s):=by split;exact KR.pu;exact KR.bd
theorem KR.ia {s:Sto}{c:Prop}{_:Decidable c}{o:O}:KR s (if c then aj2 o s else .bad):=KR.if KR.al KR.bd
theorem bm9 (op:BOp)(x y:D)(s:Sto):KR s (ao3 op x y s):=by
 cases op with
 | add=>cases x with
  | int a=>cases y with
   | int b=>exact KR.pu
   | _=>exact KR.bd
  | str a=>cases y with
   | str b=>exact KR.im
   | _=>exact KR.bd
  | tup a=>cases y with
   | tup b=>exact KR.im
   | _=>exact KR.bd
  | ref a=>cases y with
   | ref b =>
    show KR s (match s[a]?,s[b]? with|some (.lst l),some (.lst m)=>if l.length+m.length<=LIM then aj2 (.lst (l++m)) s else .bad|_,_=>.bad)
    split
    ·exact KR.ia
    ·exact KR.bd
   | _=>exact KR.bd
  | _=>exact KR.bd
 | sub=>intro a s' h;exact absurd h (by nofun)
 | mul=>cases x with
  | int a=>cases y with
   | int b=>exact KR.im
   | _=>exact KR.bd
  | str a=>cases y with
   | int b=>exact KR.im
   | _=>exact KR.bd
  | tup a=>cases y with
   | int b=>exact KR.im
   | _=>exact KR.bd
  | ref a=>cases y with
   | int n =>
    show KR s (match s[a]? with|some (.lst l)=>if 0<=n/\n<=1000000/\l.length*n.toNat<=LIM then aj2 (.lst (aV3 n.toNat l)) s else .bad|_=>.bad)
    split
    ·exact KR.ia
    ·exact KR.bd
   | _=>exact KR.bd
  | _=>exact KR.bd
 | fdiv=>cases x with
  | int a=>cases y with
   | int b=>exact KR.im
   | _=>exact KR.bd
  | _=>exact KR.bd
 | mod=>cases x with
  | int a=>cases y with
   | int b=>exact KR.im
   | _=>exact KR.bd
  | _=>exact KR.bd
 | pow=>cases x with
  | int a=>cases y with
   | int b=>exact KR.im
   | _=>exact KR.bd
  | _=>exact KR.bd
 | shl=>cases x with
  | int a=>cases y with
   | int b=>exact KR.im
   | _=>exact KR.bd
  | _=>exact KR.bd
 | shr=>intro a s' h;exact absurd h (by nofun)
 | band=>intro a s' h;exact absurd h (by nofun)
 | _=>exact KR.bd
theorem bB8 (f:Int->List Nat->Int->List Nat->Bool)(x y:D)(s:Sto):KR s (bT5 f x y s):=by
 intro a s' h
 unfold bT5 at h
 split at h<;>cases h
 exact KP.refl _
theorem aZ3 (op:COp)(x y:D)(s:Sto):KR s (qB op x y s):=by
 have B:∀ a b:D,KR s (inM a b s):=λ a b=>by
  intro r s' h
  unfold inM at h
  split at h
  ·split at h<;>cases h;exact KP.refl _
  ·split at h
   ·split at h<;>cases h;exact KP.refl _
   ·split at h<;>cases h;exact KP.refl _
   ·split at h<;>cases h;exact KP.refl _
   ·cases h
  ·split at h<;>cases h;exact KP.refl _
  ·cases h
 cases op with
 | isin=>exact KR.bind (B x y) λ _ _=>KR.ok
 | notin=>exact KR.bind (B x y) λ _ _=>KR.ok
 | eq=>intro a s' h;change eqM x y s=_ at h;unfold eqM at h;split at h<;>cases h;exact KP.refl _
 | ne =>
  intro a s' h
  change(match eqv s DEEP x y with|some r=>R.ok (D.bl (!r)) s|none=>.bad)=_ at h
  split at h<;>cases h;exact KP.refl _
 | _ =>
  intro a s' h
  cases x with
  | int i=>(cases y with
   | int j=>cases h<;>exact KP.refl _
   | _=>cases h)
  | tup l=>(cases y with
   | tup m=>first|exact bB8 _ _ _ _ _ _ h|cases h
   | _=>cases h)
  | _=>cases h
theorem cf8 (x y:D)(s:Sto):KR s (ixM x y s):=by
 intro a s' h
 unfold ixM at h
 repeat' split at h
 all_goals first|(cases h;exact KP.refl _;done)|(cases h;done)
theorem bx3 (x:D)(B F:Option Int)(s:Sto):KR s (slM x B F s):=by
 intro a s' h
 unfold slM at h
 repeat' split at h
 all_goals first|(cases h;exact KP.refl _;done)|(cases h;exact KP.app _ _;done)|(cases h;done)
theorem bE1 (x:D)(s:Sto):KR s (bJ5 x s):=by
 intro a s' h
 unfold bJ5 at h
 repeat' split at h
 all_goals first|(cases h;exact KP.refl _;done)|(cases h;done)
theorem aL3 (x:D)(s:Sto):KR s (bt7 x s):=by
 intro a s' h
 unfold bt7 at h
 repeat' split at h
 all_goals first|(cases h;exact KP.refl _;done)|(cases h;done)
theorem bD7 (x:D)(s:Sto):KR s (aA8 x s):=by
 intro a s' h
 unfold aA8 at h
 repeat' split at h
 all_goals first|(cases h;exact KP.refl _;done)|(cases h;done)
theorem aP1 (x:D)(s:Sto):KR s (aS0 x s):=by
 intro a s' h
 unfold aS0 at h
 repeat' split at h
 all_goals first|(cases h;exact KP.refl _;done)|(cases h;done)
theorem bl8 (x:D)(s:Sto):KR s (bk4 x s):=by
 intro a s' h
 unfold bk4 at h
 repeat' split at h
 all_goals first|(cases h;exact KP.refl _;done)|(cases h;done)
theorem bG9 (x y:D)(s:Sto):KR s (bw4 x y s):=by
 intro a s' h
 unfold bw4 at h
 repeat' split at h
 all_goals first|(cases h;exact KP.refl _;done)|(cases h;done)
theorem bx4 (l:List D)(s:Sto):KR s (aZ1 l s):=by
 intro a s' h
 unfold aZ1 at h
 split at h
 ·split at h<;>cases h;exact KP.refl _
 ·cases h;exact KP.refl _
 ·cases h
theorem bB5 (l:List D)(s:Sto):KR s (aS5 l s):=by
 intro a s' h
 unfold aS5 at h
 split at h
 ·split at h<;>cases h;exact KP.refl _
 ·cases h
theorem ch7 (b:Bi)(l:List D)(s:Sto):KR s (bi b l s):=by
 have k1:∀ f:D->M D,(∀ d,KR s (f d s))->KR s (bi1 f l s):=λ f B=>by
  cases l with
  | nil=>exact KR.bad
  | cons d t=>(cases t with
   | nil=>exact B d
   | cons _ _=>exact KR.bad)
 have k2:∀ k d,KR s (isK k d s):=λ k d=>by
  intro a s' h
  unfold isK at h
  repeat' split at h
  all_goals first|(cases h;exact KP.refl _;done)|(cases h;done)
 have k3:∀ d,KR s (bA2 d s):=λ d=>by
  intro a s' h
  unfold bA2 at h
  repeat' split at h
  all_goals first|(cases h;exact KP.refl _;done)|(cases h;done)
 cases b with
 | len=>exact k1 _ k3
 | isInt=>exact k1 _ (k2 1)
 | isBool=>exact k1 _ (k2 2)
 | isStr=>exact k1 _ (k2 3)
 | isTup=>exact k1 _ (k2 4)
 | isList=>exact k1 _ (k2 5)
 | str=>exact bx4 l s
 | int =>
  intro a s' h
  have h:(match au2 l with|some [b]=>R.ok (D.int (if b then 1 else 0)) s|some _=>.bad|none=>aS5 l s)=.ok a s':=h
  split at h
  ·cases h;exact KP.refl _
  ·cases h
  ·exact bB5 l s a s' h
 | _ =>
  intro a s' h
  unfold bi at h
  first|(cases h;done)|(simp only at h;split at h<;>first|(cases h;exact KP.refl _;done)|(cases h;done))
theorem bR4 (k:Mk)(l:List D)(s:Sto):KR s (mk k l s):=by
 cases k with
 | tuple=>exact KR.ok
 | list=>exact KR.al
 | lenset=>exact KR.bad
 | _ =>
  intro a s' h
  unfold mk at h
  simp only at h
  repeat' split at h
  all_goals first|(cases h;exact KP.refl _;done)|(cases h;exact KP.app _ _;done)|(cases h;done)
theorem bv3 (k:Mk)(l:List D)(d:D)(s:Sto):KR s (mkD k l d s):=by
 intro a s' h
 unfold mkD at h
 repeat' split at h
 all_goals first|(cases h;exact KP.refl _;done)|(cases h;done)
theorem bG5 (m : Mt) (o : D) (l : List D) (s : Sto) : KR s (meth m o l s) := by
  have lc : ∀ {r : Nat} {f : List D -> R D}, (∀ l, s[r]? = some (.lst l) -> KR s (f l)) -> KR s (match s[r]? with|some (.lst l) => f l|_ => .bad : R D) := λ {r f} h => by
    cases e : s[r]? with
    | none => exact KR.bad
    | some ob => cases ob with
      | lst l => exact h l e
      | _ => exact KR.bad
  cases o with
  | ref r => cases m with
    | append => match l with
      | [d] => exact lc λ l e => KR.if (λ _ _ h => by cases h; exact KP.set e rfl) KR.bad
      | [] => exact KR.bd
      | _ :: _ :: _ => exact KR.bd
    | pop => match l with
      | [] => exact lc λ l e => by
                show KR s (match l.getLast? with|some d => R.ok d (s.set r (.lst l.dropLast))|none => .bad : R D)
                split
                · exact λ _ _ h => by cases h; exact KP.set e rfl
                · exact KR.bad
      | _ :: _ => exact KR.bd
    | reverse => match l with
      | [] => exact lc λ l e => λ _ _ h => by cases h; exact KP.set e rfl
      | _ :: _ => exact KR.bd
    | clear => match l with
      | [] => exact lc λ l e => λ _ _ h => by cases h; exact KP.set e rfl
      | _ :: _ => exact KR.bd
    | index => match l with
      | [d] => exact lc λ l e => by
                show KR s (match inL s d l, idx s d 0 l with|some true, some n => R.ok (.int n) s|_, _ => .bad : R D)
                split
                · exact λ _ _ h => by cases h; exact KP.refl _
                · exact KR.bad
      | [] => exact KR.bd
      | _ :: _ :: _ => exact KR.bd
    | _ => exact KR.bd
  | _ => cases m <;> exact KR.bd
theorem aX3 (o:D)(l:List D)(s:Sto):KR s (bU2 o l s):=by
 intro a s' h
 unfold bU2 at h
 repeat' split at h
 all_goals first|(cases h;done)|(rename_i e _;cases h;exact KP.set e rfl;done)
theorem bh9 (o i v:D)(s:Sto):KR s (setIx o i v s):=by
 intro a s' h
 unfold setIx at h
 cases o with
 | ref r =>
  simp only at h
  cases e:s[r]? with
  | none=>rw[e]at h;cases h
  | some ob =>
   rw[e]at h
   cases ob with
   | lst l =>
    cases i with
    | int k=>simp only at h;split at h<;>cases h;exact KP.set e rfl
    | _=>cases h
   | dic l=>simp only at h;split at h<;>cases h;exact KP.set e rfl
   | dit l=>simp only at h;split at h<;>cases h;exact KP.set e rfl
   | _=>cases h
 | _=>cases h
theorem bE8 (o k e:D)(s:Sto):KR s (cd8 o k e s):=by
 intro a s' h
 unfold cd8 at h
 repeat' split at h
 all_goals first|(cases h;exact KP.refl _;done)|(cases h;done)
theorem bF6 (d:D)(s:Sto):KR s (ce0 d s):=by
 intro a s' h
 unfold ce0 at h
 repeat' split at h
 all_goals first|(cases h;exact KP.refl _;done)|(cases h;done)
structure FK (F:Fns):Prop where
 call:∀ f l s,KR s (F.call f l s)
 lam:∀ id cs l s,KR s (F.lam id cs l s)
 xcall:∀ f l s c s',F.xcall f l s=some (c,s')->KP s s'
theorem ax6 {ok:Sto->Bool}{g:D->Env->Sto->R (Option D×Env)}(hg:∀ d ρ s,KR s (g d ρ s)):∀(l:List D) (ρ:Env) (s:Sto),KR s (ak0 ok g l ρ s)
 | [],ρ,s=>KR.if KR.ok KR.bad
 | d::l,ρ,s=>KR.if (KR.bind (hg d ρ s) λ p s1=>KR.bind (ax6 hg l p.2 s1) λ r s2=>KR.ok) KR.bad
section
variable {F:Fns} (hF:FK F)
theorem ba3 (ρ:Env)(i:Nat)(s:Sto):KR s (aH1 ρ i s):=by
 intro a s' h
 unfold aH1 at h
 split at h<;>cases h;exact KP.refl _
include hF
mutual
theorem za:∀(e:E) (ρ:Env) (s:Sto),KR s (ev F e ρ s)
 | .var i,ρ,s=>ba3 ρ i s
 | .cst c,ρ,s=>KR.ok
 | .glob x,ρ,s=>by
  intro a s' h
  change(match F.con x with|some d=>R.ok d s|none=>.bad)=_ at h
  split at h<;>cases h;exact KP.refl _
 | .bin op a b,ρ,s=>KR.bind (za a ρ s) λ x s=>KR.bind (za b ρ s) λ y s=>bm9 op x y s
 | .neg a,ρ,s=>KR.bind (za a ρ s) λ x s=>by
  cases x with
  | int i=>exact KR.ok
  | _=>exact KR.bad
 | .not a,ρ,s=>KR.tru (za a ρ s) λ b s=>KR.ok
 | .cmp op a b,ρ,s=>KR.bind (za a ρ s) λ x s=>KR.bind (za b ρ s) λ y s=>aZ3 op x y s
 | .chain o p a b c,ρ,s=>KR.bind (za a ρ s) λ x s=>KR.bind (za b ρ s) λ y s=>KR.tru (aZ3 o x y s) λ k s=>KR.if (KR.bind (za c ρ s) λ z s=>aZ3 p y z s) KR.ok
 | .isN a,ρ,s=>KR.bind (za a ρ s) λ x s=>KR.ok
 | .notN a,ρ,s=>KR.bind (za a ρ s) λ x s=>KR.ok
 | .isB a b,ρ,s=>KR.bind (za a ρ s) λ x s=>by
  cases x with
  | bl i=>exact KR.ok
  | _=>exact KR.bad
 | .notB a b,ρ,s=>KR.bind (za a ρ s) λ x s=>by
  cases x with
  | bl i=>exact KR.ok
  | _=>exact KR.bad
 | .and a b,ρ,s=>KR.tru (za a ρ s) λ c s=>KR.if (KR.tru (za b ρ s) λ c s=>KR.ok) KR.ok
 | .or a b,ρ,s=>KR.tru (za a ρ s) λ c s=>KR.if KR.ok (KR.tru (za b ρ s) λ c s=>KR.ok)
 | .ite c a b,ρ,s=>KR.tru (za c ρ s) λ k s=>KR.if (za a ρ s) (za b ρ s)
 | .tup es,ρ,s=>KR.bind (ak7 es ρ s) λ l s=>KR.ok
 | .lst es,ρ,s=>KR.bind (ak7 es ρ s) λ l s=>KR.al
 | .dic .nil .nil,ρ,s=>KR.al
 | .dic (.cons k .nil) (.cons v .nil),ρ,s=>by
  intro a s' h
  obtain⟨kd,s1,e1,h⟩:=R.bind_inv (show(ev F k ρ (s++[.dic []])).bind _=_ from h)
  obtain⟨B,s2,e2,h⟩:=R.bind_inv h
  split at h
  case isFalse=>cases h
  rename_i hc
  cases h
  exact((KP.app _ _).trans ((za k ρ _ _ _ e1).trans (za v ρ _ _ _ e2))).trans (KP.set hc.2 rfl)
 | .dic .nil (.cons _ _),ρ,s=>KR.bad
 | .dic (.cons _ .nil) .nil,ρ,s=>KR.bad
 | .dic (.cons _ .nil) (.cons _ (.cons _ _)),ρ,s=>KR.bad
 | .dic (.cons _ (.cons _ _)) _,ρ,s=>KR.bad
 | .dicT,ρ,s=>KR.al
 | .dicU k v,ρ,s=>by
  intro a s' h
  obtain⟨kd,s1,e1,h⟩:=R.bind_inv (show(ev F k ρ (s++[.dit []])).bind _=_ from h)
  obtain⟨B,s2,e2,h⟩:=R.bind_inv h
  split at h
  case isFalse=>cases h
  rename_i hc
  cases h
  exact((KP.app _ _).trans ((za k ρ _ _ _ e1).trans (za v ρ _ _ _ e2))).trans (KP.set hc.2 rfl)
 | .fstr es,ρ,s=>KR.bind (ak7 es ρ s) λ x s=>by
  intro a s' h
  unfold bT3 at h
  split at h
  ·split at h<;>cases h;exact KP.refl _
  ·cases h
 | .inC e c,ρ,s=>KR.bind (za e ρ s) λ x s=>by
  intro a s' h
  unfold ck9 at h
  split at h<;>cases h;exact KP.refl _
 | .getC c e,ρ,s=>KR.bind (za e ρ s) λ x s=>by
  intro a s' h
  unfold bL0 at h
  split at h
  ·split at h
   ·split at h<;>cases h;exact KP.refl _
   ·cases h
  ·cases h
 | .bitl a,ρ,s=>KR.bind (za a ρ s) λ x s=>by
  intro a s' h
  unfold bW0 at h
  repeat' split at h
  all_goals first|(cases h;exact KP.refl _;done)|(cases h;done)
 | .lrng a,ρ,s=>KR.bind (za a ρ s) λ x s=>by
  intro a s' h
  unfold bM9 at h
  repeat' split at h
  all_goals first|(cases h;exact KP.app _ _;done)|(cases h;done)
 | .get2 o k d,ρ,s=>KR.bind (za o ρ s) λ x s=>KR.bind (za k ρ s) λ y s=>KR.bind (za d ρ s) λ z s=>bE8 x y z s
 | .ix a b,ρ,s=>KR.bind (za a ρ s) λ x s=>KR.bind (za b ρ s) λ y s=>cf8 x y s
 | .slL a lo,ρ,s=>KR.bind (za a ρ s) λ x s=>KR.bind (za lo ρ s) λ y s=>by
  cases y with
  | int i=>exact bx3 _ _ _ _
  | _=>exact KR.bad
 | .slU a hi,ρ,s=>KR.bind (za a ρ s) λ x s=>KR.bind (za hi ρ s) λ y s=>by
  cases y with
  | int i=>exact bx3 _ _ _ _
  | _=>exact KR.bad
 | .slLU a lo hi,ρ,s=>KR.bind (za a ρ s) λ x s=>KR.bind (za lo ρ s) λ y s=>by
  cases y with
  | int i =>
   refine KR.bind (za hi ρ s) λ z s=>?_
   cases z with
   | int j=>exact bx3 _ _ _ _
   | _=>exact KR.bad
  | _=>exact KR.bad
 | .rev a,ρ,s=>KR.bind (za a ρ s) λ x s=>by
  cases x with
  | str l=>exact KR.ok
  | ref r =>
   intro a s' h
   unfold cf5 at h
   repeat' split at h
   all_goals first|(cases h;exact KP.refl _;done)|(cases h;exact KP.app _ _;done)|(cases h;done)
  | _=>exact KR.bad
 | .call f as,ρ,s=>KR.bind (an7 as ρ s) λ l s=>hF.call f l s
 | .callC f as,ρ,s=>KR.bind (an7 as ρ s) λ l s=>KR.bind (hF.call f l s) λ d s'=>KR.if KR.ok KR.bad
 | .callV i es,ρ,s=>KR.bind (ak7 es ρ s) λ l s=>by
  intro a s' h
  split at h
  ·exact hF.call _ _ _ _ _ h
  ·exact hF.lam _ _ _ _ _ _ h
  ·cases h
 | .bi b es,ρ,s=>KR.bind (ak7 es ρ s) λ l s=>ch7 b l s
 | .mk k it,ρ,s=>KR.bind (bg0 it ρ s) λ q s=>bR4 k q s
 | .mkD k it d,ρ,s=>KR.bind (bg0 it ρ s) λ q s=>KR.bind (za d ρ s) λ d s=>bv3 k q d s
 | .meth m o es,ρ,s=>KR.bind (za o ρ s) λ x s=>KR.bind (ak7 es ρ s) λ l s=>bG5 m x l s
 | .ext o it,ρ,s=>KR.bind (za o ρ s) λ x s=>KR.bind (bg0 it ρ s) λ q s=>aX3 x q s
 | .extS o e,ρ,s=>KR.bind (za o ρ s) λ x s=>KR.bind (za e ρ s) λ y s=>by
  intro a s' h
  unfold extS at h
  repeat' split at h
  all_goals first|(cases h;done)|exact aX3 _ _ _ _ _ h
 | .join o e,ρ,s=>KR.bind (za o ρ s) λ x s=>KR.bind (za e ρ s) λ y s=>bG9 x y s
 | .mks k e,ρ,s=>KR.bind (za e ρ s) λ x s=>KR.bind (aL3 x s) λ q s=>bR4 k q s
 | .mkDs k e d,ρ,s=>KR.bind (za e ρ s) λ x s=>KR.bind (za d ρ s) λ z s=>KR.bind (aL3 x s) λ q s=>bv3 k q z s
 | .minK _ e j,ρ,s=>KR.bind (za e ρ s) λ x s=>KR.bind (aL3 x s) λ q s=>by
  intro a s' h
  unfold bv5 at h
  split at h
  ·split at h<;>cases h;exact KP.refl _
  ·cases h
 | .spl o c,ρ,s=>KR.bind (za o ρ s) λ x s=>by
  intro a s' h
  unfold cd6 at h
  split at h
  ·split at h<;>cases h;exact KP.app _ _
  ·cases h
theorem ak7:∀(es:Es) (ρ:Env) (s:Sto),KR s (evs F es ρ s)
 | .nil,ρ,s=>KR.ok
 | .cons e es,ρ,s=>KR.bind (za e ρ s) λ d s=>KR.bind (ak7 es ρ s) λ l s=>KR.ok
theorem an7:∀(B:As) (ρ:Env) (s:Sto),KR s (am6 F B ρ s)
 | .nil,ρ,s=>KR.ok
 | .ex e B,ρ,s=>KR.bind (za e ρ s) λ d s=>KR.bind (an7 B ρ s) λ l s=>KR.ok
 | .lam id caps B,ρ,s=>by
  intro a s' h
  change(match by1 ρ caps with|some cs=>(am6 F B ρ s).bind λ l s=>R.ok (D.clo id cs::l) s|none=>.bad)=_ at h
  split at h
  ·exact KR.bind (an7 B ρ s) (λ l s=>KR.ok) _ _ h
  ·cases h
 | .fn f B,ρ,s=>KR.bind (an7 B ρ s) λ l s=>KR.ok
theorem aO0:∀(it:I) (ρ:Env) (s:Sto),KR s (evI F it ρ s)
 | .seq e,ρ,s=>KR.bind (za e ρ s) λ d s=>bD7 d s
 | .rng1 a,ρ,s=>KR.bind (za a ρ s) λ x s=>by
  cases x with
  | int i=>exact KR.if KR.ok KR.bad
  | _=>exact KR.bad
 | .rng2 a b,ρ,s=>KR.bind (za a ρ s) λ x s=>KR.bind (za b ρ s) λ y s=>by
  cases x with
  | int i=>(cases y with
   | int j=>exact KR.if KR.ok KR.bad
   | _=>exact KR.bad)
  | _=>exact KR.bad
 | .rngD a,ρ,s=>KR.bind (za a ρ s) λ x s=>by
  cases x with
  | int i=>exact KR.if KR.ok KR.bad
  | _=>exact KR.bad
 | .rng3 a b c,ρ,s=>KR.bind (za a ρ s) λ x s=>KR.bind (za b ρ s) λ y s=>by
  cases x with
  | int i=>(cases y with
   | int j=>exact KR.if KR.ok KR.bad
   | _=>exact KR.bad)
  | _=>exact KR.bad
 | .enum (.seq e),ρ,s=>KR.bind (za e ρ s) λ d s=>KR.bind (bl8 d s) λ q s=>KR.ok
 | .zip (.seq a) (.seq b),ρ,s=>KR.bind (za a ρ s) λ x s=>KR.bind (za b ρ s) λ y s=>KR.bind (aP1 x s) λ p s=>KR.bind (aP1 y s) λ q s=>KR.ok
 | .enum (.rng1 _),ρ,s=>KR.bad
 | .enum (.rng2 _ _),ρ,s=>KR.bad
 | .enum (.rng3 _ _ _),ρ,s=>KR.bad
 | .enum (.rngD _),ρ,s=>KR.bad
 | .enum (.enum _),ρ,s=>KR.bad
 | .enum (.zip _ _),ρ,s=>KR.bad
 | .enum (.items _),ρ,s=>KR.bad
 | .zip (.rng1 _) _,ρ,s=>KR.bad
 | .zip (.rng2 _ _) _,ρ,s=>KR.bad
 | .zip (.rng3 _ _ _) _,ρ,s=>KR.bad
 | .zip (.rngD _) _,ρ,s=>KR.bad
 | .zip (.enum _) _,ρ,s=>KR.bad
 | .zip (.zip _ _) _,ρ,s=>KR.bad
 | .zip (.items _) _,ρ,s=>KR.bad
 | .zip (.seq _) (.rng1 _),ρ,s=>KR.bad
 | .zip (.seq _) (.rng2 _ _),ρ,s=>KR.bad
 | .zip (.seq _) (.rng3 _ _ _),ρ,s=>KR.bad
 | .zip (.seq _) (.rngD _),ρ,s=>KR.bad
 | .zip (.seq _) (.enum _),ρ,s=>KR.bad
 | .zip (.seq _) (.zip _ _),ρ,s=>KR.bad
 | .zip (.seq _) (.items _),ρ,s=>KR.bad
 | .items e,ρ,s=>KR.bad
theorem bg0:∀(it:L) (ρ:Env) (s:Sto),KR s (evL F it ρ s)
 | .comp tg it e caps,ρ,s=>KR.bind (aO0 it ρ s) λ q s0=>KR.if (ax6 (λ d ρ s=>by
   intro a s' h
   split at h
   ·exact KR.bind (za e _ s) (λ v s=>KR.ok) _ _ h
   ·cases h) _ _ _) KR.bad
 | .compIf tg it c e caps,ρ,s=>KR.bind (aO0 it ρ s) λ q s0=>KR.if (ax6 (λ d ρ s=>by
   intro a s' h
   split at h
   ·exact KR.tru (za c _ s) (λ k s=>KR.if (KR.bind (za e _ s) λ v s=>KR.ok) KR.ok) _ _ h
   ·cases h) _ _ _) KR.bad
 | .disp es,ρ,s=>ak7 es ρ s
 | .seq e,ρ,s=>KR.bind (za e ρ s) λ d s=>bE1 d s
 | .itm e,ρ,s=>KR.bind (za e ρ s) λ d s=>bF6 d s
end
theorem aI1 {ok:Sto->Bool}{g:D->Env->Sto->R Ct}(hg:∀ d ρ s,KR s (g d ρ s)):∀(l:List D) (ρ:Env) (s:Sto),KR s (at8 ok g l ρ s)
 | [],ρ,s=>KR.if KR.ok KR.bad
 | d::l,ρ,s=>KR.if (KR.bind (hg d ρ s) λ c s=>by
   cases c with
   | next ρ=>exact aI1 hg l ρ s
   | cont ρ=>exact aI1 hg l ρ s
   | brk ρ=>exact KR.ok
   | ret d=>exact KR.ok) KR.bad
theorem aI4 {c:Env->Sto->R D}{g:Env->Sto->R Ct}(hc:∀ ρ s,KR s (c ρ s))(hg:∀ ρ s,KR s (g ρ s)):∀(n:Nat) (ρ:Env) (s:Sto),KR s (qU c g n ρ s)
 | 0,ρ,s=>KR.bad
 | n+1,ρ,s=>KR.tru (hc ρ s) λ b s=>KR.if (KR.bind (hg ρ s) λ h s=>by
   cases h with
   | next ρ=>exact aI4 hc hg n ρ s
   | cont ρ=>exact aI4 hc hg n ρ s
   | brk ρ=>exact KR.ok
   | ret d=>exact KR.ok) KR.ok
mutual
theorem bY7:∀(st:S) (ρ:Env) (s:Sto),KR s (ex F st ρ s)
 | .asg tg e,ρ,s=>KR.bind (za hF e ρ s) λ d s=>by
  intro a s' h
  split at h<;>cases h;exact KP.refl _
 | .setIx o i e,ρ,s=>KR.bind (za hF e ρ s) λ d s=>KR.bind (za hF o ρ s) λ x s=>KR.bind (za hF i ρ s) λ y s=>KR.bind (bh9 x y d s) λ _ s=>KR.ok
 | .aug i e,ρ,s=>KR.bind (ba3 ρ i s) λ x s=>KR.bind (za hF e ρ s) λ y s=>by
  intro a s' h
  repeat' split at h
  all_goals first|(cases h;exact KP.refl _;done)|(cases h;done)
 | .ex e,ρ,s=>KR.bind (za hF e ρ s) λ d s=>KR.ok
 | .ret e,ρ,s=>KR.bind (za hF e ρ s) λ d s=>KR.ok
 | .retN,ρ,s=>KR.ok
 | .ite c a b,ρ,s=>KR.tru (za hF c ρ s) λ k s=>KR.if (ak3 a ρ s) (ak3 b ρ s)
 | .whl c b,ρ,s=>by
  intro r s' h
  change whl (ev F c) (exs F b) ρ s=_ at h
  unfold whl at h
  split at h
  ·exact aI4 hF (λ ρ s=>za hF c ρ s) (λ ρ s=>ak3 b ρ s) _ ρ s _ _ h
  ·cases h
 | .for_ tg it b,ρ,s=>KR.bind (aO0 hF it ρ s) λ q s0=>aI1 hF (λ d ρ s=>by
   intro a s' h
   split at h
   ·exact ak3 b _ _ _ _ h
   ·cases h) _ _ _
 | .pass,ρ,s=>KR.ok
 | .cont,ρ,s=>KR.ok
 | .brk,ρ,s=>KR.ok
 | .raise,ρ,s=>KR.bad
 | .und i,ρ,s=>by
  intro a s' h
  change(match ar9 ρ i with|some ρ=>R.ok (Ct.next ρ) s|none=>.bad)=_ at h
  split at h<;>cases h;exact KP.refl _
theorem ak3:∀(h:Ss) (ρ:Env) (s:Sto),KR s (exs F h ρ s)
 | .nil,ρ,s=>KR.ok
 | .cons st h,ρ,s=>KR.bind (bY7 st ρ s) λ c s=>by
  cases c with
  | next ρ=>exact ak3 h ρ s
  | _=>exact KR.ok
end
end
theorem qc {s st:Sto}{d:D}(h:KP s st):KR s (zo s d st):=by
 have tk:∀ t,KP s (st.take s.length++t):=λ t i o e=>by
  obtain⟨F,e',k⟩:=h i o e
  have G:=(ae.mp e).1
  have J:=(ae.mp e').1
  refine⟨F,?_,k⟩
  rw[aP (by rw[bZ];omega),i5,if_pos G];exact e'
 have B:KP s (st.take s.length):=by have:=tk [];rwa [bv]at this
 intro a s' e
 unfold zo at e
 repeat' split at e
 all_goals first|(cases e;exact B;done)|(cases e;exact tk _;done)|(cases e;exact h;done)|(cases e;done)
theorem aA5 {ok:Sto->Bool}{g:D->Env->Sto->R Ct}{B:D->Env->Sto->Option (String×Sto)}(hg:∀ d ρ s,KR s (g d ρ s))(hx:∀ d ρ s c s',B d ρ s=some (c,s')->KP s s'):∀(l:List D) (ρ:Env) (s:Sto) (c:String) (s':Sto),al8 ok g B l ρ s=some (c,s')->KP s s'
 | [],ρ,s,c,s',h=>by cases h
 | d::l,ρ,s,c,s',h=>by
  unfold al8 at h
  split at h
  ·split at h
   ·rename_i e;exact(hg d ρ s _ _ e).trans (aA5 hg hx l _ _ _ _ h)
   ·rename_i e;exact(hg d ρ s _ _ e).trans (aA5 hg hx l _ _ _ _ h)
   ·cases h
   ·exact hx _ _ _ _ _ h
  ·cases h
theorem aA7 {t:Env->Sto->R D}{g:Env->Sto->R Ct}{F:Env->Sto->Option (String×Sto)}(B:∀ ρ s,KR s (t ρ s))(hg:∀ ρ s,KR s (g ρ s))(hx:∀ ρ s c s',F ρ s=some (c,s')->KP s s'):∀(n:Nat) (ρ:Env) (s:Sto) (c:String) (s':Sto),zG t g F n ρ s=some (c,s')->KP s s'
 | 0,ρ,s,c,s',h=>by cases h
 | n+1,ρ,s,c,s',h=>by
  unfold zG at h
  split at h
  ·rename_i s1 e1
   have k:=B ρ s _ _ e1
   split at h
   ·rename_i e;exact k.trans ((hg ρ s1 _ _ e).trans (aA7 B hg hx n _ _ _ _ h))
   ·rename_i e;exact k.trans ((hg ρ s1 _ _ e).trans (aA7 B hg hx n _ _ _ _ h))
   ·cases h
   ·exact k.trans (hx _ _ _ _ h)
  ·cases h
theorem ay2 {F:Fns}(B:FK F):∀(b:XB) (ρ:Env) (s:Sto) (c:String) (s':Sto),xB F b ρ s=some (c,s')->KP s s'
 | .no,ρ,s,c,s',h=>by cases h
 | .rais d,ρ,s,c,s',h=>by
  change(if F.xc d=true then some (d,s)else none)=_ at h
  split at h
  ·cases h;exact KP.refl _
  ·cases h
 | .call f as,ρ,s,c,s',h=>by
  change(match am6 F as ρ s with|.ok l s1=>F.xcall f l s1|_=>none)=_ at h
  split at h
  ·rename_i l s1 e;exact(an7 B as ρ s _ _ e).trans (B.xcall _ _ _ _ _ h)
  ·cases h
 | .iteT d a r,ρ,s,c,s',h=>by
  change(match ev F d ρ s with|.ok (.bl b) s1=>if b then xB F a ρ s1 else xB F r ρ s1|_=>none)=_ at h
  split at h
  ·rename_i b s1 e
   have k:=za B d ρ s _ _ e
   split at h
   ·exact k.trans (ay2 B a _ _ _ _ h)
   ·exact k.trans (ay2 B r _ _ _ _ h)
  ·cases h
 | .seq st b,ρ,s,c,s',h=>by
  change(match ex F st ρ s with|.ok (.next ρ1) s1=>xB F b ρ1 s1|_=>none)=_ at h
  split at h
  ·rename_i ρ1 s1 e;exact(bY7 B st ρ s _ _ e).trans (ay2 B b _ _ _ _ h)
  ·cases h
 | .iteE d a r,ρ,s,c,s',h=>by
  change(match ev F d ρ s with|.ok (.bl b) s1=>if b then xB F a ρ s1 else xB F r ρ s1|_=>none)=_ at h
  split at h
  ·rename_i b s1 e
   have k:=za B d ρ s _ _ e
   split at h
   ·exact k.trans (ay2 B a _ _ _ _ h)
   ·exact k.trans (ay2 B r _ _ _ _ h)
  ·cases h
 | .forX tg it b x,ρ,s,c,s',h=>by
  change(match evI F it ρ s with
   | .ok q s0=>al8 (λ s=>chk s0 s q.src) (λ d ρ s=>match zP ρ tg d with
    | some ρ=>exs F b ρ s
    | none=>.bad) (λ d ρ s=>match zP ρ tg d with
    | some ρ=>xB F x ρ s
    | none=>none) q.its ρ s0
   | _=>none)=_ at h
  split at h
  ·rename_i q s0 e
   refine(aO0 B it ρ s _ _ e).trans (aA5 ?_ ?_ _ _ _ _ _ h)
   ·intro d ρ s
    split
    ·exact ak3 B _ _ _
    ·exact KR.bad
   ·intro d ρ s c s' h
    split at h
    ·exact ay2 B x _ _ _ _ h
    ·cases h
  ·cases h
 | .whlX d b x,ρ,s,c,s',h=>by
  change whlX (ev F d) (exs F b) (xB F x) ρ s=_ at h
  unfold whlX at h
  split at h
  ·exact aA7 (za B d) (ak3 B b) (λ ρ s c s' h=>ay2 B x _ _ _ _ h) _ _ _ _ _ h
  ·cases h
theorem bS6 {h:Hd}{c:String}{s st:Sto}(k:KP s st):KR s (h.out c s st):=by
 unfold Hd.out
 split
 ·exact qc (k.trans (KP.app _ _))
 ·exact qc k
theorem bp7 {F:Fns}(B:FK F)(d:Tf){s s0:Sto}(k0:KP s s0)(ρ0:Env):KR s (aB8 F d s ρ0 s0):=by
 intro a s' h
 unfold aB8 at h
 split at h
 ·rename_i c s1 e
  have k:=k0.trans (ay2 B _ _ _ _ _ e)
  split at h
  ·exact bS6 k _ _ h
  ·cases h
 ·obtain⟨c,s1,e1,h⟩:=R.bind_inv h
  have k1:=k0.trans (ak3 B _ _ _ _ _ e1)
  cases c with
  | ret v=>exact qc k1 _ _ h
  | next ρ =>
   obtain⟨c,s2,e2,h⟩:=R.bind_inv h
   have k2:=k1.trans (ak3 B _ _ _ _ _ e2)
   cases c with
   | ret v=>exact qc k2 _ _ h
   | next ρ=>exact qc k2 _ _ h
   | _=>cases h
  | _=>cases h
theorem bv6 {F:Fns}(B:FK F)(d:Tf)(l:List D)(s:Sto):KR s (bj4 F d l s):=by
 intro a s' h
 unfold bj4 at h
 split at h
 ·rename_i ρ0 s0 e
  exact bp7 B d (ak3 B _ _ _ _ _ e) ρ0 _ _ h
 ·cases h
theorem ak5 (P:Pr):∀ n,FK (aa0 P n)
 | 0=>⟨λ _ _ _=>KR.bad,λ _ _ _ _=>KR.bad,λ _ _ _ _ _ h=>by cases h⟩
 | n+1=>by
  refine⟨λ f l s=>?_,λ id cs l s=>?_,λ f l s c s' h=>?_⟩
  ·intro a s' h
   unfold aa0 at h
   simp only at h
   split at h
   case h_2 =>
    split at h
    case h_2=>cases h
    split at h
    case isFalse=>cases h
    exact bv6 (ak5 P n) _ _ _ _ _ h
   split at h
   case isFalse=>cases h
   obtain⟨c,s1,e1,h⟩:=R.bind_inv h
   have k1:=ak3 (ak5 P n) _ _ _ _ _ e1
   cases c with
   | ret v=>exact qc k1 _ _ h
   | next ρ=>exact qc k1 _ _ h
   | _=>cases h
  ·intro a s' h
   unfold aa0 at h
   simp only at h
   split at h
   case h_2=>cases h
   split at h
   case isFalse=>cases h
   obtain⟨v,s1,e1,h⟩:=R.bind_inv h
   exact qc (za (ak5 P n) _ _ _ _ _ e1) _ _ h
  ·unfold aa0 at h
   simp only at h
   split at h
   case h_2=>cases h
   split at h
   case isFalse=>cases h
   exact ay2 (ak5 P n) _ _ _ _ _ h
end DV
end
open DV renaming Sto->kY,D->kZ,Env->k6,R->k8,ev->k9,aa0->lf,LIM->lh,eqv->lp,tru->lq,Fns->lr,DEEP->lu,Pr->lv,aw9->lw,eqL->lx,rep->ly,kd->lz,zP->lA,subC->lB,aj3->lD,Es->lE,aG6->lF,O->lG,Ct->lH,look->lI,chk->lJ,evs->lK,Tg->lL,au1->lM,exs->lN,Bi->lO,aV3->lP,sbd->lQ,W62->lR,am6->lS,xB->lT,loB->lU,inL->lV,ixn->lW,minI->lY,aL6->lZ,aj2->l6,qk->l7,Sq->l8,qC->l9,ak0->ma,evI->mf,qb->mq,As->mr,Lm->mw,Df->my,M->mz,hiB->mB,slM->mD,au2->mF,at1->mG,E->mH,am7->mJ,bi->mK,Mk->mM,Mt->mO,mk->mP,aV5->mQ,COp->mR,inM->mU,bi1->mV,aH1->mW,at8->mY,meth->mZ,zo->m6,BOp->m8,pur->m9,isK->ng,Ss->ni,XB->nj,al8->nn,ar0->nq,Tf->nr
open DV.D renaming bndL->k7,bnd->la,hdI->ln,keyS->lC,nclL->lX,keyF->m7,ncl->nh
open DV.O renaming bnd->lb
noncomputable section
namespace L2
theorem fb {α:Type}{d:α}{s:kY}{p:Prop}(h:(DV.R.bad:k8 α)=.ok d s):p:=nomatch h
open PySem PySem.Spec PyProof.Rows
structure LamI where
 qual:Str
 params:ci
 body:Expr
 scope:Scope
 ps:List Str
 fr:List Str
 nm:Option (Str×Pos)
def CloAt (H:Hp)(f:Addr)(J:LamI)(cap:List V)(clos:List (Str×Addr)):Prop:=match J.nm with
 | none=>aK3 H f J.qual J.params J.body J.scope J.fr cap clos
 | some p=>au4 H f p.1 J.qual J.params [.Return (some J.body) p.2] J.scope J.fr cap clos
def aC4 (H:Hp)(f:Addr)(J:LamI)(clos:List (Str×Addr)):Prop:=match J.nm with
 | none=>∃ pm c' ctv,H f=some (bJ2 f (dz "<lambda>" J.qual J.params J.body J.scope clos pm (.ref c') ctv))/\H c'=some (aD2 c' J.qual)
 | some p=>∃ doc pm c' ctv,H f=some (bJ2 f (fM p.1 J.qual J.params [.Return (some J.body) p.2] J.scope clos .none .none doc pm none (.ref c') ctv))/\H c'=some (aD2 c' J.qual)
structure Gm where
 K:ac
 fa:String->Option Addr
 lg:String->LamI->Prop
 T:List (Addr×Str)
variable (Γ:Gm)
mutual
noncomputable def RV (φ:Nat->Addr)(H:Hp):kZ->V->Prop
 | .non,v=>v=.non
 | .bl b,v=>v=.bl b
 | .int i,v=>v=.int i
 | .str x,v=>v=.str ⟨x.toArray⟩/\x.length<=lh
 | .tup l,v=>∃ a xs,v=.ref a/\(SqT Γ.K H a xs/\(ln l=true->H a=some (.tup xs)))/\RVL φ H l xs
 | .ref n,v=>v=.ref (φ n)
 | .fn f,v=>∃ a,Γ.fa f=some a/\v=.ref a
 | .clo id cs,v=>∃ f cap J clos,v=.ref f/\Γ.lg id J/\CloAt H f J cap clos/\cap.length=J.fr.length/\RVL φ H cs cap
noncomputable def RVL (φ:Nat->Addr)(H:Hp):List kZ->List V->Prop
 | [],xs=>xs=[]
 | d::l,xs=>∃ x r,xs=x::r/\RV φ H d x/\RVL φ H l r
end
noncomputable def ca7:HO->Bool
 | .tup _=>true
 | .frz _ _=>true
 | .ext _=>true
 | _=>false
def Kp (H H':Hp):Prop:=∀ b o,H b=some o->ca7 o=true->H' b=some o
theorem Kp.refl (H:Hp):Kp H H:=λ _ _ h _=>h
theorem Kp.trans {H B F:Hp}(a:Kp H B)(b:Kp B F):Kp H F:=λ c o h f=>b c o (a c o h f) f
theorem Kp.new {H B:Hp}{p:Addr}{o:HO}(a:Kp H B)(h:B p=none):Kp H (upd B p o):=λ c u e f=>by
 have e1:=a c u e f
 rw[zm (zr e1 h)];exact e1
theorem Kp.put {H B:Hp}{p:Addr}{o u:HO}(a:Kp H B)(h:B p=some u)(hu:ca7 u=false):Kp H (upd B p o):=λ c v e f=>by
 have e1:=a c v e f
 rw[zm (λ z=>by subst z;rw[h]at e1;cases e1;rw[hu]at f;cases f)];exact e1
theorem Kp.sqT {K:ac}{H H':Hp}{a:Addr}{B:List V}(e:Kp H H')(h:SqT K H a B):SqT K H' a B:=by
 rcases h with(h|⟨o,h⟩)|h
 ·exact .inl (.inl (e _ _ h rfl))
 ·exact .inl (.inr ⟨o,e _ _ h rfl⟩)
 ·exact .inr h
theorem aK3.kp {H H':Hp}{f:Addr}{qual:Str}{params:ci}{body:Expr}{scope:Scope}{fr:List Str}{cap:List V}{B:List (Str×Addr)}(h:aK3 H f qual params body scope fr cap B)(e:Kp H H'):aK3 H' f qual params body scope fr cap B:=by
 obtain⟨G,Y,F,h1,h2,h3,J,h5,Z⟩:=h
 refine⟨G,Y,F,e _ _ h1 rfl,e _ _ h2 rfl,λ x c q=>?_,J,h5,λ i x v a b=>?_⟩
 ·obtain⟨o,v,z,d⟩:=h3 x c q
  exact⟨o,v,e _ _ z rfl,d⟩
 ·obtain⟨c,o,u,z1,z2,z3⟩:=Z i x v a b
  exact⟨c,o,u,z1,e _ _ z2 rfl,z3⟩
theorem au4.kp {H H':Hp}{f:Addr}{name qual:Str}{params:ci}{body:List Stmt}{scope:Scope}{fr:List Str}{cap:List V}{B:List (Str×Addr)}(h:au4 H f name qual params body scope fr cap B)(e:Kp H H'):au4 H' f name qual params body scope fr cap B:=by
 obtain⟨F,J,Z,G,h1,h2,h3,Y,h5,h6⟩:=h
 refine⟨F,J,Z,G,e _ _ h1 rfl,e _ _ h2 rfl,λ x c q=>?_,Y,h5,λ i x v a b=>?_⟩
 ·obtain⟨o,v,z,d⟩:=h3 x c q
  exact⟨o,v,e _ _ z rfl,d⟩
 ·obtain⟨c,o,u,z1,z2,z3⟩:=h6 i x v a b
  exact⟨c,o,u,z1,e _ _ z2 rfl,z3⟩
theorem CloAt.kp {H H':Hp}{f:Addr}{J:LamI}{cap:List V}{B:List (Str×Addr)}(h:CloAt H f J cap B)(e:Kp H H'):CloAt H' f J cap B:=by
 unfold CloAt at h ⊢
 cases q:J.nm with
 | none=>rw[q]at h;exact aK3.kp h e
 | some p=>rw[q]at h;exact au4.kp h e
theorem aC4.kp {H H':Hp}{f:Addr}{J:LamI}{B:List (Str×Addr)}(h:aC4 H f J B)(e:Kp H H'):aC4 H' f J B:=by
 unfold aC4 at h ⊢
 cases q:J.nm with
 | none =>
  rw[q]at h
  obtain⟨Z,Y,F,h1,h2⟩:=h
  exact⟨Z,Y,F,e _ _ h1 rfl,e _ _ h2 rfl⟩
 | some p =>
  rw[q]at h
  obtain⟨G,Z,Y,F,h1,h2⟩:=h
  exact⟨G,Z,Y,F,e _ _ h1 rfl,e _ _ h2 rfl⟩
theorem CloAt.fn {K:ac}{H:Hp}{f:Addr}{J:LamI}{cap:List V}{B:List (Str×Addr)}(h:CloAt H f J cap B):cb1 K H f:=by
 unfold CloAt at h
 cases q:J.nm with
 | none=>rw[q]at h;obtain⟨Z,Y,G,F,_⟩:=h;exact .inl ⟨_,F⟩
 | some p=>rw[q]at h;exact au4.fn h
structure Gw (φ:Nat->Addr)(n:Nat)(H:Hp)(φ':Nat->Addr)(H':Hp):Prop where
 map:∀ i,i<n->φ' i=φ i
 kp:Kp H H'
variable {Γ:Gm}
mutual
theorem RV.monoW {φ φ':Nat->Addr}{n:Nat}{H H':Hp}(g:Gw φ n H φ' H'):∀(d:kZ) (v:V),d.bnd n=true->RV Γ φ H d v->RV Γ φ' H' d v
 | .non,_,_,h=>by unfold RV at h ⊢;exact h
 | .bl _,_,_,h=>by unfold RV at h ⊢;exact h
 | .int _,_,_,h=>by unfold RV at h ⊢;exact h
 | .str _,_,_,h=>by unfold RV at h ⊢;exact h
 | .tup l,_,b,h=>by
  unfold RV at h ⊢
  unfold la at b
  obtain⟨a,F,e,q,r⟩:=h
  exact⟨a,F,e,⟨g.kp.sqT q.1,λ z=>g.kp _ _ (q.2 z) rfl⟩,RVL.monoW g l F b r⟩
 | .ref k,_,b,h=>by
  unfold RV at h ⊢
  unfold la at b
  rw[g.map k (of_decide_eq_true b)];exact h
 | .fn _,_,_,h=>by unfold RV at h ⊢;exact h
 | .clo id cs,_,b,h=>by
  unfold RV at h ⊢
  unfold la at b
  obtain⟨f,cap,J,B,e,Z,Y,h3,G⟩:=h
  exact⟨f,cap,J,B,e,Z,Y.kp g.kp,h3,RVL.monoW g cs cap b G⟩
theorem RVL.monoW {φ φ':Nat->Addr}{n:Nat}{H H':Hp}(g:Gw φ n H φ' H'):∀(l:List kZ) (B:List V),k7 n l=true->RVL Γ φ H l B->RVL Γ φ' H' l B
 | [],_,_,h=>by unfold RVL at h ⊢;exact h
 | d::l,_,b,h=>by
  unfold RVL at h ⊢
  unfold k7 at b
  rw[aj]at b
  obtain⟨x,r,e,q,t⟩:=h
  exact⟨x,r,e,RV.monoW g d x b.1 q,RVL.monoW g l r b.2 t⟩
end
mutual
theorem zh {n m:Nat}(h:n<=m):∀ d:kZ,d.bnd n=true->d.bnd m=true
 | .non,_=>rfl
 | .bl _,_=>rfl
 | .int _,_=>rfl
 | .str _,_=>rfl
 | .tup l,b=>by unfold la at b ⊢;exact ah2 h l b
 | .ref k,b=>by unfold la at b ⊢;exact decide_eq_true (aG (of_decide_eq_true b) h)
 | .fn _,_=>rfl
 | .clo _ l,b=>by unfold la at b ⊢;exact ah2 h l b
theorem ah2 {n m:Nat}(h:n<=m):∀ l:List kZ,k7 n l=true->k7 m l=true
 | [],_=>rfl
 | d::l,b=>by
  unfold k7 at b ⊢
  rw[aj]at b ⊢
  exact⟨zh h d b.1,ah2 h l b.2⟩
end
theorem ag9 {n:Nat}:∀ {l:List kZ},k7 n l=true↔∀ d∈l,d.bnd n=true
 | []=>by unfold k7;simp
 | d::l=>by
  unfold k7
  rw[aj,ag9 (l:=l)]
  simp
theorem zK {n:Nat}{l m:List kZ}(h:k7 n l=true)(h':k7 n m=true):k7 n (l++m)=true :=
 ag9.mpr λ d hd=>(aS.mp hd).elim (ag9.mp h d) (ag9.mp h' d)
theorem aM8 {n:Nat}{l m:List kZ}(h:k7 n l=true)(s:∀ d∈m,d∈l):k7 n m=true:=ag9.mpr λ d hd=>ag9.mp h d (s d hd)
theorem am8 {n:Nat}{l:List kZ}{i:Nat}{d:kZ}(h:k7 n l=true)(e:l[i]?=some d):d.bnd n=true:=ag9.mp h d (aZ e)
section
variable {φ:Nat->Addr} {H:Hp}
theorem RVL.nil:RVL Γ φ H [] []:=by unfold RVL;rfl
theorem RVL.cons {d:kZ}{l:List kZ}{x:V}{h:List V}(a:RV Γ φ H d x)(b:RVL Γ φ H l h):RVL Γ φ H (d::l) (x::h):=by unfold RVL;exact⟨x,h,rfl,a,b⟩
theorem RVL.unnil {B:List V}(h:RVL Γ φ H [] B):B=[]:=by unfold RVL at h;exact h
theorem RVL.uncons {d:kZ}{l:List kZ}{B:List V}(h:RVL Γ φ H (d::l) B):∃ x r,B=x::r/\RV Γ φ H d x/\RVL Γ φ H l r:=by unfold RVL at h;exact h
theorem RVL.length:∀ {l:List kZ} {B:List V},RVL Γ φ H l B->B.length=l.length
 | [],_,h=>by rw[h.unnil];rfl
 | d::l,_,h=>by
  obtain⟨x,r,rfl,_,t⟩:=h.uncons
  rw[bq,bq,RVL.length t]
theorem RVL.get:∀ {l:List kZ} {B:List V} {i:Nat} {d:kZ},RVL Γ φ H l B->l[i]?=some d->∃ x,B[i]?=some x/\RV Γ φ H d x
 | [],_,_,_,_,e=>by simp at e
 | d::l,_,0,d',h,e=>by
  obtain⟨x,r,rfl,q,t⟩:=h.uncons
  have e':d=d':=by simpa using e
  subst e'
  exact⟨x,rfl,q⟩
 | d::l,_,i+1,_,h,e=>by
  obtain⟨x,r,rfl,q,t⟩:=h.uncons
  obtain⟨y,e1,e2⟩:=RVL.get (i:=i) t (by simpa using e)
  exact⟨y,by simpa using e1,e2⟩
theorem RVL.append:∀ {l m:List kZ} {B ys:List V},RVL Γ φ H l B->RVL Γ φ H m ys->RVL Γ φ H (l++m) (B++ys)
 | [],_,_,_,h,h'=>by rw[h.unnil];exact h'
 | d::l,_,_,_,h,h'=>by
  obtain⟨x,r,rfl,q,t⟩:=h.uncons
  exact .cons q (RVL.append t h')
theorem RVL.drop:∀ {l:List kZ} {B:List V} (n:Nat),RVL Γ φ H l B->RVL Γ φ H (l.drop n) (B.drop n)
 | _,_,0,h=>h
 | [],_,n+1,h=>by rw[h.unnil];exact .nil
 | d::l,_,n+1,h=>by
  obtain⟨x,r,rfl,q,t⟩:=h.uncons
  exact RVL.drop n t
theorem RVL.take:∀ {l:List kZ} {B:List V} (n:Nat),RVL Γ φ H l B->RVL Γ φ H (l.take n) (B.take n)
 | _,_,0,h=>.nil
 | [],_,n+1,h=>by rw[h.unnil];exact .nil
 | d::l,_,n+1,h=>by
  obtain⟨x,r,rfl,q,t⟩:=h.uncons
  exact .cons q (RVL.take n t)
theorem RVL.set:∀ {l:List kZ} {B:List V} {d:kZ} {x:V} (i:Nat),RVL Γ φ H l B->RV Γ φ H d x->RVL Γ φ H (l.set i d) (B.set i x)
 | [],_,_,_,_,h,_=>by rw[h.unnil];exact .nil
 | d::l,_,_,_,0,h,q=>by
  obtain⟨x,r,rfl,_,t⟩:=h.uncons
  exact .cons q t
 | d::l,_,_,_,i+1,h,q=>by
  obtain⟨x,r,rfl,F,t⟩:=h.uncons
  exact .cons F (RVL.set i t q)
theorem RVL.reverse:∀ {l:List kZ} {B:List V},RVL Γ φ H l B->RVL Γ φ H l.reverse B.reverse
 | [],_,h=>by rw[h.unnil];exact .nil
 | d::l,_,h=>by
  obtain⟨x,r,rfl,q,t⟩:=h.uncons
  rw[d5,d5]
  exact(RVL.reverse t).append (.cons q .nil)
theorem RV.intE {i:Int}{v:V}(h:RV Γ φ H (.int i) v):v=.int i:=by unfold RV at h;exact h
theorem RV.blE {i:Bool}{v:V}(h:RV Γ φ H (.bl i) v):v=.bl i:=by unfold RV at h;exact h
theorem RV.nonE {v:V}(h:RV Γ φ H .non v):v=.non:=by unfold RV at h;exact h
theorem RV.strE {x:List Nat}{v:V}(h:RV Γ φ H (.str x) v):v=.str ⟨x.toArray⟩:=by unfold RV at h;exact h.1
theorem RV.strL {x:List Nat}{v:V}(h:RV Γ φ H (.str x) v):x.length<=lh:=by unfold RV at h;exact h.2
theorem RV.tupE {l:List kZ}{v:V}(h:RV Γ φ H (.tup l) v):∃ a B,v=.ref a/\SqT Γ.K H a B/\RVL Γ φ H l B:=by unfold RV at h;obtain⟨a,B,e,q,r⟩:=h;exact⟨a,B,e,q.1,r⟩
theorem RV.tupZ {l:List kZ}{v:V}(h:RV Γ φ H (.tup l) v):∃ a B,(v=.ref a/\(ln l=true->H a=some (.tup B)))/\SqT Γ.K H a B/\RVL Γ φ H l B:=by unfold RV at h;obtain⟨a,B,e,q,r⟩:=h;exact⟨a,B,⟨e,q.2⟩,q.1,r⟩
theorem RVL.tonil {l:List kZ}(h:RVL Γ φ H l []):l=[]:=bQ.mp h.length.symm
theorem RV.tupK {l:List kZ}{v:V}(h:RV Γ φ H (.tup l) v)(z:ln l=true):∃ a B,v=.ref a/\H a=some (.tup B)/\RVL Γ φ H l B:=by unfold RV at h;obtain⟨a,B,e,q,r⟩:=h;exact⟨a,B,e,q.2 z,r⟩
theorem RV.refE {n:Nat}{v:V}(h:RV Γ φ H (.ref n) v):v=.ref (φ n):=by unfold RV at h;exact h
theorem RV.intI {i:Int}:RV Γ φ H (.int i) (.int i):=by unfold RV;rfl
theorem RV.blI {i:Bool}:RV Γ φ H (.bl i) (.bl i):=by unfold RV;rfl
theorem RV.nonI:RV Γ φ H .non .non:=by unfold RV;rfl
theorem RV.strI {x:List Nat}(h:x.length<=lh):RV Γ φ H (.str x) (.str ⟨x.toArray⟩):=by unfold RV;exact⟨rfl,h⟩
theorem RV.tupI {l:List kZ}{a:Addr}{B:List V}(h:H a=some (.tup B))(q:RVL Γ φ H l B):RV Γ φ H (.tup l) (.ref a):=by unfold RV;exact⟨a,B,rfl,⟨SqT.of h,λ _=>h⟩,q⟩
theorem RV.tupC {l:List kZ}{a:Addr}{B:List V}(h:SqT Γ.K H a B)(z:ln l=true->H a=some (.tup B))(q:RVL Γ φ H l B):RV Γ φ H (.tup l) (.ref a):=by unfold RV;exact⟨a,B,rfl,⟨h,z⟩,q⟩
theorem RV.refI {n:Nat}:RV Γ φ H (.ref n) (.ref (φ n)):=by unfold RV;rfl
end
theorem bA0 {n:Nat}{l:List kZ}(h:ln (lP n l)=true):ln l=true:=by
 cases n with
 | zero=>cases h
 | succ n =>
  cases l with
  | nil => 
   have:∀ k,lP k ([]:List kZ)=[]:=λ k=>by
    induction k with
    | zero=>rfl
    | succ k ih=>show[]++lP k []=[];rw[ih];rfl
   rw[this]at h;cases h
  | cons a l =>
   have e:lP (n+1) (a::l)=a::(l++lP n (a::l)):=rfl
   rw[e]at h
   cases a with
   | int _=>rfl
   | non=>rfl
   | tup _=>rfl
   | _=>cases h
theorem bg9 {α:Type}{l:List α}{B F:Option Int}(h:(lF l B F).length=l.length):lF l B F=l:=by
 unfold lF at h ⊢
 rw[bZ,eK]at h
 by_cases z:l=[]
 ·subst z;simp
 ·have hp:=iK.mpr z
  have e1:lU l.length B=0:=by omega
  rw[e1]at h ⊢
  rw[ed]
  exact ee (by omega)
def SqF (K:ac)(H:Hp)(a:Addr)(xs:List V):Prop:=SqL K H a xs/\∀ H',Kp H H'->SqL K H' a xs
noncomputable def aZ7:kZ->Option Key
 | .int i=>some (.inl i)
 | .str x=>some (.inr ⟨x.toArray⟩)
 | _=>none
noncomputable def fOf:kZ->Option FK
 | .non=>some none
 | .int i=>some (some (.inl i))
 | .str x=>some (some (.inr ⟨x.toArray⟩))
 | _=>none
noncomputable def qP {κ:Type}(f:kZ->Option κ):List kZ->Option (List κ)
 | []=>some []
 | d::l=>match f d,qP f l with
  | some k,some r=>some (k::r)
  | _,_=>none
noncomputable def nOf:kZ->Option NI
 | .tup l=>(qP fOf l).map .inr
 | d=>(fOf d).map .inl
noncomputable def av3:List kZ->Option (List NI):=qP nOf
noncomputable def bV5:kZ->Option (List NI)
 | .tup l=>if(ln l&&(l.all lC&&decide (l.length<=1000)))=true then av3 l else none
 | _=>none
noncomputable def RVD {κ:Type}(kf:kZ->Option κ)(Γ:Gm)(φ:Nat->Addr)(H:Hp):List (kZ×kZ)->List (κ×V)->Prop
 | [],kvs=>kvs=[]
 | (d,e)::l,kvs=>∃ k v r,kvs=(k,v)::r/\kf d=some k/\RV Γ φ H e v/\RVD kf Γ φ H l r
variable (Γ)
noncomputable def RO (φ:Nat->Addr)(H:Hp)(a:Addr):lG->Prop
 | .lst l=>∃ xs,H a=some (.lst xs)/\RVL Γ φ H l xs
 | .ro l=>∃ xs,SqF Γ.K H a xs/\RVL Γ φ H l xs
 | .dic l=>∃ kvs,H a=some (.dK kvs)/\RVD aZ7 Γ φ H l kvs
 | .dit l=>∃ kvs,H a=some (.dT kvs)/\RVD bV5 Γ φ H l kvs
 | .ins _ _=>False
noncomputable abbrev okd:lG->Nat:=DV.O.kd
noncomputable def isMut:lG->Bool
 | .ro _=>false
 | _=>true
structure Rp (φ:Nat->Addr)(H:Hp)(s:kY):Prop where
 inj:∀(i j:Nat) (o o':lG),s[i]?=some o->s[j]?=some o'->isMut o=true->isMut o'=true->φ i=φ j->i=j
 obj:∀(i:Nat) (o:lG),s[i]?=some o->RO Γ φ H (φ i) o
 wf:∀(i:Nat) (o:lG),s[i]?=some o->o.bnd s.length=true
 tab:TabsH Γ.T H
structure RE (φ:Nat->Addr)(H:Hp)(n:Nat)(ρ:k6)(σ:St):Prop where
 len:ρ.length=σ.length
 val:∀(i:Nat) (d:kZ),ρ[i]?=some (some d)->d.bnd n=true/\∃ v,σ[i]?=some (some v)/\RV Γ φ H d v
structure Gr (φ:Nat->Addr)(s:kY)(H:Hp)(φ':Nat->Addr)(s':kY)(H':Hp):Prop where
 w:Gw φ s.length H φ' H'
 le:s.length<=s'.length
 new:∀ i:Nat,s.length<=i->i<s'.length->H (φ' i)=none
 kd:∀(i:Nat) (o o':lG),s[i]?=some o->s'[i]?=some o'->okd o'=okd o
 st:∀ b,H b≠none->H' b≠none
 fr:∀ b o,H b=some o->(∀ ps,o≠.tbl ps)->(∀(i:Nat) (ob:lG),s[i]?=some ob->isMut ob=true->φ i≠b)->H' b=some o
variable {Γ}
theorem bA8 {o B:lG}(h:okd B=okd o)(m:isMut B=true):isMut o=true:=by
 cases o with
 | ro _=>cases B with
  | ro _=>cases m
  | _=>cases h
 | _=>rfl
theorem Gr.mu {φ φ':Nat->Addr}{s s':kY}{H H':Hp}(g:Gr φ s H φ' s' H')(i:Nat)(o h:lG)(e:s[i]?=some o)(e':s'[i]?=some h)(m:isMut h=true):isMut o=true:=bA8 (g.kd i o h e e') m
theorem Gr.refl (φ:Nat->Addr)(s:kY)(H:Hp):Gr φ s H φ s H:=⟨⟨λ _ _=>rfl,Kp.refl H⟩,aw _,λ i G B=>absurd B (by omega),λ i o F e e'=>by rw[e]at e';cases e';rfl,λ _ h=>h,λ _ _ h _ _=>h⟩
theorem Gr.trans {φ φ1 φ2:Nat->Addr}{s s1 s2:kY}{H J H2:Hp}(a:Gr φ s H φ1 s1 J)(b:Gr φ1 s1 J φ2 s2 H2)(_h:s.length<=s1.length):Gr φ s H φ2 s2 H2:=by
 refine⟨⟨λ i B=>(b.w.map i (aG B a.le)).trans (a.w.map i B),a.w.kp.trans b.w.kp⟩,av a.le b.le,λ i h1 h2=>?_,λ i o o' e e'=>?_,λ c h=>b.st c (a.st c h),λ c o h Z ne=>?_⟩
 ·by_cases B:i<s1.length
  ·rw[b.w.map i B];exact a.new i h1 B
  ·have e:=b.new i (by omega) h2
   cases q:H (φ2 i)with
   | none=>rfl
   | some o=>exact absurd e (a.st _ (by rw[q];simp))
 ·have hl:i<s1.length:=aG (ae.mp e).1 a.le
  obtain⟨F,e1⟩:∃ F,s1[i]?=some F:=⟨s1[i],aq hl⟩
  exact(b.kd i F o' e1 e').trans (a.kd i o F e e1)
 ·refine b.fr c o (a.fr c o h Z ne) Z λ i ob e m z=>?_
  by_cases B:i<s.length
  ·obtain⟨G,Y⟩:∃ G,s[i]?=some G:=⟨s[i],aq B⟩
   exact ne i G Y (a.mu i G ob Y e m) (by rw[<-a.w.map i B];exact z)
  ·have:=a.new i (by omega) (ae.mp e).1
   rw[z,h]at this;cases this
theorem RV.mono {φ φ':Nat->Addr}{s s':kY}{H H':Hp}(g:Gr φ s H φ' s' H')(d:kZ)(v:V)(b:d.bnd s.length=true)(h:RV Γ φ H d v):RV Γ φ' H' d v:=RV.monoW g.w d v b h
theorem RVL.mono {φ φ':Nat->Addr}{s s':kY}{H H':Hp}(g:Gr φ s H φ' s' H')(d:List kZ)(v:List V)(b:k7 s.length d=true)(h:RVL Γ φ H d v):RVL Γ φ' H' d v:=RVL.monoW g.w d v b h
theorem RE.mono {φ φ':Nat->Addr}{s s':kY}{H H':Hp}{ρ:k6}{σ:St}(h:RE Γ φ H s.length ρ σ)(g:Gr φ s H φ' s' H')(hn:s.length<=s'.length):RE Γ φ' H' s'.length ρ σ :=
 ⟨h.len,λ i d e=>by
  obtain⟨b,v,e1,e2⟩:=h.val i d e
  exact⟨zh hn d b,v,e1,RV.mono g d v b e2⟩⟩
def aj7 (Γ:Gm)(φ:Nat->Addr)(s:kY)(H:Hp)(d:kZ)(s':kY)(Q:VK):Prop :=
 ∀ v φ' H',Gr φ s H φ' s' H'->s.length<=s'.length->d.bnd s'.length=true->RV Γ φ' H' d v->Rp Γ φ' H' s'->Q v H'
theorem aj7.trans {φ φ1:Nat->Addr}{s s1 s':kY}{H B:Hp}{d:kZ}{Q:VK}(h:aj7 Γ φ s H d s' Q)(g:Gr φ s H φ1 s1 B)(l:s.length<=s1.length):aj7 Γ φ1 s1 B d s' Q :=
 λ v φ' H' g' F b r p=>h v φ' H' (g.trans g' l) (av l F) b r p
theorem aj7.here {φ:Nat->Addr}{s:kY}{H:Hp}{d:kZ}{Q:VK}{v:V}(h:aj7 Γ φ s H d s Q)(p:Rp Γ φ H s)(b:d.bnd s.length=true)(r:RV Γ φ H d v):Q v H :=
 h v φ H (Gr.refl φ s H) (aw _) b r p
theorem RVD.monoW {κ:Type}{F:kZ->Option κ}{φ φ':Nat->Addr}{n:Nat}{H H':Hp}(g:Gw φ n H φ' H'):∀(l:List (kZ×kZ)) (B:List (κ×V)),k7 n (l.map (·.2))=true->RVD F Γ φ H l B->RVD F Γ φ' H' l B
 | [],_,_,h=>h
 | (d,e)::l,_,b,h=>by
  obtain⟨k,v,r,e1,e2,e3,G⟩:=h
  rw[a8]at b
  unfold k7 at b
  rw[aj]at b
  exact⟨k,v,r,e1,e2,RV.monoW g e v b.1 e3,RVD.monoW g l r b.2 G⟩
theorem RO.mono {φ φ':Nat->Addr}{n:Nat}{H H':Hp}{a:Addr}{o:lG}(h:RO Γ φ H a o)(g:Gw φ n H φ' H')(b:o.bnd n=true)(hl:isMut o=true->∀ u,H a=some u->H' a=some u):RO Γ φ' H' a o:=by
 cases o with
 | lst l =>
  unfold lb at b
  obtain⟨F,e,r⟩:=h
  exact⟨F,hl rfl _ e,RVL.monoW g l F b r⟩
 | ro l =>
  unfold lb at b
  obtain⟨F,e,r⟩:=h
  exact⟨F,⟨e.2 _ g.kp,λ G k=>e.2 _ (g.kp.trans k)⟩,RVL.monoW g l F b r⟩
 | dic l =>
  unfold lb at b
  rw[aj]at b
  obtain⟨B,e,r⟩:=h
  exact⟨B,hl rfl _ e,RVD.monoW g l B b.2 r⟩
 | dit l =>
  unfold lb at b
  rw[aj]at b
  obtain⟨B,e,r⟩:=h
  exact⟨B,hl rfl _ e,RVD.monoW g l B b.2 r⟩
 | ins _ _=>exact h.elim
theorem RO.there {φ:Nat->Addr}{H:Hp}{a:Addr}{o:lG}(h:RO Γ φ H a o)(m:isMut o=true):∃ u,H a=some u/\ca7 u=false/\∀ ps,u≠.tbl ps:=by
 cases o with
 | lst l=>obtain⟨B,e,_⟩:=h;exact⟨_,e,rfl,by nofun⟩
 | ro l=>cases m
 | dic l=>obtain⟨B,e,_⟩:=h;exact⟨_,e,rfl,by nofun⟩
 | dit l=>obtain⟨B,e,_⟩:=h;exact⟨_,e,rfl,by nofun⟩
 | ins _ _=>exact h.elim
theorem Rp.addr {φ:Nat->Addr}{H:Hp}{s:kY}(p:Rp Γ φ H s){i:Nat}{l:List kZ}(e:s[i]?=some (.lst l)):∃ h,H (φ i)=some (.lst h)/\RVL Γ φ H l h:=p.obj i _ e
theorem zW {n m:Nat}(h:n<=m)(o:lG)(b:o.bnd n=true):o.bnd m=true:=by
 cases o with
 | lst l=>unfold lb at b ⊢;exact ah2 h l b
 | ro l=>unfold lb at b ⊢;exact ah2 h l b
 | dic l =>
  unfold lb at b ⊢
  rw[aj]at b ⊢
  exact⟨ah2 h _ b.1,ah2 h _ b.2⟩
 | dit l =>
  unfold lb at b ⊢
  rw[aj]at b ⊢
  exact⟨ah2 h _ b.1,ah2 h _ b.2⟩
 | ins c l=>unfold lb at b ⊢;exact ah2 h _ b
theorem TabsH.keepF {T:List (Addr×Str)}{H H':Hp}(h:TabsH T H)(k:∀ b o,(ca7 o=true\/∃ ps,o=.tbl ps)->H b=some o->H' b=some o):TabsH T H':=λ y hy=>by
 obtain⟨ps,e,t,c⟩:=h y hy
 refine⟨ps,k _ _ (.inr ⟨_,rfl⟩) e,t,λ pos B q=>?_⟩
 obtain⟨F,e1,e2⟩:=c pos B q
 exact⟨F,e1,k _ _ (.inl rfl) e2⟩
theorem Rp.new {φ:Nat->Addr}{H:Hp}{s:kY}{p:Addr}{u:HO}{o:lG}(r:Rp Γ φ H s)(hp:H p=none)(hb:o.bnd s.length=true)
  (ho:∀ φ' H',Gw φ s.length H φ' H'->H' p=some u->RO Γ φ' H' p o):Gr φ s H (λ i=>if i=s.length then p else φ i) (s++[o]) (upd H p u)/\Rp Γ (λ i=>if i=s.length then p else φ i) (upd H p u) (s++[o]):=by
 have g:Gw φ s.length H (λ i=>if i=s.length then p else φ i) (upd H p u):=⟨λ i B=>if_neg (aJ B),(Kp.refl H).new hp⟩
 have key:∀ i F,(s++[o])[i]?=some F->(i<s.length/\s[i]?=some F)\/(i=s.length/\F=o):=λ i F e=>by
  rcases eg i s.length with h|h|h
  ·rw[aP h]at e;exact .inl ⟨h,e⟩
  ·subst h;simp at e;exact .inr ⟨rfl,e.symm⟩
  ·rw[bM (by simp;omega)]at e;cases e
 refine⟨⟨g,by simp,λ i h1 h2=>?_,λ i o1 o2 e1 e2=>?_,λ b hb=>?_,λ b ob hb _ _=>by rw[zm (zr hb hp)];exact hb⟩,λ i j Y J G ej mi Z e=>?_,λ i F e=>?_,λ i F e=>?_,r.tab.new hp⟩
 ·rw[ax,di]at h2
  rw[if_pos (by omega)];exact hp
 ·rcases key i o2 e2 with⟨_,e⟩|⟨B,_⟩
  ·rw[e1]at e;cases e;rfl
  ·have:=(ae.mp e1).1;omega
 ·unfold upd;split
  ·simp
  ·exact hb
 ·rcases key i Y G with⟨B,G⟩|⟨B,rfl⟩<;>rcases key j J ej with⟨hj,ej⟩|⟨hj,ej'⟩
  ·rw[if_neg (aJ B),if_neg (aJ hj)]at e
   exact r.inj i j Y J G ej mi Z e
  ·rw[if_neg (aJ B),if_pos hj]at e
   obtain⟨u,hu,_,_⟩:=(r.obj i Y G).there mi
   rw[e,hp]at hu;cases hu
  ·rw[if_neg (aJ hj),if_pos B]at e
   obtain⟨u,hu,_,_⟩:=(r.obj j J ej).there Z
   rw[<-e,hp]at hu;cases hu
  ·rw[B,hj]
 ·rcases key i F e with⟨B,e⟩|⟨B,rfl⟩
  ·show RO Γ _ _ (if i=s.length then p else φ i) F
   rw[if_neg (aJ B)]
   exact(r.obj i F e).mono g (r.wf i F e) λ _ v hv=>by rw[zm (zr hv hp)];exact hv
  ·show RO Γ _ _ (if i=s.length then p else φ i) F
   rw[if_pos B]
   exact ho _ _ g zx
 ·rw[ax,di]
  rcases key i F e with⟨B,e⟩|⟨B,rfl⟩
  ·exact zW (dv _) _ (r.wf i F e)
  ·exact zW (dv _) _ hb
theorem Rp.set {φ:Nat->Addr}{H:Hp}{s:kY}{k:Nat}{u:HO}{o F:lG}(r:Rp Γ φ H s)(hk:s[k]?=some F)(Y:isMut F=true)(hb:o.bnd s.length=true)
  (ho:∀ H',Gw φ s.length H φ H'->H' (φ k)=some u->RO Γ φ H' (φ k) o) (a2:okd o=okd F:=by rfl):Gr φ s H φ (s.set k o) (upd H (φ k) u)/\Rp Γ φ (upd H (φ k) u) (s.set k o):=by
 obtain⟨v0,G,f0,a1⟩:=(r.obj k F hk).there Y
 have a0:k<s.length:=(ae.mp hk).1
 have g:Gw φ s.length H φ (upd H (φ k) u):=⟨λ _ _=>rfl,(Kp.refl H).put G f0⟩
 have key:∀ i B,(s.set k o)[i]?=some B->(i≠k/\s[i]?=some B)\/(i=k/\B=o):=λ i B e=>by
  by_cases h:i=k
  ·subst h;rw[a9 a0]at e;exact .inr ⟨rfl,(aE e).symm⟩
  ·rw[bh (cC h)]at e;exact .inl ⟨h,e⟩
 have mm:∀ i B,(s.set k o)[i]?=some B->isMut B=true->∃ J,s[i]?=some J/\isMut J=true:=λ i B e m=>by
  rcases key i B e with⟨_,e⟩|⟨h,_⟩
  ·exact⟨B,e,m⟩
  ·exact⟨F,by rw[h];exact hk,Y⟩
 refine⟨⟨g,by simp,λ i h1 h2=>by rw[bK]at h2;omega,λ i o1 Z e1 e2=>?_,λ b hb=>?_,λ b ob hb nt ne=>by rw[zm (cC (ne k F hk Y))];exact hb⟩,λ i j oi oj ei ej mi mj e=>?_,λ i B e=>?_,λ i B e=>?_,r.tab.keepF λ b v hv q=>?_⟩
 ·rcases key i Z e2 with⟨_,e⟩|⟨h,rfl⟩
  ·rw[e1]at e;cases e;rfl
  ·subst h;rw[hk]at e1;cases e1;exact a2
 ·unfold upd;split
  ·simp
  ·exact hb
 ·obtain⟨o1,e1,m1⟩:=mm i oi ei mi
  obtain⟨Z,e2,m2⟩:=mm j oj ej mj
  exact r.inj i j o1 Z e1 e2 m1 m2 e
 ·rcases key i B e with⟨h,e⟩|⟨h,rfl⟩
  ·refine(r.obj i B e).mono g (r.wf i B e) λ m v hv=>?_
   rw[zm λ z=>h (r.inj i k B F e hk m Y z)];exact hv
  ·subst h
   exact ho _ g zx
 ·rw[bK]
  rcases key i B e with⟨_,e⟩|⟨_,rfl⟩
  ·exact r.wf i B e
  ·exact hb
 ·rw[zm λ z=>by
   subst z;rw[G]at q;cases q
   rcases hv with h|⟨ps,h⟩
   ·rw[f0]at h;cases h
   ·exact a1 _ h]
  exact q
theorem Rp.same {φ:Nat->Addr}{H H':Hp}{s:kY}(r:Rp Γ φ H s)(e:ak6 H H'):Gr φ s H φ s H'/\Rp Γ φ H' s:=by
 have g:Gw φ s.length H φ H':=⟨λ _ _=>rfl,λ b o h _=>e b o h⟩
 exact⟨⟨g,aw _,λ i G B=>absurd B (by omega),λ i o F e e'=>by rw[e]at e';cases e';rfl,λ b hb=>by
  cases q:H b with
  | none=>exact absurd q hb
  | some o=>rw[e b o q];simp,λ b o h _ _=>e b o h⟩,r.inj,λ i o h=>(r.obj i o h).mono g (r.wf i o h) λ _ u hu=>e _ u hu,r.wf,r.tab.same e⟩
section
variable {φ:Nat->Addr} {H:Hp} {s:kY} {Q:VK}
theorem aj7.alloc {l:List kZ}{B:List V}(h:aj7 Γ φ s H (.ref s.length) (s++[.lst l]) Q)(r:Rp Γ φ H s)(hl:RVL Γ φ H l B)(hb:k7 s.length l=true){p:Addr}(hp:H p=none):Q (.ref p) (upd H p (.lst B)):=by
 obtain⟨g,F⟩:=r.new (o:=.lst l) (u:=.lst B) hp hb λ φ' H' g e=>⟨B,e,RVL.monoW g l B hb hl⟩
 have:=h (.ref p) _ _ g (by simp) (by unfold la;simp) (by unfold RV;simp) F
 exact this
theorem aj7.tup {l:List kZ}{B:List V}(h:aj7 Γ φ s H (.tup l) s Q)(r:Rp Γ φ H s)(hl:RVL Γ φ H l B)(hb:k7 s.length l=true){p:Addr}(hp:H p=none):Q (.ref p) (upd H p (.tup B)):=by
 obtain⟨g,F⟩:=r.same (H':=upd H p (.tup B)) ((ak6.refl H).new hp)
 exact h _ _ _ g (aw _) (by unfold la;exact hb) (RV.tupI zx (RVL.mono g l B hb hl)) F
theorem aj7.put {k:Nat}{l l0:List kZ}{B:List V}{d:kZ}{v:V}(h:aj7 Γ φ s H d (s.set k (.lst l)) Q)(r:Rp Γ φ H s)(hk:s[k]?=some (.lst l0))(hl:RVL Γ φ H l B)(hb:k7 s.length l=true)
  (hd:d.bnd s.length=true) (hv:RV Γ φ H d v):Q v (upd H (φ k) (.lst B)):=by
 obtain⟨g,F⟩:=r.set (o:=.lst l) (u:=.lst B) hk rfl hb λ H' g e=>⟨B,e,RVL.monoW g l B hb hl⟩
 exact h _ _ _ g (by simp) (by rw[bK];exact hd) (RV.mono g d v hd hv) F
end
variable {Γ:Gm}
theorem keyOf_inj {a b:kZ}{k:Key}(ha:aZ7 a=some k)(hb:aZ7 b=some k):a=b:=by
 cases a with
 | int i =>
  cases ha
  cases b with
  | int j=>cases hb;rfl
  | str y=>cases hb
  | _=>cases hb
 | str x =>
  cases ha
  cases b with
  | int j=>cases hb
  | str y =>
   have h:=aE hb
   injection h with h
   injection h with h
   have B:y=x:=by simpa using h
   rw[B]
  | _=>cases hb
 | _=>cases ha
theorem az5 {d:kZ}(h:d.key=true):∃ k,aZ7 d=some k:=by
 cases d with
 | int i=>exact⟨_,rfl⟩
 | str x=>exact⟨_,rfl⟩
 | _=>cases h
theorem bc7 {φ:Nat->Addr}{H:Hp}{d:kZ}{k:Key}{v:V}(h:aZ7 d=some k)(r:RV Γ φ H d v):v=kV k:=by
 cases d with
 | int i=>cases h;exact r.intE
 | str x=>cases h;exact r.strE
 | _=>cases h
def bt2 {κ:Type}(kf:kZ->Option κ):Prop:=∀ {a b:kZ} {k:κ},kf a=some k->kf b=some k->a=b
theorem bb1:bt2 fOf:=λ {a b k} ha hb=>by
 cases a with
 | non=>cases ha;cases b with|non=>rfl|_=>cases hb
 | int i=>cases ha;cases b with|int j=>cases hb;rfl|_=>cases hb
 | str x=>cases ha;cases b with|str y=>cases hb;rfl|_=>cases hb
 | _=>cases ha
theorem at5 {κ:Type}{f:kZ->Option κ}(h:bt2 f):∀ {a b:List kZ} {k:List κ},qP f a=some k->qP f b=some k->a=b
 | [],[],k,_,_=>rfl
 | [],y::b,k,ha,hb=>by
  cases ha
  unfold qP at hb
  split at hb<;>cases hb
 | x::a,[],k,ha,hb=>by
  cases hb
  unfold qP at ha
  split at ha<;>cases ha
 | x::a,y::b,k,ha,hb=>by
  unfold qP at ha hb
  split at ha
  ·rename_i k1 r1 e1 e2
   cases ha
   split at hb
   ·rename_i k2 r2 e3 B
    cases hb
    rw[h e1 e3,at5 h e2 B]
   ·cases hb
  ·cases ha
theorem nOf_cases {d:kZ}{k:NI}(h:nOf d=some k):(∃ l r,d=.tup l/\qP fOf l=some r/\k=.inr r)\/∃ f,fOf d=some f/\k=.inl f:=by
 cases d with
 | tup l =>
  obtain⟨r,e,q⟩:=cb.mp (show(qP fOf l).map .inr=some k from h)
  exact .inl ⟨l,r,rfl,e,q.symm⟩
 | non=>obtain⟨r,e,q⟩:=cb.mp (show(fOf .non).map .inl=some k from h);exact .inr ⟨r,e,q.symm⟩
 | int i=>obtain⟨r,e,q⟩:=cb.mp (show(fOf (.int i)).map .inl=some k from h);exact .inr ⟨r,e,q.symm⟩
 | str i=>obtain⟨r,e,q⟩:=cb.mp (show(fOf (.str i)).map .inl=some k from h);exact .inr ⟨r,e,q.symm⟩
 | _=>cases h
theorem bA7:bt2 nOf:=λ {a b k} ha hb=>by
 rcases nOf_cases ha with⟨l,r,rfl,e,rfl⟩|⟨f,e,rfl⟩
 ·rcases nOf_cases hb with⟨m,h,rfl,e',q⟩|⟨f,e',q⟩
  ·cases q;rw[at5 bb1 e e']
  ·cases q
 ·rcases nOf_cases hb with⟨m,h,rfl,e',q⟩|⟨f',e',q⟩
  ·cases q
  ·cases q;exact bb1 e e'
theorem aA1 {d:kZ}{k:List NI}(h:bV5 d=some k):∃ l,d=.tup l/\(ln l=true/\l.all lC=true/\l.length<=1000)/\av3 l=some k:=by
 cases d with
 | tup l =>
  have h:(if(ln l&&(l.all lC&&decide (l.length<=1000)))=true then av3 l else none)=some k:=h
  by_cases z:(ln l&&(l.all lC&&decide (l.length<=1000)))=true
  ·rw[if_pos z]at h;rw[aj,aj]at z;exact⟨l,rfl,⟨z.1,z.2.1,of_decide_eq_true z.2.2⟩,h⟩
  ·rw[if_neg z]at h;cases h
 | _=>cases h
theorem keyT_inj:bt2 bV5:=λ ha hb=>by
 obtain⟨l,rfl,_,B⟩:=aA1 ha
 obtain⟨m,rfl,_,h⟩:=aA1 hb
 rw[at5 bA7 B h]
theorem an3 {κ:Type}{f:kZ->Option κ}{p:kZ->Bool}(hp:∀ d,p d=true->∃ k,f d=some k):∀ {l:List kZ},l.all p=true->∃ k,qP f l=some k
 | [],_=>⟨[],rfl⟩
 | d::l,h=>by
  rw[dF,aj]at h
  obtain⟨k,hk⟩:=hp d h.1
  obtain⟨r,hr⟩:=an3 hp h.2
  exact⟨k::r,by unfold qP;rw[hk,hr]⟩
theorem aZ0 (d:kZ)(h:d.keyF=true):∃ k,fOf d=some k:=by
 cases d with
 | int i=>exact⟨_,rfl⟩
 | str x=>exact⟨_,rfl⟩
 | non=>exact⟨_,rfl⟩
 | _=>cases h
theorem aN7 {l:List kZ}(h:(DV.D.tup l).keyS=true):ln l=true/\l.all m7=true/\l.length<=1000:=by
 have h:(ln l&&(l.all m7&&decide (l.length<=1000)))=true:=h
 rw[aj,aj]at h
 exact⟨h.1,h.2.1,of_decide_eq_true h.2.2⟩
theorem bc8 (d:kZ)(h:d.keyS=true):∃ k,nOf d=some k:=by
 cases d with
 | tup l=>obtain⟨r,e⟩:=an3 aZ0 (aN7 h).2.1;exact⟨.inr r,by show(qP fOf l).map _=_;rw[e];rfl⟩
 | int i=>exact⟨_,rfl⟩
 | str x=>exact⟨_,rfl⟩
 | non=>exact⟨_,rfl⟩
 | _=>cases h
theorem al6 {d:kZ}(h:d.keyT=true):∃ k,bV5 d=some k:=by
 cases d with
 | tup l =>
  have h:(ln l&&(l.all lC&&decide (l.length<=1000)))=true:=h
  have h':=h
  rw[aj,aj]at h'
  obtain⟨k,hk⟩:=an3 bc8 h'.2.1
  exact⟨k,by show(if(ln l&&(l.all lC&&decide (l.length<=1000)))=true then av3 l else none)=some k;rw[if_pos h];exact hk⟩
 | _=>cases h
theorem cn8 {φ:Nat->Addr}{H:Hp}{d:kZ}{k:FK}{v:V}(h:fOf d=some k)(r:RV Γ φ H d v):v=fV k:=by
 cases d with
 | non=>cases h;exact r.nonE
 | int i=>cases h;exact r.intE
 | str x=>cases h;exact r.strE
 | _=>cases h
theorem bU3 {φ:Nat->Addr}{H:Hp}:∀ {l:List kZ} {k:List FK} {B:List V},qP fOf l=some k->RVL Γ φ H l B->B=k.map fV
 | [],k,B,h,r=>by cases h;exact r.unnil
 | d::l,k,B,h,r=>by
  unfold qP at h
  split at h
  ·rename_i k1 r1 e1 e2
   cases h
   obtain⟨x,ys,rfl,G,F⟩:=r.uncons
   rw[cn8 e1 G,bU3 e2 F,a8]
  ·cases h
theorem bc3 {φ:Nat->Addr}{H:Hp}:∀ {l:List kZ} {k:List NI} {B:List V},av3 l=some k->l.all lC=true->RVL Γ φ H l B->cR (NAt H) k B
 | [],k,B,h,_,r=>by cases h;cases r.unnil;exact .nil
 | d::l,k,B,h,z,r=>by
  unfold av3 qP at h
  rw[dF,aj]at z
  split at h
  ·rename_i k1 r1 e1 e2
   cases h
   obtain⟨x,ys,rfl,F,G⟩:=r.uncons
   refine .cons ?_ (bc3 e2 z.2 G)
   rcases nOf_cases e1 with⟨m,q,rfl,e,rfl⟩|⟨f,e,rfl⟩
   ·obtain⟨a,B,e',J,Y⟩:=F.tupK (aN7 z.1).1
    rw[bU3 e Y]at J
    exact⟨a,e',J⟩
   ·exact cn8 e F
  ·cases h
theorem aA0 {φ:Nat->Addr}{H:Hp}{d:kZ}{k:List NI}{v:V}(h:bV5 d=some k)(r:RV Γ φ H d v):∃ b,v=.ref b/\NK H k b:=by
 obtain⟨l,rfl,z,hk⟩:=aA1 h
 obtain⟨a,B,e,G,F⟩:=r.tupK z.1
 exact⟨a,e,B,G,bc3 hk z.2.1 F⟩
section
variable {κ:Type} [DecidableEq κ] {kf:kZ->Option κ}
theorem RVD.val {φ:Nat->Addr}{H:Hp}{d:kZ}{k:κ}(F:bt2 kf)(hk:kf d=some k):∀ {l:List (kZ×kZ)} {B:List (κ×V)},RVD kf Γ φ H l B->(lI d l=none/\aG8 B k=none)\/∃ e v,lI d l=some e/\aG8 B k=some v/\RV Γ φ H e v/\e∈l.map (·.2)
 | [],B,h=>by
  have h:B=[]:=h
  subst h
  exact .inl ⟨rfl,rfl⟩
 | (a,e)::l,B,h=>by
  obtain⟨G,v,r,rfl,e2,e3,e4⟩:=h
  by_cases z:a=d
  ·subst z
   rw[hk]at e2;cases e2
   exact .inr ⟨e,v,by unfold lI;rw[if_pos rfl],ap7 rfl,e3,by simp⟩
  ·have Y:¬ G=k:=λ q=>z (F e2 (by rw[q];exact hk))
   have Z:lI d ((a,e)::l)=lI d l:=by
    conv=>lhs;unfold lI
    rw[if_neg z]
   rw[Z,ap8 (show ¬(G,v).1=k from Y)]
   rcases RVD.val F hk e4 with q|⟨e',v',J,q2,q3,q4⟩
   ·exact .inl q
   ·exact .inr ⟨e',v',J,q2,q3,by simp at q4 ⊢;exact .inr q4⟩
theorem RVD.repl {φ:Nat->Addr}{H:Hp}{d e:kZ}{k:κ}{v:V}(F:bt2 kf)(hk:kf d=some k)(hv:RV Γ φ H e v):∀ {l:List (kZ×kZ)} {B:List (κ×V)},RVD kf Γ φ H l B->RVD kf Γ φ H (l.map λ p=>if p.1=d then(p.1,e)else p) (B.map λ G=>if G.1=k then(G.1,v)else G)
 | [],B,h=>by
  have h:B=[]:=h
  subst h;exact(rfl:([]:List (κ×V))=[])
 | (a,e0)::l,B,h=>by
  obtain⟨J,v0,r,rfl,e2,e3,Y⟩:=h
  rw[a8,a8]
  by_cases z:a=d
  ·subst z
   rw[hk]at e2;cases e2
   rw[if_pos rfl,if_pos rfl]
   exact⟨k,v,_,rfl,hk,hv,RVD.repl F hk hv Y⟩
  ·have Z:¬ J=k:=λ q=>z (F e2 (by rw[q];exact hk))
   rw[if_neg z,if_neg Z]
   exact⟨J,v0,_,rfl,e2,e3,RVD.repl F hk hv Y⟩
theorem RVD.snoc {φ:Nat->Addr}{H:Hp}{d e:kZ}{k:κ}{v:V}(F:bt2 kf)(hk:kf d=some k)(hv:RV Γ φ H e v):∀ {l:List (kZ×kZ)} {B:List (κ×V)},RVD kf Γ φ H l B->RVD kf Γ φ H (l++[(d,e)]) (B++[(k,v)])
 | [],B,h=>by
  have h:B=[]:=h
  subst h;exact⟨k,v,[],rfl,hk,hv,rfl⟩
 | (a,e0)::l,B,h=>by
  obtain⟨G,v0,r,rfl,e2,e3,J⟩:=h
  exact⟨G,v0,_,rfl,e2,e3,RVD.snoc F hk hv J⟩
theorem RVD.put {φ:Nat->Addr}{H:Hp}{d e:kZ}{k:κ}{v:V}{l:List (kZ×kZ)}{B:List (κ×V)}(G:bt2 kf)(hk:kf d=some k)(hv:RV Γ φ H e v)(h:RVD kf Γ φ H l B):RVD kf Γ φ H (lw d e l) (aG7 B k v):=by
 unfold lw aG7
 rw[ay3]
 rcases h.val G hk with⟨F,q2⟩|⟨e',v',F,q2,_⟩
 ·rw[F,q2];exact h.snoc G hk hv
 ·rw[F,q2];exact h.repl G hk hv
theorem RVD.get {φ:Nat->Addr}{H:Hp}:∀ {l:List (kZ×kZ)} {B:List (κ×V)} {i:Nat} {d e:kZ},RVD kf Γ φ H l B->l[i]?=some (d,e)->∃ k v,B[i]?=some (k,v)/\kf d=some k/\RV Γ φ H e v
 | [],_,_,_,_,_,h=>by cases h
 | (a,b)::l,B,0,d,e,h,q=>by
  obtain⟨k,v,r,rfl,e2,e3,F⟩:=h
  cases q
  exact⟨k,v,rfl,e2,e3⟩
 | (a,b)::l,B,i+1,d,e,h,q=>by
  obtain⟨k,v,r,rfl,e2,e3,F⟩:=h
  exact RVD.get (i:=i) F (show l[i]?=some (d,e)from q)
theorem RVD.keys {φ:Nat->Addr}{H:Hp}:∀ {l:List (kZ×kZ)} {B:List (κ×V)},RVD kf Γ φ H l B->∀ kv∈B,∃ d,kf d=some kv.1
 | [],B,h,kv,hk=>by
  have h:B=[]:=h
  subst h;cases hk
 | (a,b)::l,B,h,kv,hk=>by
  obtain⟨k,v,r,rfl,e2,e3,F⟩:=h
  rcases aI.mp hk with z|z
  ·subst z;exact⟨a,e2⟩
  ·exact RVD.keys F kv z
theorem RVD.length {φ:Nat->Addr}{H:Hp}:∀ {l:List (kZ×kZ)} {B:List (κ×V)},RVD kf Γ φ H l B->B.length=l.length
 | [],B,h=>by
  have h:B=[]:=h
  subst h;rfl
 | (a,e)::l,B,h=>by
  obtain⟨G,v,r,rfl,e2,e3,F⟩:=h
  rw[bq,bq,RVD.length F]
end
theorem aM7 {n:Nat}{d e:kZ}{l:List (kZ×kZ)}(h:(DV.O.dic l).bnd n=true)(hd:d.bnd n=true)(he:e.bnd n=true):(DV.O.dic (lw d e l)).bnd n=true:=by
 unfold lb at h ⊢
 rw[aj]at h ⊢
 obtain⟨J,G⟩:=h
 have g1:=ag9.mp J
 have F:=ag9.mp G
 unfold lw
 refine⟨ag9.mpr λ x hx=>?_,ag9.mpr λ x hx=>?_⟩
 ·obtain⟨p,hp,rfl⟩:=aW.mp hx
  split at hp
  ·obtain⟨q,B,rfl⟩:=aW.mp hp
   split
   ·exact g1 _ (bV (f:=(·.1)) B)
   ·exact g1 _ (bV (f:=(·.1)) B)
  ·rcases aS.mp hp with q|q
   ·exact g1 _ (bV (f:=(·.1)) q)
   ·rw[ay.mp q];exact hd
 ·obtain⟨p,hp,rfl⟩:=aW.mp hx
  split at hp
  ·obtain⟨q,B,rfl⟩:=aW.mp hp
   split
   ·exact he
   ·exact F _ (bV (f:=(·.2)) B)
  ·rcases aS.mp hp with q|q
   ·exact F _ (bV (f:=(·.2)) q)
   ·rw[ay.mp q];exact he
theorem bk1 {n:Nat}{d e:kZ}{l:List (kZ×kZ)}(h:(DV.O.dit l).bnd n=true)(hd:d.bnd n=true)(he:e.bnd n=true):(DV.O.dit (lw d e l)).bnd n=true:=aM7 h hd he
theorem ap6 {f:kZ->kZ->Option Bool}{a b:kZ}{l m:List kZ}{z:Bool}(h:lx f (a::l) (b::m)=some z):∃ x y,f a b=some x/\lx f l m=some y/\z=(x&&y):=by
 unfold lx at h
 cases e1:f a b with
 | none=>rw[e1]at h;cases h
 | some x =>
  cases e2:lx f l m with
  | none=>rw[e1,e2]at h;cases h
  | some y=>rw[e1,e2]at h;exact⟨x,y,rfl,rfl,(aE h).symm⟩
theorem bg6 {f:kZ->kZ->Option Bool}:∀ {l m:List kZ} {z:Bool},lx f l m=some z->∃ e:Nat->Bool,(∀ j d d',l[j]?=some d->m[j]?=some d'->f d d'=some (e j))/\((l.length==m.length)&&(a7 (min l.length m.length)).all e)=z
 | [],[],z,h=>by
  unfold lx at h
  cases h
  exact⟨λ _=>true,λ j d d' h=>by simp at h,by simp⟩
 | [],b::m,z,h=>by
  unfold lx at h
  cases h
  exact⟨λ _=>true,λ j d d' h=>by simp at h,by simp⟩
 | a::l,[],z,h=>by
  unfold lx at h
  cases h
  exact⟨λ _=>true,λ j d d' G B=>by simp at B,by simp⟩
 | a::l,b::m,z,h=>by
  obtain⟨x,y,e1,e2,J⟩:=ap6 h
  obtain⟨e,G,B⟩:=bg6 e2
  refine⟨λ j=>match j with|0=>x|j+1=>e j,λ j d d' g1 F=>?_,?_⟩
  ·cases j with
   | zero=>simp at g1 F;subst g1;subst F;exact e1
   | succ j=>exact G j d d' (by simpa using g1) (by simpa using F)
  ·rw[bq,bq,show min (l.length+1) (m.length+1)=min l.length m.length+1 by omega,gj,dF,kB,J,<-B]
   have:((l.length+1==m.length+1)=(l.length==m.length)):=by
    by_cases q:l.length=m.length
    ·simp[q]
    ·have:¬ l.length+1=m.length+1:=by omega
     simp[q]
   rw[this]
   show((l.length==m.length)&&(x&&(a7 _).all e))=_
   cases x<;>cases(l.length==m.length)<;>simp
section
variable {X:Cx} {pins:List (Addr×Obj)} {σ:St} {H:Hp} {sh:af} {φ:Nat->Addr} {s:kY}
theorem at2 (I:Inv X pins σ H sh){a:Addr}{B ys:List V}(h:H a=some (.lst B))(h':SqT X.K H a ys):False:=by
 rcases h' with(z|⟨o,z⟩)|⟨o,its,n,hk,_⟩
 ·rw[h]at z;cases z
 ·rw[h]at z;cases z
 ·have:=(I.bs a o (I.mod.kin a o hk)).2
  rw[h]at this;cases this
theorem rv_two (I:Inv X pins σ H sh)(hK:X.K=Γ.K)(R:Rp Γ φ H s){a b:kZ}{x:V}(J:RV Γ φ H a x)(B:RV Γ φ H b x)(n1:lz s a≠9)(F:lz s b≠9):a=b\/∃ l m p Y,a=.tup l/\b=.tup m/\x=.ref p/\RVL Γ φ H l Y/\RVL Γ φ H m Y:=by
 have G:∀ {r:Nat},lz s (.ref r)≠9->∃ l,s[r]?=some (.lst l):=λ {r} h=>by
  have h:(match s[r]? with|some (DV.O.lst l)=>4|_=>9:Nat)≠9:=h
  cases hs:s[r]? with
  | none=>rw[hs]at h;exact absurd rfl h
  | some o =>
   rw[hs]at h
   cases o with
   | lst l=>exact⟨l,rfl⟩
   | _=>exact absurd rfl h
 cases a with
 | non=>have e:=J.nonE;subst e;cases b with
  | non=>exact .inl rfl
  | bl _=>cases B.blE
  | int _=>cases B.intE
  | str _=>cases B.strE
  | tup _=>obtain⟨_,_,e,_⟩:=B.tupE;cases e
  | ref _=>cases B.refE
  | fn _=>exact absurd rfl F
  | clo _ _=>exact absurd rfl F
 | bl p=>have e:=J.blE;subst e;cases b with
  | non=>cases B.nonE
  | bl _=>cases B.blE;exact .inl rfl
  | int _=>cases B.intE
  | str _=>cases B.strE
  | tup _=>obtain⟨_,_,e,_⟩:=B.tupE;cases e
  | ref _=>cases B.refE
  | fn _=>exact absurd rfl F
  | clo _ _=>exact absurd rfl F
 | int p=>have e:=J.intE;subst e;cases b with
  | non=>cases B.nonE
  | bl _=>cases B.blE
  | int _=>cases B.intE;exact .inl rfl
  | str _=>cases B.strE
  | tup _=>obtain⟨_,_,e,_⟩:=B.tupE;cases e
  | ref _=>cases B.refE
  | fn _=>exact absurd rfl F
  | clo _ _=>exact absurd rfl F
 | str p=>have e:=J.strE;subst e;cases b with
  | non=>cases B.nonE
  | bl _=>cases B.blE
  | int _=>cases B.intE
  | str q =>
   have e':p.toArray=q.toArray:=Str.mk.inj (V.str.inj B.strE)
   have a0:p=q:=by simpa using congrArg je e'
   subst a0;exact .inl rfl
  | tup _=>obtain⟨_,_,e,_⟩:=B.tupE;cases e
  | ref _=>cases B.refE
  | fn _=>exact absurd rfl F
  | clo _ _=>exact absurd rfl F
 | tup l =>
  obtain⟨p,Y,e,Z,d1⟩:=J.tupE;subst e;cases b with
  | non=>cases B.nonE
  | bl _=>cases B.blE
  | int _=>cases B.intE
  | str _=>cases B.strE
  | tup m =>
   obtain⟨p',ys,e,q2,d2⟩:=B.tupE
   cases e
   rw[<-hK]at Z q2
   rw[I.tuple_inj q2 Z]at d2
   exact .inr ⟨l,m,p,Y,rfl,rfl,rfl,d1,d2⟩
  | ref r =>
   cases B.refE
   obtain⟨m,hm⟩:=G F
   obtain⟨ys,hy,_⟩:=R.addr hm
   rw[<-hK]at Z
   exact(at2 I hy Z).elim
  | fn _=>exact absurd rfl F
  | clo _ _=>exact absurd rfl F
 | ref r =>
  have e:=J.refE;subst e
  obtain⟨l,hl⟩:=G n1
  obtain⟨Y,hx,_⟩:=R.addr hl
  cases b with
  | non=>cases B.nonE
  | bl _=>cases B.blE
  | int _=>cases B.intE
  | str _=>cases B.strE
  | tup m =>
   obtain⟨p',ys,e,q2,d2⟩:=B.tupE
   cases e
   rw[<-hK]at q2
   exact(at2 I hx q2).elim
  | ref r' =>
   obtain⟨m,hm⟩:=G F
   have e:φ r=φ r':=V.ref.inj B.refE
   rw[R.inj r r' _ _ hl hm rfl rfl e]
   exact .inl rfl
  | fn _=>exact absurd rfl F
  | clo _ _=>exact absurd rfl F
 | fn _=>exact absurd rfl n1
 | clo _ _=>exact absurd rfl n1
theorem qL {a b:kZ}{z:Bool}(h:lD s a b=some z):mQ a b=some z\/(mQ a b=none/\lZ (lz s a) (lz s b)=false/\z=false):=by
 unfold lD at h
 cases e:mQ a b with
 | some w=>rw[e]at h;exact .inl h
 | none =>
  rw[e]at h
  cases q:lZ (lz s a) (lz s b)with
  | true=>rw[q]at h;cases h
  | false=>rw[q]at h;exact .inr ⟨rfl,rfl,(aE h).symm⟩
theorem bp0 {a b:kZ}{z:Bool}(h:mQ a b=some z):lz s a≠9/\lz s b≠9:=by
 cases a<;>cases b<;>first|(cases h;done)|(constructor<;>(intro z;cases z))
theorem al5 {a b:kZ}{z:Bool}(h:lD s a b=some z):lz s a≠9/\lz s b≠9:=by
 rcases qL h with h|⟨_,h,_⟩
 ·exact bp0 h
 ·unfold lZ at h
  simp only[eU,beq_eq_false_iff_ne]at h
  exact⟨h.1.1,h.1.2⟩
theorem aH3 {a:kZ}{z:Bool}(h:lD s a a=some z):z=true:=by
 rcases qL h with h|⟨_,h,_⟩
 ·cases a<;>cases h<;>first|rfl|exact beq_self_eq_true _
 ·unfold lZ at h;simp at h
theorem aP5 (I:Inv X pins σ H sh)(hK:X.K=Γ.K)(R:Rp Γ φ H s):∀(n:Nat) (a b:kZ) (x:V) (z:Bool),lp s n a b=some z->RV Γ φ H a x->RV Γ φ H b x->z=true:=by
 have G:∀(a b:kZ) (x:V) (z:Bool),lD s a b=some z->RV Γ φ H a x->RV Γ φ H b x->z=true:=by
  intro a b x z h F B
  rcases rv_two I hK R F B (al5 h).1 (al5 h).2 with e|⟨l,m,_,_,rfl,rfl,_⟩
  ·subst e;exact aH3 h
  ·rcases qL h with h|⟨_,h,_⟩
   ·cases h
   ·unfold lZ at h;simp[lz]at h
 intro n
 induction n with
 | zero=>intro a b x z h;unfold lp at h;exact G a b x z h
 | succ n ih =>
  have Z:∀(l m:List kZ) (J:List V) (z:Bool),lx (lp s n) l m=some z->RVL Γ φ H l J->RVL Γ φ H m J->z=true:=by
   intro l
   induction l with
   | nil =>
    intro m J z h F B
    cases m with
    | nil=>unfold lx at h;exact(aE h).symm
    | cons b m=>obtain⟨x,r,e,_⟩:=B.uncons;rw[F.unnil]at e;cases e
   | cons a l ihl =>
    intro m J z h F B
    cases m with
    | nil=>obtain⟨x,r,e,_⟩:=F.uncons;rw[B.unnil]at e;cases e
    | cons b m =>
     obtain⟨p,q,e1,e2,ez⟩:=ap6 h
     obtain⟨v,r,rfl,g1,g2⟩:=F.uncons
     obtain⟨v',r',e,g3,g4⟩:=B.uncons
     cases e
     rw[ez,ih a b v p e1 g1 g3,ihl m r q e2 g2 g4];rfl
  intro a b x z h F B
  unfold lp at h
  split at h
  ·rename_i l m
   obtain⟨a,J,rfl,q1,d1⟩:=F.tupE
   obtain⟨b,ys,e,q2,d2⟩:=B.tupE
   cases e
   rw[<-hK]at q1 q2
   rw[I.tuple_inj q2 q1]at d2
   exact Z l m J z h d1 d2
  ·rename_i p q
   split at h
   ·rename_i l m hl hm
    obtain⟨J,e1,d1⟩:=R.addr hl
    obtain⟨ys,e2,d2⟩:=R.addr hm
    have e:=F.refE.symm.trans B.refE
    have e':φ p=φ q:=V.ref.inj e
    rw[e',e2]at e1
    have e3:ys=J:=by injection (aE e1)
    subst e3
    split at h
    ·exact Z l m ys z h d1 d2
    ·rename_i Y;exact absurd (d1.length.symm.trans d2.length) Y
   ·cases h
  ·exact G a b x z h F B
end
variable {Γ:Gm}
inductive Vw (sh:af):Nat->Value->Prop where
 | non:Vw sh 0 .none
 | bl (b:Bool):Vw sh 1 (.bool b)
 | int (i:Int) (t:Tok):Vw sh 1 (.int i t)
 | str (x:Str) (t:Tok):Vw sh 2 (.str x t)
 | tup {l:Addr} {items:Array Value} (h:sh.heap.IsTuple l items):Vw sh 3 (.ref l)
 | lst {l:Addr} {items:Array Value} (h:sh.heap.IsList l items):Vw sh 4 (.ref l)
theorem Vw.eq {A:aV}{sh:af}{k F:Nat}{u v:Value}(a:Vw sh k u)(b:Vw sh F v)(B:k≠F)(hu:A.units<cLine):eN A sh u v false:=by
 cases a with
 | non=>cases b with
  | non=>exact absurd rfl B
  | bl b=>exact SeqAt.EqAt.none_bool b
  | int i t=>exact iB i t
  | str x t=>exact iC x t
  | tup h=>exact gP h hu
  | lst h=>exact SeqAt.EqAt.none_list h hu
 | bl a=>cases b with
  | non=>exact SeqAt.EqAt.bool_none a
  | bl b=>exact absurd rfl B
  | int i t=>exact absurd rfl B
  | str x t=>exact SeqAt.EqAt.bool_str a x t
  | tup h=>exact SeqAt.EqAt.bool_tuple a h hu
  | lst h=>exact SeqAt.EqAt.bool_list a h hu
 | int a q=>cases b with
  | non=>exact iD a q
  | bl b=>exact absurd rfl B
  | int i t=>exact absurd rfl B
  | str x t=>exact iT a q x t
  | tup h=>exact g7 a q h hu
  | lst h=>exact SeqAt.EqAt.int_list a q h hu
 | str a q=>cases b with
  | non=>exact iE a q
  | bl b=>exact SeqAt.EqAt.str_bool a q b
  | int i t=>exact iU a q i t
  | str x t=>exact absurd rfl B
  | tup h=>exact g8 a q h hu
  | lst h=>exact SeqAt.EqAt.str_list a q h hu
 | tup g=>cases b with
  | non=>exact gQ g hu
  | bl b=>exact SeqAt.EqAt.tuple_bool b g hu
  | int i t=>exact g9 i t g hu
  | str x t=>exact hG x t g hu
  | tup h=>exact absurd rfl B
  | lst h=>exact SeqAt.EqAt.tuple_list g h hu
 | lst g=>cases b with
  | non=>exact SeqAt.EqAt.list_none g hu
  | bl b=>exact SeqAt.EqAt.list_bool b g hu
  | int i t=>exact SeqAt.EqAt.list_int i t g hu
  | str x t=>exact SeqAt.EqAt.list_str x t g hu
  | tup h=>exact SeqAt.EqAt.list_tuple g h hu
  | lst h=>exact absurd rfl B
theorem Vw.rc {A:aV}{sh:af}{k F:Nat}{u v:Value}(a:Vw sh k u)(b:Vw sh F v)(B:k≠F)(hu:A.units<cLine):kU A sh u v false:=by
 cases a with
 | non=>cases b with
  | non=>exact absurd rfl B
  | bl b=>exact SeqAt.RcAt.none_bool b
  | int i t=>exact SeqAt.RcAt.none_int i t
  | str x t=>exact SeqAt.RcAt.none_str x t
  | tup h=>exact SeqAt.RcAt.none_tuple h hu
  | lst h=>exact SeqAt.RcAt.none_list h hu
 | bl a=>cases b with
  | non=>exact SeqAt.RcAt.bool_none a
  | bl b=>exact absurd rfl B
  | int i t=>exact absurd rfl B
  | str x t=>exact SeqAt.RcAt.bool_str a x t
  | tup h=>exact SeqAt.RcAt.bool_tuple a h hu
  | lst h=>exact SeqAt.RcAt.bool_list a h hu
 | int a q=>cases b with
  | non=>exact SeqAt.RcAt.int_none a q
  | bl b=>exact absurd rfl B
  | int i t=>exact absurd rfl B
  | str x t=>exact SeqAt.RcAt.int_str a q x t
  | tup h=>exact SeqAt.RcAt.int_tuple a q h hu
  | lst h=>exact SeqAt.RcAt.int_list a q h hu
 | str a q=>cases b with
  | non=>exact SeqAt.RcAt.str_none a q
  | bl b=>exact SeqAt.RcAt.str_bool a q b
  | int i t=>exact SeqAt.RcAt.str_int a q i t
  | str x t=>exact absurd rfl B
  | tup h=>exact SeqAt.RcAt.str_tuple a q h hu
  | lst h=>exact SeqAt.RcAt.str_list a q h hu
 | tup g=>cases b with
  | non=>exact SeqAt.RcAt.tuple_none g hu
  | bl b=>exact SeqAt.RcAt.tuple_bool b g hu
  | int i t=>exact SeqAt.RcAt.tuple_int i t g hu
  | str x t=>exact SeqAt.RcAt.tuple_str x t g hu
  | tup h=>exact absurd rfl B
  | lst h=>exact SeqAt.RcAt.tuple_list g h hu
 | lst g=>cases b with
  | non=>exact SeqAt.RcAt.list_none g hu
  | bl b=>exact SeqAt.RcAt.list_bool b g hu
  | int i t=>exact SeqAt.RcAt.list_int i t g hu
  | str x t=>exact SeqAt.RcAt.list_str x t g hu
  | tup h=>exact SeqAt.RcAt.list_tuple g h hu
  | lst h=>exact absurd rfl B
theorem Vw.ne {A:aV}{sh:af}{k F:Nat}{u v:Value}(a:Vw sh k u)(b:Vw sh F v)(B:k≠F)(hu:A.units<cLine):kG A sh u v true:=by
 cases a with
 | non=>cases b with
  | non=>exact absurd rfl B
  | bl b=>exact SeqAt.RcNeAt.none_bool b
  | int i t=>exact SeqAt.RcNeAt.none_int i t
  | str x t=>exact SeqAt.RcNeAt.none_str x t
  | tup h=>exact SeqAt.RcNeAt.none_tuple h hu
  | lst h=>exact SeqAt.RcNeAt.none_list h hu
 | bl a=>cases b with
  | non=>exact SeqAt.RcNeAt.bool_none a
  | bl b=>exact absurd rfl B
  | int i t=>exact absurd rfl B
  | str x t=>exact SeqAt.RcNeAt.bool_str a x t
  | tup h=>exact SeqAt.RcNeAt.bool_tuple a h hu
  | lst h=>exact SeqAt.RcNeAt.bool_list a h hu
 | int a q=>cases b with
  | non=>exact SeqAt.RcNeAt.int_none a q
  | bl b=>exact absurd rfl B
  | int i t=>exact absurd rfl B
  | str x t=>exact SeqAt.RcNeAt.int_str a q x t
  | tup h=>exact SeqAt.RcNeAt.int_tuple a q h hu
  | lst h=>exact SeqAt.RcNeAt.int_list a q h hu
 | str a q=>cases b with
  | non=>exact SeqAt.RcNeAt.str_none a q
  | bl b=>exact SeqAt.RcNeAt.str_bool a q b
  | int i t=>exact SeqAt.RcNeAt.str_int a q i t
  | str x t=>exact absurd rfl B
  | tup h=>exact SeqAt.RcNeAt.str_tuple a q h hu
  | lst h=>exact SeqAt.RcNeAt.str_list a q h hu
 | tup g=>cases b with
  | non=>exact SeqAt.RcNeAt.tuple_none g hu
  | bl b=>exact SeqAt.RcNeAt.tuple_bool b g hu
  | int i t=>exact SeqAt.RcNeAt.tuple_int i t g hu
  | str x t=>exact SeqAt.RcNeAt.tuple_str x t g hu
  | tup h=>exact absurd rfl B
  | lst h=>exact SeqAt.RcNeAt.tuple_list g h hu
 | lst g=>cases b with
  | non=>exact SeqAt.RcNeAt.list_none g hu
  | bl b=>exact SeqAt.RcNeAt.list_bool b g hu
  | int i t=>exact SeqAt.RcNeAt.list_int i t g hu
  | str x t=>exact SeqAt.RcNeAt.list_str x t g hu
  | tup h=>exact SeqAt.RcNeAt.list_tuple g h hu
  | lst h=>exact absurd rfl B
theorem ca4 (a b:List Nat):((⟨a.toArray⟩:Str)==⟨b.toArray⟩)=(a==b):=by
 by_cases e:a=b
 ·subst e;simp
 ·have:(⟨a.toArray⟩:Str)≠⟨b.toArray⟩:=λ q=>e (by simpa using congrArg (λ z=>z.cps.toList) q)
  rw[beq_eq_false_iff_ne.mpr this,beq_eq_false_iff_ne.mpr e]
structure Cmp (A:aV)(sh:af)(u v:Value)(z:Bool):Prop where
 rc:kU A sh u v z
 ne:kG A sh u v (!z)
section
variable {X:Cx} {pins:List (Addr×Obj)} {σ:St} {H:Hp} {sh:af} {φ:Nat->Addr} {s:kY}
theorem bN1 (I:Inv X pins σ H sh)(hK:X.K=Γ.K)(R:Rp Γ φ H s){d:kZ}{x:V}{u:Value}(h:RV Γ φ H d x)(r:RelV x u)(hk:lz s d≠9):Vw sh (lz s d) u:=by
 cases d with
 | non=>have e:=h.nonE;subst e;cases r;exact .non
 | bl b=>have e:=h.blE;subst e;cases r;exact .bl b
 | int i=>have e:=h.intE;subst e;obtain⟨t,rfl⟩:=r;exact .int i t
 | str y=>have e:=h.strE;subst e;obtain⟨t,rfl⟩:=r;exact .str _ t
 | tup l =>
  obtain⟨a,B,e,q,_⟩:=h.tupE
  subst e;cases r
  rw[<-hK]at q
  obtain⟨its,_,t,_⟩:=I.tuple q
  exact .tup t
 | ref n =>
  have e:=h.refE;subst e;cases r
  have hk:(match s[n]? with|some (DV.O.lst l)=>4|_=>9:Nat)≠9:=hk
  show Vw sh (match s[n]? with|some (DV.O.lst l)=>4|_=>9:Nat) _
  cases hs:s[n]? with
  | none=>rw[hs]at hk;exact absurd rfl hk
  | some o =>
   rw[hs]at hk
   cases o with
   | lst l =>
    obtain⟨B,e,_⟩:=R.addr hs
    obtain⟨its,_,t,_⟩:=I.list (SqL.of e)
    exact .lst t.isList
   | _=>exact absurd rfl hk
 | fn _=>exact absurd rfl hk
 | clo _ _=>exact absurd rfl hk
theorem aE9 (I:Inv X pins σ H sh)(hK:X.K=Γ.K)(R:Rp Γ φ H s){a b:kZ}{x y:V}{u v:Value}{A:aV}{z:Bool}(h:lD s a b=some z)(F:RV Γ φ H a x)(B:RV Γ φ H b y)(r1:RelV x u)(r2:RelV y v)(hu:A.units<cLine) :
  eN A sh u v z/\Cmp A sh u v z:=by
 rcases qL h with h|⟨_,hn,hz⟩
 ·cases a<;>cases b<;>try cases h
  ·cases F.nonE;cases B.nonE;cases r1;cases r2
   exact⟨dI _,SeqAt.RcAt.none_none,SeqAt.RcNeAt.none_none⟩
  ·cases F.blE;cases B.blE;cases r1;cases r2
   exact⟨SeqAt.EqAt.bool_bool _ _,SeqAt.RcAt.bool_bool _ _,SeqAt.RcNeAt.bool_bool _ _⟩
  ·cases F.blE;cases B.intE;cases r1;obtain⟨t',rfl⟩:=r2
   exact⟨SeqAt.EqAt.bool_int _ _ _,SeqAt.RcAt.bool_int _ _ _,SeqAt.RcNeAt.bool_int _ _ _⟩
  ·cases F.intE;cases B.blE;obtain⟨t,rfl⟩:=r1;cases r2
   exact⟨SeqAt.EqAt.int_bool _ _ _,SeqAt.RcAt.int_bool _ _ _,SeqAt.RcNeAt.int_bool _ _ _⟩
  ·cases F.intE;cases B.intE;obtain⟨t,rfl⟩:=r1;obtain⟨t',rfl⟩:=r2
   exact⟨i7 _ _ _ _,SeqAt.RcAt.int_int _ _ _ _,SeqAt.RcNeAt.int_int _ _ _ _⟩
  ·cases F.strE;cases B.strE;obtain⟨t,rfl⟩:=r1;obtain⟨t',rfl⟩:=r2
   rw[<-ca4]
   exact⟨i8 _ _ _ _,SeqAt.RcAt.str_str _ _ _ _,SeqAt.RcNeAt.str_str _ _ _ _⟩
 ·subst hz
  unfold lZ at hn
  simp only[eU,beq_eq_false_iff_ne]at hn
  have G:=bN1 I hK R F r1 hn.1.1
  have w2:=bN1 I hK R B r2 hn.1.2
  exact⟨G.eq w2 hn.2 hu,G.rc w2 hn.2 hu,G.ne w2 hn.2 hu⟩
theorem bd6 (I:Inv X pins σ H sh)(hK:X.K=Γ.K)(R:Rp Γ φ H s):∀(n:Nat) (a b:kZ) (x y:V) (u v:Value) (A:aV) (z:Bool),lp s n a b=some z->RV Γ φ H a x->RV Γ φ H b y->RelV x u->RelV y v->Room n A ->
  eN A sh u v z/\Cmp A sh u v z:=by
 intro n
 induction n with
 | zero=>intro a b x y u v A z h Z Y r1 r2 hr;unfold lp at h;exact aE9 I hK R h Z Y r1 r2 hr.units0
 | succ n ih =>
  have B:∀ {l m:List kZ} {xs ys:List V} {its its':List Value} {A:aV} {e:Nat->Bool},RVL Γ φ H l xs->RVL Γ φ H m ys->Vals xs its->Vals ys its'->Room n A->(∀ j d d',l[j]?=some d->m[j]?=some d'->lp s n d d'=some (e j)) ->
    ∀ j (Z:j<its.toArray.size) (Y:j<its'.toArray.size),eN A sh its.toArray[j] its'.toArray[j] (e j):=by
   intro l m xs ys its its' A e d1 d2 v1 J hr he j Z Y
   have l1:=v1.length
   have l2:=J.length
   have e1:=d1.length
   have e2:=d2.length
   have a2:j<its.length:=by simpa using Z
   have a4:j<its'.length:=by simpa using Y
   have hj:j<l.length:=by omega
   have a1:j<m.length:=by omega
   obtain⟨x,ex,dx⟩:=d1.get (aq hj)
   obtain⟨y,ey,dy⟩:=d2.get (aq a1)
   obtain⟨u,eu,ru⟩:=v1.get ex
   obtain⟨w,ew,a3⟩:=J.get ey
   have g1:its.toArray[j]=u:=by
    have:=aq a2
    rw[eu]at this
    simpa using(aE this).symm
   have g2:its'.toArray[j]=w:=by
    have:=aq a4
    rw[ew]at this
    simpa using(aE this).symm
   rw[g1,g2]
   exact(ih _ _ x y u w A (e j) (he j _ _ (aq hj) (aq a1)) dx dy ru a3 hr).1
  intro a b x y u v A z h Z Y r1 r2 hr
  have hz:=h
  unfold lp at h
  split at h
  ·rename_i l m
   obtain⟨p,xs,ex,q1,d1⟩:=id Z.tupE
   obtain⟨q,ys,ey,q2,d2⟩:=id Y.tupE
   subst ex;subst ey
   cases r1;cases r2
   rw[<-hK]at q1 q2
   obtain⟨its,v1,t1,_⟩:=I.tuple q1
   obtain⟨its',J,t2,_⟩:=I.tuple q2
   obtain⟨e,he,F⟩:=bg6 h
   have l1:=v1.length
   have l2:=J.length
   have e1:=d1.length
   have e2:=d2.length
   have sz:((a7 (min its.toArray.size its'.toArray.size)).all e&&its.toArray.size==its'.toArray.size)=z:=by
    rw[<-F,Bool.and_comm,show its.toArray.size=l.length by simp;omega,show its'.toArray.size=m.length by simp;omega]
   have key:=jb (A:=A) (s:=sh) (e:=e) t1 t2 hr.units0 (B d1 d2 v1 J hr.in1 he)
   have G:=SeqAt.RcNeAt.tuples (A:=A) (s:=sh) (e:=e) t1 t2 hr.units0 (B d1 d2 v1 J hr.in1 he)
   rw[sz]at key G
   refine⟨?_,key,G⟩
   by_cases hab:p=q
   ·subst hab
    rw[aP5 I hK R _ _ _ _ _ hz Z Y]
    exact dI _
   ·exact fj hab key
  ·rename_i p q
   split at h
   ·rename_i l m hl hm
    obtain⟨xs,e1,d1⟩:=R.addr hl
    obtain⟨ys,e2,d2⟩:=R.addr hm
    have ex:=Z.refE
    have ey:=Y.refE
    subst ex;subst ey
    cases r1;cases r2
    obtain⟨its,v1,t1,_⟩:=I.list (SqL.of e1)
    obtain⟨its',J,t2,_⟩:=I.list (SqL.of e2)
    have l1:=v1.length
    have l2:=J.length
    have c1:=d1.length
    have c2:=d2.length
    have fin:Cmp A sh (.ref (φ p)) (.ref (φ q)) z:=by
     split at h
     ·rename_i a0
      obtain⟨e,he,F⟩:=bg6 h
      have sz:(a7 its.toArray.size).all e=z:=by
       rw[<-F,show its.toArray.size=l.length by simp;omega,a0]
       simp
      have key:=SeqAt.RcAt.lists (A:=A) (s:=sh) (e:=e) t1.isList t2.isList (by simp;omega) hr.units0 (B d1 d2 v1 J hr.in1 he)
      have G:=SeqAt.RcNeAt.lists (A:=A) (s:=sh) (e:=e) t1.isList t2.isList (by simp;omega) hr.units0 (B d1 d2 v1 J hr.in1 he)
      rw[sz]at key G
      exact⟨key,G⟩
     ·rename_i a0
      cases h
      have hs:(its.toArray.size != its'.toArray.size)=true:=by simp;omega
      exact⟨SeqAt.RcAt.lists_lengths t1.isList t2.isList hs hr.units0,SeqAt.RcNeAt.lists_lengths t1.isList t2.isList hs hr.units0⟩
    refine⟨?_,fin⟩
    by_cases hab:φ p=φ q
    ·rw[aP5 I hK R _ _ _ _ _ hz RV.refI (by rw[hab];exact RV.refI),hab]
     exact dI _
    ·exact fj hab fin.rc
   ·cases h
  ·exact aE9 I hK R h Z Y r1 r2 hr.units0
end
variable {Γ:Gm} {X:Cx}
noncomputable def ce1:m8->jZ
 | .add=>.Add|.sub=>.Sub|.mul=>.Mult|.fdiv=>.FloorDiv|.mod=>.Mod|.pow=>.Pow|.shl=>.LShift|.shr=>.RShift|.band=>.BitAnd|.bor=>.BitOr
noncomputable def bx8:mR->CmpOp
 | .eq=>.Eq|.ne=>.NotEq|.lt=>.Lt|.le=>.LtE|.gt=>.Gt|.ge=>.GtE|.isin=>.In|.notin=>.NotIn
def rOp (Γ:Gm)(f:kZ->kZ->kY->k8 kZ):R2:=λ x y H Q=>∃ φ s a b d s',Rp Γ φ H s/\RV Γ φ H a x/\RV Γ φ H b y/\a.bnd s.length=true/\b.bnd s.length=true/\f a b s=.ok d s'/\aj7 Γ φ s H d s' Q
theorem qg {d e:kZ}{s t:kY}(h:m9 d s=.ok e t):d=e/\s=t:=by
 unfold m9 at h
 cases h
 exact⟨rfl,rfl⟩
theorem qj {o:lG}{e:kZ}{s t:kY}(h:l6 o s=.ok e t):e=.ref s.length/\t=s++[o]:=by
 unfold l6 at h
 cases h
 exact⟨rfl,rfl⟩
theorem aV8 (a b:List Nat):(⟨a.toArray⟩:Str)++⟨b.toArray⟩=⟨(a++b).toArray⟩:=by
 show Str.append _ _=_
 unfold Str.append
 simp
theorem zI:lh<=aO:=by rw[fG];decide
theorem bw5:OpR X (cA .Mult) (rI (λ i j=>DV.mulOk i j=true) λ i j=>.int (i*j)):=opI λ i j _ _ _ _ _ hc q=>mul_int q (by
 unfold DV.mulOk at hc
 simp only[bS,aj,decide_eq_true_eq]at hc
 rcases hc with(h|h)|⟨F,B⟩
 ·exact ca9.ok (.inl (by omega))
 ·exact ca9.ok (.inr (by omega))
 ·unfold DV.BIG at F B
  exact IntMulOk.of_le (m:=60000) (n:=60000) (intBits_le_iff.mpr F) (intBits_le_iff.mpr B) (by decide))
theorem aN3 (l:List Nat):∀(n:Nat) (h:Array Nat),(aC n l.toArray).foldl (·++·) h=h++(ly n l).toArray
 | 0,h=>by simp[ly]
 | n+1,h=>by
  rw[bL,c6,aN3 l n]
  simp[ly,iV]
theorem bI5 (l:List Nat):ly 1 l=l:=by simp[ly]
theorem aX2:∀ n,ly n []=[]
 | 0=>rfl
 | n+1=>by simp[ly,aX2 n]
theorem rep_len (l:List Nat):∀ n,(ly n l).length=l.length*n
 | 0=>by simp[ly]
 | n+1=>by simp[ly,rep_len l n,jM];omega
theorem by5:OpR X (cA .Mult) (λ x y H Q=>∃(l:List Nat) (n:Int),x=.str ⟨l.toArray⟩/\y=.int n/\(0<=n/\n<=1000000/\l.length*n.toNat<=lh)/\Q (.str ⟨(ly n.toNat l).toArray⟩) H):=by
 intro G s σ H x y v u Q I rx J h
 obtain⟨l,n,rfl,rfl,⟨h0,h1,h2⟩,q⟩:=h
 obtain⟨t,rfl⟩:=rx
 obtain⟨t',rfl⟩:=J
 have B:(⟨l.toArray⟩:Str).length=l.length:=by show l.toArray.size=_;simp
 have hL:=zI
 have Z:=aq6
 refine SB.mul ⟨?_,λ hn _=>?_,λ hn _=>?_⟩ λ t2 k=>?_
 ·rw[decide_eq_false (by omega),decide_eq_false (by omega)];rfl
 ·rw[B]
  have F:1<=n:=by omega
  intro Y
  have h3:(l.length:Int)*n<=1000000:=by
   have:((l.length*n.toNat:Nat):Int)<=(lh:Nat):=Int.ofNat_le.mpr h2
   rw[jR,e9 h0]at this
   have e:((lh:Nat):Int)=1000000:=by unfold lh;rfl
   omega
  have h4:(l.length:Int)<=1000000:=by
   have:(l.length:Int)*1<=(l.length:Int)*n:=eV F (by omega)
   omega
  have h5:(1000000:Int)<=(2^63 - 1) / n:=by
   rw[Int.le_ediv_iff_mul_le (by omega)]
   have:(1000000:Int)*n<=1000000*1000000:=eV h1 (by omega)
   omega
  omega
 ·rw[B]
  unfold kg
  exact decide_eq_false (by omega)
 ·have e:Txt.mul ⟨l.toArray⟩ n=⟨(ly n.toNat l).toArray⟩:=by
   unfold Txt.mul
   split
   ·have:n.toNat=0:=by omega
    rw[this];rfl
   ·split
    ·rename_i hc
     rw[bS]at hc
     rcases hc with hc|hc
     ·have:n=1:=by simpa using hc
      subst this
      show(⟨l.toArray⟩:Str)=⟨(ly 1 l).toArray⟩
      rw[bI5]
     ·have:l=[]:=by
       have:=eq_of_beq hc
       rw[B]at this
       exact bQ.mp this
      subst this
      rw[aX2]
    ·show(⟨(aC n.toNat l.toArray).foldl (·++·) #[]⟩:Str)=_
     rw[aN3];simp
  rw[e]
  exact⟨.str _,H,I.tok _,⟨_,rfl⟩,q⟩
theorem aq5 {n:Nat}{l:List kZ}(h:k7 n l=true):∀ k,k7 n (lP k l)=true
 | 0=>rfl
 | k+1=>zK h (aq5 h k)
theorem RVL.repD {φ:Nat->Addr}{H:Hp}{l:List kZ}{B:List V}(h:RVL Γ φ H l B):∀ k,RVL Γ φ H (lP k l) (at6 k B)
 | 0=>RVL.nil
 | k+1=>h.append (RVL.repD h k)
theorem aC6 {α:Type}(h:List α):∀ k,at6 k h=(aC k h).flatten
 | 0=>rfl
 | k+1=>by rw[bL,cM,<-aC6 h k];rfl
theorem bX1 (hK:X.K=Γ.K)(op:m8):OpR X (cA (ce1 op)) (rOp Γ (DV.ao3 op)):=by
 intro F s σ H x y v u Q I Y J h
 obtain⟨φ,st,a,b,d,a0,R,ha,hb,na,nb,B,q⟩:=h
 cases op with
 | add =>
  cases a with
  | int a =>
   cases b with
   | int b =>
    change(m9 _) st=_ at B
    obtain⟨rfl,rfl⟩:=qg B
    have ex:=ha.intE;have G:=hb.intE;subst ex;subst G
    exact bT6 F s σ H _ _ v u Q I Y J ⟨_,_,rfl,rfl,q.here R rfl RV.intI⟩
   | _=>exact fb B
  | str a =>
   cases b with
   | str b =>
    change(if _ then _ else _:mz kZ) st=_ at B
    split at B
    ·rename_i hl
     obtain⟨rfl,rfl⟩:=qg B
     have ex:=ha.strE;have G:=hb.strE;subst ex;subst G
     refine aR0 F s σ H _ _ v u Q I Y J ⟨_,_,rfl,rfl,?_,?_⟩
     ·show a.toArray.size+b.toArray.size<=_
      simp only[az]
      exact av hl zI
     ·rw[aV8];exact q.here R rfl (RV.strI (by rw[ax];exact hl))
    ·exact fb B
   | _=>exact fb B
  | tup a =>
   cases b with
   | tup b =>
    change(if _ then _ else _:mz kZ) st=_ at B
    split at B
    ·rename_i hl
     obtain⟨rfl,rfl⟩:=qg B
     obtain⟨p,xs,⟨rfl,z1⟩,Z,d1⟩:=ha.tupZ
     obtain⟨p',ys,⟨rfl,z2⟩,h2,d2⟩:=hb.tupZ
     refine bC7 hK F s σ H _ _ v u Q I Y J ⟨p,p',xs,ys,rfl,rfl,Z,h2,?_,λ t H' e ht hn=>?_⟩
     ·rw[d1.length,d2.length];exact av hl zI
     ·obtain⟨g,r'⟩:=R.same e
      unfold la at na nb
      refine q _ _ _ g (aw _) (by unfold la;exact zK na nb) (RV.tupC ht (λ z=>?_) ((RVL.mono g _ _ na d1).append (RVL.mono g _ _ nb d2))) r'
      rcases hn with hn|⟨rfl,rfl⟩|⟨rfl,rfl⟩
      ·exact hn
      ·rw[d2.tonil,bv]at z;rw[bv];exact e _ _ (z1 z)
      ·rw[d1.tonil]at z;exact e _ _ (z2 z)
    ·exact fb B
   | _=>exact fb B
  | ref a =>
   cases b with
   | ref b =>
    change(match st[a]?,st[b]? with|some (DV.O.lst l),some (DV.O.lst m)=>if l.length+m.length<=lh then l6 (.lst (l++m)) st else .bad|_,_=>.bad:k8 kZ)=_ at B
    split at B
    ·rename_i l m Z h2
     split at B
     ·rename_i hl
      obtain⟨rfl,rfl⟩:=qj B
      obtain⟨xs,e1,d1⟩:=R.addr Z
      obtain⟨ys,e2,d2⟩:=R.addr h2
      have ex:=ha.refE;have G:=hb.refE;subst ex;subst G
      have b1:=R.wf _ _ Z
      have b2:=R.wf _ _ h2
      unfold lb at b1 b2
      refine bW6 F s σ H _ _ v u Q I Y J ⟨φ a,φ b,xs,ys,rfl,rfl,e1,e2,?_,λ p hp=>?_⟩
      ·rw[d1.length,d2.length];exact av hl zI
      ·exact q.alloc R (d1.append d2) (zK b1 b2) hp
     ·exact fb B
    ·exact fb B
   | _=>exact fb B
  | _=>exact fb B
 | sub=>exact fb B
 | mul =>
  cases a with
  | int a =>
   cases b with
   | int b =>
    change(if _ then _ else _:mz kZ) st=_ at B
    split at B
    ·rename_i hc
     obtain⟨rfl,rfl⟩:=qg B
     have ex:=ha.intE;have G:=hb.intE;subst ex;subst G
     exact bw5 F s σ H _ _ v u Q I Y J ⟨_,_,rfl,rfl,hc,q.here R rfl RV.intI⟩
    ·exact fb B
   | _=>exact fb B
  | str a =>
   cases b with
   | int b =>
    change(if _ then _ else _:mz kZ) st=_ at B
    split at B
    ·rename_i hc
     obtain⟨rfl,rfl⟩:=qg B
     have ex:=ha.strE;have G:=hb.intE;subst ex;subst G
     exact by5 F s σ H _ _ v u Q I Y J ⟨_,_,rfl,rfl,hc,q.here R rfl (RV.strI (by rw[rep_len];exact hc.2.2))⟩
    ·exact fb B
   | _=>exact fb B
  | tup a =>
   cases b with
   | int b =>
    change(if _ then _ else _:mz kZ) st=_ at B
    split at B
    ·rename_i hc
     obtain⟨rfl,rfl⟩:=qg B
     obtain⟨p,xs,⟨rfl,z1⟩,Z,d1⟩:=ha.tupZ
     have G:=hb.intE;subst G
     refine bx0 hK F s σ H _ _ v u Q I Y J ⟨p,xs,_,rfl,rfl,Z,⟨hc.1,hc.2.1,by rw[d1.length];exact hc.2.2⟩,λ t H' e ht hn=>?_⟩
     obtain⟨g,r'⟩:=R.same e
     unfold la at na
     refine q _ _ _ g (aw _) (by unfold la;exact aq5 na _) (RV.tupC ht (λ z=>?_) (RVL.repD (RVL.mono g _ _ na d1) _)) r'
     rcases hn with hn|⟨rfl,ex⟩
     ·exact hn
     ·rw[ex];exact e _ _ (z1 (bA0 z))
    ·exact fb B
   | _=>exact fb B
  | ref a =>
   cases b with
   | int b =>
    change(match st[a]? with|some (DV.O.lst l)=>if 0<=b/\b<=1000000/\l.length*b.toNat<=lh then l6 (.lst (lP b.toNat l)) st else .bad|_=>.bad:k8 kZ)=_ at B
    split at B
    ·rename_i l Z
     split at B
     ·rename_i hc
      obtain⟨rfl,rfl⟩:=qj B
      obtain⟨xs,e1,d1⟩:=R.addr Z
      have ex:=ha.refE;have G:=hb.intE;subst ex;subst G
      have b1:=R.wf _ _ Z
      unfold lb at b1
      refine bV9 F s σ H _ _ v u Q I Y J ⟨φ a,b,xs,rfl,rfl,e1,by omega,by omega,?_,λ p hp=>?_⟩
      ·rw[d1.length];exact av hc.2.2 zI
      ·rw[<-aC6];exact q.alloc R (RVL.repD d1 _) (aq5 b1 _) hp
     ·exact fb B
    ·exact fb B
   | _=>exact fb B
  | _=>exact fb B
 | fdiv =>
  cases a with
  | int a =>
   cases b with
   | int b =>
    change(if _ then _ else _:mz kZ) st=_ at B
    split at B
    ·rename_i hc
     obtain⟨rfl,rfl⟩:=qg B
     have ex:=ha.intE;have G:=hb.intE;subst ex;subst G
     refine bk7 F s σ H _ _ v u Q I Y J ⟨_,_,rfl,rfl,⟨hc.1,?_⟩,q.here R rfl RV.intI⟩
     have:=hc.2
     unfold DV.DIVL at this
     simpa using this
    ·exact fb B
   | _=>exact fb B
  | _=>exact fb B
 | mod =>
  cases a with
  | int a =>
   cases b with
   | int b =>
    change(if _ then _ else _:mz kZ) st=_ at B
    split at B
    ·rename_i hc
     obtain⟨rfl,rfl⟩:=qg B
     have ex:=ha.intE;have G:=hb.intE;subst ex;subst G
     exact bW4 F s σ H _ _ v u Q I Y J ⟨_,_,rfl,rfl,hc,q.here R rfl RV.intI⟩
    ·exact fb B
   | _=>exact fb B
  | _=>exact fb B
 | pow =>
  cases a with
  | int a =>
   cases b with
   | int b =>
    change(if _ then _ else _:mz kZ) st=_ at B
    split at B
    ·rename_i hc
     obtain⟨rfl,rfl⟩:=qg B
     have ex:=ha.intE;have G:=hb.intE;subst ex;subst G
     exact bZ5 F s σ H _ _ v u Q I Y J ⟨_,_,rfl,rfl,hc,q.here R rfl RV.intI⟩
    ·exact fb B
   | _=>exact fb B
  | _=>exact fb B
 | shl =>
  cases a with
  | int a =>
   cases b with
   | int b =>
    change(if _ then _ else _:mz kZ) st=_ at B
    split at B
    ·rename_i hc
     obtain⟨rfl,rfl⟩:=qg B
     have ex:=ha.intE;have G:=hb.intE;subst ex;subst G
     exact bX8 F s σ H _ _ v u Q I Y J ⟨_,_,rfl,rfl,hc,q.here R rfl RV.intI⟩
    ·exact fb B
   | _=>exact fb B
  | _=>exact fb B
 | shr=>exact fb B
 | band=>exact fb B
 | bor=>exact fb B
variable {Γ:Gm} {X:Cx} {pins:List (Addr×Obj)} {σ:St} {H:Hp} {sh:af} {φ:Nat->Addr} {s:kY}
theorem aN6 {n:Nat}{a b:kZ}{z:Bool}(h:lp s n a b=some z):lz s a≠9:=by
 cases n with
 | zero=>unfold lp at h;exact(al5 h).1
 | succ n =>
  unfold lp at h
  split at h
  ·simp[lz]
  ·split at h
   ·rename_i B _;simp[lz,B]
   ·cases h
  ·exact(al5 h).1
theorem be1 (I:Inv X pins σ H sh)(hK:X.K=Γ.K)(R:Rp Γ φ H s):∀(n:Nat) (a b c:kZ) (x:V) (p q:Bool),RV Γ φ H a x->RV Γ φ H b x->lp s n a c=some p->lp s n b c=some q->p=q:=by
 intro n
 induction n with
 | zero =>
  intro a b c x p q B h e1 e2
  rcases rv_two I hK R B h (aN6 e1) (aN6 e2)with e|⟨l,m,_,_,rfl,rfl,_⟩
  ·subst e;rw[e1]at e2;exact aE e2
  ·unfold lp at e1 e2
   have:lD s (.tup l) c=lD s (.tup m) c:=by unfold lD;cases c<;>rfl
   rw[this,e2]at e1;exact(aE e1).symm
 | succ n ih =>
  have G:∀(l m k:List kZ) (F:List V) (p q:Bool),RVL Γ φ H l F->RVL Γ φ H m F->lx (lp s n) l k=some p->lx (lp s n) m k=some q->p=q:=by
   intro l
   induction l with
   | nil =>
    intro m k F p q B h e1 e2
    have:=B.unnil;subst this
    have hm:m=[]:=by have:=h.length;exact bQ.mp this.symm
    subst hm
    rw[e1]at e2;exact aE e2
   | cons a l ihl =>
    intro m k F p q B h e1 e2
    obtain⟨x,r,rfl,g1,g2⟩:=B.uncons
    cases m with
    | nil=>have:=h.unnil;cases this
    | cons b m =>
     obtain⟨x',r',e,g3,g4⟩:=h.uncons
     cases e
     cases k with
     | nil=>unfold lx at e1 e2;rw[<-aE e1,<-aE e2]
     | cons c k =>
      obtain⟨p1,Z,a1,a2,J⟩:=ap6 e1
      obtain⟨q1,q2,Y,b2,b3⟩:=ap6 e2
      rw[J,b3,ih a b c x p1 q1 g1 g3 a1 Y,ihl m k r Z q2 g2 g4 a2 b2]
  intro a b c x p q B h e1 e2
  rcases rv_two I hK R B h (aN6 e1) (aN6 e2)with e|⟨l,m,_,F,rfl,rfl,_,d1,d2⟩
  ·subst e;rw[e1]at e2;exact aE e2
  ·cases c with
   | tup k=>unfold lp at e1 e2;exact G l m k F p q d1 d2 e1 e2
   | _ =>
    unfold lp at e1 e2
    simp only at e1 e2
    have e3:lD s (.tup l)=lD s (.tup m):=by funext c;unfold lD;cases c<;>rfl
    rw[e3]at e1
    exact aE (e1.symm.trans e2)
theorem bs4 {x:kZ}:∀ {l:List kZ} {z:Bool},lV s x l=some z->∃ e:Nat->Bool,(∀ j d,l[j]?=some d->lp s lu d x=some (e j))/\(z=true↔∃ j,j<l.length/\e j=true)
 | [],z,h=>by
  unfold lV at h
  cases h
  exact⟨λ _=>true,λ j d h=>by simp at h,by simp⟩
 | y::l,z,h=>by
  unfold lV at h
  cases e1:lp s lu y x with
  | none=>rw[e1]at h;cases h
  | some a =>
   cases e2:lV s x l with
   | none=>rw[e1,e2]at h;cases h
   | some b =>
    rw[e1,e2]at h
    obtain⟨e,F,B⟩:=bs4 e2
    refine⟨λ j=>match j with|0=>a|j+1=>e j,λ j d g=>?_,?_⟩
    ·cases j with
     | zero=>simp at g;subst g;exact e1
     | succ j=>exact F j d (by simpa using g)
    ·have hz:(a||b)=z:=aE h
     rw[<-hz,bS,B]
     constructor
     ·rintro(q|⟨j,hj,q⟩)
      ·exact⟨0,by simp,q⟩
      ·exact⟨j+1,by simpa using hj,q⟩
     ·rintro⟨j,hj,q⟩
      cases j with
      | zero=>exact .inl q
      | succ j=>exact .inr ⟨j,by simpa using hj,q⟩
theorem bs7 (I:Inv X pins σ H sh)(hK:X.K=Γ.K)(R:Rp Γ φ H s){x:kZ}{xv:V}{Z:Value}(hx:RV Γ φ H x xv)(rx:RelV xv Z){l:List kZ}{ys:List V}{its:List Value}(hl:RVL Γ φ H l ys)(hv:Vals ys its){z:Bool}(h:lV s x l=some z){A:aV}(hr:Room lu A) :
  ∃ e:Value->Bool,(∀ y,y∈its.toArray->eN A sh y Z (e y))/\its.toArray.any e=z:=by
 obtain⟨e,h1,h2⟩:=bs4 h
 have len:its.length=l.length:=by rw[<-hv.length];exact hl.length
 have B:∀ j u,its[j]?=some u->∃ d y,l[j]?=some d/\ys[j]?=some y/\RV Γ φ H d y/\RelV y u:=λ j u g=>by
  have hj:j<l.length:=by rw[<-len];exact(ae.mp g).1
  obtain⟨y,g1,g2⟩:=hl.get (aq hj)
  obtain⟨u',F,J⟩:=hv.get g1
  rw[g]at F;cases F
  exact⟨_,y,aq hj,g1,g2,J⟩
 classical
 let f:Value->Bool:=λ u=>decide (∃ j,its[j]?=some u/\e j=true)
 have Y:∀ j u,its[j]?=some u->f u=e j:=λ j u g=>by
  obtain⟨d,y,g1,g2,F,J⟩:=B j u g
  cases q:e j with
  | true=>exact decide_eq_true ⟨j,g,q⟩
  | false =>
   refine decide_eq_false λ⟨k,g',q'⟩=>?_
   obtain⟨d',y',k1,k2,k3,k4⟩:=B k u g'
   have ey:y'=y:=k4.inj J
   subst ey
   have:=be1 I hK R _ d d' x _ _ _ F k3 (h1 j d g1) (h1 k d' k1)
   rw[q,q']at this;cases this
 refine⟨f,λ u hu=>?_,?_⟩
 ·obtain⟨j,hj,g⟩:=dw.mp (by simpa using hu:u∈its)
  have g':its[j]?=some u:=by rw[aq hj,g]
  obtain⟨d,y,g1,g2,F,J⟩:=B j u g'
  rw[Y j u g']
  exact(bd6 I hK R _ d x y xv u Z A _ (h1 j d g1) F hx J rx hr).1
 ·have e1:its.toArray.any f=true↔z=true:=by
   rw[h2,List.any_toArray,jE]
   constructor
   ·rintro⟨u,hu,q⟩
    obtain⟨j,hj,g⟩:=dw.mp hu
    have g':its[j]?=some u:=by rw[aq hj,g]
    exact⟨j,by omega,by rw[<-Y j u g'];exact q⟩
   ·rintro⟨j,hj,q⟩
    have G:j<its.length:=by omega
    exact⟨its[j],List.getElem_mem G,by rw[Y j _ (aq G)];exact q⟩
  cases z<;>cases q:its.toArray.any f
  ·rfl
  ·have:=e1.mp q;cases this
  ·rw[q]at e1;have:=e1.mpr rfl;cases this
  ·rfl
variable {Γ:Gm} {X:Cx}
theorem aa5 {α β:Type}{r:k8 α}{f:α->kY->k8 β}{b:β}{t:kY}(h:r.bind f=.ok b t):∃ a s,r=.ok a s/\f a s=.ok b t:=DV.R.bind_inv h
theorem bq3 (hK:X.K=Γ.K)(hr:Room (lu+1) X.A)(F:Bool){J:List (Addr×Obj)}{sh:af}{σ:St}{H:Hp}{x y:V}{v u:Value}{φ:Nat->Addr}{st a3:kY}{a b:kZ}{z:Bool}
  (I:Inv X J σ H sh) (Z:RelV x v) (ry:RelV y u) (R:Rp Γ φ H st) (ha:RV Γ φ H a x) (hb:RV Γ φ H b y) (h:mU a b st=.ok z a3) :
  a3=st/\∀ Q:Value->af->Prop,(∀ a0,Inv X J σ H a0->Q (.bool (if F then !z else z)) a0)->wpAny (model X.prog X.w) X.A (dB (if F then .NotIn else .In) v u) Q X.xe sh:=by
 unfold mU at h
 cases b with
 | tup l =>
  simp only at h
  cases e:lV st a l with
  | none=>rw[e]at h;cases h
  | some w =>
   rw[e]at h
   cases h
   obtain⟨p,ys,rfl,q,d⟩:=hb.tupE
   cases ry
   rw[<-hK]at q
   obtain⟨its,rv,t,_⟩:=I.tuple q
   obtain⟨f,h1,h2⟩:=bs7 I hK R ha Z d rv e (A:=X.A.in1) hr.in1
   refine⟨rfl,λ Q B=>?_⟩
   cases F with
   | false=>exact SeqAt.in_tupleAt f t h1 (by rw[h2];exact B _ I)
   | true=>exact SeqAt.notIn_tupleAt f t h1 (by rw[h2];exact B _ I)
 | str y0 =>
  simp only at h
  split at h
  case h_2=>exact fb h
  rename_i c
  cases h
  refine⟨rfl,λ Q B=>?_⟩
  have e1:=ha.strE
  have e2:=hb.strE
  subst e1 e2
  obtain⟨t1,rfl⟩:=Z
  obtain⟨t2,rfl⟩:=ry
  have a1:=kz (⟨y0.toArray⟩:Str) c
  cases F with
  | false=>exact in_str (by rw[show(⟨[c].toArray⟩:Str)=⟨#[c]⟩from rfl,a1];simpa using B _ I)
  | true=>exact notIn_str (by rw[show(⟨[c].toArray⟩:Str)=⟨#[c]⟩from rfl,a1];simpa using B _ I)
 | ref r =>
  simp only at h
  cases hs:st[r]? with
  | none=>rw[hs]at h;cases h
  | some o =>
   rw[hs]at h
   cases o with
   | lst l =>
    simp only at h
    cases e:lV st a l with
    | none=>rw[e]at h;cases h
    | some w =>
     rw[e]at h
     cases h
     obtain⟨ys,e1,d⟩:=R.addr hs
     have ey:=hb.refE;subst ey
     cases ry
     obtain⟨its,rv,t,_⟩:=I.list (SqL.of e1)
     obtain⟨f,h1,h2⟩:=bs7 I hK R ha Z d rv e (A:=X.A.in1) hr.in1
     refine⟨rfl,λ Q B=>?_⟩
     cases F with
     | false=>exact SeqAt.in_listAt f t.isList h1 (by rw[h2];exact B _ I)
     | true=>exact SeqAt.notIn_listAt f t.isList h1 (by rw[h2];exact B _ I)
   | dic l =>
    simp only at h
    split at h
    case isFalse=>exact fb h
    rename_i G
    cases h
    obtain⟨k,hk⟩:=az5 G
    obtain⟨Y,e1,d⟩:=R.obj r _ hs
    have ey:=hb.refE;subst ey
    cases ry
    have ex:=bc7 hk ha;subst ex
    have ez:(lI a l).isSome=(aG8 Y k).isSome:=by
     rcases d.val keyOf_inj hk with⟨q1,q2⟩|⟨_,_,q1,q2,_⟩<;>rw[q1,q2]<;>rfl
    refine⟨rfl,λ Q B=>?_⟩
    rw[ez]at B
    cases F with
    | false=>exact ck7 (ap0 hr) I (aG5.k e1) Z B
    | true=>exact aW8 (ap0 hr) I (aG5.k e1) Z B
   | dit l =>
    simp only at h
    split at h
    case isFalse=>exact fb h
    rename_i G
    cases h
    obtain⟨k,hk⟩:=al6 G
    obtain⟨Y,e1,d⟩:=R.obj r _ hs
    have ey:=hb.refE;subst ey
    cases ry
    obtain⟨kb,ex,a2⟩:=aA0 hk ha;subst ex
    have ez:(lI a l).isSome=(aG8 Y k).isSome:=by
     rcases d.val keyT_inj hk with⟨q1,q2⟩|⟨_,_,q1,q2,_⟩<;>rw[q1,q2]<;>rfl
    refine⟨rfl,λ Q B=>?_⟩
    rw[ez]at B
    cases F with
    | false=>exact ck7 (ap0 hr) I (aG5.t e1 a2) Z B
    | true=>exact aW8 (ap0 hr) I (aG5.t e1 a2) Z B
   | ro l=>exact fb h
   | ins c l=>exact fb h
 | _=>exact fb h
theorem bW7 {a b d:kZ}{st B:kY}(h:DV.qB .le a b st=.ok d B):∃ i j,a=.int i/\b=.int j:=by
 cases a with
 | int i =>
  (cases b with
  | int j=>exact⟨i,j,rfl,rfl⟩
  | _=>exact fb h)
 | _=>exact fb h
theorem aG3 {a:kZ}{i:Int}{x:List Nat}(h:DV.bm3 a=some (i,x)):a=.tup [.int i,.str x]:=by
 unfold DV.bm3 at h
 split at h
 ·cases h;rfl
 ·cases h
theorem bk3 {f:Int->List Nat->Int->List Nat->Bool}{a b d:kZ}{st B:kY}(h:DV.bT5 f a b st=.ok d B):∃ i x j y,a=.tup [.int i,.str x]/\b=.tup [.int j,.str y]:=by
 unfold DV.bT5 at h
 split at h
 ·rename_i i x j y e1 e2
  exact⟨i,x,j,y,aG3 e1,aG3 e2⟩
 ·exact fb h
theorem ord_inv {op:mR}{a b d:kZ}{st B:kY}(ho:op=.lt\/op=.gt\/op=.ge)(h:DV.qB op a b st=.ok d B):(∃ i j,a=.int i/\b=.int j)\/∃ i x j y,a=.tup [.int i,.str x]/\b=.tup [.int j,.str y]:=by
 rcases ho with rfl|rfl|rfl <;>
 (cases a with
 | int i =>
  (cases b with
  | int j=>exact .inl ⟨i,j,rfl,rfl⟩
  | _=>exact fb h)
 | tup l =>
  (cases b with
  | tup m=>first|exact .inr (bk3 h)|exact fb h
  | _=>exact fb h)
 | _=>exact fb h)
section
variable {pins:List (Addr×Obj)} {sh:af} {σ:St} {H:Hp} {φ:Nat->Addr} {st:kY}
theorem aZ9 (I:Inv X pins σ H sh)(hK:X.K=Γ.K){i:Int}{x:List Nat}{F:V}{v:Value}(ha:RV Γ φ H (.tup [.int i,.str x]) F)(J:RelV F v):∃ p B h,v=.ref p/\sh.heap.IsTuple p #[.int i B,.str ⟨x.toArray⟩ h]:=by
 obtain⟨p,ys,rfl,q,d⟩:=ha.tupE
 cases J
 rw[<-hK]at q
 obtain⟨its,G,t,_⟩:=I.tuple q
 obtain⟨Z,r1,rfl,d1,d⟩:=d.uncons
 obtain⟨y2,r2,rfl,d2,d⟩:=d.uncons
 have e:=d.unnil
 have e1:=d1.intE
 have e2:=d2.strE
 subst e e1 e2
 obtain⟨u1,Y,rfl,⟨B,rfl⟩,⟨h,rfl⟩⟩:=bF0 G
 exact⟨p,B,h,rfl,t⟩
theorem bw7 (x y:List Nat):((⟨x.toArray⟩:Str)==(⟨y.toArray⟩:Str))=decide (x=y):=by
 by_cases h:x=y
 ·subst h;simp
 ·rw[decide_eq_false h]
  refine beq_eq_false_iff_ne.mpr λ e=>h ?_
  have:=congrArg (λ s:Str=>s.cps.toList) e
  simpa using this
theorem ce6 {A:aV}{i j:Int}{x y:List Nat}{p q:Addr}{F B J G:Tok}(hu:A.units<cLine)(Z:sh.heap.IsTuple p #[.int i F,.str ⟨x.toArray⟩ B])(Y:sh.heap.IsTuple q #[.int j J,.str ⟨y.toArray⟩ G]) :
  aR1 .Lt A sh (.ref p) (.ref q) (if i=j then decide (x<y)else decide (i<j)):=by
 have k:=bD4 Z Y hu (i7 i F j J) (i8 _ B _ G) (r1:=decide (i<j)) (r2:=decide (x<y)) (λ prog w E Q h=>lt_int h) (λ prog w E Q h=>PyProof.Rows.lt_str h)
 rw[bw7]at k
 have e:(if(i==j)=true then(if decide (x=y)=true then false else decide (x<y))else decide (i<j))=(if i=j then decide (x<y)else decide (i<j)):=by
  by_cases h:i=j
  ·subst h
   by_cases h':x=y
   ·subst h';simp
   ·simp[h']
  ·simp[h]
 rw[e]at k
 exact k
end
theorem bS1 (hK:X.K=Γ.K)(hr:Room (lu+1) X.A)(op:mR):OpR X (dB (bx8 op)) (rOp Γ (DV.qB op)):=by
 intro F s σ H x y v u Q I Y J h
 obtain⟨φ,st,a,b,d,G,R,ha,hb,na,nb,B,q⟩:=h
 cases op with
 | eq =>
  have B:DV.eqM a b st=.ok d G:=B
  unfold DV.eqM at B
  cases e:lp st lu a b with
  | none=>rw[e]at B;cases B
  | some z =>
   rw[e]at B;cases B
   exact(bd6 I hK R _ a b x y v u X.A z e ha hb Y J (hr.mono (by omega))).2.rc X.prog X.w X.xe _ ⟨.bl z,H,I,rfl,q.here R rfl RV.blI⟩
 | ne =>
  have B:(match lp st lu a b with|some r=>.ok (.bl (!r)) st|none=>.bad:k8 kZ)=.ok d G:=B
  cases e:lp st lu a b with
  | none=>rw[e]at B;cases B
  | some z =>
   rw[e]at B;cases B
   exact(bd6 I hK R _ a b x y v u X.A z e ha hb Y J (hr.mono (by omega))).2.ne X.prog X.w X.xe _ ⟨.bl (!z),H,I,rfl,q.here R rfl RV.blI⟩
 | lt =>
  rcases ord_inv (.inl rfl) B with⟨i,j,rfl,rfl⟩|⟨i,x0,j,y0,rfl,rfl⟩
  ·cases B
   have ex:=ha.intE;have Z:=hb.intE;subst ex;subst Z
   exact ce9 F s σ H _ _ v u Q I Y J ⟨_,_,rfl,rfl,q.here R rfl RV.blI⟩
  ·cases B
   obtain⟨p1,t1,t2,rfl,h1⟩:=aZ9 I hK ha Y
   obtain⟨p2,u1,u2,rfl,h2⟩:=aZ9 I hK hb J
   exact ce6 hr.units0 h1 h2 X.prog X.w X.xe _ ⟨.bl _,H,I,rfl,q.here R rfl RV.blI⟩
 | le =>
  obtain⟨i,j,rfl,rfl⟩:=bW7 B
  cases B
  have ex:=ha.intE;have Z:=hb.intE;subst ex;subst Z
  exact cg4 F s σ H _ _ v u Q I Y J ⟨_,_,rfl,rfl,q.here R rfl RV.blI⟩
 | gt =>
  rcases ord_inv (.inr (.inl rfl)) B with⟨i,j,rfl,rfl⟩|⟨i,x0,j,y0,rfl,rfl⟩
  ·cases B
   have ex:=ha.intE;have Z:=hb.intE;subst ex;subst Z
   exact cf3 F s σ H _ _ v u Q I Y J ⟨_,_,rfl,rfl,q.here R rfl RV.blI⟩
  ·exact fb B
 | ge=>exact fb B
 | isin =>
  have B:(mU a b st).bind (λ r s=>.ok (.bl r) s)=.ok d G:=B
  obtain⟨z,s1,e1,e2⟩:=aa5 B
  obtain⟨rfl,w⟩:=bq3 hK hr false I Y J R ha hb e1
  cases e2
  exact w _ λ s' I'=>⟨.bl z,H,I',rfl,q.here R rfl RV.blI⟩
 | notin =>
  have B:(mU a b st).bind (λ r s=>.ok (.bl (!r)) s)=.ok d G:=B
  obtain⟨z,s1,e1,e2⟩:=aa5 B
  obtain⟨rfl,w⟩:=bq3 hK hr true I Y J R ha hb e1
  cases e2
  exact w _ λ s' I'=>⟨.bl (!z),H,I',rfl,q.here R rfl RV.blI⟩
theorem ba6 {φ:Nat->Addr}{H:Hp}{l:List kZ}{B:List V}{i:Int}{d:kZ}(h:RVL Γ φ H l B)(e:((lW l.length i).bind λ j=>l[j]?)=some d):∃ v,atI B i=some v/\RV Γ φ H d v:=by
 cases hj:lW l.length i with
 | none=>rw[hj]at e;cases e
 | some j =>
  rw[hj]at e
  obtain⟨v,e1,e2⟩:=h.get (show l[j]?=some d from e)
  refine⟨v,?_,e2⟩
  unfold atI
  have:ixN B.length i=some j:=by rw[h.length];exact hj
  rw[this];exact e1
theorem aH5 {l:List kZ}{i:Int}{d:kZ}(e:((lW l.length i).bind λ j=>l[j]?)=some d):d∈l:=by
 cases hj:lW l.length i with
 | none=>rw[hj]at e;cases e
 | some j=>rw[hj]at e;exact aZ (show l[j]?=some d from e)
theorem bK9 (hK:X.K=Γ.K)(hu:X.A.units+2<cLine):IxR X (rOp Γ DV.ixM):=by
 intro F G J s σ H x y v u Q I rx ry h hs
 obtain⟨φ,st,a,b,d,a3,R,ha,hb,na,nb,B,q⟩:=h
 unfold DV.ixM at B
 cases a with
 | tup l =>
  cases b with
  | int i =>
   simp only at B
   split at B
   ·rename_i d' e
    cases B
    obtain⟨p,xs,rfl,h1,d1⟩:=ha.tupE
    have Y:=hb.intE;subst Y
    obtain⟨w,e1,e2⟩:=ba6 d1 e
    unfold la at na
    exact bI1 hK F G J s σ H _ _ v u Q I rx ry ⟨p,xs,i,w,rfl,rfl,h1,e1,q.here R (ag9.mp na _ (aH5 e)) e2⟩ hs
   ·exact fb B
  | _=>exact fb B
 | str l =>
  cases b with
  | int i =>
   simp only at B
   split at B
   ·rename_i c e
    cases B
    have hl:=ha.strL
    have ex:=ha.strE;have Y:=hb.intE;subst ex;subst Y
    exact ix_str F G J s σ H _ _ v u Q I rx ry ⟨⟨l.toArray⟩,i,c,rfl,rfl,by show l.toArray.size<=_;rw[az];exact av hl zI,e,q.here R rfl (RV.strI (by simp;decide))⟩ hs
   ·exact fb B
  | _=>exact fb B
 | ref r =>
  have ex:=ha.refE;subst ex
  simp only at B
  cases hsr:st[r]? with
  | none=>rw[hsr]at B;cases B
  | some o =>
   rw[hsr]at B
   cases o with
   | lst l =>
    cases b with
    | int i =>
     simp only at B
     split at B
     ·rename_i d' e
      cases B
      have Y:=hb.intE;subst Y
      obtain⟨xs,e1,d1⟩:=R.addr hsr
      obtain⟨w,e2,e3⟩:=ba6 d1 e
      have wf:=R.wf _ _ hsr
      unfold lb at wf
      exact aQ1 hK F G J s σ H _ _ v u Q I rx ry ⟨φ r,xs,i,w,rfl,rfl,SqL.of e1,e2,q.here R (ag9.mp wf _ (aH5 e)) e3⟩ hs
     ·exact fb B
    | _=>exact fb B
   | ro l =>
    cases b with
    | int i =>
     simp only at B
     split at B
     ·rename_i d' e
      cases B
      have Y:=hb.intE;subst Y
      obtain⟨xs,e1,d1⟩:=R.obj _ _ hsr
      obtain⟨w,e2,e3⟩:=ba6 d1 e
      have wf:=R.wf _ _ hsr
      unfold lb at wf
      exact aQ1 hK F G J s σ H _ _ v u Q I rx ry ⟨φ r,xs,i,w,rfl,rfl,e1.1,e2,q.here R (ag9.mp wf _ (aH5 e)) e3⟩ hs
     ·exact fb B
    | _=>exact fb B
   | dic l =>
    simp only at B
    split at B
    case isFalse=>exact fb B
    rename_i Z
    obtain⟨k,hk⟩:=az5 Z
    obtain⟨a1,e1,d1⟩:=R.obj r _ hsr
    have Y:=bc7 hk hb;subst Y
    cases rx
    rcases d1.val keyOf_inj hk with⟨q1,_⟩|⟨e,v',q1,q2,q3,q4⟩
    ·rw[q1]at B;cases B
    ·rw[q1]at B
     cases B
     have wf:=R.wf _ _ hsr
     unfold lb at wf
     rw[aj]at wf
     have g:aG5 H (φ r) (kV k) (some v'):=by rw[<-q2];exact aG5.k e1
     exact j2 (ar2 I g) fC.lookup (aF5 hu I g ry λ w' s' I' a0=>⟨v',H,I',a0,q.here R (ag9.mp wf.2 _ q4) q3⟩) hs
   | dit l =>
    simp only at B
    split at B
    case isFalse=>exact fb B
    rename_i Z
    obtain⟨k,hk⟩:=al6 Z
    obtain⟨a1,e1,d1⟩:=R.obj r _ hsr
    obtain⟨kb,Y,a2⟩:=aA0 hk hb;subst Y
    cases rx
    rcases d1.val keyT_inj hk with⟨q1,_⟩|⟨e,v',q1,q2,q3,q4⟩
    ·rw[q1]at B;cases B
    ·rw[q1]at B
     cases B
     have wf:=R.wf _ _ hsr
     unfold lb at wf
     rw[aj]at wf
     have g:aG5 H (φ r) (.ref kb) (some v'):=by rw[<-q2];exact aG5.t e1 a2
     exact j2 (ar2 I g) fC.lookup (aF5 hu I g ry λ w' s' I' a0=>⟨v',H,I',a0,q.here R (ag9.mp wf.2 _ q4) q3⟩) hs
   | ins c l=>cases b<;>cases B
 | _=>cases b<;>cases B
theorem aV9 (n d:Nat)(i:Int):HT.sIx n d (some i)=lQ n i:=by
 show(if i<0 then(i+(n:Int)).toNat else min i.toNat n)=_
 unfold lQ
 by_cases h:i<0
 ·rw[if_pos h,if_neg (by omega)]
 ·rw[if_neg h,if_pos (by omega)]
theorem br6 {φ:Nat->Addr}{H:Hp}{l:List kZ}{B:List V}(h:RVL Γ φ H l B)(F G:Option Int):RVL Γ φ H (lF l F G) (aU4 B F G):=by
 unfold lF aU4
 have e1:HT.sIx B.length 0 F=lU l.length F:=by
  cases F with
  | none=>rfl
  | some i=>rw[aV9,h.length];rfl
 have e2:HT.sIx B.length B.length G=mB l.length G:=by
  cases G with
  | none=>exact h.length
  | some i=>rw[aV9,h.length];rfl
 rw[e1,e2]
 exact(h.drop _).take _
theorem aM4 {α:Type}{l:List α}{h B:Option Int}:∀ d∈lF l h B,d∈l:=λ d hd=>List.mem_of_mem_drop (List.mem_of_mem_take hd)
theorem bl5 {α:Type}(l:List α)(h B:Option Int):(lF l h B).length<=l.length:=by
 unfold lF
 rw[bZ,eK]
 omega
theorem cc8 (B F:Option Int)(n:Nat):bE B F 1 n=(a7 (mB n F - lU n B)).map (lU n B+·):=by
 rw[<-sliceRange_one]
 unfold bE
 have cl:∀ i:Int,max 0 (min (if i<0 then i+(n:Int)else i) (n:Int))=((lQ n i:Nat):Int):=λ i=>by
  unfold lQ
  by_cases h:i<0
  ·rw[if_pos h,if_neg (by omega)];omega
  ·rw[if_neg h,if_pos (by omega)];omega
 simp only[show((1:Int) > 0)=True by simp,if_true]
 cases B<;>cases F<;>simp only[cl,lU,mB]<;>rfl
theorem aN2 {l:List Nat}:∀(a k:Nat),a+k<=l.length->((a7 k).map (a+·)).filterMap (λ x=>l.toArray[x]?)=(l.drop a).take k
 | a,0,_=>by simp
 | a,k+1,h=>by
  rw[List.range_succ,cz,List.filterMap_append,aN2 a k (by omega)]
  have hk:a+k<l.length:=by omega
  rw[List.take_add_one,List.getElem?_drop]
  simp[hk]
theorem bh1 (l:List Nat)(h B:Option Int):e7 ⟨l.toArray⟩ h B=⟨(lF l h B).toArray⟩:=by
 unfold e7
 have hn:(⟨l.toArray⟩:Str).length=l.length:=by show l.toArray.size=_;simp
 rw[hn,cc8]
 have hb:mB l.length B<=l.length:=by
  cases B with
  | none=>exact aw _
  | some i=>show lQ l.length i<=_;unfold lQ;split<;>omega
 have ha:lU l.length h<=l.length:=by
  cases h with
  | none=>exact cN _
  | some i=>show lQ l.length i<=_;unfold lQ;split<;>omega
 unfold lF
 generalize mB l.length B=b at *
 generalize lU l.length h=a at *
 by_cases hc:((1:Int)==1&&((a7 (b - a)).map (a+·)).length==l.length)=true
 ·rw[if_pos hc]
  have:b - a=l.length:=by simpa using hc
  have h0:a=0\/l.length=0:=by omega
  rcases h0 with h0|h0
  ·subst h0
   rw[this];simp
  ·have:l=[]:=bQ.mp h0
   subst this;simp
 ·rw[if_neg hc]
  by_cases hab:a<=b
  ·have e:=aN2 (l:=l) a (b - a) (by omega)
   show(⟨(ik (λ x=>l.toArray[x]?) _).toArray⟩:Str)=_
   rw[e]
  ·rw[show b - a=0 by omega];simp
def rSl (Γ:Gm):V->Option Int->Option Int->Hp->VK->Prop:=λ x lo hi H Q=>∃ φ s a d s',Rp Γ φ H s/\RV Γ φ H a x/\a.bnd s.length=true/\mD a lo hi s=.ok d s'/\aj7 Γ φ s H d s' Q
theorem ch5 (hK:X.K=Γ.K):SlR X (rSl Γ):=by
 intro B s σ H x v vl vu J G sl Q I rx hs Z pu h
 obtain⟨φ,st,a,d,a0,R,ha,na,F,q⟩:=h
 unfold mD at F
 cases a with
 | tup l =>
  cases F
  obtain⟨p,Y,⟨rfl,z1⟩,h1,d1⟩:=ha.tupZ
  unfold la at na
  refine bG7 hK B s σ H _ v vl vu J G sl Q I rx hs Z pu ⟨p,Y,rfl,h1,λ t H' e ht hn=>?_⟩
  obtain⟨g,r'⟩:=R.same e
  have d2:=br6 (RVL.mono g _ _ na d1) J G
  refine q _ _ _ g (aw _) (by unfold la;exact aM8 na aM4) (RV.tupC ht (λ z=>?_) d2) r'
  rcases hn with hn|⟨rfl,ex⟩
  ·exact hn
  ·rw[ex]
   refine e _ _ (z1 ?_)
   have hl:(lF l J G).length=l.length:=by rw[<-d2.length,ex,d1.length]
   rwa [bg9 hl]at z
 | str l =>
  cases F
  have hl:=ha.strL
  have ex:=ha.strE;subst ex
  refine bZ1 B s σ H _ v vl vu J G sl Q I rx hs Z pu ⟨_,rfl,by show l.toArray.size<=_;rw[az];exact av hl zI,?_⟩
  rw[bh1]
  exact q.here R rfl (RV.strI (av (bl5 l J G) hl))
 | ref r =>
  have ex:=ha.refE;subst ex
  simp only at F
  cases hsr:st[r]? with
  | none=>rw[hsr]at F;cases F
  | some o =>
   rw[hsr]at F
   cases o with
   | lst l =>
    obtain⟨rfl,rfl⟩:=qj F
    obtain⟨Y,e1,d1⟩:=R.addr hsr
    have wf:=R.wf _ _ hsr
    unfold lb at wf
    exact bn2 hK B s σ H _ v vl vu J G sl Q I rx hs Z pu ⟨φ r,Y,rfl,SqL.of e1,λ p hp=>q.alloc R (br6 d1 J G) (aM8 wf aM4) hp⟩
   | _=>exact fb F
 | _=>exact fb F
variable {Γ:Gm} {X:Cx}
def rCl (Γ:Gm)(f:List kZ->kY->k8 kZ):List V->Hp->VK->Prop:=λ xs H Q=>∃ φ s l d s',Rp Γ φ H s/\RVL Γ φ H l xs/\k7 s.length l=true/\f l s=.ok d s'/\aj7 Γ φ s H d s' Q
theorem RVL.one {φ:Nat->Addr}{H:Hp}{d:kZ}{B:List V}(h:RVL Γ φ H [d] B):∃ x,B=[x]/\RV Γ φ H d x:=by
 obtain⟨x,r,rfl,G,F⟩:=h.uncons
 rw[F.unnil];exact⟨x,rfl,G⟩
noncomputable def biN:lO->Option (String×Nat)
 | .len=>some ("len",1)|.abs=>some ("abs",1)|.min2=>some ("min",2)|_=>none
theorem qi:∀ {l:List kZ} {is:List Int},l7 l=some is->l=is.map DV.D.int
 | [],is,h=>by unfold l7 at h;cases h;rfl
 | d::l,is,h=>by
  cases d with
  | int i =>
   have h:(l7 l).map (i::·)=some is:=h
   cases e:l7 l with
   | none=>rw[e]at h;cases h
   | some m=>rw[e]at h;cases h;rw[qi e];rfl
  | _=>cases h
theorem aC7:∀ {l:List kZ} {is:List Bool},mF l=some is->l=is.map DV.D.bl
 | [],is,h=>by unfold mF at h;cases h;rfl
 | d::l,is,h=>by
  cases d with
  | bl i =>
   have h:(mF l).map (i::·)=some is:=h
   cases e:mF l with
   | none=>rw[e]at h;cases h
   | some m=>rw[e]at h;cases h;rw[aC7 e];rfl
  | _=>cases h
theorem RVL.ints {φ:Nat->Addr}{H:Hp}:∀ {is:List Int} {B:List V},RVL Γ φ H (is.map DV.D.int) B->B=is.map V.int
 | [],_,h=>h.unnil
 | i::is,_,h=>by
  obtain⟨x,r,rfl,G,F⟩:=RVL.uncons h
  rw[G.intE,RVL.ints F];rfl
theorem RVL.bls {φ:Nat->Addr}{H:Hp}:∀ {is:List Bool} {B:List V},RVL Γ φ H (is.map DV.D.bl) B->B=is.map V.bl
 | [],_,h=>h.unnil
 | i::is,_,h=>by
  obtain⟨x,r,rfl,G,F⟩:=RVL.uncons h
  rw[G.blE,RVL.bls F];rfl
theorem aV7 {f:kZ->mz kZ}{l:List kZ}{s s':kY}{d:kZ}(h:mV f l s=.ok d s'):∃ a,l=[a]/\f a s=.ok d s':=by
 match l,h with
 | [a],h=>exact⟨a,rfl,h⟩
 | [],h=>exact fb h
 | _::_::_,h=>exact fb h
theorem bG0 (hK:X.K=Γ.K)(hc:X.calm=true){b:lO}{nm:String}{k:Nat}(hn:biN b=some (nm,k)):aj1 X (.builtin nm) (rCl Γ (mK b)):=by
 intro B s σ H Z us Q I r h
 obtain⟨φ,st,l,d,G,R,hl,nl,F,q⟩:=h
 cases b with
 | len =>
  cases hn
  have F:mV DV.bA2 l st=.ok d G:=F
  obtain⟨a,rfl,hg⟩:=aV7 F
  clear F
  obtain⟨x,rfl,hx⟩:=hl.one
  unfold DV.bA2 at hg
  cases a with
  | tup l =>
   cases hg
   obtain⟨p,ys,rfl,Y,d1⟩:=hx.tupE
   refine as2 hK B s σ H _ us Q I r ⟨p,ys,rfl,.inr Y,?_⟩
   rw[d1.length];exact q.here R rfl RV.intI
  | str l =>
   cases hg
   have J:=hx.strL
   have e:=hx.strE;subst e
   refine aE0 B s σ H _ us Q I r ⟨_,rfl,by show l.toArray.size<=_;rw[az];exact av J zI,?_⟩
   show Q (.int ((l.toArray.size:Nat):Int)) H
   rw[az]
   exact q.here R rfl RV.intI
  | ref n =>
   have e:=hx.refE;subst e
   simp only at hg
   cases hs:st[n]? with
   | none=>rw[hs]at hg;cases hg
   | some o =>
    rw[hs]at hg
    cases o with
    | lst l =>
     cases hg
     obtain⟨ys,e1,d1⟩:=R.addr hs
     refine as2 hK B s σ H _ us Q I r ⟨φ n,ys,rfl,.inl (SqL.of e1),?_⟩
     rw[d1.length];exact q.here R rfl RV.intI
    | ro l =>
     cases hg
     obtain⟨ys,e1,d1⟩:=R.obj _ _ hs
     refine as2 hK B s σ H _ us Q I r ⟨φ n,ys,rfl,.inl e1.1,?_⟩
     rw[d1.length];exact q.here R rfl RV.intI
    | dic l=>exact fb hg
    | dit l=>exact fb hg
    | ins c l=>exact fb hg
  | _=>exact fb hg
 | abs =>
  cases hn
  have F:(match l7 l with|some [i]=>.ok (.int (if i<0 then -i else i)) st|_=>.bad:k8 kZ)=.ok d G:=F
  split at F
  ·rename_i i e
   cases F
   have:=qi e;subst this
   have:=RVL.ints hl;subst this
   exact bm6 B s σ H _ us Q I r ⟨i,rfl,q.here R rfl RV.intI⟩
  ·exact fb F
 | min2 =>
  cases hn
  have F:(match l7 l with|some [a,b]=>.ok (.int (if b<a then b else a)) st|_=>.bad:k8 kZ)=.ok d G:=F
  split at F
  ·rename_i a b e
   cases F
   have:=qi e;subst this
   have:=RVL.ints hl;subst this
   exact aW2 hc B s σ H _ us Q I r ⟨_,_,rfl,q.here R rfl RV.intI⟩
  ·exact fb F
 | _=>cases hn
theorem aQ6:∀ j:Nat,j<=9->bH (toString (j:Int))=(⟨[48+j].toArray⟩:Str):=by decide
theorem bY5:aj1 X (.type "int") (rCl Γ (mK .int)):=by
 intro F s σ H Y us Q I r h
 obtain⟨φ,st,l,d,J,R,hl,Z,B,q⟩:=h
 have B:(match mF l with|some [b]=>.ok (.int (if b then 1 else 0)) st|some _=>.bad|none=>DV.aS5 l st:k8 kZ)=.ok d J:=B
 split at B
 ·rename_i b e
  cases B
  have:=aC7 e;subst this
  have:=RVL.bls hl;subst this
  exact aW7 F s σ H _ us Q I r (.inr ⟨b,rfl,q.here R rfl RV.intI⟩)
 ·exact fb B
 ·unfold DV.aS5 at B
  split at B
  ·rename_i c _ _
   split at B
   ·rename_i hc
    cases B
    obtain⟨x,G,rfl,r1,r2⟩:=hl.uncons
    cases(show G=[]from r2)
    have:=r1.strE
    subst this
    obtain⟨u,rfl,t,rfl⟩:=al7 r
    obtain⟨j,hj,rfl⟩:∃ j:Nat,j<=9/\c=48+j:=⟨c - 48,by omega,by omega⟩
    rw[show(⟨[48+j].toArray⟩:Str)=bH (toString (j:Int))from(aQ6 j hj).symm]
    refine PySem.W.KIN.call_num (by omega) (by omega) ⟨.int (j:Int),H,I.tok _,⟨_,rfl⟩,?_⟩
    have:=q.here R rfl (RV.intI (i:=((48+j - 48:Nat):Int)))
    rw[show 48+j - 48=j by omega]at this
    exact this
   ·exact fb B
  ·exact fb B
theorem bM1:aj1 X (.type "str") (rCl Γ (mK .str)):=by
 intro J s σ H Z us Q I r h
 obtain⟨φ,st,l,d,G,R,hl,Y,B,q⟩:=h
 have B:DV.aZ1 l st=.ok d G:=B
 unfold DV.aZ1 at B
 split at B
 ·rename_i i _
  split at B
  ·rename_i hi
   cases B
   obtain⟨x,F,rfl,r1,r2⟩:=hl.uncons
   cases(show F=[]from r2)
   have:=r1.intE
   subst this
   obtain⟨u,rfl,t,rfl⟩:=al7 r
   obtain⟨j,rfl⟩:∃ j:Nat,i=(j:Int):=⟨i.toNat,by omega⟩
   have hj:j<=9:=by omega
   refine PySem.P.str_of_int ?_ ⟨.str ⟨[48+j].toArray⟩,H,I.tok _,⟨s.toks,?_⟩,?_⟩
   ·have:(j:Int).natAbs.log2<=(j:Int).natAbs:=Nat.log2_le_self _
    omega
   ·rw[<-aQ6 j hj]
   ·have:=q.here R rfl (RV.strI (x:=[48+(j:Int).toNat]) (by show 1<=lh;decide))
    rw[bD]at this
    exact this
  ·exact fb B
 ·rename_i w _
  cases B
  obtain⟨x,F,rfl,r1,r2⟩:=hl.uncons
  cases(show F=[]from r2)
  have e:=r1.strE
  subst e
  obtain⟨u,rfl,t,rfl⟩:=al7 r
  refine PySem.P.str_of_str ⟨.str ⟨w.toArray⟩,H,I,⟨_,rfl⟩,?_⟩
  unfold k7 at Y
  exact q.here R rfl r1
 ·exact fb B
noncomputable def au0:Nat->String
 | 1 => "int" | 2 => "bool" | 3 => "str" | 4 => "tuple" | _ => "list"
theorem bx1 {K:ac}(k:Nat)(hk:1<=k/\k<=5):bp K (.type "NoneType") (.type (au0 k))=some false/\bp K (.type "bool") (.type (au0 k))=some (k==1||k==2) /\
  bp K (.type "int") (.type (au0 k))=some (k==1)/\bp K (.type "str") (.type (au0 k))=some (k==3)/\bp K (.type "tuple") (.type (au0 k))=some (k==4)/\bp K (.type "list") (.type (au0 k))=some (k==5):=by
 obtain⟨F,B⟩:=hk
 rcases(by omega:k=1\/k=2\/k=3\/k=4\/k=5)with h|h|h|h|h<;>subst h<;>refine⟨?_,?_,?_,?_,?_,?_⟩<;>with_unfolding_all rfl
theorem aU0 {B:List (Addr×Obj)}{σ:St}{H:Hp}{s:af}{A:aV}{E:Value->af->Prop}{Q:Value->af->Prop}{c:Value}{b:Bool}{a:Addr}{F:List V}(I:Inv X B σ H s)(G:SqT X.K H a F)(e:bp X.K (.type "tuple") c=some b)
  (h:∀ tk,Q (.bool b) { s with toks:=tk }):wpAny (model X.prog X.w) A (call (.builtin "isinstance") [.ref a,c]) Q E s:=by
 obtain⟨its,_,⟨o,g1,J,_⟩,_⟩:=I.tuple G
 exact bJ iX I.kIn ⟨o,g1,J⟩ e (λ z=>nomatch z) h
theorem bO7 (hK:X.K=Γ.K){k:Nat}(hk:1<=k/\k<=5):aj1 X (.builtin "isinstance") (λ G H Q=>∃ x,G=[x,.ty (au0 k)]/\rCl Γ (mV (ng k)) [x] H Q):=by
 intro F s σ H G us Q I r h
 obtain⟨x,rfl,φ,st,l,d,B,R,hl,Z,J,q⟩:=h
 obtain⟨a,rfl,hg⟩:=aV7 J
 clear J
 obtain⟨u,w',rfl,r1,r2⟩:=bF0 r
 cases r2
 obtain⟨x',e',hx⟩:=hl.one
 cases e'
 obtain⟨k0,k1,k2,k3,k4,k5⟩:=bx1 (K:=X.K) k hk
 unfold ng at hg
 cases a with
 | non=>cases hg;have e:=hx.nonE;subst e;exact qH I r1 .non k0 λ tk=>⟨.bl _,H,I.tok _,rfl,q.here R rfl RV.blI⟩
 | bl b=>cases hg;have e:=hx.blE;subst e;exact qH I r1 (.bl b) k1 λ tk=>⟨.bl _,H,I.tok _,rfl,q.here R rfl RV.blI⟩
 | int b=>cases hg;have e:=hx.intE;subst e;exact qH I r1 (.int b) k2 λ tk=>⟨.bl _,H,I.tok _,rfl,q.here R rfl RV.blI⟩
 | str b=>cases hg;have e:=hx.strE;subst e;exact qH I r1 (.str _) k3 λ tk=>⟨.bl _,H,I.tok _,rfl,q.here R rfl RV.blI⟩
 | tup l =>
  cases hg
  obtain⟨p,ys,rfl,Y,d1⟩:=hx.tupE
  cases r1
  rw[<-hK]at Y
  exact aU0 I Y k4 λ tk=>⟨.bl _,H,I.tok _,rfl,q.here R rfl RV.blI⟩
 | ref n =>
  have e:=hx.refE;subst e
  have hg:(match st[n]? with|some (.lst _)=>.ok (.bl (k==5)) st|_=>.bad:k8 kZ)=.ok d B:=hg
  cases hs:st[n]? with
  | none=>rw[hs]at hg;cases hg
  | some o =>
   rw[hs]at hg
   cases o with
   | lst l =>
    cases hg
    obtain⟨ys,e1,d1⟩:=R.addr hs
    exact qH I r1 (.lst e1) k5 λ tk=>⟨.bl _,H,I.tok _,rfl,q.here R rfl RV.blI⟩
   | _=>exact fb hg
 | _=>exact fb hg
variable {X:Cx}
noncomputable def sgV (x:List Nat):List V:=x.map λ c=>.str ⟨#[c]⟩
theorem bA4 {vs:List V}{B:List Value}(hl:vs.length=B.length)(h:∀(i:Nat) (x:V) (u:Value),vs[i]?=some x->B[i]?=some u->RelV x u):Vals vs B:=by
 induction vs generalizing B with
 | nil=>cases B with
  | nil=>exact .nil
  | cons _ _=>cases hl
 | cons v vs ih=>cases B with
  | nil=>cases hl
  | cons a B=>exact .cons (h 0 v a rfl rfl) (ih (by simpa using hl) λ i x u e1 e2=>h (i+1) x u e1 e2)
theorem av1 {x:List Nat}{B:Array Value}(h:ItemsOf (SignAt ⟨x.toArray⟩) B x.length):Vals (sgV x) B.toList:=by
 have hl:(sgV x).length=B.toList.length:=by unfold sgV;rw[aF];simpa using h.1.symm
 refine bA4 hl λ i v u e1 e2=>?_
 obtain⟨c,t,F,G⟩:=h.2 i u (by rw[<-Array.getElem?_toList];exact e2)
 unfold sgV at e1
 rw[aN]at e1
 have F:x[i]?=some c:=by simpa using F
 rw[F]at e1
 cases e1
 exact⟨t,G⟩
theorem aH2 (hc:X.calm=true):aj1 X (.type "tuple") (λ J H Q=>∃ x:List Nat,J=[.str ⟨x.toArray⟩]/\x.length<=lh/\∀ l,H l=none->Q (.ref l) (upd H l (.tup (sgV x)))):=by
 intro B s σ H J us Q I r h
 obtain⟨x,rfl,hl,q⟩:=h
 obtain⟨u,rfl,rx⟩:=al7 r
 obtain⟨t,rfl⟩:=rx
 have hz:(sgV x).length<=aO:=by unfold sgV;rw[aF];exact av hl zI
 refine call_tuple_str (I.ok.hd hc) _ t (λ h' tk F kp G=>?_) (by show x.toArray.size<=_;rw[az];exact av hl zI)
 have G:ItemsOf (SignAt ⟨x.toArray⟩) F x.length:=by simpa using G
 have Z:=av1 G
 have Y:Inv X B σ H { s with heap:=h',toks:=tk }:=I.kept (t':=tk) kp
 have I2:Inv X B σ (upd H h'.objs.size (.tup (sgV x))) { s with heap:=h'.push { cls:=.type "tuple",data:=.seq F },toks:=tk } :=
  Y.laid (t':=tk) (λ b o e=>aB _ e) (aw _) (show ai3 X.prog X.w _ _ _ (.tup (sgV x))from⟨hz,F.toList,Z,jA _ _⟩)
 exact⟨.ref h'.objs.size,_,I2,rfl,q _ (Y.hok.fresh (aw _))⟩
theorem aS8 (hc:X.calm=true):aj1 X (.type "list") (λ J H Q=>∃ x:List Nat,J=[.str ⟨x.toArray⟩]/\x.length<=lh/\∀ l,H l=none->Q (.ref l) (upd H l (.lst (sgV x)))):=by
 intro G s σ H J us Q I r h
 obtain⟨x,rfl,hl,q⟩:=h
 obtain⟨u,rfl,rx⟩:=al7 r
 obtain⟨t,rfl⟩:=rx
 have hz:(sgV x).length<=aO:=by unfold sgV;rw[aF];exact av hl zI
 refine call_list_str (I.ok.hd hc) _ t (λ h' tk B Z kp e F=>?_) (by show x.toArray.size<=_;rw[az];exact av hl zI)
 have F:ItemsOf (SignAt ⟨x.toArray⟩) B x.length:=by simpa using F
 have Y:=av1 F
 exact⟨.ref s.heap.objs.size,_,I.laid (t':=tk) kp (aw _) (show ai3 X.prog X.w _ h' _ (.lst (sgV x))from⟨hz,B.toList,Z,Y,e⟩),rfl,q _ (I.hok.fresh (aw _))⟩
section
variable {Γ:Gm} {φ φ':Nat->Addr} {H H' H1 H2 H3:Hp} {clos:List (Str×Addr)} {s s':kY}
theorem zF (hc:Cells clos H){a:Addr}{u:HO}(e:H a=some u)(hu:∀ o,u≠.frz o (.own a)):isC clos a≠true:=λ z=>by
 obtain⟨o,v,q,_⟩:=hc.at z
 rw[e]at q;cases q;exact hu o rfl
theorem SqT.dropC {K:ac}{a:Addr}{B:List V}(hc:Cells clos H)(h:SqT K H a B):SqT K (ai6 clos H) a B:=by
 rcases h with(h|⟨o,h⟩)|h
 ·exact .inl (.inl (by rw[ai6.ne (zF hc h (λ _ z=>by cases z))];exact h))
 ·exact .inl (.inr ⟨o,by rw[ai6.ne (zF hc h (λ _ z=>by cases z))];exact h⟩)
 ·exact .inr h
theorem SqL.dropC {K:ac}{a:Addr}{B:List V}(hc:Cells clos H)(h:SqL K H a B):SqL K (ai6 clos H) a B:=by
 rcases h with(h|⟨o,h⟩)|h
 ·exact .inl (.inl (by rw[ai6.ne (zF hc h (λ _ z=>by cases z))];exact h))
 ·exact .inl (.inr ⟨o,by rw[ai6.ne (zF hc h (λ _ z=>by cases z))];exact h⟩)
 ·exact .inr h
theorem SqF.dropC {K:ac}{a:Addr}{F:List V}(hc:Cells clos H)(h:SqF K H a F):SqF K (ai6 clos H) a F:=by
 refine⟨SqL.dropC hc h.1,λ B k=>?_⟩
 have hk:Kp H (λ b=>if isC clos b=true then H b else B b):=λ b o e f=>by
  by_cases z:isC clos b=true
  ·show(if isC clos b=true then H b else B b)=_;rw[if_pos z];exact e
  ·show(if isC clos b=true then H b else B b)=_
   rw[if_neg z]
   exact k b o (by rw[ai6.ne z];exact e) f
 have q:=h.2 _ hk
 have at_:∀ u,(if isC clos a=true then H a else B a)=some u->(∀ o,u≠.frz o (.own a))->B a=some u:=λ u e hu=>by
  by_cases z:isC clos a=true
  ·rw[if_pos z]at e
   exact absurd z (zF hc e hu)
  ·rw[if_neg z]at e;exact e
 rcases q with(q|⟨o,q⟩)|q
 ·exact .inl (.inl (at_ _ q (λ _ z=>by cases z)))
 ·exact .inl (.inr ⟨o,at_ _ q (λ _ z=>by cases z)⟩)
 ·exact .inr q
mutual
theorem RV.dropC (hc:Cells clos H):∀(d:kZ) (v:V),d.ncl=true->RV Γ φ H d v->RV Γ φ (ai6 clos H) d v
 | .non,_,_,h=>by unfold RV at h ⊢;exact h
 | .bl _,_,_,h=>by unfold RV at h ⊢;exact h
 | .int _,_,_,h=>by unfold RV at h ⊢;exact h
 | .str _,_,_,h=>by unfold RV at h ⊢;exact h
 | .tup l,_,n,h=>by
  unfold RV at h ⊢
  unfold nh at n
  obtain⟨a,B,e,q,r⟩:=h
  exact⟨a,B,e,⟨SqT.dropC hc q.1,λ z=>by rw[ai6.ne (zF hc (q.2 z) (λ _ z=>by cases z))];exact q.2 z⟩,RVL.dropC hc l B n r⟩
 | .ref k,_,_,h=>by unfold RV at h ⊢;exact h
 | .fn _,_,_,h=>by unfold RV at h ⊢;exact h
 | .clo id cs,_,n,h=>by unfold nh at n;cases n
theorem RVL.dropC (hc:Cells clos H):∀(l:List kZ) (B:List V),lX l=true->RVL Γ φ H l B->RVL Γ φ (ai6 clos H) l B
 | [],_,_,h=>by unfold RVL at h ⊢;exact h
 | d::l,_,n,h=>by
  unfold lX at n
  rw[aj]at n
  obtain⟨x,r,e,G,F⟩:=h.uncons
  subst e
  exact .cons (RV.dropC hc d x n.1 G) (RVL.dropC hc l r n.2 F)
end
theorem RVD.dropC {κ:Type}{F:kZ->Option κ}(hc:Cells clos H):∀(l:List (kZ×kZ)) (B:List (κ×V)),lX (l.map (·.2))=true->RVD F Γ φ H l B->RVD F Γ φ (ai6 clos H) l B
 | [],_,_,h=>h
 | (d,e)::l,_,n,h=>by
  obtain⟨k,v,r,e1,e2,e3,G⟩:=h
  rw[a8]at n
  unfold lX at n
  rw[aj]at n
  exact⟨k,v,r,e1,e2,RV.dropC hc e v n.1 e3,RVD.dropC hc l r n.2 G⟩
theorem RO.dropC {a:Addr}{o:lG}(hc:Cells clos H)(h:RO Γ φ H a o)(n:o.ncl=true):RO Γ φ (ai6 clos H) a o:=by
 cases o with
 | lst l =>
  obtain⟨B,e,r⟩:=h
  exact⟨B,by rw[ai6.ne (zF hc e (λ _ z=>by cases z))];exact e,RVL.dropC hc l B n r⟩
 | ro l =>
  obtain⟨B,e,r⟩:=h
  exact⟨B,SqF.dropC hc e,RVL.dropC hc l B n r⟩
 | dic l =>
  obtain⟨B,e,r⟩:=h
  exact⟨B,by rw[ai6.ne (zF hc e (λ _ z=>by cases z))];exact e,RVD.dropC hc l B n r⟩
 | dit l =>
  obtain⟨B,e,r⟩:=h
  exact⟨B,by rw[ai6.ne (zF hc e (λ _ z=>by cases z))];exact e,RVD.dropC hc l B n r⟩
 | ins _ _=>exact h.elim
theorem TabsH.dropC {T:List (Addr×Str)}(hc:Cells clos H)(h:TabsH T H):TabsH T (ai6 clos H):=λ y hy=>by
 obtain⟨ps,e,t,c⟩:=h y hy
 refine⟨ps,by rw[ai6.ne (zF hc e (λ _ z=>by cases z))];exact e,t,λ pos B q=>?_⟩
 obtain⟨F,e1,e2⟩:=c pos B q
 exact⟨F,e1,by rw[ai6.ne (zF hc e2 (λ _ z=>by unfold aD2 at z;cases z))];exact e2⟩
theorem Rp.dropC (hc:Cells clos H)(r:Rp Γ φ H s)(n:s.all DV.O.ncl=true):Rp Γ φ (ai6 clos H) s :=
 ⟨r.inj,λ i o e=>RO.dropC hc (r.obj i o e) (aU.mp n o (aZ e)),r.wf,TabsH.dropC hc r.tab⟩
theorem bf0 (h:∀ b,isC clos b=true->H' b=none):ak6 H' (Put clos H H'):=λ b o e=>by
 rw[Put.ne (λ z=>by rw[h b z]at e;cases e)];exact e
theorem Gr.put (hc:Cells clos H)(B:∀ b,isC clos b=true->H' b=none)(hK:∀ b o,Γ.K.lookup b=some o->H b=none)(Z:Rp Γ φ' H' s')(g:Gr φ s (ai6 clos H) φ' s' H'):Gr φ s H φ' s' (Put clos H H'):=by
 refine⟨⟨g.w.map,λ b o e f=>?_⟩,g.le,λ i h1 G=>?_,g.kd,λ b e=>?_,λ b o e nt Y=>?_⟩
 ·by_cases z:isC clos b=true
  ·rw[Put.cell z];exact e
  ·rw[Put.ne z];exact g.w.kp b o (by rw[ai6.ne z];exact e) f
 ·have hd:=g.new i h1 G
  by_cases z:isC clos (φ' i)=true
  ·have hg:=B _ z
   obtain⟨o,J⟩:∃ o,s'[i]?=some o:=⟨s'[i],aq G⟩
   have h:=Z.obj i o J
   cases o with
   | lst l=>obtain⟨F,e,_⟩:=h;rw[hg]at e;cases e
   | ro l =>
    obtain⟨F,e,_⟩:=h
    rcases e.1 with(e|⟨_,e⟩)|⟨ob,its,n,e,_⟩
    ·rw[hg]at e;cases e
    ·rw[hg]at e;cases e
    ·exact hK _ _ e
   | dic l=>obtain⟨F,e,_⟩:=h;rw[hg]at e;cases e
   | dit l=>obtain⟨F,e,_⟩:=h;rw[hg]at e;cases e
   | ins _ _=>exact h.elim
  ·rw[ai6.ne z]at hd;exact hd
 ·by_cases z:isC clos b=true
  ·rw[Put.cell z];exact e
  ·rw[Put.ne z];exact g.st b (by rw[ai6.ne z];exact e)
 ·by_cases z:isC clos b=true
  ·rw[Put.cell z];exact e
  ·rw[Put.ne z];exact g.fr b o (by rw[ai6.ne z];exact e) nt Y
theorem bC5 {P:aH}{w:World}{K:ac}{mg:Str->Option Value}{base:Heap}{k:Nat}{f:Addr}{N ps fr:List Str}{name qual:Str}{params:ci}{body:List Stmt}{scope:Scope}{h:List (Str×Addr)}{cap:List V}{sp:Sp}
  (S:LamScope N ps fr scope) (len:∀ vs H Q E,sp vs H Q E->vs.length=ps.length) (a5:cap.length=fr.length)
  (Y:∀(G pm:Value) (c':Addr) (a0:Value) (us:List Value),us.length=ps.length->dZ (fM name qual params body scope h .none .none G pm none (.ref c') a0) ⟨us,[]⟩=pure (ps.zip us))
  (Z:∀(A:aV) (B:List Env) (s:af) (H:Hp) (cd:Value) (vs:List V) (Q:VK),Room k (A.deeper (cX qual scope s.heap.objs.size f cd (aQ (s.heap.objs.size+1) scope.names h)))->au4 H f name qual params body scope fr cap h->(∀ b o,K.lookup b=some o->H b=none)->sp vs H Q E0 ->
   ∃ t,PSs (aH0 P w K mg base N qual scope f cd h A B s H) body t/\t { nx:=λ _ H'=>(∀ b,isC h b=true->H' b=none)->Q .non (Put h H H'),rt:=λ v H'=>(∀ b,isC h b=true->H' b=none)->Q v (Put h H H') } (vs.map some++cap.map some) (ai6 h H)) :
  ClOk P w K mg base (k+1) (λ H=>au4 H f name qual params body scope fr cap h) f sp:=by
 refine⟨λ A B s H us vs Q hr F hR r a2=>?_⟩
 have hl:=len _ _ _ _ a2
 obtain⟨G,pm,c',a0,h1,h2,h3,h4,h5,h6⟩:=id hR
 have a3:s.heap.NoLimit:=F.mod.nolimit.keeps λ b o e=>(F.bs b o e).1
 refine gW hr.depth (az6 F.hok h1) rfl S.co S.gen rfl (aF7 F.hok h2) ?_
 rw[Y G pm c' a0 us (by rw[<-r.length];exact hl)]
 refine aA (av6 S.kind (λ y hy=>?_) λ env he s1 x=>?_)
 ·rcases S.par y.1 (dJ (show(y.1,y.2)∈ps.zip us from hy)).1 with q|q
  ·exact .inl q
  ·exact .inr ⟨q,zL q⟩
 ·subst he
  refine⟨a3.keeps x.toInCall.keep,codeAny_func ?_⟩
  obtain⟨t,ht,hq⟩:=Z A B s H (.ref c') vs Q (hr.deeper _) hR (λ b o e=>(F.bs b o (F.mod.kin b o e)).2) a2
  have I:=bg5 S hr.hd F hl a5 r h3 h4 h5 h6 x
  refine br (ht [] s1 _ _ _ I hq) (λ fl s' hs=>?_) λ e s' hs=>hs.elim
  have fin:∀ {σ':St} {H':Hp} {v:V} {u:Value},Inv (aH0 P w K mg base N qual scope f (.ref c') h A B s H) [] σ' H' s'->RelV v u->((∀ b,isC h b=true->H' b=none)->Q v (Put h H H'))->CE B P w H s Q u s':=λ {σ' H' v u} J rv q=>by
   obtain⟨un,a4⟩:=bc5 F.hok h3 F.frf J.base J.hok
   have a1:∀ b,isC h b=true->H' b=none:=λ b y=>by
    obtain⟨o,v,z,_⟩:=h3.at y
    exact(show Un (frs B) [] (ai6 h H) H' s.heap s'.heap from J.base).free b o (F.hok b _ z).1 (ai6.cell y) (by simp)
   exact⟨v,_,J.os,J.bare,un,a4,rv,q a1⟩
  cases fl with
  | ret u =>
   obtain⟨v,σ',H',J,rv,q⟩:=hs
   exact fin J rv q
  | next =>
   obtain⟨σ',H',J,q⟩:=hs
   exact fin (v:=V.non) (u:=Value.none) J rfl q
  | brk =>
   obtain⟨_,_,_,q⟩:=hs
   exact bz q
  | cont =>
   obtain⟨_,_,_,q⟩:=hs
   exact bz q
theorem bC9 {P:aH}{w:World}{K:ac}{mg:Str->Option Value}{base:Heap}{k:Nat}{f:Addr}{N ps fr:List Str}{qual:Str}{params:ci}{body:Expr}{scope:Scope}{h:List (Str×Addr)}{cap:List V}{sp:Sp}
  (S:LamScope N ps fr scope) (len:∀ vs H Q E,sp vs H Q E->vs.length=ps.length) (a4:cap.length=fr.length)
  (G:∀(pm:Value) (c':Addr) (Z:Value) (us:List Value),us.length=ps.length->dZ (dz "<lambda>" qual params body scope h pm (.ref c') Z) ⟨us,[]⟩=pure (ps.zip us))
  (Y:∀(A:aV) (B:List Env) (s:af) (H:Hp) (cd:Value) (vs:List V) (Q:VK),Room k (A.deeper (cX qual scope s.heap.objs.size f cd (aQ (s.heap.objs.size+1) scope.names h)))->aK3 H f qual params body scope fr cap h->(∀ b o,K.lookup b=some o->H b=none)->sp vs H Q E0 ->
   ∃ t,PE (aH0 P w K mg base N qual scope f cd h A B s H) body t/\t (vs.map some++cap.map some) (ai6 h H) λ v H'=>(∀ b,isC h b=true->H' b=none)->Q v (Put h H H')) :
  ClOk P w K mg base (k+1) (λ H=>aK3 H f qual params body scope fr cap h) f sp:=by
 refine⟨λ A B s H us vs Q hr F hR r a1=>?_⟩
 have hl:=len _ _ _ _ a1
 obtain⟨pm,c',Z,h1,h2,h3,h4,h5,h6⟩:=id hR
 have a2:s.heap.NoLimit:=F.mod.nolimit.keeps λ b o e=>(F.bs b o e).1
 refine PySem.W.kla_callFunE hr.depth (az6 F.hok h1) rfl S.co S.gen rfl (aF7 F.hok h2) ?_
 rw[G pm c' Z us (by rw[<-r.length];exact hl)]
 refine aA (av6 S.kind (λ y hy=>?_) λ env he s1 x=>?_)
 ·rcases S.par y.1 (dJ (show(y.1,y.2)∈ps.zip us from hy)).1 with q|q
  ·exact .inl q
  ·exact .inr ⟨q,zL q⟩
 ·subst he
  refine⟨a2.keeps x.toInCall.keep,PySem.W.kla_codeExpr ?_⟩
  obtain⟨t,ht,hq⟩:=Y A B s H (.ref c') vs Q (hr.deeper _) hR (λ b o e=>(F.bs b o (F.mod.kin b o e)).2) a1
  have I:=bg5 S hr.hd F hl a4 r h3 h4 h5 h6 x
  refine br (ht [] s1 _ _ _ I hq) (λ u s' hs=>?_) λ e s' hs=>hs.elim
  obtain⟨v,H',J,rv,q⟩:=hs
  obtain⟨un,a3⟩:=bc5 F.hok h3 F.frf J.base J.hok
  have a0:∀ b,isC h b=true->H' b=none:=λ b y=>by
   obtain⟨o,v,z,_⟩:=h3.at y
   exact(show Un (frs B) [] (ai6 h H) H' s.heap s'.heap from J.base).free b o (F.hok b _ z).1 (ai6.cell y) (by simp)
  exact⟨v,_,J.os,J.bare,un,a3,rv,q a0⟩
theorem Cells.kp {H H':Hp}(h:Cells clos H)(k:Kp H H'):Cells clos H':=λ x c e=>by
 obtain⟨o,v,q,d⟩:=h x c e
 exact⟨o,v,k _ _ q rfl,d⟩
noncomputable def PVp (Γ : Gm) (cells : List (Str × Addr)) (N : List Str) (σ : St) (φ : Nat -> Addr) (H : Hp) (d : DV.D) (v : V) : Prop := RV Γ φ H d v \/ ∃ id cs, d = .clo id cs /\ ∃ f J, v = .ref f /\ Γ.lg id J /\ aC4 H f J (at7 cells J.scope.names []) /\
      cs.length = J.fr.length /\ (∀ x, J.scope.names.lookup x = some .free -> ∃ c, cells.lookup x = some c) /\
      ∃ cap, RVL Γ φ H cs cap /\ ∀(i : Nat) (x : Str) (v : V), J.fr[i]? = some x -> cap[i]? = some v -> J.scope.names.lookup x = some .free /\ ∃ j : Nat, N[j]? = some x /\ σ[j]? = some (some v)
inductive PVL (Γ:Gm)(cells:List (Str×Addr))(N:List Str)(σ:St)(φ:Nat->Addr)(H:Hp):List kZ->List V->Prop where
 | nil:PVL Γ cells N σ φ H [] []
 | cons {d v l vs} (a:PVp Γ cells N σ φ H d v) (b:PVL Γ cells N σ φ H l vs):PVL Γ cells N σ φ H (d::l) (v::vs)
theorem PVp.mono {cells:List (Str×Addr)}{N:List Str}{σ:St}{φ φ':Nat->Addr}{s s':kY}{H H':Hp}(g:Gr φ s H φ' s' H'){d:kZ}{v:V}(b:d.bnd s.length=true)(h:PVp Γ cells N σ φ H d v):PVp Γ cells N σ φ' H' d v:=by
 rcases h with h|⟨id,cs,rfl,h⟩
 ·exact .inl (RV.mono g _ _ b h)
 ·obtain⟨f,J,e,Z,Y,B,G,cap,F,h7⟩:=h
  unfold la at b
  exact .inr ⟨id,cs,rfl,f,J,e,Z,Y.kp g.w.kp,B,G,cap,RVL.mono g cs cap b F,h7⟩
end
variable {Γ:Gm} {X:Cx}
def TEv (Γ:Gm)(m:k6->kY->k8 kZ):TE:=λ σ H Q=>∃ φ ρ s d s',RE Γ φ H s.length ρ σ/\Rp Γ φ H s/\m ρ s=.ok d s'/\aj7 Γ φ s H d s' Q
def ca1 (Γ:Gm)(φ:Nat->Addr)(s:kY)(H:Hp)(l:List kZ)(s':kY)(Q:List V->Hp->Prop):Prop :=
 ∀ vs φ' H',Gr φ s H φ' s' H'->s.length<=s'.length->k7 s'.length l=true->RVL Γ φ' H' l vs->Rp Γ φ' H' s'->Q vs H'
def TAv (Γ:Gm)(m:k6->kY->k8 (List kZ)):TA:=λ σ H Q=>∃ φ ρ s l s',RE Γ φ H s.length ρ σ/\Rp Γ φ H s/\m ρ s=.ok l s'/\ca1 Γ φ s H l s' Q
def aP3 (Γ:Gm)(φ:Nat->Addr)(s:kY)(H:Hp)(b:Bool)(s':kY)(Q:Bool->Hp->Prop):Prop :=
 ∀ φ' H',Gr φ s H φ' s' H'->s.length<=s'.length->Rp Γ φ' H' s'->Q b H'
def TTv (Γ:Gm)(m:k6->kY->k8 kZ):TT:=λ σ H Q=>∃ φ ρ s b s',RE Γ φ H s.length ρ σ/\Rp Γ φ H s/\m ρ s=.ok (.bl b) s'/\aP3 Γ φ s H b s' Q
theorem PE.imp {e:Expr}{t t':TE}(h:PE X e t)(i:∀ σ H Q,t' σ H Q->t σ H Q):PE X e t':=λ B s σ H Q I q=>h B s σ H Q I (i σ H Q q)
theorem PT.imp {e:Expr}{t t':TT}(h:PT X e t)(i:∀ σ H Q,t' σ H Q->t σ H Q):PT X e t':=λ B s σ H Q I q=>h B s σ H Q I (i σ H Q q)
theorem PA.imp {e:List Expr}{t t':TA}(h:PA X e t)(i:∀ σ H Q,t' σ H Q->t σ H Q):PA X e t':=λ pos B s σ H Q I q=>h pos B s σ H Q I (i σ H Q q)
theorem aP3.trans {φ φ1:Nat->Addr}{s s1 s':kY}{H B:Hp}{b:Bool}{Q:Bool->Hp->Prop}(h:aP3 Γ φ s H b s' Q)(g:Gr φ s H φ1 s1 B)(l:s.length<=s1.length):aP3 Γ φ1 s1 B b s' Q :=
 λ φ' H' g' F p=>h φ' H' (g.trans g' l) (av l F) p
theorem bU4 (i:Nat){σ:St}{H:Hp}{Q:VK}(h:TEv Γ (λ ρ s=>mW ρ i s) σ H Q):cl2 i σ H Q:=by
 obtain⟨φ,ρ,s,d,s',E,R,hm,q⟩:=h
 simp only[mW]at hm
 split at hm
 ·rename_i d' e
  cases hm
  obtain⟨b,v,e1,e2⟩:=E.val i _ e
  exact⟨v,e1,q.here R b e2⟩
 ·exact fb hm
theorem aD0 {c:kZ}{v:V}(hb:∀ n,c.bnd n=true)(hv:∀ φ H,RV Γ φ H c v){σ:St}{H:Hp}{Q:VK}(h:TEv Γ (λ ρ s=>.ok c s) σ H Q):tC v σ H Q:=by
 obtain⟨φ,ρ,s,d,s',E,R,hm,q⟩:=h
 cases hm
 exact q.here R (hb _) (hv _ _)
theorem bp8 {F J:k6->kY->k8 kZ}{f:kZ->kZ->kY->k8 kZ}{σ:St}{H:Hp}{Q:VK}(h:TEv Γ (λ ρ s=>(F ρ s).bind λ x s=>(J ρ s).bind λ y s=>f x y s) σ H Q):tOp (rOp Γ f) (TEv Γ F) (TEv Γ J) σ H Q:=by
 obtain⟨φ,ρ,s,d,s',E,R,hm,q⟩:=h
 obtain⟨x,s1,e1,hm⟩:=aa5 hm
 obtain⟨y,s2,e2,hm⟩:=aa5 hm
 refine⟨φ,ρ,s,x,s1,E,R,e1,λ v1 φ1 H1 g1 l1 B r1 R1=>?_⟩
 refine⟨φ1,ρ,s1,y,s2,E.mono g1 l1,R1,e2,λ v2 φ2 H2 Y G Z r2 R2=>?_⟩
 exact⟨φ2,s2,x,y,d,s',R2,RV.mono Y x v1 B r1,r2,zh G x B,Z,hm,q.trans (g1.trans Y l1) (av l1 G)⟩
theorem ce3 {m:k6->kY->k8 kZ}{f:kZ->kY->k8 kZ}{r:V->Hp->VK->Prop}{σ:St}{H:Hp}{Q:VK}(h:TEv Γ (λ ρ s=>(m ρ s).bind λ x s=>f x s) σ H Q)
  (hr:∀ φ s x d s' v H',Rp Γ φ H' s->RV Γ φ H' x v->x.bnd s.length=true->f x s=.ok d s'->aj7 Γ φ s H' d s' Q->r v H' Q):tUn r (TEv Γ m) σ H Q:=by
 obtain⟨φ,ρ,s,d,s',E,R,hm,q⟩:=h
 obtain⟨x,s1,e1,hm⟩:=aa5 hm
 exact⟨φ,ρ,s,x,s1,E,R,e1,λ v1 φ1 B g1 l1 F r1 R1=>hr φ1 s1 x d s' v1 B R1 r1 F hm (q.trans g1 l1)⟩
theorem zE {α:Type}{r:k8 kZ}{f:Bool->kY->k8 α}{a:α}{t:kY}(h:lq r f=.ok a t):∃ b s,r=.ok (.bl b) s/\f b s=.ok a t:=by
 unfold lq at h
 obtain⟨d,s,e,h⟩:=aa5 h
 cases d with
 | bl b=>exact⟨b,s,e,h⟩
 | _=>exact fb h
theorem aO5 {m:k6->kY->k8 kZ}{σ:St}{H:Hp}{Q:Bool->Hp->Prop}(h:TTv Γ m σ H Q):tB (TEv Γ m) σ H Q:=by
 obtain⟨φ,ρ,s,b,s',E,R,hm,q⟩:=h
 refine⟨φ,ρ,s,.bl b,s',E,R,hm,λ v φ' H' g l F r B=>?_⟩
 exact⟨b,r.blE,q φ' H' g l B⟩
theorem bE6 {m:k6->kY->k8 kZ}{σ:St}{H:Hp}{Q:Bool->Hp->Prop}(h:TTv Γ m σ H Q):bO0 (TEv Γ m) σ H Q:=aO5 h
theorem bK3 {m:k6->kY->k8 kZ}{σ:St}{H:Hp}{Q:Bool->Hp->Prop}(h:TTv Γ (λ ρ s=>lq (m ρ s) λ b s=>.ok (.bl (!b)) s) σ H Q):cn9 (TTv Γ m) σ H Q:=by
 obtain⟨φ,ρ,s,b,s',E,R,hm,q⟩:=h
 obtain⟨c,s1,e1,hm⟩:=zE hm
 cases hm
 exact⟨φ,ρ,s,c,_,E,R,e1,q⟩
theorem bu0 {F B:k6->kY->k8 kZ}{σ:St}{H:Hp}{Q:Bool->Hp->Prop}(h:TTv Γ (λ ρ s=>lq (F ρ s) λ c s=>if c then lq (B ρ s) λ c s=>.ok (.bl c) s else .ok (.bl false) s) σ H Q):cm2 (TTv Γ F) (TTv Γ B) σ H Q:=by
 obtain⟨φ,ρ,s,b,s',E,R,hm,q⟩:=h
 obtain⟨c,s1,e1,hm⟩:=zE hm
 refine⟨φ,ρ,s,c,s1,E,R,e1,λ φ1 G g1 l1 R1=>?_⟩
 cases c with
 | true =>
  rw[if_pos rfl]at hm ⊢
  obtain⟨J,s2,e2,hm⟩:=zE hm
  cases hm
  exact⟨φ1,ρ,s1,_,_,E.mono g1 l1,R1,e2,q.trans g1 l1⟩
 | false =>
  rw[if_neg aX]at hm ⊢
  cases hm
  exact q φ1 G g1 l1 R1
theorem bQ2 {F B:k6->kY->k8 kZ}{σ:St}{H:Hp}{Q:Bool->Hp->Prop}(h:TTv Γ (λ ρ s=>lq (F ρ s) λ c s=>if c then .ok (.bl true) s else lq (B ρ s) λ c s=>.ok (.bl c) s) σ H Q):tOr (TTv Γ F) (TTv Γ B) σ H Q:=by
 obtain⟨φ,ρ,s,b,s',E,R,hm,q⟩:=h
 obtain⟨c,s1,e1,hm⟩:=zE hm
 refine⟨φ,ρ,s,c,s1,E,R,e1,λ φ1 G g1 l1 R1=>?_⟩
 cases c with
 | true =>
  rw[if_pos rfl]at hm ⊢
  cases hm
  exact q φ1 G g1 l1 R1
 | false =>
  rw[if_neg aX]at hm ⊢
  obtain⟨J,s2,e2,hm⟩:=zE hm
  cases hm
  exact⟨φ1,ρ,s1,_,_,E.mono g1 l1,R1,e2,q.trans g1 l1⟩
theorem bV8 {m:k6->kY->k8 kZ}{σ:St}{H:Hp}{Q:VK}(h:TEv Γ (λ ρ s=>lq (m ρ s) λ b s=>.ok (.bl (!b)) s) σ H Q):bM5 (TEv Γ m) σ H Q:=by
 obtain⟨φ,ρ,s,d,s',E,R,hm,q⟩:=h
 obtain⟨c,s1,e1,hm⟩:=zE hm
 cases hm
 exact⟨φ,ρ,s,.bl c,_,E,R,e1,λ v φ1 B g l b r R1=>⟨c,r.blE,q _ φ1 B g l rfl RV.blI R1⟩⟩
theorem bt4 {F B:k6->kY->k8 kZ}{σ:St}{H:Hp}{Q:VK}(h:TEv Γ (λ ρ s=>lq (F ρ s) λ c s=>if c then lq (B ρ s) λ c s=>.ok (.bl c) s else .ok (.bl false) s) σ H Q):bX4 (TEv Γ F) (TEv Γ B) σ H Q:=by
 obtain⟨φ,ρ,s,d,s',E,R,hm,q⟩:=h
 obtain⟨c,s1,e1,hm⟩:=zE hm
 refine⟨φ,ρ,s,.bl c,s1,E,R,e1,λ v φ1 G g1 l1 J r1 R1=>⟨c,r1.blE,?_⟩⟩
 cases c with
 | true =>
  rw[if_pos rfl]at hm ⊢
  obtain⟨c,s2,e2,hm⟩:=zE hm
  cases hm
  exact⟨φ1,ρ,s1,.bl c,_,E.mono g1 l1,R1,e2,q.trans g1 l1⟩
 | false =>
  rw[if_neg aX]at hm ⊢
  cases hm
  exact q _ φ1 G g1 l1 rfl RV.blI R1
theorem bO8 {F B:k6->kY->k8 kZ}{σ:St}{H:Hp}{Q:VK}(h:TEv Γ (λ ρ s=>lq (F ρ s) λ c s=>if c then .ok (.bl true) s else lq (B ρ s) λ c s=>.ok (.bl c) s) σ H Q):cn4 (TEv Γ F) (TEv Γ B) σ H Q:=by
 obtain⟨φ,ρ,s,d,s',E,R,hm,q⟩:=h
 obtain⟨c,s1,e1,hm⟩:=zE hm
 refine⟨φ,ρ,s,.bl c,s1,E,R,e1,λ v φ1 G g1 l1 J r1 R1=>⟨c,r1.blE,?_⟩⟩
 cases c with
 | true =>
  rw[if_pos rfl]at hm ⊢
  cases hm
  exact q _ φ1 G g1 l1 rfl RV.blI R1
 | false =>
  rw[if_neg aX]at hm ⊢
  obtain⟨c,s2,e2,hm⟩:=zE hm
  cases hm
  exact⟨φ1,ρ,s1,.bl c,_,E.mono g1 l1,R1,e2,q.trans g1 l1⟩
theorem bQ3 {mc F B:k6->kY->k8 kZ}{σ:St}{H:Hp}{Q:VK}(h:TEv Γ (λ ρ s=>lq (mc ρ s) λ k s=>if k then F ρ s else B ρ s) σ H Q):tIf (TTv Γ mc) (TEv Γ F) (TEv Γ B) σ H Q:=by
 obtain⟨φ,ρ,s,d,s',E,R,hm,q⟩:=h
 obtain⟨c,s1,e1,hm⟩:=zE hm
 refine⟨φ,ρ,s,c,s1,E,R,e1,λ φ1 G g1 l1 R1=>?_⟩
 cases c with
 | true =>
  rw[if_pos rfl]at hm ⊢
  exact⟨φ1,ρ,s1,d,s',E.mono g1 l1,R1,hm,q.trans g1 l1⟩
 | false =>
  rw[if_neg aX]at hm ⊢
  exact⟨φ1,ρ,s1,d,s',E.mono g1 l1,R1,hm,q.trans g1 l1⟩
theorem aN1 {σ:St}{H:Hp}{Q:List V->Hp->Prop}(h:TAv Γ (λ ρ s=>.ok [] s) σ H Q):bh7 σ H Q:=by
 obtain⟨φ,ρ,s,d,s',E,R,hm,q⟩:=h
 cases hm
 exact q [] φ H (Gr.refl _ _ _) (aw _) rfl .nil R
theorem bG1 {m:k6->kY->k8 kZ}{F:k6->kY->k8 (List kZ)}{σ:St}{H:Hp}{Q:List V->Hp->Prop}(h:TAv Γ (λ ρ s=>(m ρ s).bind λ d s=>(F ρ s).bind λ l s=>.ok (d::l) s) σ H Q):at9 (TEv Γ m) (TAv Γ F) σ H Q:=by
 obtain⟨φ,ρ,s,l,s',E,R,hm,q⟩:=h
 obtain⟨x,s1,e1,hm⟩:=aa5 hm
 obtain⟨y,s2,e2,hm⟩:=aa5 hm
 cases hm
 refine⟨φ,ρ,s,x,s1,E,R,e1,λ v1 φ1 H1 g1 l1 B r1 R1=>?_⟩
 refine⟨φ1,ρ,s1,y,_,E.mono g1 l1,R1,e2,λ Z φ2 Y J G b2 r2 R2=>?_⟩
 refine q (v1::Z) φ2 Y (g1.trans J l1) (av l1 G) ?_ (.cons (RV.mono J x v1 B r1) r2) R2
 unfold k7
 rw[zh G x B,b2];rfl
theorem aL2 {B:k6->kY->k8 (List kZ)}{f:List kZ->kY->k8 kZ}{σ:St}{H:Hp}{Q:VK}(h:TEv Γ (λ ρ s=>(B ρ s).bind λ l s=>f l s) σ H Q):tCB (rCl Γ f) (TAv Γ B) σ H Q:=by
 obtain⟨φ,ρ,s,d,s',E,R,hm,q⟩:=h
 obtain⟨l,s1,e1,hm⟩:=aa5 hm
 exact⟨φ,ρ,s,l,s1,E,R,e1,λ vs φ1 G g1 l1 F r1 R1=>⟨φ1,s1,l,d,s',R1,r1,F,hm,q.trans g1 l1⟩⟩
theorem cd9 {m:k6->kY->k8 kZ}{ml J:k6->kY->k8 kZ}{σ:St}{H:Hp}{Q:VK} :
  (TEv Γ (λ ρ s=>(m ρ s).bind λ x s=>(ml ρ s).bind λ y s=>match y with|.int i=>mD x (some i) none s|_=>.bad) σ H Q->tSl (rSl Γ) (TEv Γ m) (aY5 (TEv Γ ml)) aK7 σ H Q) /\
  (TEv Γ (λ ρ s=>(m ρ s).bind λ x s=>(J ρ s).bind λ y s=>match y with|.int i=>mD x none (some i) s|_=>.bad) σ H Q->tSl (rSl Γ) (TEv Γ m) aK7 (aY5 (TEv Γ J)) σ H Q) /\
  (TEv Γ (λ ρ s=>(m ρ s).bind λ x s=>(ml ρ s).bind λ y s=>match y with|.int i=>(J ρ s).bind (λ z s=>match z with|.int j=>mD x (some i) (some j) s|_=>.bad)|_=>.bad) σ H Q->tSl (rSl Γ) (TEv Γ m) (aY5 (TEv Γ ml)) (aY5 (TEv Γ J)) σ H Q):=by
 refine⟨λ h=>?_,λ h=>?_,λ h=>?_⟩
 ·obtain⟨φ,ρ,s,d,s',E,R,hm,q⟩:=h
  obtain⟨x,s1,e1,hm⟩:=aa5 hm
  obtain⟨y,s2,e2,hm⟩:=aa5 hm
  refine⟨φ,ρ,s,x,s1,E,R,e1,λ v1 φ1 Y g1 l1 G r1 R1=>?_⟩
  refine⟨φ1,ρ,s1,y,s2,E.mono g1 l1,R1,e2,λ v2 φ2 H2 F B b2 r2 R2=>?_⟩
  cases y with
  | int i=>exact⟨i,r2.intE,φ2,s2,x,d,s',R2,RV.mono F x v1 G r1,zh B x G,hm,q.trans (g1.trans F l1) (av l1 B)⟩
  | _=>exact fb hm
 ·obtain⟨φ,ρ,s,d,s',E,R,hm,q⟩:=h
  obtain⟨x,s1,e1,hm⟩:=aa5 hm
  obtain⟨y,s2,e2,hm⟩:=aa5 hm
  refine⟨φ,ρ,s,x,s1,E,R,e1,λ v1 φ1 Y g1 l1 G r1 R1=>?_⟩
  refine⟨φ1,ρ,s1,y,s2,E.mono g1 l1,R1,e2,λ v2 φ2 H2 F B b2 r2 R2=>?_⟩
  cases y with
  | int i=>exact⟨i,r2.intE,φ2,s2,x,d,s',R2,RV.mono F x v1 G r1,zh B x G,hm,q.trans (g1.trans F l1) (av l1 B)⟩
  | _=>exact fb hm
 ·obtain⟨φ,ρ,s,d,s',E,R,hm,q⟩:=h
  obtain⟨x,s1,e1,hm⟩:=aa5 hm
  obtain⟨y,s2,e2,hm⟩:=aa5 hm
  refine⟨φ,ρ,s,x,s1,E,R,e1,λ v1 φ1 Y g1 l1 G r1 R1=>?_⟩
  refine⟨φ1,ρ,s1,y,s2,E.mono g1 l1,R1,e2,λ v2 φ2 H2 F B b2 r2 R2=>?_⟩
  cases y with
  | int i =>
   obtain⟨z,s3,e3,hm⟩:=aa5 hm
   refine⟨i,r2.intE,φ2,ρ,s2,z,s3,E.mono (g1.trans F l1) (av l1 B),R2,e3,λ v3 φ3 H3 Z l3 b3 r3 R3=>?_⟩
   cases z with
   | int j=>exact⟨j,r3.intE,φ3,s3,x,d,s',R3,RV.mono (F.trans Z B) x v1 G r1,zh (av B l3) x G,hm,q.trans ((g1.trans F l1).trans Z (av l1 B)) (av (av l1 B) l3)⟩
   | _=>exact fb hm
  | _=>exact fb hm
variable {Γ:Gm} {X:Cx}
def aw3 (Γ:Gm)(J:It)(φ0:Nat->Addr)(H0:Hp)(s0:kY)(q:l8):Prop :=
 ∀ φ H s,Gr φ0 s0 H0 φ s H->s0.length<=s.length->Rp Γ φ H s->lJ s0 s q.src=true->∀ i:Nat,
  (i<q.its.length->J.go i H/\∀ x H',J.yld i H x H'->ak6 H H'/\∀ d,q.its[i]?=some d->RV Γ φ H' d x)/\(q.its.length<=i->J.stop i H)
def TIv (Γ:Gm)(m:k6->kY->k8 l8):TI:=λ σ H R=>∃ φ ρ s q s',RE Γ φ H s.length ρ σ/\Rp Γ φ H s/\m ρ s=.ok q s' /\
 ∀ J φ' H',Gr φ s H φ' s' H'->s.length<=s'.length->k7 s'.length q.its=true->Rp Γ φ' H' s'->aw3 Γ J φ' H' s' q->R J H'
theorem PI.imp {tg e:Expr}{t t':TI}(h:PI X tg e t)(i:∀ σ H R,t' σ H R->t σ H R):PI X tg e t':=λ B s σ H R I q=>h B s σ H R I (i σ H R q)
theorem PI.or {tg e:Expr}{t t':TI}(h:PI X tg e t)(h':PI X tg e t'):PI X tg e (λ σ H R=>t σ H R\/t' σ H R):=λ B s σ H R I q=>q.elim (h B s σ H R I) (h' B s σ H R I)
theorem bp1 {φ0:Nat->Addr}{H0:Hp}{s0:kY}{a:Addr}{F:List V}{l:List kZ}(h:SqT Γ.K H0 a F)(hl:RVL Γ φ0 H0 l F)(hb:k7 s0.length l=true):aw3 Γ (Itt Γ.K a) φ0 H0 s0 ⟨l,[]⟩:=by
 intro φ H s g _ R _ i
 have h':=g.w.kp.sqT h
 have B:=RVL.mono g l F hb hl
 refine⟨λ hlt=>⟨⟨F,F[i]'(by rw[B.length];exact hlt),h',aq _⟩,λ x H' y=>?_⟩,λ G=>⟨F,h',by rw[B.length];exact G⟩⟩
 obtain⟨e,y⟩:=y
 subst e
 refine⟨ak6.refl _,λ d hd=>?_⟩
 obtain⟨v,e1,e2⟩:=B.get hd
 rw[y F h']at e1;cases e1
 exact e2
theorem bF9 {φ0:Nat->Addr}{H0:Hp}{s0:kY}{a:Addr}{F:List V}{l:List kZ}(h:SqF Γ.K H0 a F)(hl:RVL Γ φ0 H0 l F)(hb:k7 s0.length l=true):aw3 Γ (Itl Γ.K a) φ0 H0 s0 ⟨l,[]⟩:=by
 intro φ H s g _ R _ i
 have h':=h.2 _ g.w.kp
 have B:=RVL.mono g l F hb hl
 refine⟨λ hlt=>⟨⟨F,F[i]'(by rw[B.length];exact hlt),h',aq _⟩,λ x H' y=>?_⟩,λ G=>⟨F,h',by rw[B.length];exact G⟩⟩
 obtain⟨e,y⟩:=y
 subst e
 refine⟨ak6.refl _,λ d hd=>?_⟩
 obtain⟨v,e1,e2⟩:=B.get hd
 rw[y F h']at e1;cases e1
 exact e2
theorem bo5 {φ0:Nat->Addr}{H0:Hp}{s0:kY}{r:Nat}{l:List kZ}(hr:s0[r]?=some (.lst l)):aw3 Γ (Itl Γ.K (φ0 r)) φ0 H0 s0 ⟨l,[r]⟩:=by
 intro φ H s g _ R J i
 have B:r<s0.length:=(ae.mp hr).1
 have hs:s[r]?=some (.lst l):=by
  unfold lJ at J
  simp only[dF,List.all_nil,iR,decide_eq_true_eq]at J
  rw[J];exact hr
 obtain⟨F,e,h⟩:=R.addr hs
 rw[g.w.map r B]at e
 have h':SqL Γ.K H (φ0 r) F:=SqL.of e
 refine⟨λ hlt=>⟨⟨F,F[i]'(by rw[h.length];exact hlt),h',aq _⟩,λ x H' y=>?_⟩,λ G=>⟨F,h',by rw[h.length];exact G⟩⟩
 obtain⟨e,y⟩:=y
 subst e
 refine⟨ak6.refl _,λ d hd=>?_⟩
 obtain⟨v,e1,e2⟩:=h.get hd
 rw[y F h']at e1;cases e1
 exact e2
theorem bp3 {φ0:Nat->Addr}{H0:Hp}{s0:kY}{l:List Nat}:aw3 Γ (Its ⟨l.toArray⟩) φ0 H0 s0 ⟨l.map λ c=>.str [c],[]⟩:=by
 intro φ H s g _ R _ i
 have hsz:(⟨l.toArray⟩:Str).cps.size=l.length:=by simp
 refine⟨λ hlt=>?_,λ h=>?_⟩
 ·simp only[aF]at hlt
  refine⟨show i<(⟨l.toArray⟩:Str).cps.size by rw[hsz];exact hlt,λ x H' y=>?_⟩
  obtain⟨e,c,hc,rfl⟩:=y
  subst e
  refine⟨ak6.refl _,λ d hd=>?_⟩
  have B:l[i]?=some c:=by simpa using hc
  rw[aN,B]at hd
  cases hd
  exact RV.strI (by simp;decide)
 ·simp only[aF]at h
  show(⟨l.toArray⟩:Str).cps.size<=i
  rw[hsz];exact h
theorem aQ5 {φ0:Nat->Addr}{H0:Hp}{s0:kY}{a b:Int}:aw3 Γ (Itr a (b - a).toNat) φ0 H0 s0 ⟨l9 a b,[]⟩:=by
 intro φ H s g _ R _ i
 have hn:(l9 a b).length=(b - a).toNat:=by simp[l9]
 refine⟨λ hlt=>⟨show i<(b - a).toNat by rw[<-hn];exact hlt,λ x H' y=>?_⟩,λ h=>show(b - a).toNat<=i by rw[<-hn];exact h⟩
 obtain⟨e,rfl⟩:=y
 subst e
 refine⟨ak6.refl _,λ d hd=>?_⟩
 simp only[l9]at hd hlt
 rw[aN,cB (by simpa using hlt)]at hd
 cases hd
 exact RV.intI
theorem bI7 {m:k6->kY->k8 kZ}{σ:St}{H:Hp}{R:It->Hp->Prop}(h:TIv Γ (λ ρ s=>(m ρ s).bind λ x s=>match x with|.int i=>if -lR<=i/\i<lR then .ok ⟨l9 0 i,[]⟩ s else .bad|_=>.bad) σ H R) :
  bL8 (at9 (TEv Γ m) bh7) σ H R:=by
 obtain⟨φ,ρ,s,q,s',E,P,hm,k⟩:=h
 obtain⟨x,s1,e1,hm⟩:=aa5 hm
 refine⟨φ,ρ,s,x,s1,E,P,e1,λ v φ1 F g l b r G=>?_⟩
 cases x with
 | int i =>
  simp only at hm
  split at hm
  ·rename_i B
   cases hm
   have hw:lR=2^62:=by decide
   rw[hw]at B
   refine⟨i,by rw[r.intE],B.1,B.2,k _ φ1 F g l ?_ G ?_⟩
   ·refine ag9.mpr λ d hd=>?_
    simp only[l9,aW]at hd
    obtain⟨_,_,rfl⟩:=hd
    rfl
   ·have:=aQ5 (Γ:=Γ) (φ0:=φ1) (H0:=F) (s0:=s') (a:=0) (b:=i)
    rwa [jr]at this
  ·exact fb hm
 | _=>exact fb hm
theorem bB9 {F G:k6->kY->k8 kZ}{σ:St}{H:Hp}{R:It->Hp->Prop}(h:TIv Γ (λ ρ s=>(F ρ s).bind λ x s=>(G ρ s).bind λ y s=>match x,y with|.int i,.int j=>if(-lR<=i/\i<lR)/\-lR<=j/\j<lR then .ok ⟨l9 i j,[]⟩ s else .bad|_,_=>.bad) σ H R) :
  bN8 (at9 (TEv Γ F) (at9 (TEv Γ G) bh7)) σ H R:=by
 obtain⟨φ,ρ,s,q,s',E,P,hm,k⟩:=h
 obtain⟨x,s1,e1,hm⟩:=aa5 hm
 obtain⟨y,s2,e2,hm⟩:=aa5 hm
 refine⟨φ,ρ,s,x,s1,E,P,e1,λ v φ1 H1 g l b r Y=>?_⟩
 refine⟨φ1,ρ,s1,y,s2,E.mono g l,Y,e2,λ v2 φ2 H2 g2 Z b2 r2 J=>?_⟩
 cases x with
 | int i =>
  cases y with
  | int j =>
   simp only at hm
   split at hm
   ·rename_i B
    cases hm
    have hw:lR=2^62:=by decide
    rw[hw]at B
    refine⟨i,j,by rw[r.intE,r2.intE],⟨B.1.1,B.1.2,B.2.1,B.2.2⟩,k _ φ2 H2 (g.trans g2 l) (av l Z) ?_ J aQ5⟩
    refine ag9.mpr λ d hd=>?_
    simp only[l9,aW]at hd
    obtain⟨_,_,rfl⟩:=hd
    rfl
   ·exact fb hm
  | _=>exact fb hm
 | _=>cases y<;>cases hm
theorem bU7 {m:k6->kY->k8 kZ}{σ:St}{H:Hp}{R:It->Hp->Prop}(h:TIv Γ (λ ρ s=>(m ρ s).bind λ d s=>DV.aA8 d s) σ H R) :
  cg6 Γ.K (TEv Γ m) σ H R\/bI4 Γ.K (TEv Γ m) σ H R\/cn6 (TEv Γ m) σ H R:=by
 obtain⟨φ,ρ,s,q,s',E,P,hm,k⟩:=h
 obtain⟨x,s1,e1,hm⟩:=aa5 hm
 unfold DV.aA8 at hm
 cases x with
 | tup l =>
  cases hm
  refine .inl ⟨φ,ρ,s,_,_,E,P,e1,λ v φ1 F g l b r B=>?_⟩
  obtain⟨a,J,rfl,Z,d1⟩:=r.tupE
  unfold la at b
  exact⟨a,rfl,⟨J,Z⟩,k _ φ1 F g l b B (bp1 Z d1 b)⟩
 | str l =>
  cases hm
  refine .inr (.inr ⟨φ,ρ,s,_,_,E,P,e1,λ v φ1 F g G b r B=>?_⟩)
  refine⟨_,r.strE,k _ φ1 F g G ?_ B bp3⟩
  refine ag9.mpr λ d hd=>?_
  simp only[aW]at hd
  obtain⟨_,_,rfl⟩:=hd
  rfl
 | ref r =>
  simp only at hm
  cases hs:s1[r]? with
  | none=>rw[hs]at hm;cases hm
  | some o =>
   rw[hs]at hm
   cases o with
   | lst l =>
    cases hm
    refine .inr (.inl ⟨φ,ρ,s,_,_,E,P,e1,λ v φ1 F g G b Y B=>?_⟩)
    have e:=Y.refE;subst e
    obtain⟨J,e2,d1⟩:=B.addr hs
    have wf:=B.wf _ _ hs
    unfold lb at wf
    exact⟨φ1 r,rfl,⟨J,SqL.of e2⟩,k _ φ1 F g G wf B (bo5 hs)⟩
   | ro l =>
    cases hm
    refine .inr (.inl ⟨φ,ρ,s,_,_,E,P,e1,λ v φ1 F g G b Y B=>?_⟩)
    have e:=Y.refE;subst e
    obtain⟨J,e2,d1⟩:=B.obj _ _ hs
    have wf:=B.wf _ _ hs
    unfold lb at wf
    exact⟨φ1 r,rfl,⟨J,e2.1⟩,k _ φ1 F g G wf B (bF9 e2 d1 wf)⟩
   | dic l=>exact fb hm
   | dit l=>exact fb hm
   | ins c l=>exact fb hm
 | _=>exact fb hm
variable {Γ:Gm} {X:Cx}
noncomputable def cb5:List Nat->TGs
 | []=>cl8
 | i::is=>bO3 (aF9 i) (cb5 is)
noncomputable def gOf (K:ac):lL->TG
 | .one i=>aF9 i
 | .tup is=>ch2 K is.length (cb5 is)
theorem bf8 {φ:Nat->Addr}{H:Hp}{n:Nat}{ρ ρ':k6}{σ:St}{i:Nat}{d:kZ}{v:V}(E:RE Γ φ H n ρ σ)(r:RV Γ φ H d v)(b:d.bnd n=true)(h:lM ρ i d=some ρ'):RE Γ φ H n ρ' (σ.set i (some v)):=by
 unfold lM at h
 split at h
 ·rename_i B
  cases h
  refine⟨by rw[bK,bK];exact E.len,λ j e hj=>?_⟩
  by_cases hij:j=i
  ·subst hij
   rw[a9 B]at hj
   cases hj
   exact⟨b,v,by rw[a9 (by rw[<-E.len];exact B)],r⟩
  ·rw[bh (cC hij)]at hj
   obtain⟨F,w,G,h3⟩:=E.val j e hj
   exact⟨F,w,by rw[bh (cC hij)];exact G,h3⟩
 ·cases h
theorem bZ7 {φ:Nat->Addr}{H:Hp}{n:Nat}{Q:St->Hp->Prop}:∀(is:List Nat) (l:List kZ) (B:List V) (ρ ρ':k6) (σ:St),RE Γ φ H n ρ σ->RVL Γ φ H l B->k7 n l=true->mG ρ is l=some ρ'->(∀ σ',RE Γ φ H n ρ' σ'->Q σ' H)->cb5 is B σ H Q
 | [],[],B,ρ,ρ',σ,E,r,_,h,k=>by
  cases h
  exact⟨r.unnil,k σ E⟩
 | [],d::l,_,_,_,_,_,_,_,h,_=>by cases h
 | i::is,[],_,_,_,_,_,_,_,h,_=>by cases h
 | i::is,d::l,B,ρ,ρ',σ,E,r,b,h,k=>by
  have h:(lM ρ i d).bind (λ ρ=>mG ρ is l)=some ρ':=h
  obtain⟨x,F,rfl,J,G⟩:=r.uncons
  unfold k7 at b
  rw[aj]at b
  cases e:lM ρ i d with
  | none=>rw[e]at h;cases h
  | some ρ1 =>
   rw[e]at h
   exact⟨x,F,rfl,bZ7 is l F ρ1 ρ' _ (bf8 E J b.1 e) G b.2 h k⟩
theorem aW6 {l:List kZ}:∀ {is:List Nat} {ρ ρ':k6},mG ρ is l=some ρ'->is.length=l.length:=by
 induction l with
 | nil=>intro is ρ ρ' h;cases is with
  | nil=>rfl
  | cons i is=>cases h
 | cons d l ih=>intro is ρ ρ' h;cases is with
  | nil=>cases h
  | cons i is =>
   have h:(lM ρ i d).bind (λ ρ=>mG ρ is l)=some ρ':=h
   cases e:lM ρ i d with
   | none=>rw[e]at h;cases h
   | some ρ1=>rw[e]at h;rw[bq,bq,ih h]
theorem bn3 {φ:Nat->Addr}{H:Hp}{n:Nat}{Q:St->Hp->Prop}{tg:lL}{d:kZ}{v:V}{ρ ρ':k6}{σ:St}(E:RE Γ φ H n ρ σ)(r:RV Γ φ H d v)(b:d.bnd n=true)(h:lA ρ tg d=some ρ')(k:∀ σ',RE Γ φ H n ρ' σ'->Q σ' H):gOf Γ.K tg v σ H Q:=by
 cases tg with
 | one i=>exact k _ (bf8 E r b h)
 | tup is =>
  cases d with
  | tup l =>
   have h:mG ρ is l=some ρ':=h
   obtain⟨a,B,rfl,F,d1⟩:=r.tupE
   unfold la at b
   exact⟨a,B,rfl,F,by rw[d1.length,aW6 h],bZ7 is l B ρ ρ' σ E d1 b h k⟩
  | _=>cases h
def Off (φ:Nat->Addr)(s:kY)(b:Addr):Prop:=∀(i:Nat) (ob:lG),s[i]?=some ob->isMut ob=true->φ i≠b
theorem Off.mono {φ φ':Nat->Addr}{s s':kY}{H H':Hp}{b:Addr}{o:HO}(h:Off φ s b)(g:Gr φ s H φ' s' H')(hb:H b=some o):Off φ' s' b:=λ i ob e m z=>by
 by_cases G:i<s.length
 ·obtain⟨B,F⟩:∃ B,s[i]?=some B:=⟨s[i],aq G⟩
  exact h i B F (g.mu i B ob F e m) (by rw[<-g.w.map i G];exact z)
 ·have:=g.new i (by omega) (ae.mp e).1
  rw[z,hb]at this;cases this
theorem Off.new {φ:Nat->Addr}{s:kY}{H:Hp}{b:Addr}(r:Rp Γ φ H s)(h:H b=none):Off φ s b:=λ i ob e m z=>by
 obtain⟨u,hu,_⟩:=(r.obj i ob e).there m
 rw[z,h]at hu;cases hu
theorem Rp.foreign {φ:Nat->Addr}{s:kY}{H:Hp}{b:Addr}{ys h:List V}(r:Rp Γ φ H s)(hb:H b=some (.lst ys))(ho:Off φ s b):Rp Γ φ (upd H b (.lst h)) s:=by
 have g:Gw φ s.length H φ (upd H b (.lst h)):=⟨λ _ _=>rfl,(Kp.refl H).put hb rfl⟩
 exact⟨r.inj,λ i o e=>(r.obj i o e).mono g (r.wf i o e) λ m u hu=>by rw[zm (ho i o e m)];exact hu,r.wf,r.tab.put hb⟩
theorem Gr.foreign {φ φ':Nat->Addr}{s s':kY}{H H':Hp}{b:Addr}{ys B:List V}(g:Gr φ s H φ' s' H')(h0:H b=none)(hb:H' b=some (.lst ys)):Gr φ s H φ' s' (upd H' b (.lst B)):=by
 have ne:∀ c o,H c=some o->c≠b:=λ c o e=>zr e h0
 refine⟨⟨g.w.map,λ c o e f=>?_⟩,g.le,g.new,g.kd,λ c hc=>?_,λ c o e F h=>?_⟩
 ·rw[zm (ne c o e)];exact g.w.kp c o e f
 ·unfold upd;split
  ·simp
  ·exact g.st c hc
 ·rw[zm (ne c o e)];exact g.fr c o e F h
def bP7 (Γ:Gm)(φ:Nat->Addr)(s:kY)(H:Hp)(l:List kZ)(s':kY)(Q:VK):Prop :=
 ∀ p ys φ' H',Gr φ s H φ' s' H'->s.length<=s'.length->k7 s'.length l=true->H' p=some (.lst ys)->H p=none->Off φ' s' p->RVL Γ φ' H' l ys->Rp Γ φ' H' s'->Q (.ref p) H'
def TFv (Γ:Gm)(m:k6->kY->k8 (List kZ)):TE:=λ σ H Q=>∃ φ ρ s l s',RE Γ φ H s.length ρ σ/\Rp Γ φ H s/\m ρ s=.ok l s'/\bP7 Γ φ s H l s' Q
theorem bb7 {m:k6->kY->k8 (List kZ)}{σ:St}{H:Hp}{Q:VK}(h:TEv Γ (λ ρ s=>(m ρ s).bind λ l s=>l6 (.lst l) s) σ H Q):TFv Γ m σ H Q:=by
 obtain⟨φ,ρ,s,d,s',E,R,hm,q⟩:=h
 obtain⟨l,s1,e1,hm⟩:=aa5 hm
 obtain⟨rfl,rfl⟩:=qj hm
 refine⟨φ,ρ,s,l,s1,E,R,e1,λ p ys φ' H' g hl hb hp h0 ho r J=>?_⟩
 have gw:Gw φ' s1.length H' (λ i=>if i=s1.length then p else φ' i) H':=⟨λ i B=>if_neg (aJ B),Kp.refl _⟩
 have key:∀(i:Nat) (F:lG),(s1++[DV.O.lst l])[i]?=some F->(i<s1.length/\s1[i]?=some F)\/(i=s1.length/\F=.lst l):=λ i F e=>by
  rcases eg i s1.length with h|h|h
  ·rw[aP h]at e;exact .inl ⟨h,e⟩
  ·subst h;simp at e;exact .inr ⟨rfl,e.symm⟩
  ·rw[bM (by simp;omega)]at e;cases e
 have G:Gr φ s H (λ i=>if i=s1.length then p else φ' i) (s1++[.lst l]) H':=by
  refine⟨⟨λ i B=>by show(if i=s1.length then p else φ' i)=_;rw[if_neg (by omega)];exact g.w.map i B,g.w.kp⟩,by simp;omega,λ i h1 h2=>?_,λ i o F e e'=>?_,g.st,g.fr⟩
  ·by_cases B:i=s1.length
   ·show H (if i=s1.length then p else φ' i)=none
    rw[if_pos B];exact h0
   ·show H (if i=s1.length then p else φ' i)=none
    rw[if_neg B];exact g.new i h1 (by simp at h2;omega)
  ·rcases key i F e' with⟨_,e2⟩|⟨B,_⟩
   ·exact g.kd i o F e e2
   ·have:=(ae.mp e).1;omega
 have P:Rp Γ (λ i=>if i=s1.length then p else φ' i) H' (s1++[.lst l]):=by
  refine⟨λ i j oi Z Y ej mi mj e=>?_,λ i o e=>?_,λ i o e=>?_,J.tab⟩
  ·rcases key i oi Y with⟨B,Y⟩|⟨B,_⟩<;>rcases key j Z ej with⟨hj,ej⟩|⟨hj,_⟩
   ·rw[if_neg (aJ B),if_neg (aJ hj)]at e
    exact J.inj i j oi Z Y ej mi mj e
   ·rw[if_neg (aJ B),if_pos hj]at e
    exact absurd e (ho i oi Y mi)
   ·rw[if_neg (aJ hj),if_pos B]at e
    exact absurd e.symm (ho j Z ej mj)
   ·rw[B,hj]
  ·rcases key i o e with⟨B,e⟩|⟨B,rfl⟩
   ·show RO Γ _ _ (if i=s1.length then p else φ' i) o
    rw[if_neg (aJ B)]
    exact(J.obj i o e).mono gw (J.wf i o e) λ _ u hu=>hu
   ·show RO Γ _ _ (if i=s1.length then p else φ' i) _
    rw[if_pos B]
    exact⟨ys,hp,RVL.monoW gw l ys hb r⟩
  ·rw[ax,di]
   rcases key i o e with⟨_,e⟩|⟨_,rfl⟩
   ·exact zW (dv _) _ (J.wf i o e)
   ·exact zW (dv _) _ (by unfold lb;exact hb)
 exact q (.ref p) _ H' G (by simp;omega) (by unfold la;simp) (by unfold RV;simp) P
theorem bN5 {φ:Nat->Addr}{H:Hp}{n:Nat}{ρ:k6}{σ:St}(E:RE Γ φ H n ρ σ)(h:List (Option Nat)):RE Γ φ H n (mq ρ h) (aD1 h σ):=by
 refine⟨by unfold mq aD1;simp,λ i d e=>?_⟩
 unfold mq at e
 rw[aN]at e
 cases q:h[i]? with
 | none=>rw[q]at e;cases e
 | some o =>
  rw[q]at e
  cases o with
  | none=>cases e
  | some j =>
   have e':(ρ[j]?).join=some d:=aE e
   have ej:ρ[j]?=some (some d):=by
    cases q2:ρ[j]? with
    | none=>rw[q2]at e';cases e'
    | some o2=>rw[q2]at e';exact congrArg some e'
   obtain⟨b,v,F,B⟩:=E.val j d ej
   refine⟨b,v,?_,B⟩
   unfold aD1
   rw[aN,q]
   show some ((σ[j]?).join)=_
   rw[F];rfl
theorem be0 {mI:k6->kY->k8 l8}{mc me:k6->kY->k8 kZ}{tg:lL}{G:List (Option Nat)}{σ:St}{H:Hp}{Q:VK}
  (h:TFv Γ (λ ρ s=>(mI ρ s).bind λ q s0=>if q.its.length<=lh then ma (λ s=>lJ s0 s q.src) (λ d ρ s=>match lA ρ tg d with
   | some ρ=>lq (mc ρ s) λ k s=>if k then(me ρ s).bind λ v s=>.ok (some v,ρ) s else .ok (none,ρ) s
   | none=>.bad) q.its (mq ρ G) s0 else .bad) σ H Q):tComp G (TIv Γ mI) (gOf Γ.K tg) (TTv Γ mc) (TEv Γ me) σ H Q:=by
 obtain⟨φ,ρ,s,l,s',E,R,hm,k⟩:=h
 obtain⟨q,s0,e1,hm⟩:=aa5 hm
 split at hm
 case isFalse=>exact fb hm
 rename_i b4
 refine⟨φ,ρ,s,q,s0,E,R,e1,λ J φ1 H1 g1 l1 b1 R1 wk D hD=>?_⟩
 have h0:H D=none:=by
  cases e:H D with
  | none=>rfl
  | some o=>exact absurd hD (g1.st D (by rw[e];simp))
 refine⟨λ i m σ' H'=>∃ φ' ρ' t B ys rest,Gr φ1 s0 H1 φ' t H'/\Rp Γ φ' H' t/\RE Γ φ' H' t.length ρ' σ'/\H' D=some (.lst ys)/\Off φ' t D/\RVL Γ φ' H' B ys/\k7 t.length B=true/\B.length<=i/\i<=q.its.length/\m=q.its.length - i /\
  ma (λ s=>lJ s0 s q.src) (λ d ρ s=>match lA ρ tg d with
   | some ρ=>lq (mc ρ s) λ k s=>if k then(me ρ s).bind λ v s=>.ok (some v,ρ) s else .ok (none,ρ) s
   | none=>.bad) (q.its.drop i) ρ' t=.ok rest s'/\l=B++rest,⟨q.its.length,?_⟩,?_⟩
 ·obtain⟨g2,R2⟩:=R1.same (H':=upd H1 D (.lst [])) ((ak6.refl H1).new hD)
  exact⟨φ1,mq ρ G,s0,[],[],l,g2,R2,bN5 ((E.mono g1 l1).mono g2 (aw _)) G,zx,Off.new R1 hD,.nil,rfl,aw _,cN _,by simp,by rw[ed];exact hm,rfl⟩
 ·rintro i m σ' H' ⟨φ',ρ',t,B,ys,rest,g,R',E',hy,a3,ra,ba,b6,c0,rfl,hc,hl⟩
  have F:=g.le
  rcases js i q.its.length with hlt|hge
  ·have hd:q.its[i]?=some q.its[i]:=aq hlt
   rw[dE hlt]at hc
   unfold ma at hc
   split at hc
   case isFalse=>exact fb hc
   rename_i a1
   obtain⟨b0,a6⟩:=(wk φ' H' t g F R' a1 i).1 hlt
   refine .inr ⟨b0,_,λ σ2 H2 n=>⟨q.its.length - (i+1),by omega,n⟩,λ x H2 b2=>?_⟩
   obtain⟨sm,rv⟩:=a6 x H2 b2
   obtain⟨g2,R2⟩:=R'.same sm
   have rd:=rv _ hd
   have bd:(q.its[i]).bnd t.length=true:=zh F _ (am8 b1 hd)
   obtain⟨p,t3,hs,hc⟩:=aa5 hc
   obtain⟨r2,t4,a5,hc⟩:=aa5 hc
   cases hb:lA ρ' tg q.its[i]with
   | none=>rw[hb]at hs;cases hs
   | some ρ3 =>
    rw[hb]at hs
    refine bn3 (E'.mono g2 (aw _)) rd bd hb λ σ3 E3=>?_
    obtain⟨c,t1,ec,hs⟩:=zE hs
    refine⟨φ',ρ3,t,c,t1,E3,R2,ec,λ φ2 H4 g4 l4 R4=>?_⟩
    have a4:H2 D=some (.lst ys):=sm _ _ hy
    have a2:H4 D=some (.lst ys):=g4.fr D _ a4 (by nofun) a3
    have Y:Off φ2 t1 D:=a3.mono g4 a4
    have G4:=(g.trans g2 F).trans g4 F
    cases c with
    | true =>
     rw[if_pos rfl]at hs
     refine iteT ?_
     obtain⟨v,t2,ev,hs⟩:=aa5 hs
     cases hs
     refine⟨φ2,ρ3,t1,v,t3,E3.mono g4 l4,R4,ev,λ w φ3 H5 g5 l5 b5 r5 R5=>?_⟩
     have Z:H5 D=some (.lst ys):=g5.fr D _ a2 (by nofun) Y
     have a0:Off φ3 t3 D:=Y.mono g5 a2
     refine⟨ys,Z,?_,?_⟩
     ·rw[ra.length]
      have:=zI
      omega
     ·have gw:Gw φ3 t3.length H5 φ3 (upd H5 D (.lst (ys++[w]))):=⟨λ _ _=>rfl,(Kp.refl H5).put Z rfl⟩
      have G5:=G4.trans g5 (av F l4)
      have GG:=g2.trans (g4.trans g5 l4) (aw _)
      have b3:RVL Γ φ3 H5 B ys:=RVL.mono GG _ _ ba ra
      have bb:k7 t3.length (B++[v])=true:=zK (ah2 GG.le _ ba) (by unfold k7;rw[b5];rfl)
      refine⟨φ3,ρ3,t3,B++[v],ys++[w],r2,G5.foreign hD Z,R5.foreign Z a0,?_,zx,a0,RVL.monoW gw _ _ bb (b3.append (.cons r5 .nil)),bb,by simp;omega,hlt,rfl,?_,?_⟩
      ·have E5:=(E3.mono g4 l4).mono g5 l5
       exact⟨E5.len,λ j e hj=>by
        obtain⟨h1,z,h2,h3⟩:=E5.val j e hj
        exact⟨h1,z,h2,RV.monoW gw _ _ h1 h3⟩⟩
      ·cases hc;exact a5
      ·cases hc;rw[hl];simp
    | false =>
     rw[if_neg aX]at hs
     refine cp0 ?_
     cases hs
     have GG:=g2.trans g4 (aw _)
     exact⟨φ2,ρ3,t3,B,ys,r2,G4,R4,E3.mono g4 l4,a2,Y,RVL.mono GG _ _ ba ra,ah2 l4 _ ba,by omega,hlt,rfl,by cases hc;exact a5,by cases hc;exact hl⟩
  ·have hi:i=q.its.length:=by omega
   rw[eA hge]at hc
   unfold ma at hc
   split at hc
   case isFalse=>exact fb hc
   rename_i a1
   cases hc
   refine .inl ⟨(wk φ' H' s' g F R' a1 i).2 hge,?_⟩
   rw[bv]at hl
   subst hl
   exact k D ys φ' H' (g1.trans g l1) (av l1 F) ba hy h0 a3 ra R'
variable {Γ:Gm} {X:Cx}
noncomputable def cm4 (Γ:Gm)(φ:Nat->Addr)(H:Hp)(n:Nat)(D:Ends):lH->Prop
 | .next ρ=>∀ σ,RE Γ φ H n ρ σ->D.nx σ H
 | .ret d=>∀ v,d.bnd n=true->RV Γ φ H d v->D.rt v H
 | .cont ρ=>∀ σ,RE Γ φ H n ρ σ->D.ct σ H
 | .brk ρ=>∀ σ,RE Γ φ H n ρ σ->D.bk σ H
def ar8 (Γ:Gm)(φ:Nat->Addr)(s:kY)(H:Hp)(c:lH)(s':kY)(D:Ends):Prop :=
 ∀ φ' H',Gr φ s H φ' s' H'->s.length<=s'.length->Rp Γ φ' H' s'->cm4 Γ φ' H' s'.length D c
def TSv (Γ:Gm)(m:k6->kY->k8 lH):TS:=λ D σ H=>∃ φ ρ s c s',RE Γ φ H s.length ρ σ/\Rp Γ φ H s/\m ρ s=.ok c s'/\ar8 Γ φ s H c s' D
theorem PS.imp {e:Stmt}{t t':TS}(h:PS X e t)(i:∀ D σ H,t' D σ H->t D σ H):PS X e t':=λ B s σ H Q I q=>h B s σ H Q I (i Q σ H q)
theorem PSs.imp {e:List Stmt}{t t':TS}(h:PSs X e t)(i:∀ D σ H,t' D σ H->t D σ H):PSs X e t':=λ B s σ H Q I q=>h B s σ H Q I (i Q σ H q)
theorem ar8.trans {φ φ1:Nat->Addr}{s s1 s':kY}{H B:Hp}{c:lH}{D:Ends}(h:ar8 Γ φ s H c s' D)(g:Gr φ s H φ1 s1 B)(l:s.length<=s1.length):ar8 Γ φ1 s1 B c s' D :=
 λ φ' H' g' F p=>h φ' H' (g.trans g' l) (av l F) p
theorem ar8.here {φ:Nat->Addr}{s:kY}{H:Hp}{c:lH}{D:Ends}(h:ar8 Γ φ s H c s D)(p:Rp Γ φ H s):cm4 Γ φ H s.length D c:=h φ H (Gr.refl φ s H) (aw _) p
variable {D:Ends} {σ:St} {H:Hp}
theorem bH3 {m:k6->kY->k8 lH}(hm:∀ ρ s,m ρ s=.ok (.next ρ) s)(h:TSv Γ m D σ H):bR9 D σ H:=by
 obtain⟨φ,ρ,s,c,s',E,R,e,q⟩:=h
 rw[hm]at e;cases e
 exact q.here R σ E
theorem bA9 (h:TSv Γ (λ ρ s=>.ok (.cont ρ) s) D σ H):bK4 D σ H:=by
 obtain⟨φ,ρ,s,c,s',E,R,e,q⟩:=h
 cases e
 exact q.here R σ E
theorem bz2 (h:TSv Γ (λ ρ s=>.ok (.ret .non) s) D σ H):bN3 D σ H:=by
 obtain⟨φ,ρ,s,c,s',E,R,e,q⟩:=h
 cases e
 exact q.here R .non rfl RV.nonI
theorem bY3 {m:k6->kY->k8 kZ}(h:TSv Γ (λ ρ s=>(m ρ s).bind λ d s=>.ok (.ret d) s) D σ H):ck8 (TEv Γ m) D σ H:=by
 obtain⟨φ,ρ,s,c,s',E,R,e,q⟩:=h
 obtain⟨x,s1,e1,e⟩:=aa5 e
 cases e
 exact⟨φ,ρ,s,x,_,E,R,e1,λ v φ1 F g1 l1 B r1 R1=>q φ1 F g1 l1 R1 v B r1⟩
theorem bw6 {m:k6->kY->k8 kZ}(h:TSv Γ (λ ρ s=>(m ρ s).bind λ _ s=>.ok (.next ρ) s) D σ H):bK8 (TEv Γ m) D σ H:=by
 obtain⟨φ,ρ,s,c,s',E,R,e,q⟩:=h
 obtain⟨x,s1,e1,e⟩:=aa5 e
 cases e
 exact⟨φ,ρ,s,x,_,E,R,e1,λ v φ1 B g1 l1 F r1 R1=>q φ1 B g1 l1 R1 σ (E.mono g1 l1)⟩
theorem bg2 {m:k6->kY->k8 kZ}{tg:lL}(h:TSv Γ (λ ρ s=>(m ρ s).bind λ d s=>match lA ρ tg d with|some ρ=>.ok (.next ρ) s|none=>.bad) D σ H):bk8 (TEv Γ m) (gOf Γ.K tg) D σ H:=by
 obtain⟨φ,ρ,s,c,s',E,R,e,q⟩:=h
 obtain⟨x,s1,e1,e⟩:=aa5 e
 refine⟨φ,ρ,s,x,s1,E,R,e1,λ v φ1 F g1 l1 B r1 R1=>?_⟩
 cases hb:lA ρ tg x with
 | none=>rw[hb]at e;cases e
 | some ρ1 =>
  rw[hb]at e
  cases e
  exact bn3 (E.mono g1 l1) r1 B hb λ σ' G=>q φ1 F g1 l1 R1 σ' G
theorem bl7 {m:k6->kY->k8 (List kZ)}(h:TSv Γ (λ ρ s=>((m ρ s).bind λ l s=>l6 (.lst l) s).bind λ d s=>match lA ρ tg d with|some ρ=>.ok (.next ρ) s|none=>.bad) D σ H):bk8 (TFv Γ m) (gOf Γ.K tg) D σ H :=
 bb7 (bg2 h)
def bW2 (Γ:Gm):ca5:=λ o i v H Q=>∃ φ s x y d s',Rp Γ φ H s/\RV Γ φ H x o/\RV Γ φ H y i/\RV Γ φ H d v/\x.bnd s.length=true/\y.bnd s.length=true/\d.bnd s.length=true/\DV.setIx x y d s=.ok () s' /\
 ∀ φ' H',Gr φ s H φ' s' H'->s.length<=s'.length->Rp Γ φ' H' s'->Q H'
theorem bq2 {Y mo mi:k6->kY->k8 kZ}(h:TSv Γ (λ ρ s=>(Y ρ s).bind λ d s=>(mo ρ s).bind λ x s=>(mi ρ s).bind λ y s=>(DV.setIx x y d s).bind λ _ s=>.ok (.next ρ) s) D σ H) :
  bk8 (TEv Γ Y) (cm5 (TEv Γ mo) (TEv Γ mi) (bW2 Γ)) D σ H:=by
 obtain⟨φ,ρ,s,c,s',E,R,e,q⟩:=h
 obtain⟨d,s1,e1,e⟩:=aa5 e
 obtain⟨x,s2,e2,e⟩:=aa5 e
 obtain⟨y,s3,e3,e⟩:=aa5 e
 obtain⟨u,s4,e4,e⟩:=aa5 e
 cases e
 refine⟨φ,ρ,s,d,s1,E,R,e1,λ v1 φ1 H1 g1 l1 Z r1 R1=>?_⟩
 refine⟨φ1,ρ,s1,x,s2,E.mono g1 l1,R1,e2,λ v2 φ2 H2 g2 B b2 r2 R2=>?_⟩
 have G2:=g1.trans g2 l1
 have L2:=av l1 B
 refine⟨φ2,ρ,s2,y,s3,E.mono G2 L2,R2,e3,λ v3 φ3 H3 F G b3 r3 R3=>?_⟩
 refine⟨φ3,s3,x,y,d,_,R3,RV.mono F x v2 b2 r2,r3,RV.mono (g2.trans F B) d v1 Z r1,zh G x b2,b3,zh (av B G) d Z,e4,λ φ4 H4 g4 J R4=>?_⟩
 have G3:=G2.trans F L2
 have L3:=av L2 G
 exact q φ4 H4 (G3.trans g4 L3) (av L3 J) R4 σ (E.mono (G3.trans g4 L3) (av L3 J))
theorem bV0 (hu:X.A.units+2<cLine):cf7 X (bW2 Γ):=by
 intro J sh σ H o i v ov iv u Q I ro ri rv h
 obtain⟨φ,s,x,y,d,s',R,rx,ry,rd,bx,Y,bd,hm,q⟩:=h
 cases x with
 | ref r =>
  have hm:(match s[r]? with
   | some (.lst l)=>(match y with
    | .int i=>(match lW l.length i with|some j=>DV.R.ok () (s.set r (.lst (l.set j d)))|none=>.bad)
    | _=>.bad)
   | some (.dic l)=>if y.key&&decide (l.length<lh)then .ok () (s.set r (.dic (lw y d l)))else .bad
   | some (.dit l)=>if y.keyT&&decide (l.length<lh)then .ok () (s.set r (.dit (lw y d l)))else .bad
   | _=>.bad)=.ok () s':=hm
  cases e:s[r]? with
  | none=>rw[e]at hm;cases hm
  | some ob =>
   rw[e]at hm
   cases ob with
   | lst l =>
    cases y with
    | int k =>
     have hm:(match lW l.length k with|some j=>DV.R.ok () (s.set r (.lst (l.set j d)))|none=>.bad)=.ok () s':=hm
     cases ej:lW l.length k with
     | none=>rw[ej]at hm;cases hm
     | some j =>
      rw[ej]at hm
      cases hm
      obtain⟨xs,Z,B⟩:=R.addr e
      have hb:k7 s.length (l.set j d)=true:=ag9.mpr λ z hz=>by
       rcases List.mem_or_eq_of_mem_set hz with h|h
       ·exact ag9.mp (by have:=R.wf r _ e;unfold lb at this;exact this) z h
       ·subst h;exact bd
      refine bp4 J sh σ H o i v ov iv u Q I ro ri rv ⟨φ r,xs,k,j,rx.refE,ry.intE,Z,?_,?_⟩
      ·rw[B.length];exact ej
      ·obtain⟨g,R'⟩:=R.set (o:=.lst (l.set j d)) (u:=.lst (xs.set j v)) e rfl hb λ H' g e=>⟨_,e,RVL.monoW g _ _ hb (B.set j rd)⟩
       exact q _ _ g (by simp) R'
    | _=>exact fb hm
   | dic l =>
    have hm:(if y.key&&decide (l.length<lh)then DV.R.ok () (s.set r (.dic (lw y d l)))else .bad)=.ok () s':=hm
    split at hm
    case isFalse=>exact fb hm
    rename_i hc
    cases hm
    rw[aj]at hc
    obtain⟨k,hk⟩:=az5 hc.1
    have hlt:=of_decide_eq_true hc.2
    obtain⟨G,Z,B⟩:=R.obj r _ e
    have ex:=rx.refE;subst ex
    cases ro
    have ey:=bc7 hk ry;subst ey
    have hb:(DV.O.dic (lw y d l)).bnd s.length=true:=aM7 (R.wf r _ e) Y bd
    have F:k7 s.length ((lw y d l).map (·.2))=true:=by
     unfold lb at hb
     rw[aj]at hb
     exact hb.2
    obtain⟨g,R'⟩:=R.set (o:=.dic (lw y d l)) (u:=.dK (aG7 G k v)) e rfl hb λ H' g e=>⟨_,e,RVD.monoW g _ _ F (B.put keyOf_inj hk rd)⟩
    exact aB5 hu I (bI3.k Z (by rw[B.length];exact aG hlt zI)) ri rv λ s4 I4=>⟨_,I4,q _ _ g (by simp) R'⟩
   | dit l =>
    have hm:(if y.keyT&&decide (l.length<lh)then DV.R.ok () (s.set r (.dit (lw y d l)))else .bad)=.ok () s':=hm
    split at hm
    case isFalse=>exact fb hm
    rename_i hc
    cases hm
    rw[aj]at hc
    obtain⟨k,hk⟩:=al6 hc.1
    have hlt:=of_decide_eq_true hc.2
    obtain⟨G,Z,B⟩:=R.obj r _ e
    have ex:=rx.refE;subst ex
    cases ro
    obtain⟨kb,ey,a0⟩:=aA0 hk ry;subst ey
    have hb:(DV.O.dit (lw y d l)).bnd s.length=true:=bk1 (R.wf r _ e) Y bd
    have F:k7 s.length ((lw y d l).map (·.2))=true:=by
     unfold lb at hb
     rw[aj]at hb
     exact hb.2
    obtain⟨g,R'⟩:=R.set (o:=.dit (lw y d l)) (u:=.dT (aG7 G k v)) e rfl hb λ H' g e=>⟨_,e,RVD.monoW g _ _ F (B.put keyT_inj hk rd)⟩
    exact aB5 hu I (bI3.t Z a0 (by rw[B.length];exact aG hlt zI)) ri rv λ s4 I4=>⟨_,I4,q _ _ g (by simp) R'⟩
   | _=>exact fb hm
 | _=>exact fb hm
theorem bJ6 {i:Nat}{m:k6->kY->k8 kZ} (h:TSv Γ (λ ρ s=>(mW ρ i s).bind λ x s=>(m ρ s).bind λ y s=>match x,y with
  | .int a,.int b=>match lM ρ i (.int (a+b))with|some ρ=>.ok (.next ρ) s|none=>.bad
  | _,_=>.bad) D σ H):cm9 i (TEv Γ m) (ipI λ i j=>i+j) D σ H:=by
 obtain⟨φ,ρ,s,c,s',E,R,B,q⟩:=h
 obtain⟨x,s1,e1,F⟩:=aa5 B
 obtain⟨y,s2,e2,e⟩:=aa5 F
 clear B F
 unfold mW at e1
 split at e1
 case h_2=>cases e1
 rename_i d hd
 cases e1
 obtain⟨b,v,Y,J⟩:=E.val i _ hd
 refine⟨v,Y,φ,ρ,s,y,s2,E,R,e2,λ w φ1 G g1 l1 Z r1 R1=>?_⟩
 cases x with
 | int a =>
  cases y with
  | int b =>
   refine⟨a,b,J.intE,r1.intE,?_⟩
   have e:(match lM ρ i (.int (a+b))with|some ρ=>DV.R.ok (DV.Ct.next ρ) s2|none=>.bad)=.ok c s':=e
   cases hs:lM ρ i (.int (a+b))with
   | none=>rw[hs]at e;cases e
   | some ρ1 =>
    rw[hs]at e
    cases e
    exact q φ1 G g1 l1 R1 _ (bf8 (E.mono g1 l1) RV.intI rfl hs)
  | _=>cases e
 | _=>cases e
theorem ce2 {mc:k6->kY->k8 kZ}{F B:k6->kY->k8 lH}(h:TSv Γ (λ ρ s=>lq (mc ρ s) λ k s=>if k then F ρ s else B ρ s) D σ H):ck3 (TTv Γ mc) (TSv Γ F) (TSv Γ B) D σ H:=by
 obtain⟨φ,ρ,s,d,s',E,R,hm,q⟩:=h
 obtain⟨c,s1,e1,hm⟩:=zE hm
 refine⟨φ,ρ,s,c,s1,E,R,e1,λ φ1 G g1 l1 R1=>?_⟩
 cases c with
 | true =>
  rw[if_pos rfl]at hm ⊢
  exact⟨φ1,ρ,s1,d,s',E.mono g1 l1,R1,hm,q.trans g1 l1⟩
 | false =>
  rw[if_neg aX]at hm ⊢
  exact⟨φ1,ρ,s1,d,s',E.mono g1 l1,R1,hm,q.trans g1 l1⟩
theorem bs3 {G F:k6->kY->k8 lH}(h:TSv Γ (λ ρ s=>(G ρ s).bind λ c s=>match c with|.next ρ=>F ρ s|c=>.ok c s) D σ H):cf0 (TSv Γ G) (TSv Γ F) D σ H:=by
 obtain⟨φ,ρ,s,c,s',E,R,hm,q⟩:=h
 obtain⟨J,s1,e1,hm⟩:=aa5 hm
 refine⟨φ,ρ,s,J,s1,E,R,e1,λ φ1 B g1 l1 R1=>?_⟩
 cases J with
 | next ρ1=>exact λ σ1 Y=>⟨φ1,ρ1,s1,c,s',Y,R1,hm,q.trans g1 l1⟩
 | ret d=>cases hm;exact q φ1 B g1 l1 R1
 | cont ρ=>cases hm;exact q φ1 B g1 l1 R1
 | brk ρ=>cases hm;exact q φ1 B g1 l1 R1
theorem bl9 {mc:k6->kY->k8 kZ}{mb:k6->kY->k8 lH}(h:TSv Γ (DV.whl mc mb) D σ H):aX8 (TTv Γ mc) (TSv Γ mb) D σ H:=by
 obtain⟨φ,ρ,s,c,s',E,R,hm,q⟩:=h
 unfold DV.whl at hm
 split at hm
 case isFalse=>exact fb hm
 rename_i hn
 generalize hn.choose=n at hm
 refine⟨λ n σ H=>∃ φ ρ s,RE Γ φ H s.length ρ σ/\Rp Γ φ H s/\DV.qU mc mb n ρ s=.ok c s'/\ar8 Γ φ s H c s' D,⟨n,φ,ρ,s,E,R,hm,q⟩,?_⟩
 clear E R hm q hn
 rintro n σ H ⟨φ,ρ,s,E,R,hm,q⟩
 cases n with
 | zero=>exact fb hm
 | succ n =>
  unfold DV.qU at hm
  obtain⟨b,s1,e1,hm⟩:=zE hm
  refine⟨φ,ρ,s,b,s1,E,R,e1,λ φ1 Y g1 l1 R1=>?_⟩
  cases b with
  | false =>
   rw[if_neg aX]at hm ⊢
   cases hm
   exact q φ1 Y g1 l1 R1 σ (E.mono g1 l1)
  | true =>
   rw[if_pos rfl]at hm ⊢
   obtain⟨F,s2,e2,hm⟩:=aa5 hm
   refine⟨_,λ σ' H' w=>⟨n,cU n,w⟩,φ1,ρ,s1,F,s2,E.mono g1 l1,R1,e2,λ φ2 J g2 Z R2=>?_⟩
   have G:=g1.trans g2 l1
   have L:=av l1 Z
   cases F with
   | next ρ1=>exact λ σ1 B=>⟨φ2,ρ1,s2,B,R2,hm,q.trans G L⟩
   | cont ρ1=>exact λ σ1 B=>⟨φ2,ρ1,s2,B,R2,hm,q.trans G L⟩
   | ret d=>cases hm;exact q φ2 J G L R2
   | brk ρ=>cases hm;exact q φ2 J G L R2
theorem bP8 {mI:k6->kY->k8 l8}{mb:k6->kY->k8 lH}{tg:lL} (h:TSv Γ (λ ρ s=>(mI ρ s).bind λ q s0=>mY (λ s=>lJ s0 s q.src) (λ d ρ s=>match lA ρ tg d with
  | some ρ=>mb ρ s
  | none=>.bad) q.its ρ s0) D σ H):cj2 (TIv Γ mI) (gOf Γ.K tg) (TSv Γ mb) D σ H:=by
 obtain⟨φ,ρ,s,c,s',E,R,hm,k⟩:=h
 obtain⟨q,s0,e1,hm⟩:=aa5 hm
 refine⟨φ,ρ,s,q,s0,E,R,e1,λ J φ1 H1 g1 l1 b1 R1 wk=>?_⟩
 refine⟨λ i m σ' H'=>∃ φ' ρ' t,Gr φ1 s0 H1 φ' t H'/\Rp Γ φ' H' t/\RE Γ φ' H' t.length ρ' σ'/\i<=q.its.length/\m=q.its.length - i /\
  mY (λ s=>lJ s0 s q.src) (λ d ρ s=>match lA ρ tg d with
   | some ρ=>mb ρ s
   | none=>.bad) (q.its.drop i) ρ' t=.ok c s',⟨q.its.length,?_⟩,?_⟩
 ·exact⟨φ1,ρ,s0,Gr.refl _ _ _,R1,E.mono g1 l1,cN _,by simp,by rw[ed];exact hm⟩
 ·rintro i m σ' H' ⟨φ',ρ',t,g,Y,E',a3,rfl,hc⟩
  have B:=g.le
  rcases js i q.its.length with hlt|hge
  ·have hd:q.its[i]?=some q.its[i]:=aq hlt
   rw[dE hlt]at hc
   unfold mY at hc
   split at hc
   case isFalse=>exact fb hc
   rename_i F
   obtain⟨a2,a0⟩:=(wk φ' H' t g B Y F i).1 hlt
   refine .inr ⟨a2,_,λ σ2 H2 n=>⟨q.its.length - (i+1),by omega,n⟩,λ x H2 a1=>?_⟩
   obtain⟨sm,rv⟩:=a0 x H2 a1
   obtain⟨g2,R2⟩:=Y.same sm
   have rd:=rv _ hd
   have bd:(q.its[i]).bnd t.length=true:=zh B _ (am8 b1 hd)
   obtain⟨c1,t3,hs,hc⟩:=aa5 hc
   cases hb:lA ρ' tg q.its[i]with
   | none=>rw[hb]at hs;cases hs
   | some ρ3 =>
    rw[hb]at hs
    refine bn3 (E'.mono g2 (aw _)) rd bd hb λ σ3 E3=>?_
    refine⟨φ',ρ3,t,c1,t3,E3,R2,hs,λ φ2 H4 g4 l4 G=>?_⟩
    have Z:=(g.trans g2 B).trans g4 B
    have L4:=av B l4
    have GG:=g1.trans Z l1
    cases c1 with
    | next ρ1=>exact λ σ1 E1=>⟨φ2,ρ1,t3,Z,G,E1,hlt,rfl,hc⟩
    | cont ρ1=>exact λ σ1 E1=>⟨φ2,ρ1,t3,Z,G,E1,hlt,rfl,hc⟩
    | ret d=>cases hc;exact k φ2 H4 GG (av l1 L4) G
    | brk ρ=>cases hc;exact k φ2 H4 GG (av l1 L4) G
  ·rw[eA hge]at hc
   unfold mY at hc
   split at hc
   case isFalse=>exact fb hc
   rename_i F
   cases hc
   exact .inl ⟨(wk φ' H' s' g B Y F i).2 hge,k φ' H' (g1.trans g l1) (av l1 B) Y σ' E'⟩
structure Ck where
 N:List Str
 sc:Scope
 lk:String->List Nat->Expr->Bool
noncomputable abbrev ck0 (N:List Str)(sc:Scope):Ck:=⟨N,sc,λ _ _ _=>false⟩
noncomputable def Ck.vis (c:Ck)(x:Str):Bool:=match c.sc.names.lookup x with|some .local=>true|some .cell=>true|some .free=>true|_=>false
noncomputable def Ck.loc (c:Ck)(x:Str):Bool:=match c.sc.names.lookup x with|some .local=>true|some .cell=>true|_=>false
noncomputable def Ck.gl (c:Ck)(x:Str):Bool:=(match c.sc.names.lookup x with|some .globalImplicit=>true|_=>false)&&!(x==("__debug__":Str))&&!decide (x=("__name__":Str))
noncomputable def Ck.var (c:Ck)(i:Nat)(x:Str):Bool:=decide (c.N[i]?=some x)&&c.vis x&&!(x==("__debug__":Str))&&!(x==("__classdict__":Str))
noncomputable def shp:Expr->Bool
 | .Starred ..=>false
 | .Set ..=>false
 | .SetComp ..=>false
 | .DictComp ..=>false
 | .GeneratorExp ..=>false
 | .Slice ..=>false
 | .NamedExpr ..=>false
 | _=>true
noncomputable def av8:Expr->Bool
 | .ListComp ..=>false
 | .SetComp ..=>false
 | .DictComp ..=>false
 | _=>true
noncomputable def bY1:Expr->Bool
 | .Tuple ..=>false
 | _=>true
noncomputable def ce4:Expr->Bool
 | .Call _ [] [] _=>false
 | _=>true
noncomputable def mC:DV.Cn->Const->Bool
 | .non,.none=>true
 | .bl b,.bool c=>b==c
 | .int i,.int j=>decide (i=j)
 | .str x,.str y=>decide (y=⟨x.toArray⟩)&&decide (x.length<=1000)
 | _,_=>false
noncomputable def cb3 (ck:Ck):List Nat->List Expr->Bool
 | [],[]=>true
 | i::is,.Name x _::es=>decide (ck.N[i]?=some x)&&ck.loc x&&cb3 ck is es
 | _,_=>false
noncomputable def mTg (ck:Ck):lL->Expr->Bool
 | .one i,.Name x _=>decide (ck.N[i]?=some x)&&ck.loc x
 | .tup is,.Tuple es _ _=>cb3 ck is es
 | _,_=>false
noncomputable def tgN:Expr->List Str
 | .Name x _=>[x]
 | .Tuple es _ _=>es.filterMap λ e=>match e with|.Name x _=>some x|_=>none
 | _=>[]
structure ItT where
 x:Str
 y:Str
 ob:Expr
 sc:Scope
 p1:Pos
 p2:Pos
 p3:Pos
 p4:Pos
 p5:Pos
 p6:Pos
 p7:Pos
 k1:Nat
 k2:Nat
 ap:Pos
 cp:Pos
 pos:Pos
noncomputable def ItT.tg (q:ItT):Expr:=.Tuple [.Name q.x q.p5,.Name q.y q.p6] q.k2 q.p7
noncomputable def ItT.it (q:ItT):Expr:=.Call (.Attribute q.ob "items" q.ap) [] [] q.cp
noncomputable def ItT.text (q:ItT):Expr:=.ListComp (.BinOp (.Name q.x q.p1) .Add (.Tuple [.Name q.y q.p2] q.k1 q.p3) q.p4) [⟨q.tg,q.it,[],0⟩] q.sc q.pos
noncomputable def ckC (ck:Ck)(tgt:Expr)(caps:List (Option Nat))(scope:Scope):Ck:=⟨tgN tgt++(caps.filterMap id).map λ j=>ck.N.getD j "",scope,λ _ _ _=>false⟩
noncomputable def aS2 (ck:Ck)(tg:lL)(tgt iter:Expr)(caps:List (Option Nat))(scope:Scope):Bool :=
 zO (ckC ck tgt caps scope).N caps scope ck.N ck.sc&&decide ((ckC ck tgt caps scope).N.Nodup)&&mTg (ckC ck tgt caps scope) tg tgt&&shp iter
noncomputable def biT:lO->Option Str
 | .len=>some "len" | .abs=>some "abs" | .min2=>some "min" | .int=>some "int" | .str=>some "str" | _=>none
noncomputable def biK:lO->Option (Nat×Str)
 | .isInt=>some (1, "int")|.isBool=>some (2, "bool")|.isStr=>some (3, "str")|.isTup=>some (4, "tuple")|.isList=>some (5, "list")|_=>none
noncomputable def mkT:mM->Option Str
 | .tuple=>some "tuple" | .list=>some "list" | _=>none
noncomputable def mkF:mM->Option Str
 | .min=>some "min" | _=>none
noncomputable def mtT:mO->Option (Str×Nat)
 | .append=>some ("append",1)|_=>none
noncomputable def cb0 (ck:Ck)(b:lO)(x:Str)(xs:List Expr)(m1 m2:Bool):Bool:=match biK b with
 | some p=>(match xs with|[_,.Name y _]=>decide (x=("isinstance":Str))&&ck.gl x&&decide (y=p.2)&&ck.gl y&&m2|_=>false)
 | none=>(match xs with|_::_=>decide (biT b=some x)&&ck.gl x&&m1|[]=>false)
noncomputable def lamArgs:ci->Option (List Str)
 | ⟨[],args,none,[],[],none,[]⟩=>some (args.map (·.arg))
 | _=>none
mutual
noncomputable def mE (ck:Ck):mH->Expr->Bool
 | .var i,E=>match E with|.Name x _=>ck.var i x|_=>false
 | .cst c,E=>match E with|.Constant v _ _=>mC c v|_=>false
 | .glob g,E=>match E with|.Name x _=>decide (x=(g:Str))&&ck.gl x|_=>false
 | .bin op a b,E=>match E with|.BinOp l o r _=>decide (o=ce1 op)&&mE ck a l&&mE ck b r|_=>false
 | .neg a,E=>match E with|.UnaryOp .USub l _=>mE ck a l|_=>false
 | .not a,E=>match E with|.UnaryOp .Not l _=>mE ck a l|_=>false
 | .cmp op a b,E=>match E with|.Compare l [o] [r] _=>decide (o=bx8 op)&&mE ck a l&&mE ck b r|_=>false
 | .chain _ _ _ _ _,_=>false
 | .isN a,E=>match E with|.Compare l [.Is] [.Constant .none _ _] _=>mE ck a l|_=>false
 | .notN a,E=>match E with|.Compare l [.IsNot] [.Constant .none _ _] _=>mE ck a l|_=>false
 | .isB _ _,_=>false
 | .notB _ _,_=>false
 | .and a b,E=>match E with
  | .BoolOp .And [l,r] _=>mE ck a l&&mE ck b r
  | .BoolOp .And (l::m::r::es) p=>mE ck a l&&mE ck b (.BoolOp .And (m::r::es) p)
  | _=>false
 | .or a b,E=>match E with
  | .BoolOp .Or [l,r] _=>mE ck a l&&mE ck b r
  | .BoolOp .Or (l::m::r::es) p=>mE ck a l&&mE ck b (.BoolOp .Or (m::r::es) p)
  | _=>false
 | .ite c a b,E=>match E with|.IfExp t l r _=>mE ck c t&&mE ck a l&&mE ck b r|_=>false
 | .tup es,E=>match E with|.Tuple xs _ _=>mEs ck es xs&&decide (xs.length<=1000)|_=>false
 | .lst es,E=>match E with|.List xs _=>mEs ck es xs&&decide (xs.length<=1000)|_=>false
 | .dic _ _,_=>false
 | .slL _ _,_=>false
 | .slU a hi,E=>match E with|.Subscript o (.Slice none (some h) none _) _=>mE ck a o&&mE ck hi h|_=>false
 | .slLU _ _ _,_=>false
 | .rev _,_=>false
 | .fstr _,_=>false
 | .inC _ _,_=>false
 | .getC _ _,_=>false
 | .bitl _,_=>false
 | .lrng _,_=>false
 | .dicT,_=>false
 | .dicU k v,E=>match E with|.Dict a b _=>(match a,b with|[some x],[y]=>mE ck k x&&mE ck v y|_,_=>false)|_=>false
 | .get2 _ _ _,_=>false
 | .ix a b,E=>match E with|.Subscript o i _=>mE ck a o&&mE ck b i|_=>false
 | .call f as,E=>match E with|.Call (.Name x _) xs [] _=>decide (x=(f:Str))&&ck.gl x&&mAs ck as xs|_=>false
 | .callC _ _,_=>false
 | .callV _ _,_=>false
 | .bi b es,E=>match E with|.Call (.Name x _) xs [] _=>cb0 ck b x xs (mEs ck es xs) (mEs ck es (xs.take 1))|_=>false
 | .mk k l,E=>match E with
  | .Call (.Name x _) [a] [] _=>ck.gl x&&shp a&&((decide (mkT k=some x)&&mL ck 2 l a)||(decide (mkF k=some x)&&mL ck 1 l a))
  | .ListComp e gs sc p=>decide (k=.list)&&mL ck 0 l (.ListComp e gs sc p)
  | _=>false
 | .mkD k l d,E=>match E with
  | .Call (.Name x _) [a] [⟨some y,de,_⟩] _=>(decide (k=.min)&&decide (x=("min":Str)))&&decide (y=("default":Str))&&ck.gl x&&shp a&&mL ck 1 l a&&mE ck d de
  | _=>false
 | .meth m o es,E=>match E with
  | .Call (.Attribute ob x ap) xs [] cp=>decide (mtT m=some (x,xs.length))&&ce4 ob&&(ap.endLine==cp.line)&&mE ck o ob&&mEs ck es xs
  | _=>false
 | .ext _ _,_=>false
 | .extS _ _,_=>false
 | .mks _ _,_=>false
 | .mkDs _ _ _,_=>false
 | .minK _ _ _,_=>false
 | .spl _ _,_=>false
 | .join _ _,_=>false
noncomputable def mEs (ck:Ck):lE->List Expr->Bool
 | .nil,xs=>match xs with|[]=>true|_=>false
 | .cons e es,xs=>match xs with|x::xs=>mE ck e x&&shp x&&mEs ck es xs|_=>false
noncomputable def mFs (ck:Ck):lE->List Expr->Bool
 | .nil,xs=>match xs with|[]=>true|_=>false
 | .cons e es,xs=>match xs with
  | .FormattedValue v c none _::xs=>decide (c=-1)&&mE ck e v&&mFs ck es xs
  | .Constant v j p::xs=>mE ck e (.Constant v j p)&&mFs ck es xs
  | _=>false
noncomputable def mAs (ck:Ck):mr->List Expr->Bool
 | .nil,xs=>match xs with|[]=>true|_=>false
 | .ex e es,xs=>match xs with|x::xs=>mE ck e x&&shp x&&mAs ck es xs|_=>false
 | .lam _ _ _,_=>false
 | .fn _ _,_=>false
noncomputable def cm1 (ck:Ck):mr->List Expr->Bool
 | .nil,xs=>match xs with|[]=>true|_=>false
 | .ex e es,xs=>match xs with|x::xs=>mE ck e x&&shp x&&cm1 ck es xs|_=>false
 | .lam _ _ _,_=>false
 | .fn _ _,_=>false
noncomputable def mI (ck:Ck)(tgt:Expr):DV.I->Expr->Bool
 | .rng1 a,E=>match E with|.Call (.Name x _) [l] [] _=>decide (x=("range":Str))&&ck.gl x&&mE ck a l&&shp l|_=>false
 | .rng2 a b,E=>match E with|.Call (.Name x _) [l,r] [] _=>decide (x=("range":Str))&&ck.gl x&&mE ck a l&&shp l&&mE ck b r&&shp r|_=>false
 | .seq e,x=>mE ck e x&&shp x
 | .rng3 _ _ _,_=>false
 | .rngD _,_=>false
 | .enum (.seq _),_=>false
 | .zip (.seq _) (.seq _),_=>false
 | .enum _,_=>false
 | .zip _ _,_=>false
 | .items _,_=>false
noncomputable def mL (ck:Ck)(k:Nat):DV.L->Expr->Bool
 | .comp tg it e caps,E=>match E with|.ListComp elt [⟨tgt,iter,[],z⟩] scope _=>decide (z=0)&&aS2 ck tg tgt iter caps scope&&mI ck tgt it iter&&mE (ckC ck tgt caps scope) e elt|_=>false
 | .compIf tg it c e caps,E=>match E with|.ListComp elt [⟨tgt,iter,[i],z⟩] scope _=>decide (z=0)&&aS2 ck tg tgt iter caps scope&&mI ck tgt it iter&&mE (ckC ck tgt caps scope) c i&&mE (ckC ck tgt caps scope) e elt|_=>false
 | .disp es,E=>match E with|.List xs _=>decide (1<=k)&&mEs ck es xs&&decide (xs.length<=1000)|_=>false
 | .seq e,x=>decide (k=2)&&mE ck e x
 | .itm _,_=>false
end
theorem ff {p:Prop}(h:false=true):p:=Bool.noConfusion h
mutual
noncomputable def mS (ck:Ck):DV.S->Stmt->Bool
 | .asg tg e,S=>match S with
  | .Assign [t] v _=>mTg ck tg t&&mE ck e v&&(match tg with|.one _=>true|.tup _=>bY1 v&&av8 v)
  | _=>false
 | .setIx o i e,S=>match S with|.Assign [.Subscript ob ix _] v _=>mE ck o ob&&mE ck i ix&&mE ck e v&&av8 v|_=>false
 | .aug i e,S=>match S with|.AugAssign (.Name x _) .Add v _=>decide (ck.N[i]?=some x)&&ck.loc x&&mE ck e v|_=>false
 | .ex e,S=>match S with|.Expr v _=>mE ck e v&&av8 v|_=>false
 | .ret e,S=>match S with|.Return (some v) _=>mE ck e v|_=>false
 | .retN,S=>match S with|.Return none _=>true|_=>false
 | .ite c a b,S=>match S with|.If t l r _=>mE ck c t&&mSs ck a l&&mSs ck b r|_=>false
 | .whl c b,S=>match S with|.While t l [] _=>mE ck c t&&mSs ck b l|_=>false
 | .for_ tg it b,S=>match S with|.For tgt iter l [] _=>mTg ck tg tgt&&mI ck tgt it iter&&mSs ck b l|_=>false
 | .pass,_=>false
 | .cont,S=>match S with|.Continue _=>true|_=>false
 | .brk,_=>false
 | .raise,_=>true
 | .und _,_=>false
noncomputable def mSs (ck:Ck):ni->List Stmt->Bool
 | .nil,xs=>match xs with|[]=>true|_=>false
 | .cons s ss,xs=>match xs with|x::xs=>(mS ck s x&&mSs ck ss xs)|_=>false
end
theorem aP2 {B:Ck}{e:mH}{E:Expr}(h:mE B e E=true):shp E=true:=by
 cases E<;>first|rfl|(exfalso;cases e<;>exact ff h)
theorem bu6 {F:Ck}{B:Expr}{e:DV.I}{E:Expr}(h:mI F B e E=true):shp E=true:=by
 cases e with
 | seq e=>have h:(mE F e E&&shp E)=true:=h;rw[aj]at h;exact h.2
 | enum a=>cases E<;>first|rfl|(exfalso;cases a<;>exact ff h)
 | zip a b=>cases E<;>first|rfl|(exfalso;cases a<;>first|exact ff h|(cases b<;>exact ff h))
 | _=>cases E<;>first|rfl|exact ff h
theorem zb {e:Expr}{es:List Expr}{env:Env}(h:shp e=true):bw (e::es) env=(false,eval e env)::bw es env:=by
 cases e<;>first|rfl|cases h
theorem zJ {env:Env}{pos:Pos}:∀ {es:List Expr},(∀ e∈es,shp e=true)->(dX pos (bw es env)).any (·.1)=false/\(dX pos (bw es env)).all (λ x=>!x.1)=true
 | [],_=>⟨rfl,rfl⟩
 | e::es,h=>by
  have F:=zb (es:=es) (env:=env) (h e (aD ..))
  obtain⟨B,h3⟩:=zJ (env:=env) (pos:=pos) (es:=es) λ x hx=>h x (ao _ hx)
  rw[F]
  unfold dX at B h3 ⊢
  simp only[a8,fX,dF,B,h3]
  exact⟨rfl,rfl⟩
theorem aA2 {e:Expr}{env:Env}(h:shp e=true)(x:Value):dq e env x=pure x:=by
 cases e<;>first|rfl|cases h
theorem aF3 {e:Expr}{op:CmpOp}(h:shp e=true):da op e=false:=by
 cases e<;>first|rfl|cases h
theorem ao2 {e:Expr}{t:Option Expr}{l:Nat}{env:Env}(h:av8 e=true):eI e t l env=pure false:=by
 cases e<;>first|rfl|cases h
theorem bf2 {e:Expr}{f:Str}{env:Env}(h:ce4 e=true):eQ e f env (eval e env)=eval e env:=by
 cases e with
 | Call g a k p =>
  cases g with
  | Name x p' =>
   cases a with
   | nil=>cases k with
    | nil=>cases h
    | cons _ _=>rfl
   | cons _ _=>rfl
  | _=>rfl
 | _=>rfl
theorem aT4 {es:List Expr}{k:Nat}{p:Pos}{e:Expr}{env:Env}(h:bY1 e=true):fR [.Tuple es k p] e env=pure none:=by
 cases e<;>first|rfl|cases h
theorem aS1 {o i:Expr}{p:Pos}{e:Expr}{env:Env}:fR [.Subscript o i p] e env=pure none:=by
 cases e<;>rfl
theorem aw1 {e:Expr}(h:shp e=true):bf3 e:=by
 intro o i
 cases e<;>first|rfl|cases h
def spV (Γ:Gm)(c:List kZ->kY->k8 kZ):Sp:=λ vs H Q _=>rCl Γ c vs H Q
noncomputable def bNames:List Str:=["len", "abs", "min", "max", "int", "isinstance", "bool", "str", "tuple", "list", "range", "sum", "all", "any", "sorted", "zip", "enumerate", "ord"]
def spL (Γ:Gm)(c:List kZ->List kZ->kY->k8 kZ)(cap:List V):Sp:=λ vs H Q _=>∃ φ s cs l d s',Rp Γ φ H s/\RVL Γ φ H l vs/\RVL Γ φ H cs cap/\k7 s.length l=true/\k7 s.length cs=true/\c cs l s=.ok d s'/\aj7 Γ φ s H d s' Q
noncomputable def LamI.own (J:LamI):Str:=match J.nm with|none => "<lambda>" | some p=>p.1
noncomputable def lamText (J:LamI)(params:ci)(body:Expr)(scope:Scope)(pos:Pos):Expr:=match J.nm with
 | none=>.Lambda params body scope pos
 | some p=>.NamedExpr (.Name p.1 p.2) (.Lambda params body scope pos) pos
structure LamHere (Γ:Gm)(X:Cx)(N:List Str)(id:String)(caps:List Nat)(params:ci)(body:Expr)(scope:Scope)(c P:Addr)(J:LamI):Prop where
 code:X.env.code=.ref c
 hd:cc X.base c P
 bm:BM X.mg X.base
 ck:lamCheck scope X.env.scope=true
 df:defaultsOf params X.env=([],[])
 lg:Γ.lg id J
 q:J.qual=X.env.qual++J.own
 p:J.params=params
 b:J.body=body
 s:J.scope=scope
 len:J.fr.length=caps.length
 at_:∀(i j:Nat) (x:Str),caps[i]?=some j->J.fr[i]?=some x->N[j]?=some x
 fr:∀ x∈J.fr,scope.names.lookup x=some .free
 cl:∀ x,scope.names.lookup x=some .free->∃ c,X.env.cells.lookup x=some c
 tab:(P,J.qual)∈Γ.T
 nd:(Γ.T.map (·.1)).Nodup
 fn:∀ x,X.fn x=true
 kd:∀ x c,X.env.cells.lookup x=some c->X.env.kindOf x=some .cell\/X.env.kindOf x=some .free
 gs:LamScope (J.ps++J.fr) J.ps J.fr J.scope
 gp:lamArgs J.params=some J.ps
 gb:∀(clos:List (Str×Addr)) (pm:Value) (c':Addr) (ctv:Value) (us:List Value),us.length=J.ps.length->dZ (dz "<lambda>" J.qual J.params J.body J.scope clos pm (.ref c') ctv) ⟨us,[]⟩=pure (J.ps.zip us)
noncomputable def strD (kvs:List (List Nat×List Nat)):List (PyData×PyData):=kvs.map λ p=>(.str ⟨p.1.toArray⟩,.str ⟨p.2.toArray⟩)
structure CG (Γ:Gm)(F:lr)(n:Nat)(X:Cx)(ck:Ck):Prop where
 K:X.K=Γ.K
 N:X.N=ck.N
 nd:ck.N.Nodup
 xe:X.xe=λ _ _=>False
 calm:X.calm=true
 deep:lu+1<=n
 room:Room n X.A
 sc:∀ x k,ck.sc.names.lookup x=some k->X.env.scope.names.lookup x=some k\/(k=.free/\X.env.scope.names.lookup x=some .cell)
 fn:∀ x,ck.sc.names.lookup x=some .cell->X.fn x=true
 bi:∀ x∈bNames,X.mg x=none
 call:∀ f:String,(∀ l s,F.call f l s=.bad)\/∃ a fd ps,FnOk X.prog X.w X.K X.mg X.base CX0 n a fd ps (spV Γ (F.call f))/\X.mg (f:Str)=some (.ref a)/\cu X.K (.ref a)=true/\Binds X.K fd ps []
 con:∀ x d,F.con x=some d->∃ v u,X.mg (x:Str)=some u/\RelV v u/\(∀ m,d.bnd m=true)/\∀ φ H,RV Γ φ H d v
 lam:∀ id caps E,ck.lk id caps E=true->∃ c P params body scope pos J,E=lamText J params body scope pos/\LamHere Γ X ck.N id caps params body scope c P J
 cl:∀(id:String) (J:LamI) (f:Addr) (cap:List V) (clos:List (Str×Addr)),Γ.lg id J->cap.length=J.fr.length->ClOk X.prog X.w X.K X.mg X.base n (λ H=>CloAt H f J cap clos) f (spL Γ (F.lam id) cap)
 fa:∀(f:String) (a:Addr),Γ.fa f=some a->X.mg (f:Str)=some (.ref a)/\∃ oc od fd sl,X.K.lookup a=some ⟨oc,od,.func fd,sl⟩
 fk:DV.FK F
 cdc:∀ c kvs,F.cdc c=some kvs->∃ a,X.mg (c:Str)=some (.ref a)/\∀ h:Heap,X.K.In h->StrTab X.prog X.w h a (strD kvs)
section
variable {Γ:Gm} {F:lr} {n:Nat} {X:Cx} {ck:Ck}
theorem CG.vis (G:CG Γ F n X ck){x:Str}(h:ck.vis x=true):Vis X.env.scope x:=by
 unfold Ck.vis at h
 split at h
 ·rename_i e;rcases G.sc _ _ e with z|⟨z,_⟩
  ·exact .inl z
  ·cases z
 ·rename_i e;rcases G.sc _ _ e with z|⟨z,_⟩
  ·exact .inr (.inl z)
  ·cases z
 ·rename_i e;rcases G.sc _ _ e with z|⟨_,z⟩
  ·exact .inr (.inr z)
  ·exact .inr (.inl z)
 ·cases h
theorem CG.loc (G:CG Γ F n X ck){x:Str}(h:ck.loc x=true):Loc X.env.scope x/\(X.fn x=true\/X.env.scope.names.lookup x=some .local):=by
 unfold Ck.loc at h
 split at h
 ·rename_i e;rcases G.sc _ _ e with z|⟨z,_⟩
  ·exact⟨.inl z,.inr z⟩
  ·cases z
 ·rename_i e;rcases G.sc _ _ e with z|⟨z,_⟩
  ·exact⟨.inr z,.inl (G.fn _ e)⟩
  ·cases z
 ·cases h
theorem CG.gl (G:CG Γ F n X ck){x:Str}(h:ck.gl x=true):Gl X x/\(x==("__debug__":Str))=false/\x ≠ "__name__":=by
 unfold Ck.gl at h
 simp only[aj,d9]at h
 obtain⟨⟨B,J⟩,h3⟩:=h
 refine⟨?_,J,of_decide_eq_false h3⟩
 split at B
 ·rename_i e;rcases G.sc _ _ e with z|⟨z,_⟩
  ·exact z
  ·cases z
 ·cases B
theorem bu9 (G:CG Γ F n X ck):∀ {is:List Nat} {es:List Expr},cb3 ck is es=true->PGs X es (cb5 is)/\(cG es X.env).length=is.length/\(cG es X.env).findIdx? (·.1)=none
 | [],[],_=>⟨bv8,rfl,rfl⟩
 | [],_::_,h=>by cases h
 | i::is,[],h=>by cases h
 | i::is,e::es,h=>by
  cases e with
  | Name x p =>
   unfold cb3 at h
   simp only[aj,decide_eq_true_eq]at h
   obtain⟨⟨Y,J⟩,h3⟩:=h
   obtain⟨l1,B⟩:=G.loc J
   obtain⟨a,b,c⟩:=bu9 G h3
   have hs:cG (.Name x p::es) X.env=(false,gm (.Name x p) X.env)::cG es X.env:=rfl
   refine⟨bj5 (aW0 (by rw[G.N];exact G.nd) (by rw[G.N];exact Y) l1 B) a (by rw[hs];rfl),by rw[hs,bq,bq,b],?_⟩
   rw[hs,List.findIdx?_cons]
   simp[c]
  | _=>cases h
theorem bn9 (G:CG Γ F n X ck){tg:lL}{e:Expr}(h:mTg ck tg e=true):PG X e (gOf Γ.K tg):=by
 unfold mTg at h
 split at h
 ·simp only[aj,decide_eq_true_eq]at h
  obtain⟨l1,B⟩:=G.loc h.2
  exact aW0 (by rw[G.N];exact G.nd) (by rw[G.N];exact h.1) l1 B
 ·obtain⟨a,b,c⟩:=bu9 G h
  exact bB1 G.K G.calm a b c
 ·cases h
theorem CG.comp (G:CG Γ F n X ck){tg:lL}{J iter:Expr}{B:List (Option Nat)}{scope:Scope}(h:aS2 ck tg J iter B scope=true) :
  zO (ckC ck J B scope).N B scope X.N X.env.scope=true/\shp iter=true /\
  ∀(C:Addr) (cells:List (Str×Addr)) (s:af) (H:Hp) (ex:List Addr),CG Γ F n (zB X (ckC ck J B scope).N scope C cells s H ex) (ckC ck J B scope)/\PG (zB X (ckC ck J B scope).N scope C cells s H ex) J (gOf Γ.K tg):=by
 unfold aS2 at h
 simp only[aj,decide_eq_true_eq]at h
 obtain⟨⟨⟨Y,h2⟩,h3⟩,h4⟩:=h
 refine⟨?_,h4,λ C cells s H ex=>?_⟩
 ·rw[G.N]
  unfold zO at Y ⊢
  simp only[aj]at Y ⊢
  obtain⟨⟨⟨⟨⟨a1,a2⟩,a3⟩,a4⟩,a5⟩,a6⟩:=Y
  refine⟨⟨⟨⟨⟨a1,?_⟩,a3⟩,a4⟩,a5⟩,a6⟩
  rw[aU]at a2 ⊢
  intro y hy
  have:=a2 y hy
  rw[bS]at this ⊢
  rcases this with q|q
  ·exact .inl q
  ·right
   rw[bS]at q ⊢
   rcases q with q|q
   ·rcases G.sc _ _ (eq_of_beq q)with z|⟨z,_⟩
    ·left;rw[z];exact beq_self_eq_true _
    ·cases z
   ·rcases G.sc _ _ (eq_of_beq q)with z|⟨_,z⟩
    ·right;rw[z];exact beq_self_eq_true _
    ·left;rw[z];exact beq_self_eq_true _
 ·have Z:CG Γ F n (zB X (ckC ck J B scope).N scope C cells s H ex) (ckC ck J B scope):=by
   refine⟨G.K,rfl,h2,rfl,G.calm,G.deep,G.room,λ x k e=>?_,λ x e=>?_,G.bi,G.call,G.con,λ _ _ _ h=>(by cases h),G.cl,G.fa,G.fk,G.cdc⟩
   ·have q:=qf (env:=X.env) e
    have q':(eR scope X.env).names.lookup x=some (if(k==NameKind.free&&X.env.scope.kind==.function&&X.env.kindOf x==some .cell)then NameKind.cell else k):=q
    show(eR scope X.env).names.lookup x=some k\/_
    rw[q']
    split
    ·rename_i hc
     simp only[aj]at hc
     exact .inr ⟨eq_of_beq hc.1.1,rfl⟩
    ·exact .inl rfl
   ·show(scope.names.lookup x==some .cell)=true
    rw[show scope.names.lookup x=some .cell from e];rfl
  exact⟨Z,bn9 Z h3⟩
end
section
variable {Γ:Gm} {F:lr} {n:Nat} {X:Cx} {ck:Ck} {σ:St} {H:Hp} {Q:VK}
theorem TEv.eq {m m':k6->kY->k8 kZ}(e:∀ ρ s,m ρ s=m' ρ s)(q:TEv Γ m σ H Q):TEv Γ m' σ H Q:=by
 have:m=m':=funext λ ρ=>funext λ s=>e ρ s
 subst this;exact q
theorem TTv.eq {m m':k6->kY->k8 kZ}{Q:Bool->Hp->Prop}(e:∀ ρ s,m ρ s=m' ρ s)(q:TTv Γ m σ H Q):TTv Γ m' σ H Q:=by
 have:m=m':=funext λ ρ=>funext λ s=>e ρ s
 subst this;exact q
theorem TAv.eq {m m':k6->kY->k8 (List kZ)}{Q:List V->Hp->Prop}(e:∀ ρ s,m ρ s=m' ρ s)(q:TAv Γ m σ H Q):TAv Γ m' σ H Q:=by
 have:m=m':=funext λ ρ=>funext λ s=>e ρ s
 subst this;exact q
theorem TFv.eq {m m':k6->kY->k8 (List kZ)}(e:∀ ρ s,m ρ s=m' ρ s)(q:TFv Γ m σ H Q):TFv Γ m' σ H Q:=by
 have:m=m':=funext λ ρ=>funext λ s=>e ρ s
 subst this;exact q
theorem TIv.eq {m m':k6->kY->k8 l8}{R:It->Hp->Prop}(e:∀ ρ s,m ρ s=m' ρ s)(q:TIv Γ m σ H R):TIv Γ m' σ H R:=by
 have:m=m':=funext λ ρ=>funext λ s=>e ρ s
 subst this;exact q
theorem TSv.eq {m m':k6->kY->k8 lH}{D:Ends}(e:∀ ρ s,m ρ s=m' ρ s)(q:TSv Γ m D σ H):TSv Γ m' D σ H:=by
 have:m=m':=funext λ ρ=>funext λ s=>e ρ s
 subst this;exact q
def EvT (Γ:Gm)(X:Cx)(E:Expr)(m:k6->kY->k8 kZ):Prop:=PE X E (TEv Γ m)/\PT X E (TTv Γ m)
theorem EvT.val {E:Expr}{m:k6->kY->k8 kZ}(h:PE X E (TEv Γ m))(he:∀ B,dM E X.env B=(do let v <- B;standAt E.pos;jd [v] (truthy v)):=by intro _;rfl):EvT Γ X E m :=
 ⟨h,(bY8 h he).imp λ σ H Q q=>aO5 q⟩
theorem bo3 {c a b:Expr}{pos:Pos}{G tb Y:TT}(hc:PT X c G)(ha:PT X a tb)(hb:PT X b Y):PT X (.IfExp c a b pos) (λ σ H Q=>G σ H λ k F=>if k=true then tb σ F Q else Y σ F Q):=by
 intro B s σ H Q I h
 have e:dM (.IfExp c a b pos) X.env (eval (.IfExp c a b pos) X.env)=(do if <- dM c X.env (eval c X.env)then dM a X.env (eval a X.env)else dM b X.env (eval b X.env)):=by rw[dM]
 rw[e]
 refine ai (thn (hc B s σ H _ I h) λ k s1 ⟨F,J,Z⟩=>?_)
 cases k with
 | true=>exact ha B s1 σ F Q J Z
 | false=>exact hb B s1 σ F Q J Z
theorem bP0 {mc G F:k6->kY->k8 kZ}{Q:Bool->Hp->Prop}(h:TTv Γ (λ ρ s=>lq (mc ρ s) λ k s=>if k then G ρ s else F ρ s) σ H Q):TTv Γ mc σ H λ k B=>if k=true then TTv Γ G σ B Q else TTv Γ F σ B Q:=by
 obtain⟨φ,ρ,s,d,s',E,R,hm,q⟩:=h
 obtain⟨c,s1,e1,hm⟩:=zE hm
 refine⟨φ,ρ,s,c,s1,E,R,e1,λ φ1 B g1 l1 R1=>?_⟩
 cases c with
 | true =>
  rw[if_pos rfl]at hm ⊢
  exact⟨φ1,ρ,s1,d,s',E.mono g1 l1,R1,hm,q.trans g1 l1⟩
 | false =>
  rw[if_neg aX]at hm ⊢
  exact⟨φ1,ρ,s1,d,s',E.mono g1 l1,R1,hm,q.trans g1 l1⟩
section
variable {a b c:mH} {l r t:Expr} {pos:Pos}
theorem bH5 (G:CG Γ F n X ck)(op:m8)(ha:EvT Γ X l (k9 F a))(hb:EvT Γ X r (k9 F b)):EvT Γ X (.BinOp l (ce1 op) r pos) (k9 F (.bin op a b)) :=
 .val ((cd7 (bX1 G.K op) ha.1 hb.1).imp λ σ H Q q=>bp8 (TEv.eq (λ ρ s=>rfl) q))
theorem bD3 (ha:EvT Γ X l (k9 F a)):EvT Γ X (.UnaryOp .USub l pos) (k9 F (.neg a)) :=
 .val ((cc5 bK7 ha.1).imp λ σ H Q q=>ce3 (f:=λ x s=>match x with|.int i=>.ok (.int (-i)) s|_=>.bad) (TEv.eq (λ ρ s=>rfl) q) λ φ s x d s' v H' R r h hm k=>by
  cases x with
  | int i =>
   cases hm
   exact⟨i,r.intE,k.here R rfl RV.intI⟩
  | _=>cases hm)
theorem bC4 (ha:EvT Γ X l (k9 F a)):EvT Γ X (.UnaryOp .Not l pos) (k9 F (.not a)) :=
 ⟨(bU0 ha.1).imp λ σ H Q q=>bV8 (TEv.eq (λ ρ s=>rfl) q),(bJ9 ha.2).imp λ σ H Q q=>bK3 (TTv.eq (λ ρ s=>rfl) q)⟩
theorem bH0 (G:CG Γ F n X ck)(op:mR)(hs:shp r=true)(ha:EvT Γ X l (k9 F a))(hb:EvT Γ X r (k9 F b)):EvT Γ X (.Compare l [bx8 op] [r] pos) (k9 F (.cmp op a b)):=by
 have ho:=bS1 (Γ:=Γ) G.K (G.room.mono G.deep) op
 refine⟨(bF1 ho ha.1 hb.1 (aF3 hs)).imp λ σ H Q q=>bp8 (TEv.eq (λ ρ s=>rfl) q),(bH4 ho ha.1 hb.1 (aF3 hs)).imp λ σ H Q q=>?_⟩
 have q:=bE6 q
 exact bp8 (TEv.eq (λ ρ s=>rfl) q)
theorem RV.nonIff {φ:Nat->Addr}{x:kZ}{v:V}(r:RV Γ φ H x v):decide (v=.non)=decide (x=.non):=by
 cases x with
 | non=>rw[r.nonE];rfl
 | bl b=>rw[r.blE];rfl
 | int i=>rw[r.intE];rfl
 | str z=>rw[r.strE];rfl
 | tup l=>obtain⟨a,h,rfl,_⟩:=r.tupE;rfl
 | ref k=>rw[r.refE];rfl
 | fn f=>unfold RV at r;obtain⟨a,_,rfl⟩:=r;rfl
 | clo f cs=>unfold RV at r;obtain⟨f,_,_,_,rfl,_⟩:=r;rfl
theorem bH7 {j pos'}(ha:EvT Γ X l (k9 F a)):EvT Γ X (.Compare l [.Is] [.Constant .none j pos'] pos) (k9 F (.isN a)):=by
 have key:∀ σ H Q,TEv Γ (k9 F (.isN a)) σ H Q->ck1 (TEv Γ (k9 F a)) σ H Q:=λ σ H Q q=>by
  obtain⟨φ,ρ,s,d,s',E,R,hm,k⟩:=q
  obtain⟨x,s1,e1,hm⟩:=aa5 hm
  cases hm
  refine⟨φ,ρ,s,x,_,E,R,e1,λ v φ1 h g1 l1 B r1 R1=>?_⟩
  show Q (.bl (decide (v=.non))) h
  rw[r1.nonIff]
  exact k _ φ1 h g1 l1 rfl RV.blI R1
 exact⟨(bv0 (bt5 ha.1)).imp key,(bu8 (bt5 ha.1)).imp λ σ H Q q=>key _ _ _ (aO5 q)⟩
theorem bi9 {j pos'}(ha:EvT Γ X l (k9 F a)):EvT Γ X (.Compare l [.IsNot] [.Constant .none j pos'] pos) (k9 F (.notN a)):=by
 have key:∀ σ H Q,TEv Γ (k9 F (.notN a)) σ H Q->bM7 (TEv Γ (k9 F a)) σ H Q:=λ σ H Q q=>by
  obtain⟨φ,ρ,s,d,s',E,R,hm,k⟩:=q
  obtain⟨x,s1,e1,hm⟩:=aa5 hm
  cases hm
  refine⟨φ,ρ,s,x,_,E,R,e1,λ v φ1 h g1 l1 B r1 R1=>?_⟩
  show Q (.bl (!decide (v=.non))) h
  rw[r1.nonIff]
  exact k _ φ1 h g1 l1 rfl RV.blI R1
 exact⟨(bv0 (aY1 ha.1)).imp key,(bu8 (aY1 ha.1)).imp λ σ H Q q=>key _ _ _ (aO5 q)⟩
theorem aX1 {op:BoolOp}{es:List Expr}{t:TT}(h:PT X (.BoolOp op es pos) t):PW X (.BoolOp op es pos) t:=by
 intro F B s σ H Q I q
 have:=h B s σ H Q I q
 have e:∀ w,dM (.BoolOp op es pos) X.env w=allTrue op es X.env:=λ w=>by rw[dM]
 rw[e]at this ⊢
 exact this
theorem bI6 (ha:EvT Γ X l (k9 F a))(hb:EvT Γ X r (k9 F b)):EvT Γ X (.BoolOp .And [l,r] pos) (k9 F (.and a b)) :=
 ⟨(br3 ha.1 (bu4 hb.1)).imp λ σ H Q q=>bt4 (TEv.eq (λ ρ s=>rfl) q),(bs8 ha.2 (bC1 hb.2)).pt.imp λ σ H Q q=>bu0 (TTv.eq (λ ρ s=>rfl) q)⟩
theorem bI2 {es:List Expr}(ha:EvT Γ X l (k9 F a))(hb:EvT Γ X (.BoolOp .And (r::es) pos) (k9 F b)):EvT Γ X (.BoolOp .And (l::r::es) pos) (k9 F (.and a b)) :=
 ⟨(br3 ha.1 hb.1).imp λ σ H Q q=>bt4 (TEv.eq (λ ρ s=>rfl) q),(bs8 ha.2 (aX1 hb.2)).pt.imp λ σ H Q q=>bu0 (TTv.eq (λ ρ s=>rfl) q)⟩
theorem bK1 (ha:EvT Γ X l (k9 F a))(hb:EvT Γ X r (k9 F b)):EvT Γ X (.BoolOp .Or [l,r] pos) (k9 F (.or a b)) :=
 ⟨(bZ4 ha.1 (bu4 hb.1)).imp λ σ H Q q=>bO8 (TEv.eq (λ ρ s=>rfl) q),(bR7 ha.2 (bQ8 hb.2)).pt.imp λ σ H Q q=>bQ2 (TTv.eq (λ ρ s=>rfl) q)⟩
theorem bP6 {es:List Expr}(ha:EvT Γ X l (k9 F a))(hb:EvT Γ X (.BoolOp .Or (r::es) pos) (k9 F b)):EvT Γ X (.BoolOp .Or (l::r::es) pos) (k9 F (.or a b)) :=
 ⟨(bZ4 ha.1 hb.1).imp λ σ H Q q=>bO8 (TEv.eq (λ ρ s=>rfl) q),(bR7 ha.2 (aX1 hb.2)).pt.imp λ σ H Q q=>bQ2 (TTv.eq (λ ρ s=>rfl) q)⟩
theorem bI0 (hc:EvT Γ X t (k9 F c))(ha:EvT Γ X l (k9 F a))(hb:EvT Γ X r (k9 F b)):EvT Γ X (.IfExp t l r pos) (k9 F (.ite c a b)) :=
 ⟨(bj0 hc.2 ha.1 hb.1).imp λ σ H Q q=>bQ3 (TEv.eq (λ ρ s=>rfl) q),(bo3 hc.2 ha.2 hb.2).imp λ σ H Q q=>bP0 (TTv.eq (λ ρ s=>rfl) q)⟩
theorem bN0 (G:CG Γ F n X ck)(hs:shp r=true)(ha:EvT Γ X l (k9 F a))(hb:EvT Γ X r (k9 F b)):EvT Γ X (.Subscript l r pos) (k9 F (.ix a b)) :=
 .val ((bV2 (bK9 G.K (ap0 G.room)) ha.1 hb.1 (aw1 hs)).imp λ σ H Q q=>bp8 (TEv.eq (λ ρ s=>rfl) q))
theorem bF8 {h:Pos}(G:CG Γ F n X ck)(ha:EvT Γ X l (k9 F a))(hb:EvT Γ X r (k9 F b)):EvT Γ X (.Subscript l (.Slice none (some r) none h) pos) (k9 F (.slU a b)) :=
 .val ((bn5 (ch5 G.K) ha.1 bH6 (bw2 hb.1)).imp λ σ H Q q=>(cd9 (ml:=k9 F b)).2.1 (TEv.eq (λ ρ s=>rfl) q))
end
end
section
variable {Γ:Gm} {F:lr} {n:Nat} {X:Cx} {ck:Ck} {σ:St} {H:Hp} {Q:VK}
theorem ax7:∀ {es:lE} {ρ:k6} {s s':kY} {l:List kZ} {B:List Expr} {G:Ck},lK F es ρ s=.ok l s'->mEs G es B=true->l.length=B.length
 | .nil,ρ,s,s',l,B,G,h,m=>by
  cases h
  cases B with
  | nil=>rfl
  | cons _ _=>rw[mEs]at m<;>first|cases m|(intros;simp_all)
 | .cons e es,ρ,s,s',l,B,G,h,m=>by
  obtain⟨d,s1,e1,h⟩:=aa5 h
  obtain⟨r,s2,e2,h⟩:=aa5 h
  cases h
  cases B with
  | nil=>rw[mEs]at m<;>first|cases m|(intros;simp_all)
  | cons x B =>
   rw[mEs,aj]at m
   rw[bq,bq,ax7 e2 m.2]
theorem aJ9:∀ {es:lE} {B:List Expr},mEs ck es B=true->∀ x∈B,shp x=true
 | .nil,[],_,x,hx=>by cases hx
 | .nil,_::_,m,_,_=>by rw[mEs]at m<;>first|cases m|(intros;simp_all)
 | .cons e es,[],m,x,hx=>by cases hx
 | .cons e es,y::B,m,x,hx=>by
  rw[mEs,aj,aj]at m
  rcases aI.mp hx with h|h
  ·rw[h];exact m.1.2
  ·exact aJ9 m.2 x h
theorem aH6:∀ {es:mr} {B:List Expr},mAs ck es B=true->∀ x∈B,shp x=true
 | .nil,[],_,x,hx=>by cases hx
 | .nil,_::_,m,_,_=>by rw[mAs]at m<;>first|cases m|(intros;simp_all)
 | .ex e es,[],m,x,hx=>by cases hx
 | .lam _ _ _,_,m,_,_=>by rw[mAs]at m<;>first|cases m|(intros;simp_all)
 | .fn _ _,_,m,_,_=>by rw[mAs]at m<;>first|cases m|(intros;simp_all)
 | .ex e es,y::B,m,x,hx=>by
  rw[mAs,aj,aj]at m
  rcases aI.mp hx with h|h
  ·rw[h];exact m.1.2
  ·exact aH6 m.2 x h
theorem aM6 {e:mH}{x:Expr}{h:List Expr}{B:k6->kY->k8 (List kZ)}(hs:shp x=true)(J:PE X x (TEv Γ (k9 F e)))(G:PA X h (TAv Γ B)) :
  PA X (x::h) (TAv Γ (λ ρ s=>(k9 F e ρ s).bind λ d s=>(B ρ s).bind λ l s=>.ok (d::l) s)) :=
 (zQ J G (zb hs)).imp λ σ H Q q=>bG1 q
theorem aM5 {k:Nat}(h:k<=1000):k<=aO:=by rw[fG];omega
theorem bx9 {es:lE}{B:List Expr}{k:Nat}{pos:Pos}(m:mEs ck es B=true)(hz:B.length<=1000)(h:PA X B (TAv Γ (lK F es))):EvT Γ X (.Tuple B k pos) (k9 F (.tup es)) :=
 .val ((bV6 h).imp λ σ H Q q=>tv_tup' hz m q)
where
 tv_tup' {es:lE} {B:List Expr} {σ:St} {H:Hp} {Q:VK} (hz:B.length<=1000) (m:mEs ck es B=true) (q:TEv Γ (k9 F (.tup es)) σ H Q):cm7 (TAv Γ (lK F es)) σ H Q:=by
  obtain⟨φ,ρ,s,d,s',E,R,hm,q⟩:=q
  obtain⟨l,s1,e1,hm⟩:=aa5 hm
  cases hm
  refine⟨φ,ρ,s,l,_,E,R,e1,λ vs φ1 J g1 l1 G r1 R1=>⟨by rw[r1.length,ax7 e1 m];exact aM5 hz,λ p hp=>?_⟩⟩
  exact(q.trans g1 l1).tup R1 r1 G hp
theorem bA3 {es:lE}{B:List Expr}{pos:Pos}(m:mEs ck es B=true)(hz:B.length<=1000)(h:PA X B (TAv Γ (lK F es))):EvT Γ X (.List B pos) (k9 F (.lst es)):=by
 refine .val ((aX4 h).imp λ σ H Q q=>?_)
 obtain⟨φ,ρ,s,d,s',E,R,hm,q⟩:=q
 obtain⟨l,s1,e1,hm⟩:=aa5 hm
 obtain⟨rfl,rfl⟩:=qj hm
 refine⟨φ,ρ,s,l,_,E,R,e1,λ vs φ1 J g1 l1 G r1 R1=>⟨by rw[r1.length,ax7 e1 m];exact aM5 hz,λ p hp=>?_⟩⟩
 exact(q.trans g1 l1).alloc R1 r1 G hp
theorem bk2 {f:String}{B:mr}{J:List Expr}{p pos:Pos}(G:CG Γ F n X ck)(hg:ck.gl (f:Str)=true)(m:mAs ck B J=true)(h:PA X J (TAv Γ (lS F B))):EvT Γ X (.Call (.Name (f:Str) p) J [] pos) (k9 F (.call f B)):=by
 refine .val ?_
 obtain⟨g1,g2,g3⟩:=G.gl hg
 rcases G.call f with hbad|⟨a,fd,ps,hF,Y,hk,hb⟩
 ·intro Z s σ H Q I q
  obtain⟨φ,ρ,s,d,s',E,R,hm,q⟩:=q
  obtain⟨l,s1,e1,hm⟩:=aa5 hm
  rw[hbad]at hm
  cases hm
 have key:∀ σ H Q,TEv Γ (k9 F (.call f B)) σ H Q->aS7 (spV Γ (F.call f)) [] E0 (TAv Γ (lS F B)) σ H Q:=λ σ H Q q=>by
  have:=aL2 (TEv.eq (m':=λ ρ s=>(lS F B ρ s).bind λ l s=>F.call f l s) (λ ρ s=>rfl) q)
  unfold tCB at this
  unfold aS7 spV
  simpa only[bv]using this
 cases J with
 | nil =>
  have h0:PE X (.Call (.Name (f:Str) p) [] [] pos) (aS7 (spV Γ (F.call f)) [] E0 bh7):=bn4 hF G.room g1 Y hk hb .nil bT8 g2
  cases B with
  | nil =>
   refine h0.imp λ σ H Q q=>?_
   have q1:=key σ H Q q
   unfold aS7 at q1 ⊢
   exact aN1 (TAv.eq (λ ρ s=>rfl) q1)
  | _=>rw[mAs]at m<;>first|cases m|(intros;simp_all)
 | cons x J =>
  have hs:=aH6 m
  exact(ba9 hF G.room g1 Y hk hb .nil bT8 h g2 (zb (hs x (aD ..))) (zJ λ e he=>hs e (ao _ he)).1).imp key
def BiC (Γ:Gm)(X:Cx)(b:lO)(x:Str):Prop:=(∃ id,bA x=some (.builtin id)/\aj1 X (.builtin id) (rCl Γ (mK b)))\/∃ T,bA x=some (.type T)/\aj1 X (.type T) (rCl Γ (mK b))
theorem bY9 (G:CG Γ F n X ck){b:lO}{x:Str}(h:biT b=some x):x∈bNames/\BiC Γ X b x:=by
 cases b<;>first|cases h|skip
 ·exact⟨by decide,.inl ⟨_,ci9,bG0 G.K G.calm (k:=1) rfl⟩⟩
 ·exact⟨by decide,.inl ⟨_,cc6,bG0 G.K G.calm (k:=1) rfl⟩⟩
 ·exact⟨by decide,.inr ⟨_,bX5,bY5⟩⟩
 ·exact⟨by decide,.inr ⟨_,bP5,bM1⟩⟩
 ·exact⟨by decide,.inl ⟨_,bB3,bG0 G.K G.calm (k:=2) rfl⟩⟩
theorem bN7 {b:lO}{es:lE}{x:Str}{y:Expr}{B:List Expr}{p pos:Pos}(G:CG Γ F n X ck)(hb:biT b=some x)(hg:ck.gl x=true)(m:mEs ck es (y::B)=true)(h:PA X (y::B) (TAv Γ (lK F es))) :
  EvT Γ X (.Call (.Name x p) (y::B) [] pos) (k9 F (.bi b es)):=by
 refine .val ?_
 obtain⟨g1,g2,Z⟩:=G.gl hg
 obtain⟨hm,hc⟩:=bY9 G hb
 have hs:=aJ9 m
 have s1:=zb (es:=B) (env:=X.env) (hs y (aD ..))
 have s2:=(zJ (env:=X.env) (pos:=pos) λ e he=>hs e (ao _ he)).1
 rcases hc with⟨id,Y,J⟩|⟨T,Y,J⟩
 ·exact(ax2 J g1 (G.bi _ hm) Y h Z g2 s1 s2).imp λ σ H Q q=>aL2 (TEv.eq (λ ρ s=>rfl) q)
 ·exact(at3 J g1 (G.bi _ hm) Y h Z g2 s1 s2).imp λ σ H Q q=>aL2 (TEv.eq (λ ρ s=>rfl) q)
theorem bM2 {b:lO}{k:Nat}{t:Str}(h:biK b=some (k,t)):(1<=k/\k<=5)/\t∈bNames/\bA t=some (.type (au0 k))/\mK b=mV (ng k):=by
 cases b<;>cases h
 ·exact⟨by omega,by decide,bX5,rfl⟩
 ·exact⟨by omega,by decide,bO6,rfl⟩
 ·exact⟨by omega,by decide,bP5,rfl⟩
 ·exact⟨by omega,by decide,ba5,rfl⟩
 ·exact⟨by omega,by decide,bt9,rfl⟩
noncomputable def PEs (Γ:Gm)(F:lr)(X:Cx):lE->List Expr->Prop
 | .nil,[]=>True
 | .cons e es,x::xs=>(shp x=true/\EvT Γ X x (k9 F e))/\PEs Γ F X es xs
 | _,_=>False
theorem av4:∀ {es:lE} {B:List Expr},PEs Γ F X es B->PA X B (TAv Γ (lK F es))
 | .nil,[],_=>aj9.imp λ σ H Q q=>aN1 (TAv.eq (λ ρ s=>rfl) q)
 | .nil,_::_,h=>h.elim
 | .cons _ _,[],h=>h.elim
 | .cons e es,x::B,h=>(aM6 h.1.1 h.1.2.1 (av4 h.2)).imp λ σ H Q q=>TAv.eq (λ ρ s=>rfl) q
theorem bI8 {b:lO}{es:lE}{k:Nat}{t:Str}{a:Expr}{p Y pos:Pos}(G:CG Γ F n X ck)(hb:biK b=some (k,t))(hg:ck.gl "isinstance"=true)(Z:ck.gl t=true)(h:PEs Γ F X es [a]) :
  EvT Γ X (.Call (.Name "isinstance" p) [a,.Name t Y] [] pos) (k9 F (.bi b es)):=by
 refine .val ?_
 obtain⟨g1,g2,g3⟩:=G.gl hg
 obtain⟨t1,t2,t3⟩:=G.gl Z
 obtain⟨hk,hm,hv,J⟩:=bM2 hb
 have B:PE X (.Name t Y) (tC (.ty (au0 k))):=bG8 t1 (G.bi _ hm) hv rfl t3 t2
 cases es with
 | nil=>exact h.elim
 | cons e es =>
  cases es with
  | cons _ _=>exact h.2.elim
  | nil =>
   obtain⟨⟨hs,ha,_⟩,_⟩:=h
   have hA:PA X [a,.Name t Y] (at9 (TEv Γ (k9 F e)) (at9 (tC (.ty (au0 k))) bh7)):=zQ ha (zQ B aj9 (zb rfl)) (zb hs)
   refine(ax2 (bO7 G.K hk) g1 (G.bi _ (by decide)) aE5 hA g3 g2 (zb hs) (zJ λ e he=>by rw[ay.mp he];rfl).1).imp λ σ H Q q=>?_
   obtain⟨φ,ρ,s,d,s',E,R,hm,q⟩:=q
   obtain⟨l,s1,e1,hm⟩:=aa5 hm
   obtain⟨x,s2,e2,e1⟩:=aa5 e1
   obtain⟨l2,s3,e3,e1⟩:=aa5 e1
   cases e3
   cases e1
   rw[J]at hm
   refine⟨φ,ρ,s,x,_,E,R,e2,λ v φ1 H1 g1 l1 b1 r1 R1=>?_⟩
   exact⟨v,rfl,φ1,_,[x],d,s',R1,.cons r1 .nil,by unfold k7;rw[b1];rfl,hm,q.trans g1 l1⟩
end
section
variable {Γ:Gm} {F:lr} {n:Nat} {X:Cx} {ck:Ck} {σ:St} {H:Hp}
def TAp (Γ:Gm)(cells:List (Str×Addr))(N:List Str)(m:k6->kY->k8 (List kZ)):TA:=λ σ H Q=>∃ φ ρ s l s',RE Γ φ H s.length ρ σ/\Rp Γ φ H s/\m ρ s=.ok l s' /\
 ∀ vs φ' H',Gr φ s H φ' s' H'->s.length<=s'.length->k7 s'.length l=true->PVL Γ cells N σ φ' H' l vs->Rp Γ φ' H' s'->Q vs H'
theorem TAp.eq {cells:List (Str×Addr)}{N:List Str}{m m':k6->kY->k8 (List kZ)}{Q:List V->Hp->Prop}(e:∀ ρ s,m ρ s=m' ρ s)(q:TAp Γ cells N m σ H Q):TAp Γ cells N m' σ H Q:=by
 obtain⟨φ,ρ,s,l,s',E,R,hm,q⟩:=q
 exact⟨φ,ρ,s,l,s',E,R,by rw[<-e];exact hm,q⟩
theorem by7 {cells:List (Str×Addr)}{N:List Str}{Q:List V->Hp->Prop}(h:TAp Γ cells N (λ ρ s=>.ok [] s) σ H Q):bh7 σ H Q:=by
 obtain⟨φ,ρ,s,l,s',E,R,hm,q⟩:=h
 cases hm
 exact q [] φ H (Gr.refl _ _ _) (aw _) rfl .nil R
theorem bL2 {cells:List (Str×Addr)}{N:List Str}{m:k6->kY->k8 kZ}{F:k6->kY->k8 (List kZ)}{Q:List V->Hp->Prop}(h:TAp Γ cells N (λ ρ s=>(m ρ s).bind λ d s=>(F ρ s).bind λ l s=>.ok (d::l) s) σ H Q):at9 (TEv Γ m) (TAp Γ cells N F) σ H Q:=by
 obtain⟨φ,ρ,s,l,s',E,R,hm,q⟩:=h
 obtain⟨x,s1,e1,hm⟩:=aa5 hm
 obtain⟨y,s2,e2,hm⟩:=aa5 hm
 cases hm
 refine⟨φ,ρ,s,x,s1,E,R,e1,λ v φ1 H1 g1 l1 B r1 R1=>?_⟩
 refine⟨φ1,ρ,s1,y,s',E.mono g1 l1,R1,e2,λ vs φ2 Y J G Z r2 R2=>?_⟩
 exact q (v::vs) φ2 Y (g1.trans J l1) (av l1 G) (by unfold k7;rw[zh G x B,Z];rfl) (.cons (PVp.mono J B (.inl r1)) r2) R2
end
section
variable {Γ:Gm} {F:lr} {n:Nat} {X:Cx} {ck:Ck} {σ:St} {H:Hp} {Q:VK}
def co9 (K:ac)(H:Hp)(v:V)(ys:List V)(z:Bool):Prop:=(∃ a,v=.ref a/\(SqL K H a ys\/(SqT K H a ys/\(z=true->H a=some (.tup ys)))))\/∃ x:List Nat,v=.str ⟨x.toArray⟩/\x.length<=lh/\ys=sgV x
def TLv (Γ:Gm)(m:k6->kY->k8 (List kZ)):TE:=λ σ H Q=>∃ φ ρ s l s',RE Γ φ H s.length ρ σ/\Rp Γ φ H s/\m ρ s=.ok l s' /\
 ∀ v ys φ' H',Gr φ s H φ' s' H'->s.length<=s'.length->k7 s'.length l=true->co9 Γ.K H' v ys (ln l)->RVL Γ φ' H' l ys->Rp Γ φ' H' s'->Q v H'
theorem aQ2 {m:k6->kY->k8 (List kZ)}(h:TLv Γ m σ H Q):TFv Γ m σ H Q:=by
 obtain⟨φ,ρ,s,l,s',E,R,hm,q⟩:=h
 exact⟨φ,ρ,s,l,s',E,R,hm,λ p ys φ' H' g hl hb hp h0 ho r B=>q (.ref p) ys φ' H' g hl hb (.inl ⟨p,rfl,.inl (SqL.of hp)⟩) r B⟩
theorem aG2 {φ:Nat->Addr}:∀ x:List Nat,RVL Γ φ H (x.map λ c=>.str [c]) (sgV x)
 | []=>.nil
 | c::x=>.cons (RV.strI (by unfold lh;simp)) (aG2 x)
theorem av7 {k:Nat}:∀ x:List Nat,k7 k (x.map λ c=>.str [c])=true
 | []=>rfl
 | c::x=>by rw[a8];unfold k7;rw[av7 x];rfl
theorem bV1 {m:k6->kY->k8 kZ}(h:TLv Γ (λ ρ s=>(m ρ s).bind λ d s=>DV.bJ5 d s) σ H Q):TEv Γ m σ H Q:=by
 obtain⟨φ,ρ,s,l,s',E,R,hm,q⟩:=h
 obtain⟨d,s1,e1,hm⟩:=aa5 hm
 refine⟨φ,ρ,s,d,s1,E,R,e1,λ v φ1 J g1 l1 Y r1 R1=>?_⟩
 cases d with
 | tup l' =>
  cases hm
  obtain⟨a,F,⟨rfl,z1⟩,B,G⟩:=r1.tupZ
  unfold la at Y
  exact q _ F φ1 J g1 l1 Y (.inl ⟨a,rfl,.inr ⟨B,z1⟩⟩) G R1
 | str x =>
  cases hm
  exact q v (sgV x) φ1 J g1 l1 (av7 x) (.inr ⟨x,r1.strE,r1.strL,rfl⟩) (aG2 x) R1
 | ref k =>
  have hm:(match s1[k]? with
   | some (.lst l)=>DV.R.ok l s1
   | some (.ro l)=>.ok l s1
   | _=>.bad)=.ok l s':=hm
  rw[r1.refE]
  cases e:s1[k]? with
  | none=>rw[e]at hm;exact fb hm
  | some ob =>
   rw[e]at hm
   cases ob with
   | lst l' =>
    cases hm
    obtain⟨F,B,G⟩:=R1.addr e
    have:=R1.wf k _ e
    unfold lb at this
    exact q _ F φ1 J g1 l1 this (.inl ⟨_,rfl,.inl (SqL.of B)⟩) G R1
   | ro l' =>
    cases hm
    obtain⟨F,B,G⟩:=R1.obj k _ e
    have:=R1.wf k _ e
    unfold lb at this
    exact q _ F φ1 J g1 l1 this (.inl ⟨_,rfl,.inl B.1⟩) G R1
   | _=>exact fb hm
 | _=>exact fb hm
theorem TLv.eq {m m':k6->kY->k8 (List kZ)}(e:∀ ρ s,m ρ s=m' ρ s)(q:TLv Γ m σ H Q):TLv Γ m' σ H Q:=by
 have:m=m':=funext λ ρ=>funext λ s=>e ρ s
 subst this;exact q
theorem aU8 {m:k6->kY->k8 (List kZ)}{a:Expr}{p pos:Pos}(G:CG Γ F n X ck)(hg:ck.gl "tuple"=true)(hs:shp a=true)(h:PE X a (TLv Γ m)) :
  PE X (.Call (.Name "tuple" p) [a] [] pos) (TEv Γ (λ ρ s=>(m ρ s).bind λ l s=>mP .tuple l s)):=by
 obtain⟨g1,g2,Z⟩:=G.gl hg
 refine(at3 ((aK5 G.K).or (aH2 G.calm)) g1 (G.bi _ (by decide)) ba5 (zQ h aj9 (zb hs)) Z g2 (zb hs) rfl).imp λ σ H Q q=>?_
 obtain⟨φ,ρ,s,d,s',E,R,hm,q⟩:=q
 obtain⟨l,s1,e1,hm⟩:=aa5 hm
 cases hm
 refine⟨φ,ρ,s,l,_,E,R,e1,λ v ys φ1 Y g1 l1 J B r1 R1=>?_⟩
 rcases B with⟨a,rfl,B|B⟩|⟨x,rfl,hx,rfl⟩
 ·exact .inl ⟨a,ys,rfl,.inl ⟨B,λ p hp=>(q.trans g1 l1).tup R1 r1 J hp⟩⟩
 ·exact .inl ⟨a,ys,rfl,.inr ⟨B.1,q _ φ1 Y g1 l1 (by unfold la;exact J) (RV.tupC B.1 B.2 r1) R1⟩⟩
 ·exact .inr ⟨x,rfl,hx,λ p hp=>(q.trans g1 l1).tup R1 r1 J hp⟩
theorem aX0 {m:k6->kY->k8 (List kZ)}{a:Expr}{p pos:Pos}(G:CG Γ F n X ck)(hg:ck.gl "list"=true)(hs:shp a=true)(h:PE X a (TLv Γ m)) :
  PE X (.Call (.Name "list" p) [a] [] pos) (TEv Γ (λ ρ s=>(m ρ s).bind λ l s=>mP .list l s)):=by
 obtain⟨g1,Z,Y⟩:=G.gl hg
 refine(at3 ((aR2 G.K).or (aS8 G.calm)) g1 (G.bi _ (by decide)) bt9 (zQ h aj9 (zb hs)) Y Z (zb hs) rfl).imp λ σ H Q q=>?_
 obtain⟨φ,ρ,s,d,s',E,R,hm,q⟩:=q
 obtain⟨l,s1,e1,hm⟩:=aa5 hm
 obtain⟨rfl,rfl⟩:=qj hm
 refine⟨φ,ρ,s,l,_,E,R,e1,λ v ys φ1 H1 g1 l1 J B r1 R1=>?_⟩
 rcases B with⟨a,rfl,B⟩|⟨x,rfl,hx,rfl⟩
 ·exact .inl ⟨a,ys,rfl,B.imp id (·.1),λ p hp=>(q.trans g1 l1).alloc R1 r1 J hp⟩
 ·exact .inr ⟨x,rfl,hx,λ p hp=>(q.trans g1 l1).alloc R1 r1 J hp⟩
theorem bZ3 {m:k6->kY->k8 (List kZ)}{k:mM}{x:Str}{a:Expr}{p pos:Pos}(G:CG Γ F n X ck)(hk:mkT k=some x)(hg:ck.gl x=true)(hs:shp a=true)(h:PE X a (TLv Γ m)) :
  PE X (.Call (.Name x p) [a] [] pos) (TEv Γ (λ ρ s=>(m ρ s).bind λ l s=>mP k l s)):=by
 cases k<;>cases hk
 ·exact aU8 G hg hs h
 ·exact aX0 G hg hs h
def FrC (Γ:Gm)(X:Cx)(x:Str)(k:mM):Prop:=∃ id r,bA x=some (.builtin id)/\x∈bNames/\aj1 X (.builtin id) r/\∀ φ H s l ys p d s' Q,Rp Γ φ H s->RVL Γ φ H l ys->H p=some (.lst ys)->mP k l s=.ok d s'->aj7 Γ φ s H d s' Q->r [.ref p] H Q
theorem aP8:∀(l:List Int) (a:Int),(l.foldl min a=a\/l.foldl min a∈l)/\l.foldl min a<=a/\∀ y∈l,l.foldl min a<=y
 | [],a=>⟨.inl rfl,ii _,λ y hy=>by cases hy⟩
 | b::l,a=>by
  obtain⟨B,F,h3⟩:=aP8 l (min a b)
  rw[c6]
  refine⟨?_,by omega,λ y hy=>?_⟩
  ·rcases B with h|h
   ·rw[h]
    rcases kH a b with z|z
    ·left;omega
    ·right;rw[show min a b=b by omega];exact aD ..
   ·exact .inr (ao _ h)
  ·rcases aI.mp hy with z|z
   ·rw[z];omega
   ·exact h3 y z
theorem aN5 {l:List Int}{m:Int}(h:lY l=some m):m∈l/\∀ y∈l,m<=y:=by
 cases l with
 | nil=>cases h
 | cons a l =>
  cases h
  obtain⟨F,B,h3⟩:=aP8 l a
  refine⟨?_,λ y hy=>?_⟩
  ·rcases F with h|h
   ·rw[h];exact aD ..
   ·exact ao _ h
  ·rcases aI.mp hy with z|z
   ·rw[z];exact B
   ·exact h3 y z
theorem bF4 (G:CG Γ F n X ck){k:mM}{x:Str}(hk:mkF k=some x):FrC Γ X x k:=by
 cases k<;>cases hk
 ·refine⟨_,_,bB3,by decide,aW9 G.calm G.K,λ φ H s l ys p d s' Q R r hp hm q=>?_⟩
  unfold mP at hm
  dsimp only at hm
  cases e:l7 l with
  | none=>rw[e]at hm;exact fb hm
  | some is =>
   rw[e]at hm
   have hm:(match lY is with|some m=>DV.R.ok (DV.D.int m) s|none=>.bad)=.ok d s':=hm
   cases e2:lY is with
   | none=>rw[e2]at hm;exact fb hm
   | some mm =>
    rw[e2]at hm
    cases hm
    have:=qi e
    subst this
    refine⟨p,is,rfl,SqL.of (by rw[<-r.ints];exact hp),(λ(z:is=[])=>by rw[z]at e2;cases e2),λ m hm h=>?_⟩
    obtain⟨a,b⟩:=aN5 e2
    have:m=mm:=jS (h mm a) (b m hm)
    rw[this]
    exact q.here R rfl RV.intI
theorem bZ2 {m:k6->kY->k8 (List kZ)}{k:mM}{x:Str}{a:Expr}{p pos:Pos}(G:CG Γ F n X ck)(hk:mkF k=some x)(hg:ck.gl x=true)(hs:shp a=true)(h:PE X a (TFv Γ m)) :
  PE X (.Call (.Name x p) [a] [] pos) (TEv Γ (λ ρ s=>(m ρ s).bind λ l s=>mP k l s)):=by
 obtain⟨g1,Y,J⟩:=G.gl hg
 obtain⟨id,r,hb,hx,hc,hr⟩:=bF4 (Γ:=Γ) G hk
 refine(ax2 hc g1 (G.bi _ hx) hb (zQ h aj9 (zb hs)) J Y (zb hs) rfl).imp λ σ H Q q=>?_
 obtain⟨φ,ρ,s,d,s',E,R,hm,q⟩:=q
 obtain⟨l,s1,e1,hm⟩:=aa5 hm
 exact⟨φ,ρ,s,l,_,E,R,e1,λ p ys φ1 B g1 l1 Z hp h0 ho r1 R1=>hr φ1 B s1 l ys p d s' Q R1 r1 hp hm (q.trans g1 l1)⟩
theorem bX6 {md:k6->kY->k8 (kZ)}{ml:k6->kY->k8 (List kZ)}{a de:Expr}{p pos kp:Pos}(G:CG Γ F n X ck)(hg:ck.gl "min"=true)(hs:shp a=true)(h:PE X a (TFv Γ ml))(hd:PE X de (TEv Γ md)) :
  PE X (.Call (.Name "min" p) [a] [⟨some "default",de,kp⟩] pos) (TEv Γ (λ ρ s=>(ml ρ s).bind λ l s=>(md ρ s).bind λ d s=>DV.mkD .min l d s)):=by
 obtain⟨g1,g2,g3⟩:=G.gl hg
 refine(bJ1 rfl G.calm g1 (G.bi _ (by decide)) h hd (zb hs)).imp λ σ H Q q=>?_
 obtain⟨φ,ρ,s,d,s',E,R,hm,q⟩:=q
 obtain⟨l,s1,e1,hm⟩:=aa5 hm
 obtain⟨d0,s2,e2,hm⟩:=aa5 hm
 refine⟨φ,ρ,s,l,s1,E,R,e1,λ p ys φ1 H1 g1 l1 b1 hp h0 ho r1 R1=>?_⟩
 refine⟨φ1,ρ,s1,d0,s2,E.mono g1 l1,R1,e2,λ v φ2 H2 g2 l2 b2 r2 R2=>?_⟩
 have Z:H2 p=some (.lst ys):=g2.fr p _ hp (by nofun) (λ i ob e mu=>ho i ob e mu)
 unfold DV.mkD at hm
 dsimp only at hm
 cases e:l7 l with
 | none=>rw[e]at hm;exact fb hm
 | some is =>
  rw[e]at hm
  have B:(match lY is with|some m=>DV.R.ok (DV.D.int m) s2|none=>DV.R.ok d0 s2)=.ok d s':=hm
  have:=qi e
  subst this
  have hq:=q.trans (g1.trans g2 l1) (av l1 l2)
  refine⟨p,is,rfl,SqL.of (by rw[<-r1.ints];exact Z),λ z=>?_,λ m J Y=>?_⟩
  ·subst z
   cases B
   exact hq.here R2 b2 r2
  ·clear e2
   cases e2:lY is with
   | none =>
    cases is with
    | nil=>cases J
    | cons _ _=>cases e2
   | some mm =>
    rw[e2]at B
    cases B
    obtain⟨x,y⟩:=aN5 e2
    have:m=mm:=jS (Y mm x) (y m J)
    rw[this]
    exact hq.here R2 rfl RV.intI
theorem bo7 {φ φ':Nat->Addr}{s s':kY}{H':Hp}{r:Nat}{l:List kZ}(R:Rp Γ φ H s)(g:Gr φ s H φ' s' H')(hb:r<s.length)(e:s'[r]?=some (.lst l)):tyV Γ.K "list" (.ref (φ r)) H:=by
 obtain⟨h,B⟩:∃ h,s[r]?=some h:=⟨s[r],aq hb⟩
 have hm:=g.mu r h _ B e rfl
 have ho:=R.obj r h B
 cases h with
 | lst l0 =>
  obtain⟨F,G,_⟩:=ho
  exact .inl ⟨rfl,F,SqL.of G⟩
 | ro _=>cases hm
 | dic _=>have:=g.kd r _ _ B e;cases this
 | dit _=>have:=g.kd r _ _ B e;cases this
 | ins _ _=>exact ho.elim
def mtR (Γ:Gm)(m:mO):V->List V->Hp->VK->Prop:=λ x vs H Q=>∃ φ s a l d s',Rp Γ φ H s/\RV Γ φ H a x/\RVL Γ φ H l vs/\a.bnd s.length=true/\k7 s.length l=true/\mZ m a l s=.ok d s'/\aj7 Γ φ s H d s' Q
theorem bP2:lh<aO:=by rw[fG];decide
theorem aP9 {m:mO}{x:Str}{k:Nat}(hm:mtT m=some (x,k)){a:kZ}{l:List kZ}{s s':kY}{d:kZ}(h:mZ m a l s=.ok d s'):∃ r l0,a=.ref r/\s[r]?=some (.lst l0):=by
 have go:∀ {r:Nat} {f:List kZ->k8 kZ},(match s[r]? with|some (.lst l)=>f l|_=>.bad)=.ok d s'->∃ l0,s[r]?=some (.lst l0):=λ {r f} h=>by
  cases e:s[r]? with
  | none=>rw[e]at h;exact fb h
  | some ob =>
   cases ob with
   | lst l0=>exact⟨l0,rfl⟩
   | _=>rw[e]at h;exact fb h
 cases a with
 | ref r =>
  have B:∀ {f:List kZ->k8 kZ},(match s[r]? with|some (.lst l)=>f l|_=>.bad)=.ok d s'->∃ F l0,DV.D.ref r=.ref F/\s[F]?=some (.lst l0):=λ h=>by obtain⟨l0,e⟩:=go h;exact⟨_,l0,rfl,e⟩
  cases m with
  | append=>match l with
   | [d]=>exact B h
   | []=>exact fb h
   | _::_::_=>exact fb h
  | pop=>match l with
   | []=>exact B h
   | _::_=>exact fb h
  | reverse=>match l with
   | []=>exact B h
   | _::_=>exact fb h
  | clear=>match l with
   | []=>exact B h
   | _::_=>exact fb h
  | index=>match l with
   | [d]=>exact B h
   | []=>exact fb h
   | _::_::_=>exact fb h
  | _=>exact fb h
 | _=>cases m<;>exact fb h
theorem bo9:MtR X "list.append" (mtR Γ .append):=by
 intro B sh σ H x vs v us Q I rx rv h
 obtain⟨φ,s,a,l,d,s',R,Y,J,ba,bl,hm,q⟩:=h
 obtain⟨r,l0,rfl,e⟩:=aP9 (m:=.append) rfl hm
 cases l with
 | nil=>exact fb hm
 | cons y t =>
  cases t with
  | cons _ _=>exact fb hm
  | nil =>
   simp only[mZ,e]at hm
   split at hm
   case isFalse=>exact fb hm
   rename_i hlt
   cases hm
   obtain⟨z,rfl,rz⟩:=J.one
   obtain⟨Z,h1,G⟩:=R.addr e
   have F:k7 s.length l0=true:=by have:=R.wf r _ e;unfold lb at this;exact this
   refine aC5 B sh σ H x [z] v us Q I rx rv ⟨φ r,Z,z,Y.refE,rfl,h1,by rw[G.length];have:=bP2;omega,?_⟩
   exact q.put R e (G.append (.cons rz .nil)) (zK F bl) rfl RV.nonI
structure MtOk (Γ:Gm)(X:Cx)(m:mO)(x:Str):Prop where
 ex:∃ id,PySem.Slot "list" x id/\kE (.builtin id)=pure (.type "method_descriptor")/\MtR X id (mtR Γ m)
theorem bT0 (hK:X.K=Γ.K)(B:Room (lu+1) X.A){m:mO}{x:Str}{k:Nat}(h:mtT m=some (x,k)):MtOk Γ X m x:=by
 cases m<;>cases h
 ·exact⟨_,gX,PySem.F.type_list_append,bo9⟩
theorem bk6 {m:mO}{o:mH}{es:lE}{ob:Expr}{J:List Expr}{x:Str}{ap cp:Pos}(G:CG Γ F n X ck)(hm:mtT m=some (x,J.length))(hab:ce4 ob=true)(hl:(ap.endLine==cp.line)=true)(ho:PE X ob (TEv Γ (k9 F o)))
  (a2:mEs ck es J=true) (h:PEs Γ F X es J):EvT Γ X (.Call (.Attribute ob x ap) J [] cp) (k9 F (.meth m o es)):=by
 refine .val ?_
 obtain⟨id,slot,a1,hr⟩:=(bT0 (Γ:=Γ) (X:=X) G.K (G.room.mono G.deep) hm).ex
 have hs:=aJ9 a2
 have key:∀ σ H Q,TEv Γ (k9 F (.meth m o es)) σ H Q->tBM Γ.K "list" (mtR Γ m) (TEv Γ (k9 F o)) (TAv Γ (lK F es)) σ H Q:=λ σ H Q q=>by
  obtain⟨φ,ρ,s,d,s',E,R,B,q⟩:=q
  obtain⟨a,s1,e1,B⟩:=aa5 B
  obtain⟨l,s2,e2,B⟩:=aa5 B
  refine⟨φ,ρ,s,a,s1,E,R,e1,λ v φ1 H1 g1 l1 Y r1 R1=>?_⟩
  obtain⟨r,l0,rfl,er⟩:=aP9 hm B
  rw[r1.refE]
  have hk:∀ φ2 H2,Gr φ1 s1 H1 φ2 s2 H2->tyV Γ.K "list" (.ref (φ1 r)) H1:=λ φ2 H2 g2=>bo7 R1 g2 (by unfold la at Y;exact of_decide_eq_true Y) er
  have a0:TAv Γ (lK F es) σ H1 λ J H2=>mtR Γ m (.ref (φ1 r)) J H2 Q:=by
   refine⟨φ1,ρ,s1,l,s2,E.mono g1 l1,R1,e2,λ vs φ2 H2 g2 l2 b2 r2 R2=>?_⟩
   refine⟨φ2,s2,.ref r,l,d,s',R2,?_,r2,zh l2 _ Y,b2,B,q.trans (g1.trans g2 l1) (av l1 l2)⟩
   have:=RV.mono g2 _ _ Y r1
   rw[r1.refE]at this
   exact this
  refine⟨?_,a0⟩
  have hlt:r<s1.length:=by unfold la at Y;exact of_decide_eq_true Y
  obtain⟨o0,e0⟩:∃ o0,s1[r]?=some o0:=⟨s1[r],aq hlt⟩
  have Z:=R1.obj r o0 e0
  cases o0 with
  | lst l0 =>
   obtain⟨J,h1,_⟩:=Z
   exact .inl ⟨rfl,J,SqL.of h1⟩
  | ro l0 =>
   obtain⟨J,h1,_⟩:=Z
   exact .inl ⟨rfl,J,h1.1⟩
  | dic _ =>
   obtain⟨o',eo,ek⟩:=DV.ak7 G.fk es ρ s1 _ _ e2 r _ e0
   rw[er]at eo;cases eo;cases ek
  | dit _ =>
   obtain⟨o',eo,ek⟩:=DV.ak7 G.fk es ρ s1 _ _ e2 r _ e0
   rw[er]at eo;cases eo;cases ek
  | ins _ _=>exact Z.elim
 cases J with
 | nil =>
  have p0:PE X (.Call (.Attribute ob x ap) [] [] cp) (cn0 X.K "list" (mtR Γ m) (TEv Γ (k9 F o))):=bX0 gg slot a1 hr ho (bf2 hab) hl
  rw[G.K]at p0
  refine p0.imp λ σ H Q q=>?_
  cases es with
  | cons _ _=>exact h.elim
  | nil =>
   obtain⟨φ,ρ,s,d,s',E,R,B,k⟩:=key σ H Q q
   refine⟨φ,ρ,s,d,s',E,R,B,λ v φ1 H1 g1 l1 Y r1 R1=>?_⟩
   obtain⟨h1,h2⟩:=k v φ1 H1 g1 l1 Y r1 R1
   exact⟨h1,aN1 (TAv.eq (λ ρ s=>rfl) h2)⟩
 | cons y ys =>
  refine(bW9 G.K gg slot a1 hr ho (av4 h) (bf2 hab) ?_ hl (zb (hs y (aD ..))) (zJ λ e he=>hs e (ao _ he)).1).imp key
  rw[(zJ hs).2]
  have:(y::ys).length<=1:=by
   unfold mtT at hm
   split at hm<;>first|(have:=aE hm;have:=congrArg Prod.snd this;simp at this;simp;omega)|cases hm
  simp only[fZ,gN,kI]
  show(true&&decide ((y::ys).length+0+0<30))=true
  rw[fZ]
  exact decide_eq_true (by omega)
end
section
variable {Γ:Gm} {F:lr} {n:Nat} {X:Cx} {ck:Ck} {σ:St} {H:Hp} {Q:VK}
theorem PIf.imp {e:List Expr}{t t':TT}(h:PIf X e t)(i:∀ σ H Q,t' σ H Q->t σ H Q):PIf X e t':=λ B s σ H Q I q=>h B s σ H Q I (i σ H Q q)
structure CompF (Γ:Gm)(X:Cx)(m:k6->kY->k8 (List kZ))(E:Expr):Prop where
 ex:∃ elt tgt iter ifs scope pos N' caps wi g tc te,E=.ListComp elt [⟨tgt,iter,ifs,0⟩] scope pos/\zO N' caps scope X.N X.env.scope=true/\PI X tgt iter wi /\
  (∀(C:Addr) (cells:List (Str×Addr)) (s:af) (H:Hp) (ex:List Addr),PG (zB X N' scope C cells s H ex) tgt g/\PIf (zB X N' scope C cells s H ex) ifs tc/\PE (zB X N' scope C cells s H ex) elt te) /\
  (∀ x,dq iter X.env x=pure x)/\∀ σ H Q,TFv Γ m σ H Q->tComp caps wi g tc te σ H Q
theorem CompF.pe {m:k6->kY->k8 (List kZ)}{E:Expr}(h:CompF Γ X m E)(hc:X.calm=true):PE X E (TFv Γ m):=by
 obtain⟨J,a0,iter,G,scope,pos,N',B,wi,g,tc,te,rfl,h1,Z,h3,F,Y⟩:=h.ex
 exact(aX5 N' B h1 Z hc h3 F).imp Y
theorem bF5 {tg:lL}{mI:k6->kY->k8 l8}{mc Y:k6->kY->k8 kZ}{h:List (Option Nat)}{J B iter i:Expr}{scope:Scope}{pos:Pos}(G:CG Γ F n X ck)(hm:aS2 ck tg B iter h scope=true)
  (hi:PI X B iter (TIv Γ mI)) (hc:∀ C cells s H ex,PT (zB X (ckC ck B h scope).N scope C cells s H ex) i (TTv Γ mc)) (he:∀ C cells s H ex,PE (zB X (ckC ck B h scope).N scope C cells s H ex) J (TEv Γ Y)) :
  CompF Γ X (λ ρ s=>(mI ρ s).bind λ q s0=>if q.its.length<=lh then ma (λ s=>lJ s0 s q.src) (λ d ρ s=>match lA ρ tg d with
   | some ρ=>lq (mc ρ s) λ k s=>if k then(Y ρ s).bind λ v s=>.ok (some v,ρ) s else .ok (none,ρ) s
   | none=>.bad) q.its (mq ρ h) s0 else .bad) (.ListComp J [⟨B,iter,[i],0⟩] scope pos):=by
 obtain⟨Z,c2,c3⟩:=G.comp hm
 exact⟨J,B,iter,[i],scope,pos,_,h,_,_,_,_,rfl,Z,hi,λ C cells s H ex=>⟨(c3 C cells s H ex).2,bv4 (hc C cells s H ex),he C cells s H ex⟩,aA2 c2,λ σ H Q q=>be0 q⟩
theorem bi3 {tg:lL}{mI:k6->kY->k8 l8}{Y:k6->kY->k8 kZ}{h:List (Option Nat)}{J B iter:Expr}{scope:Scope}{pos:Pos}(G:CG Γ F n X ck)(hm:aS2 ck tg B iter h scope=true)
  (hi:PI X B iter (TIv Γ mI)) (he:∀ C cells s H ex,PE (zB X (ckC ck B h scope).N scope C cells s H ex) J (TEv Γ Y)) :
  CompF Γ X (λ ρ s=>(mI ρ s).bind λ q s0=>if q.its.length<=lh then ma (λ s=>lJ s0 s q.src) (λ d ρ s=>match lA ρ tg d with
   | some ρ=>(Y ρ s).bind λ v s=>.ok (some v,ρ) s
   | none=>.bad) q.its (mq ρ h) s0 else .bad) (.ListComp J [⟨B,iter,[],0⟩] scope pos):=by
 obtain⟨Z,c2,c3⟩:=G.comp hm
 refine⟨J,B,iter,[],scope,pos,_,h,_,_,TTv Γ (λ ρ s=>.ok (.bl true) s),_,rfl,Z,hi,λ C cells s H ex=>⟨(c3 C cells s H ex).2,bx2.imp λ σ H Q q=>?_,he C cells s H ex⟩,aA2 c2,λ σ H Q q=>be0 (TFv.eq (λ ρ s=>?_) q)⟩
 ·obtain⟨φ,ρ,s,b,s',E,R,hm,q⟩:=q
  cases hm
  exact q φ H (Gr.refl _ _ _) (aw _) R
 ·congr 1
theorem by9 {tg:Expr}{e:mH}{E:Expr}(G:CG Γ F n X ck)(h:PE X E (TEv Γ (k9 F e))):PI X tg E (TIv Γ (mf F (.seq e))):=by
 refine(PI.or (bH1 G.K h) (PI.or (bk9 G.K h) (bS8 h))).imp λ σ H R q=>bU7 (TIv.eq (λ ρ s=>rfl) q)
theorem bq0 {tg:Expr}{a:mH}{l:Expr}{p pos:Pos}(G:CG Γ F n X ck)(hg:ck.gl "range"=true)(hs:shp l=true)(h:PE X l (TEv Γ (k9 F a))):PI X tg (.Call (.Name "range" p) [l] [] pos) (TIv Γ (mf F (.rng1 a))) :=
 (bf7 (G.gl hg).1 (G.bi _ (by decide)) (zQ h aj9 (zb hs)) (zb hs)).imp λ σ H R q=>bI7 (TIv.eq (λ ρ s=>rfl) q)
theorem bm1 {tg:Expr}{a b:mH}{l r:Expr}{p pos:Pos}(G:CG Γ F n X ck)(hg:ck.gl "range"=true)(hs:shp l=true)(B:shp r=true)(h:PE X l (TEv Γ (k9 F a)))(J:PE X r (TEv Γ (k9 F b))):PI X tg (.Call (.Name "range" p) [l,r] [] pos) (TIv Γ (mf F (.rng2 a b))) :=
 (aW4 (G.gl hg).1 (G.bi _ (by decide)) (zQ h (zQ J aj9 (zb B)) (zb hs)) (by rw[zb hs,zb B];rfl) (zb B)).imp λ σ H R q=>bB9 (TIv.eq (λ ρ s=>rfl) q)
theorem bB4 {mk mv:k6->kY->k8 kZ}(h:TEv Γ (λ ρ s=>(mk ρ (s++[.dit []])).bind λ kd s1=>(mv ρ s1).bind λ F s2=>if kd.keyT=true/\s2[s.length]?=some (.dit [])then .ok (.ref s.length) (s2.set s.length (.dit [(kd,F)]))else .bad) σ H Q):bu5 (TEv Γ mk) (TEv Γ mv) σ H Q:=by
 obtain⟨φ,ρ,s,d,s',E,R,hm,q⟩:=h
 obtain⟨kd,s1,e1,hm⟩:=aa5 hm
 obtain⟨F,s2,e2,hm⟩:=aa5 hm
 split at hm
 case isFalse=>exact fb hm
 rename_i hc
 cases hm
 intro p hp
 obtain⟨g0,R0⟩:=R.new (o:=.dit []) (u:=.dT []) hp rfl λ φ' H' g e=>⟨[],e,rfl⟩
 have l0:s.length<=(s++[DV.O.dit []]).length:=by simp
 refine⟨_,ρ,s++[DV.O.dit []],kd,s1,E.mono g0 l0,R0,e1,λ v1 φ1 H1 g1 l1 b1 r1 R1=>?_⟩
 refine⟨φ1,ρ,s1,F,s2,(E.mono g0 l0).mono g1 l1,R1,e2,λ v2 φ2 H2 Y J b2 r2 R2=>?_⟩
 have B:φ2 s.length=p:=by
  rw[Y.w.map s.length (aG (by simp) l1),g1.w.map s.length (by simp)];simp
 obtain⟨k,hk⟩:=al6 hc.1
 obtain⟨kb,ek,nk⟩:=aA0 hk (RV.mono Y kd v1 b1 r1)
 obtain⟨G,z1,z2⟩:=R2.obj s.length _ hc.2
 have z2:G=[]:=z2
 subst z2
 rw[B]at z1
 refine⟨z1,kb,k,ek,nk,?_⟩
 have hb:(DV.O.dit [(kd,F)]).bnd s2.length=true:=by
  unfold lb
  simp only[a8,gD,k7,iR,aj]
  exact⟨zh J _ b1,b2⟩
 obtain⟨g3,Z⟩:=R2.set (o:=.dit [(kd,F)]) (u:=.dT [(k,v2)]) hc.2 rfl hb λ H' g e=>⟨_,e,k,v2,[],rfl,hk,RV.monoW g _ _ b2 r2,rfl⟩
 rw[B]at g3 Z
 have L:s.length<=s2.length:=av l0 (av l1 J)
 have lt:s.length<s2.length:=aG (by simp) (av l1 J)
 exact q (.ref p) _ _ (((g0.trans g1 l0).trans Y (av l0 l1)).trans g3 L) (by rw[bK];exact L) (by unfold la;rw[bK];exact decide_eq_true lt) (by unfold RV;rw[B]) Z
section
variable {c:String} {kvs:List (List Nat×List Nat)} {a:Addr}
end
end
section
variable {Γ:Gm} {F:lr} {n:Nat} {X:Cx} {ck:Ck}
end
section
variable {Γ:Gm} {F:lr} {n:Nat} {X:Cx} {ck:Ck}
def TJv (Γ:Gm)(m:k6->kY->k8 (List kZ))(out:List Nat):TE:=λ σ H Q=>∃ φ ρ s l s' ws,RE Γ φ H s.length ρ σ/\Rp Γ φ H s/\m ρ s=.ok l s'/\mJ l=some ws/\(out++ws.flatten).length<=lh /\
 ∀ φ' H',Gr φ s H φ' s' H'->s.length<=s'.length->Rp Γ φ' H' s'->Q (.str ⟨(out++ws.flatten).toArray⟩) H'
def PF (Γ:Gm)(X:Cx)(vs:List Expr)(m:k6->kY->k8 (List kZ)):Prop :=
 ∀(out:List Nat) (pins:List (Addr×Obj)) (s:af) (σ:St) (H:Hp) (Q:VK),Inv X pins σ H s->TJv Γ m out σ H Q->wpAny (model X.prog X.w) X.A (joinParts ⟨out.toArray⟩ (evalEach vs X.env)) (EP X pins σ Q) X.xe s
theorem PF.eq {vs:List Expr}{m m':k6->kY->k8 (List kZ)}(e:∀ ρ s,m ρ s=m' ρ s)(h:PF Γ X vs m):PF Γ X vs m':=λ out B s σ H Q I q=>by
 obtain⟨φ,ρ,s0,l,s',ws,E,R,hm,q⟩:=q
 exact h out B s σ H Q I ⟨φ,ρ,s0,l,s',ws,E,R,by rw[e];exact hm,q⟩
theorem aH9 (w:List Nat):(⟨w.toArray⟩:Str).length=w.length:=by simp[Str.length]
theorem bN2:PF Γ X [] (λ _ s=>.ok [] s):=λ out h s σ H Q I q=>by
 obtain⟨φ,ρ,s0,l,s',ws,E,R,hm,hw,hl,q⟩:=q
 cases hm
 cases hw
 rw[List.flatten_nil,bv]at q hl
 exact joinParts_nilE (joinParts_nil ⟨.str ⟨out.toArray⟩,H,I.tok _,⟨_,rfl⟩,q φ H (Gr.refl _ _ _) (aw _) R⟩ (by rw[aH9];exact av hl zI))
theorem be3 {d:kZ}{l:List kZ}{ws:List (List Nat)}(h:mJ (d::l)=some ws):∃ w B,d=.str w/\mJ l=some B/\ws=w::B:=by
 cases d with
 | str w =>
  have h:(mJ l).map (w::·)=some ws:=h
  cases e:mJ l with
  | none=>rw[e]at h;cases h
  | some B=>rw[e]at h;cases h;exact⟨w,B,rfl,rfl,rfl⟩
 | _=>cases h
theorem aZ8 {v:Expr}{vs:List Expr}{m1:k6->kY->k8 kZ}{m2:k6->kY->k8 (List kZ)}(h2:PF Γ X vs m2)
  (h1:∀(h:List (Addr×Obj)) (s:af) (σ:St) (H:Hp) (w:List Nat) (Q:VK),w.length<=lh->Inv X h σ H s->TEv Γ m1 σ H (λ x B=>x=.str ⟨w.toArray⟩/\Q x B) ->
   wpAny (model X.prog X.w) X.A (eval v X.env) (λ u s1=>∃ t B,u=.str ⟨w.toArray⟩ t/\Inv X h σ B s1/\Q (.str ⟨w.toArray⟩) B) X.xe s) :
  PF Γ X (v::vs) (λ ρ s=>(m1 ρ s).bind λ d s=>(m2 ρ s).bind λ l s=>.ok (d::l) s):=λ out h s σ H Q I q=>by
 obtain⟨φ,ρ,s0,l,s',ws,E,R,hm,hw,hl,q⟩:=q
 obtain⟨d,s1,e1,hm⟩:=aa5 hm
 obtain⟨l2,s2,e2,hm⟩:=aa5 hm
 cases hm
 obtain⟨w,Y,rfl,J,rfl⟩:=be3 hw
 rw[cM,<-bP]at hl q
 have F:(out++w).length<=lh:=by rw[ax]at hl;omega
 have G:w.length<=lh:=by rw[ax]at F;omega
 refine joinParts_consE (joinParts_cons (br (h1 h s σ H w (λ x B=>∃ φ1,Gr φ s0 H φ1 s1 B/\s0.length<=s1.length/\Rp Γ φ1 B s1) G I ⟨φ,ρ,s0,.str w,s1,E,R,e1,λ v φ1 B g1 l1 b1 r1 R1=>⟨r1.strE,φ1,g1,l1,R1⟩⟩) (λ u Z hu=>?_) λ _ _ x=>x))
 obtain⟨t,B,rfl,I1,φ1,g1,l1,R1⟩:=hu
 show(_++_:Str).length<=aO/\_
 rw[aV8]
 refine⟨by rw[aH9];exact av F zI,h2 (out++w) h Z σ B Q I1 ⟨φ1,ρ,s1,l2,s',Y,E.mono g1 l1,R1,e2,J,hl,λ φ2 H2 g2 l2 R2=>q φ2 H2 (g1.trans g2 l1) (av l1 l2) R2⟩⟩
theorem br0 {v:Expr}{F:k6->kY->k8 kZ}(hv:PE X v (TEv Γ F))(h:List (Addr×Obj))(s:af)(σ:St)(H:Hp)(w:List Nat)(Q:VK)(I:Inv X h σ H s)(q:TEv Γ F σ H (λ x B=>x=.str ⟨w.toArray⟩/\Q x B)) :
  wpAny (model X.prog X.w) X.A (eval v X.env) (λ u s1=>∃ t B,u=.str ⟨w.toArray⟩ t/\Inv X h σ B s1/\Q (.str ⟨w.toArray⟩) B) X.xe s :=
 br (hv h s σ H _ I q) (λ u s1 hu=>by
  obtain⟨x,B,Y,G,ex,J⟩:=hu
  subst ex
  obtain⟨t,rfl⟩:=(show ∃ t,u=Value.str ⟨w.toArray⟩ t from G)
  exact⟨t,B,rfl,Y,J⟩) λ _ _ x=>x
theorem bR8 {v:Expr}{p:Pos}{vs:List Expr}{B:k6->kY->k8 kZ}{F:k6->kY->k8 (List kZ)}(hv:PE X v (TEv Γ B))(Z:PF Γ X vs F) :
  PF Γ X (.FormattedValue v (-1) none p::vs) (λ ρ s=>(B ρ s).bind λ d s=>(F ρ s).bind λ l s=>.ok (d::l) s) :=
 aZ8 Z λ h s σ H w Q hw I q=>FormattedValue_plain (br (br0 hv h s σ H w Q I q) (λ u s1 hu=>by
  obtain⟨t,G,rfl,J,Y⟩:=hu
  exact formatField_str (λ t' tk=>⟨t',G,rfl,J.tok tk,Y⟩) (by rw[aH9];exact av hw zI)) λ _ _ x=>x)
theorem bQ7 {v:Expr}{vs:List Expr}{F:k6->kY->k8 kZ}{B:k6->kY->k8 (List kZ)}(hv:PE X v (TEv Γ F))(G:PF Γ X vs B) :
  PF Γ X (v::vs) (λ ρ s=>(F ρ s).bind λ d s=>(B ρ s).bind λ l s=>.ok (d::l) s) :=
 aZ8 G λ h s σ H w Q hw I q=>br0 hv h s σ H w Q I q
end
section
variable {Γ:Gm} {F:lr} {n:Nat}
theorem bK6 {X:Cx}{c:DV.Cn}{v:Const}{k:Nat}{pos:Pos}(h:mC c v=true):EvT Γ X (.Constant v k pos) (k9 F (.cst c)):=by
 refine .val ?_
 unfold mC at h
 split at h
 ·exact bQ9.imp λ σ H Q q=>aD0 (c:=.non) (λ _=>rfl) (λ _ _=>RV.nonI) (TEv.eq (λ ρ s=>rfl) q)
 ·rename_i b c
  have e:=eq_of_beq h
  subst e
  exact bR2.imp λ σ H Q q=>aD0 (c:=.bl b) (λ _=>rfl) (λ _ _=>RV.blI) (TEv.eq (λ ρ s=>rfl) q)
 ·rename_i i j
  have e:=of_decide_eq_true h
  subst e
  exact bX9.imp λ σ H Q q=>aD0 (c:=.int i) (λ _=>rfl) (λ _ _=>RV.intI) (TEv.eq (λ ρ s=>rfl) q)
 ·rename_i x y
  rw[aj]at h
  have e:=of_decide_eq_true h.1
  have e2:=of_decide_eq_true h.2
  subst e
  exact br9.imp λ σ H Q q=>aD0 (c:=.str x) (λ _=>rfl) (λ _ _=>RV.strI (by unfold lh;omega)) (TEv.eq (λ ρ s=>rfl) q)
 ·cases h
theorem bH9 {X:Cx}{Z:Ck}{es:lE}{B:List Expr}{pos:Pos}(m:mEs Z es B=true)(hz:B.length<=1000)(h:PA X B (TAv Γ (lK F es))):PE X (.List B pos) (TFv Γ (DV.evL F (.disp es))):=by
 refine(aX4 h).imp λ σ H Q q=>?_
 obtain⟨φ,ρ,s,l,s',E,R,hm,q⟩:=q
 refine⟨φ,ρ,s,l,s',E,R,hm,λ vs φ1 G g1 l1 J r1 R1=>⟨by rw[r1.length,ax7 hm m];exact aM5 hz,λ p hp=>?_⟩⟩
 obtain⟨Y,R2⟩:=R1.same (H':=upd G p (.lst vs)) ((ak6.refl G).new hp)
 refine q p vs φ1 _ (g1.trans Y l1) l1 J zx ?_ (Off.new R1 hp) (RVL.mono Y _ _ J r1) R2
 cases e:H p with
 | none=>rfl
 | some o=>exact absurd hp (g1.st p (by rw[e];simp))
theorem CompF.eq {X:Cx}{m m':k6->kY->k8 (List kZ)}{E:Expr}(c:CompF Γ X m E)(e:∀ ρ s,m' ρ s=m ρ s):CompF Γ X m' E:=by
 have:m'=m:=funext λ ρ=>funext λ s=>e ρ s
 subst this;exact c
theorem zg {a b:Bool}(h:(a&&b)=true):a=true/\b=true:=by rw[aj]at h;exact h
theorem bH2 {X:Cx}{J:Ck}{g:String}{p:Pos}(G:CG Γ F n X J)(h:J.gl (g:Str)=true):EvT Γ X (.Name (g:Str) p) (k9 F (.glob g)):=by
 refine .val ?_
 obtain⟨g1,g2,g3⟩:=G.gl h
 cases e:F.con g with
 | none =>
  intro B s σ H Q I q
  obtain⟨φ,ρ,s,d,s',E,R,hm,q⟩:=q
  have hm:(match F.con g with|some d=>DV.R.ok d s|none=>.bad)=.ok d s':=hm
  rw[e]at hm
  cases hm
 | some d =>
  obtain⟨v,u,h1,Z,h3,Y⟩:=G.con g d e
  exact(aI7 g1 h1 Z g2).imp λ σ H Q q=>aD0 (c:=d) h3 Y (TEv.eq (λ ρ s=>by show(match F.con g with|some d=>DV.R.ok d s|none=>.bad)=DV.R.ok d s;rw[e]) q)
theorem bM4 {X:Cx}{B:Ck}{i:Nat}{x:Str}{p:Pos}(G:CG Γ F n X B)(h:B.var i x=true):EvT Γ X (.Name x p) (k9 F (.var i)):=by
 refine .val ?_
 unfold Ck.var at h
 obtain⟨h,Z⟩:=zg h
 obtain⟨h,h3⟩:=zg h
 obtain⟨Y,J⟩:=zg h
 have e1:(x==("__debug__":Str))=false:=by simpa using h3
 have e2:(x==("__classdict__":Str))=false:=by simpa using Z
 exact(bO5 (by rw[G.N];exact of_decide_eq_true Y) (G.vis J) e1 e2).imp λ σ H Q q=>bU4 i (TEv.eq (λ ρ s=>rfl) q)
theorem aO1 {X:Cx}{E:Expr}{m:k6->kY->k8 kZ}(h:∀ ρ s,m ρ s=.bad):EvT Γ X E m:=by
 refine⟨λ B s σ H Q I q=>?_,λ B s σ H Q I q=>?_⟩
 ·obtain⟨φ,ρ,s,d,s',E,R,hm,q⟩:=q
  rw[h]at hm;exact fb hm
 ·obtain⟨φ,ρ,s,d,s',E,R,hm,q⟩:=q
  rw[h]at hm;exact fb hm
inductive LK (Γ:Gm)(X:Cx)(m:k6->kY->k8 (List kZ))(E:Expr)(k:Nat):Prop where
 | c (h:CompF Γ X m E):LK Γ X m E k
 | f (hk:1<=k) (h:PE X E (TFv Γ m)):LK Γ X m E k
 | s (hk:k=2) (h:PE X E (TLv Γ m)):LK Γ X m E k
theorem bM6 {X:Cx}{m:k6->kY->k8 (List kZ)}{E:Expr}(h:LK Γ X m E 0):CompF Γ X m E:=by
 cases h with
 | c h=>exact h
 | f hk h=>omega
 | s hk h=>omega
theorem bR0 {X:Cx}{B:Ck}{m:k6->kY->k8 (List kZ)}{E:Expr}(G:CG Γ F n X B)(h:LK Γ X m E 1):PE X E (TFv Γ m):=by
 cases h with
 | c h=>exact h.pe G.calm
 | f hk h=>exact h
 | s hk h=>omega
theorem cg8 {X:Cx}{B:Ck}{m:k6->kY->k8 (List kZ)}{E:Expr}(G:CG Γ F n X B)(h:LK Γ X m E 2):PE X E (TLv Γ m):=by
 cases h with
 | c h=>exact(h.pe G.calm).imp λ σ H Q q=>aQ2 q
 | f hk h=>exact h.imp λ σ H Q q=>aQ2 q
 | s hk h=>exact h
theorem biOk_inv {B:Ck}{b:lO}{x:Str}{F:List Expr}{es:lE}(h:cb0 B b x F (mEs B es F) (mEs B es (F.take 1))=true) :
  (∃ k t a y G,biK b=some (k,t)/\F=[a,.Name y G]/\x=("isinstance":Str)/\y=t/\B.gl x=true/\B.gl y=true/\mEs B es [a]=true)\/∃ a ys,F=a::ys/\biT b=some x/\B.gl x=true/\mEs B es (a::ys)=true:=by
 unfold cb0 at h
 cases hk:biK b with
 | none =>
  rw[hk]at h
  cases F with
  | nil=>exact ff h
  | cons a ys =>
   obtain⟨h,h3⟩:=zg h
   obtain⟨Y,J⟩:=zg h
   exact .inr ⟨a,ys,rfl,of_decide_eq_true Y,J,h3⟩
 | some p =>
  rw[hk]at h
  cases F with
  | nil=>exact ff h
  | cons a ys=>cases ys with
   | nil=>exact ff h
   | cons b ys=>cases b with
    | Name y G=>cases ys with
     | nil =>
      obtain⟨h,Z⟩:=zg h
      obtain⟨h,h4⟩:=zg h
      obtain⟨h,h3⟩:=zg h
      obtain⟨Y,J⟩:=zg h
      exact .inl ⟨p.1,p.2,a,y,G,rfl,rfl,of_decide_eq_true Y,of_decide_eq_true h3,J,h4,Z⟩
     | cons _ _=>exact ff h
    | _=>exact ff h
mutual
theorem sE:∀(e:mH) (E:Expr) (X:Cx) (B:Ck),CG Γ F n X B->mE B e E=true->EvT Γ X E (k9 F e)
 | .var i,E,X,B,G,h=>by
  cases E with
  | Name x p =>
   exact bM4 G h
  | _=>exact ff h
 | .cst c,E,X,B,G,h=>by
  cases E with
  | Constant v k p =>
   exact bK6 h
  | _=>exact ff h
 | .glob g,E,X,B,G,h=>by
  cases E with
  | Name x p =>
   obtain⟨Y,J⟩:=zg h
   have e:=of_decide_eq_true Y
   subst e
   exact bH2 G J
  | _=>exact ff h
 | .bin op a b,E,X,B,G,h=>by
  cases E with
  | BinOp l o r pE =>
   obtain⟨h,h3⟩:=zg h
   obtain⟨Y,J⟩:=zg h
   have e:=of_decide_eq_true Y
   subst e
   exact bH5 G op (sE a _ X B G J) (sE b _ X B G h3)
  | _=>exact ff h
 | .neg a,E,X,B,G,h=>by
  cases E with
  | UnaryOp o l p =>
   cases o with
   | USub =>
    exact bD3 (sE a _ X B G h)
   | _=>exact ff h
  | _=>exact ff h
 | .not a,E,X,B,G,h=>by
  cases E with
  | UnaryOp o l p =>
   cases o with
   | Not =>
    exact bC4 (sE a _ X B G h)
   | _=>exact ff h
  | _=>exact ff h
 | .cmp op a b,E,X,B,G,h=>by
  cases E with
  | Compare l os rs pE =>
   cases os with
   | cons o os_0 =>
    cases os_0 with
    | nil =>
     cases rs with
     | cons r rs_0 =>
      cases rs_0 with
      | nil =>
       obtain⟨h,h3⟩:=zg h
       obtain⟨Y,J⟩:=zg h
       have e:=of_decide_eq_true Y
       subst e
       exact bH0 G op (aP2 h3) (sE a _ X B G J) (sE b _ X B G h3)
      | _=>exact ff h
     | _=>exact ff h
    | _=>exact ff h
   | _=>exact ff h
  | _=>exact ff h
 | .chain _ _ _ _ _,E,X,B,G,h=>ff h
 | .isN a,E,X,B,G,h=>by
  cases E with
  | Compare l os rs pE =>
   cases os with
   | cons o os1 =>
    cases o with
    | Is =>
     cases os1 with
     | nil =>
      cases rs with
      | cons r rs1 =>
       cases r with
       | Constant v k p1 =>
        cases v with
        | none =>
         cases rs1 with
         | nil =>
          exact bH7 (sE a _ X B G h)
         | _=>exact ff h
        | _=>exact ff h
       | _=>exact ff h
      | _=>exact ff h
     | _=>exact ff h
    | _=>exact ff h
   | _=>exact ff h
  | _=>exact ff h
 | .notN a,E,X,B,G,h=>by
  cases E with
  | Compare l os rs pE =>
   cases os with
   | cons o os1 =>
    cases o with
    | IsNot =>
     cases os1 with
     | nil =>
      cases rs with
      | cons r rs1 =>
       cases r with
       | Constant v k p1 =>
        cases v with
        | none =>
         cases rs1 with
         | nil =>
          exact bi9 (sE a _ X B G h)
         | _=>exact ff h
        | _=>exact ff h
       | _=>exact ff h
      | _=>exact ff h
     | _=>exact ff h
    | _=>exact ff h
   | _=>exact ff h
  | _=>exact ff h
 | .isB _ _,E,X,B,G,h=>ff h
 | .notB _ _,E,X,B,G,h=>ff h
 | .and a b,E,X,B,G,h=>by
  cases E with
  | BoolOp op vs p=>cases op with
   | And =>
    cases vs with
    | nil=>exact ff h
    | cons l vs=>cases vs with
     | nil=>exact ff h
     | cons r vs=>cases vs with
      | nil =>
       obtain⟨Y,J⟩:=zg h
       exact bI6 (sE a _ X B G Y) (sE b _ X B G J)
      | cons r2 vs =>
       obtain⟨Y,J⟩:=zg h
       exact bI2 (sE a _ X B G Y) (sE b _ X B G J)
   | _=>exact ff h
  | _=>exact ff h
 | .or a b,E,X,B,G,h=>by
  cases E with
  | BoolOp op vs p=>cases op with
   | Or =>
    cases vs with
    | nil=>exact ff h
    | cons l vs=>cases vs with
     | nil=>exact ff h
     | cons r vs=>cases vs with
      | nil =>
       obtain⟨Y,J⟩:=zg h
       exact bK1 (sE a _ X B G Y) (sE b _ X B G J)
      | cons r2 vs =>
       obtain⟨Y,J⟩:=zg h
       exact bP6 (sE a _ X B G Y) (sE b _ X B G J)
   | _=>exact ff h
  | _=>exact ff h
 | .ite c a b,E,X,B,G,h=>by
  cases E with
  | IfExp tE l r pE =>
   obtain⟨h,h3⟩:=zg h
   obtain⟨Y,J⟩:=zg h
   exact bI0 (sE c _ X B G Y) (sE a _ X B G J) (sE b _ X B G h3)
  | _=>exact ff h
 | .tup es,E,X,B,G,h=>by
  cases E with
  | Tuple xs k p =>
   obtain⟨Y,J⟩:=zg h
   exact bx9 Y (of_decide_eq_true J) (av4 (sEs es _ X B G Y))
  | _=>exact ff h
 | .lst es,E,X,B,G,h=>by
  cases E with
  | List xs p =>
   obtain⟨Y,J⟩:=zg h
   exact bA3 Y (of_decide_eq_true J) (av4 (sEs es _ X B G Y))
  | _=>exact ff h
 | .dic .nil .nil,E,X,B,G,h=>ff h
 | .dic (.cons k .nil) (.cons v .nil),E,X,B,G,h=>ff h
 | .dic .nil (.cons _ _),E,X,B,G,h=>aO1 λ _ _=>rfl
 | .dic (.cons _ .nil) .nil,E,X,B,G,h=>aO1 λ _ _=>rfl
 | .dic (.cons _ .nil) (.cons _ (.cons _ _)),E,X,B,G,h=>aO1 λ _ _=>rfl
 | .dic (.cons _ (.cons _ _)) _,E,X,B,G,h=>aO1 λ _ _=>rfl
 | .bitl _,E,X,B,G,h=>ff h
 | .fstr _,E,X,B,G,h=>ff h
 | .inC _ _,E,X,B,G,h=>ff h
 | .getC _ _,E,X,B,G,h=>ff h
 | .lrng _,E,X,B,G,h=>ff h
 | .dicU k v,E,X,B,G,h=>by
  cases E with
  | Dict a b p=>cases a with
   | nil=>exact ff h
   | cons x a=>cases x with
    | none=>cases a with|nil=>exact ff h|_=>exact ff h
    | some x=>cases a with
     | nil=>cases b with
      | nil=>exact ff h
      | cons y b=>cases b with
       | nil =>
        obtain⟨Y,J⟩:=zg h
        exact .val ((bk0 (Nat.lt_of_succ_lt (ap0 G.room)) (sE k _ X B G Y).1 (sE v _ X B G J).1).imp λ σ H Q q=>bB4 (TEv.eq (λ ρ s=>rfl) q))
       | _=>exact ff h
     | _=>exact ff h
  | _=>exact ff h
 | .dicT,E,X,B,G,h=>ff h
 | .get2 _ _ _,E,X,B,G,h=>ff h
 | .ix a b,E,X,B,G,h=>by
  cases E with
  | Subscript o i p =>
   obtain⟨Y,J⟩:=zg h
   exact bN0 G (aP2 J) (sE a _ X B G Y) (sE b _ X B G J)
  | _=>exact ff h
 | .slL _ _,E,X,B,G,h=>ff h
 | .slU a hi,E,X,B,G,h=>by
  cases E with
  | Subscript o i p =>
   cases i with
   | Slice lo hi st p2 =>
    cases lo with
    | none =>
     cases hi with
     | some l =>
      cases st with
      | none =>
       obtain⟨Y,J⟩:=zg h
       exact bF8 G (sE a _ X B G Y) (sE hi _ X B G J)
      | _=>exact ff h
     | _=>exact ff h
    | _=>exact ff h
   | _=>exact ff h
  | _=>exact ff h
 | .slLU _ _ _,E,X,B,G,h=>ff h
 | .rev _,E,X,B,G,h=>ff h
 | .call f as,E,X,B,G,h=>by
  cases E with
  | Call fE xs kw p =>
   cases fE with
   | Name x pN =>
    cases kw with
    | nil =>
     obtain⟨h,h3⟩:=zg h
     obtain⟨Y,J⟩:=zg h
     have e:=of_decide_eq_true Y
     subst e
     exact bk2 G J h3 (sAs as _ X B G h3)
    | _=>exact ff h
   | _=>exact ff h
  | _=>exact ff h
 | .callC _ _,E,X,B,G,h=>ff h
 | .callV _ _,E,X,B,G,h=>ff h
 | .bi b es,E,X,B,G,h=>by
  cases E with
  | Call fE xs kw p =>
   cases fE with
   | Name x pN =>
    cases kw with
    | nil =>
     have h:cb0 B b x xs (mEs B es xs) (mEs B es (xs.take 1))=true:=h
     rcases biOk_inv h with⟨k,t,a,y,py,hk,rfl,rfl,rfl,J,Z,h5⟩|⟨a,ys,rfl,Y,J,h3⟩
     ·exact bI8 G hk J Z (sEs es _ X B G h5)
     ·exact bN7 G Y J h3 (av4 (sEs es _ X B G h3))
    | _=>exact ff h
   | _=>exact ff h
  | _=>exact ff h
 | .mk k l,E,X,B,G,h=>by
  cases E with
  | ListComp e gs sc p =>
   obtain⟨Y,J⟩:=zg h
   have e:=of_decide_eq_true Y
   subst e
   exact .val (((bM6 (sL l _ X B G 0 J)).pe G.calm).imp λ σ H Q q=>bb7 (TEv.eq (λ ρ s=>rfl) q))
  | Call fE xs kw p =>
   cases fE with
   | Name x pN =>
    cases xs with
    | cons a xs_0 =>
     cases xs_0 with
     | nil =>
      cases kw with
      | nil =>
       obtain⟨h,Z⟩:=zg h
       obtain⟨J,h3⟩:=zg h
       rw[bS]at Z
       rcases Z with Z|Z
       ·obtain⟨h5,h6⟩:=zg Z
        exact .val ((bZ3 G (of_decide_eq_true h5) J h3 (cg8 G (sL l _ X B G 2 h6))).imp λ σ H Q q=>TEv.eq (λ ρ s=>rfl) q)
       ·obtain⟨h5,h6⟩:=zg Z
        exact .val ((bZ2 G (of_decide_eq_true h5) J h3 (bR0 G (sL l _ X B G 1 h6))).imp λ σ H Q q=>TEv.eq (λ ρ s=>rfl) q)
      | _=>exact ff h
     | _=>exact ff h
    | _=>exact ff h
   | _=>exact ff h
  | _=>exact ff h
 | .mks _ _,E,X,B,G,h=>ff h
 | .mkDs _ _ _,E,X,B,G,h=>ff h
 | .minK _ _ _,E,X,B,G,h=>ff h
 | .mkD k l d,E,X,B,G,h=>by
  cases E with
  | Call fE xs kw p =>
   cases fE with
   | Name x pN =>
    cases xs with
    | cons a xs_0 =>
     cases xs_0 with
     | nil =>
      cases kw with
      | cons kk kw1 =>
       cases kk with
       | mk ky de kp =>
        cases ky with
        | some y =>
         cases kw1 with
         | nil =>
          obtain⟨h,h7⟩:=zg h
          obtain⟨h,h6⟩:=zg h
          obtain⟨h,h5⟩:=zg h
          obtain⟨h,h3⟩:=zg h
          obtain⟨Y,J⟩:=zg h
          have e3:=of_decide_eq_true J
          subst e3
          obtain⟨e,e2⟩:=zg Y
          have e:=of_decide_eq_true e
          have e2:=of_decide_eq_true e2
          subst e e2
          exact .val ((bX6 G h3 h5 (bR0 G (sL l _ X B G 1 h6)) (sE d _ X B G h7).1).imp λ σ H Q q=>TEv.eq (λ ρ s=>rfl) q)
         | _=>exact ff h
        | _=>exact ff h
      | _=>exact ff h
     | _=>exact ff h
    | _=>exact ff h
   | _=>exact ff h
  | _=>exact ff h
 | .meth m o es,E,X,B,G,h=>by
  cases E with
  | Call fE xs kw p =>
   cases fE with
   | Attribute ob x ap =>
    cases kw with
    | nil =>
     obtain⟨h,h5⟩:=zg h
     obtain⟨h,Z⟩:=zg h
     obtain⟨h,h3⟩:=zg h
     obtain⟨Y,J⟩:=zg h
     exact bk6 G (of_decide_eq_true Y) J h3 (sE o _ X B G Z).1 h5 (sEs es _ X B G h5)
    | _=>exact ff h
   | _=>exact ff h
  | _=>exact ff h
 | .ext _ _,E,X,B,G,h=>ff h
 | .extS _ _,E,X,B,G,h=>ff h
 | .spl _ _,E,X,B,G,h=>ff h
 | .join _ _,E,X,B,G,h=>ff h
theorem sEs:∀(es:lE) (B:List Expr) (X:Cx) (J:Ck),CG Γ F n X J->mEs J es B=true->PEs Γ F X es B
 | .nil,B,X,J,G,h=>by
  cases B with
  | nil =>
   exact trivial
  | _=>exact ff h
 | .cons e es,B,X,J,G,h=>by
  cases B with
  | cons x B =>
   obtain⟨h,h3⟩:=zg h
   obtain⟨Z,Y⟩:=zg h
   exact⟨⟨Y,sE e _ X J G Z⟩,sEs es _ X J G h3⟩
  | _=>exact ff h
theorem sFs:∀(es:lE) (J:List Expr) (X:Cx) (B:Ck),CG Γ F n X B->mFs B es J=true->PF Γ X J (lK F es)
 | .nil,J,X,B,G,h=>by
  cases J with
  | nil=>exact(bN2).eq λ _ _=>rfl
  | _=>exact ff h
 | .cons e es,J,X,B,G,h=>by
  cases J with
  | cons x J =>
   cases x with
   | FormattedValue v c sp p =>
    cases sp with
    | none =>
     obtain⟨h,h3⟩:=zg h
     obtain⟨Z,Y⟩:=zg h
     have e1:=of_decide_eq_true Z
     subst e1
     exact(bR8 (sE e _ X B G Y).1 (sFs es _ X B G h3)).eq λ _ _=>rfl
    | _=>exact ff h
   | Constant v j p =>
    obtain⟨Z,Y⟩:=zg h
    exact(bQ7 (sE e _ X B G Z).1 (sFs es _ X B G Y)).eq λ _ _=>rfl
   | _=>exact ff h
  | _=>exact ff h
theorem sAs:∀(es:mr) (B:List Expr) (X:Cx) (J:Ck),CG Γ F n X J->mAs J es B=true->PA X B (TAv Γ (lS F es))
 | .nil,B,X,J,G,h=>by
  cases B with
  | nil =>
   exact aj9.imp λ σ H Q q=>aN1 (TAv.eq (λ ρ s=>rfl) q)
  | _=>exact ff h
 | .ex e es,B,X,J,G,h=>by
  cases B with
  | cons x B =>
   obtain⟨h,h3⟩:=zg h
   obtain⟨Z,Y⟩:=zg h
   exact(aM6 Y (sE e _ X J G Z).1 (sAs es _ X J G h3)).imp λ σ H Q q=>TAv.eq (λ ρ s=>rfl) q
  | _=>exact ff h
 | .lam _ _ _,B,X,J,G,h=>ff h
 | .fn _ _,B,X,J,G,h=>ff h
theorem co3:∀(es:mr) (B:List Expr) (X:Cx) (J:Ck),CG Γ F n X J->cm1 J es B=true->PA X B (TAp Γ X.env.cells X.N (lS F es))
 | .nil,B,X,J,G,h=>by
  cases B with
  | nil =>
   exact aj9.imp λ σ H Q q=>by7 (TAp.eq (λ ρ s=>rfl) q)
  | _=>exact ff h
 | .ex e es,B,X,J,G,h=>by
  cases B with
  | cons x B =>
   obtain⟨h,h3⟩:=zg h
   obtain⟨Z,Y⟩:=zg h
   exact(zQ (sE e _ X J G Z).1 (co3 es _ X J G h3) (zb Y)).imp λ σ H Q q=>bL2 (TAp.eq (λ ρ s=>rfl) q)
  | _=>exact ff h
 | .lam id caps es,B,X,J,G,h=>ff h
 | .fn _ _,B,X,J,G,h=>ff h
theorem sI:∀(i:DV.I) (E tg:Expr) (X:Cx) (B:Ck),CG Γ F n X B->mI B tg i E=true->PI X tg E (TIv Γ (mf F i))
 | .seq e,E,tg,X,B,G,h=>by
  obtain⟨J,Y⟩:=zg h
  exact by9 G (sE e _ X B G J).1
 | .rng1 a,E,tg,X,B,G,h=>by
  cases E with
  | Call fE xs kw p =>
   cases fE with
   | Name x pN =>
    cases xs with
    | cons l xs_0 =>
     cases xs_0 with
     | nil =>
      cases kw with
      | nil =>
       obtain⟨h,Z⟩:=zg h
       obtain⟨h,h3⟩:=zg h
       obtain⟨J,Y⟩:=zg h
       have e:=of_decide_eq_true J
       subst e
       exact bq0 G Y Z (sE a _ X B G h3).1
      | _=>exact ff h
     | _=>exact ff h
    | _=>exact ff h
   | _=>exact ff h
  | _=>exact ff h
 | .rng2 a b,E,tg,X,B,G,h=>by
  cases E with
  | Call fE xs kw p =>
   cases fE with
   | Name x pN =>
    cases xs with
    | cons l xs_0 =>
     cases xs_0 with
     | cons r xs_1 =>
      cases xs_1 with
      | nil =>
       cases kw with
       | nil =>
        obtain⟨h,h6⟩:=zg h
        obtain⟨h,h5⟩:=zg h
        obtain⟨h,Z⟩:=zg h
        obtain⟨h,h3⟩:=zg h
        obtain⟨J,Y⟩:=zg h
        have e:=of_decide_eq_true J
        subst e
        exact bm1 G Y Z h6 (sE a _ X B G h3).1 (sE b _ X B G h5).1
       | _=>exact ff h
      | _=>exact ff h
     | _=>exact ff h
    | _=>exact ff h
   | _=>exact ff h
  | _=>exact ff h
 | .rngD _,E,tg,X,B,G,h=>ff h
 | .rng3 _ _ _,E,tg,X,B,G,h=>ff h
 | .enum (.seq _),E,tg,X,B,G,h=>ff h
 | .enum (.rng1 _),E,tg,X,B,G,h=>ff h
 | .enum (.rng2 _ _),E,tg,X,B,G,h=>ff h
 | .enum (.rng3 _ _ _),E,tg,X,B,G,h=>ff h
 | .enum (.rngD _),E,tg,X,B,G,h=>ff h
 | .enum (.enum _),E,tg,X,B,G,h=>ff h
 | .enum (.zip _ _),E,tg,X,B,G,h=>ff h
 | .enum (.items _),E,tg,X,B,G,h=>ff h
 | .zip (.seq _) (.seq _),E,tg,X,B,G,h=>ff h
 | .zip (.seq _) (.rng1 _),E,tg,X,B,G,h=>ff h
 | .zip (.seq _) (.rng2 _ _),E,tg,X,B,G,h=>ff h
 | .zip (.seq _) (.rng3 _ _ _),E,tg,X,B,G,h=>ff h
 | .zip (.seq _) (.rngD _),E,tg,X,B,G,h=>ff h
 | .zip (.seq _) (.enum _),E,tg,X,B,G,h=>ff h
 | .zip (.seq _) (.zip _ _),E,tg,X,B,G,h=>ff h
 | .zip (.seq _) (.items _),E,tg,X,B,G,h=>ff h
 | .zip (.rng1 _) _,E,tg,X,B,G,h=>ff h
 | .zip (.rng2 _ _) _,E,tg,X,B,G,h=>ff h
 | .zip (.rng3 _ _ _) _,E,tg,X,B,G,h=>ff h
 | .zip (.rngD _) _,E,tg,X,B,G,h=>ff h
 | .zip (.enum _) _,E,tg,X,B,G,h=>ff h
 | .zip (.zip _ _) _,E,tg,X,B,G,h=>ff h
 | .zip (.items _) _,E,tg,X,B,G,h=>ff h
 | .items _,E,tg,X,B,G,h=>ff h
theorem sL:∀(l:DV.L) (E:Expr) (X:Cx) (B:Ck),CG Γ F n X B->∀ k,mL B k l E=true->LK Γ X (DV.evL F l) E k
 | .comp tg it e caps,E,X,B,G,k,h=>by
  cases E with
  | ListComp elt gs scope p =>
   cases gs with
   | cons g gs1 =>
    cases g with
    | mk tgt iter ifs z =>
     cases ifs with
     | nil =>
      cases gs1 with
      | nil =>
       obtain⟨h,h3⟩:=zg h
       obtain⟨h,Y⟩:=zg h
       obtain⟨h0,J⟩:=zg h
       have Z:=of_decide_eq_true h0
       subst Z
       have c:=bi3 (pos:=p) G J (sI it _ _ X B G Y) λ C cells s H ex=>(sE e _ _ _ ((G.comp J).2.2 C cells s H ex).1 h3).1
       exact .c (c.eq λ ρ s=>rfl)
      | _=>exact ff h
     | _=>exact ff h
   | _=>exact ff h
  | _=>exact ff h
 | .compIf tg it i e caps,E,X,B,G,k,h=>by
  cases E with
  | ListComp elt gs scope p =>
   cases gs with
   | cons g gs1 =>
    cases g with
    | mk tgt iter ifs z =>
     cases ifs with
     | cons i1 ifs1 =>
      cases ifs1 with
      | nil =>
       cases gs1 with
       | nil =>
        obtain⟨h,h4⟩:=zg h
        obtain⟨h,h3⟩:=zg h
        obtain⟨h,Y⟩:=zg h
        obtain⟨h0,J⟩:=zg h
        have Z:=of_decide_eq_true h0
        subst Z
        have c:=bF5 (pos:=p) G J (sI it _ _ X B G Y) (λ C cells s H ex=>(sE i _ _ _ ((G.comp J).2.2 C cells s H ex).1 h3).2) λ C cells s H ex=>(sE e _ _ _ ((G.comp J).2.2 C cells s H ex).1 h4).1
        exact .c (c.eq λ ρ s=>rfl)
       | _=>exact ff h
      | _=>exact ff h
     | _=>exact ff h
   | _=>exact ff h
  | _=>exact ff h
 | .disp es,E,X,B,G,k,h=>by
  cases E with
  | List xs p =>
   obtain⟨h,Y⟩:=zg h
   obtain⟨h0,J⟩:=zg h
   exact .f (of_decide_eq_true h0) (bH9 J (of_decide_eq_true Y) (av4 (sEs es _ X B G J)))
  | _=>exact ff h
 | .seq e,E,X,B,G,k,h=>by
  obtain⟨h0,J⟩:=zg h
  exact .s (of_decide_eq_true h0) ((sE e _ X B G J).1.imp λ σ H Q q=>bV1 (TLv.eq (λ ρ s=>rfl) q))
 | .itm _,E,X,B,G,k,h=>ff h
end
end
section
variable {Γ:Gm} {F:lr} {n:Nat}
theorem bn0 {X:Cx}{ck:Ck}{m:k6->kY->k8 (List kZ)}{E:Expr}{x:Str}{i:Nat}{px pos:Pos}(G:CG Γ F n X ck)(c:CompF Γ X m E)(hi:ck.N[i]?=some x)(hl:ck.loc x=true) :
  PS X (.Assign [.Name x px] E pos) (bk8 (TFv Γ m) (aF9 i)):=by
 obtain⟨Z,a0,iter,Y,scope,p2,N',h,wi,g,tc,te,rfl,h1,h2,h3,h4,h5⟩:=c.ex
 obtain⟨l1,l2⟩:=G.loc hl
 have nd:X.N.Nodup:=by rw[G.N];exact G.nd
 have a1:X.N[i]?=some x:=by rw[G.N];exact hi
 generalize hb:((X.env.blockKind==.function&&X.env.kindOf x==some .local&&px.line==(Expr.ListComp Z [⟨a0,iter,Y,0⟩] scope p2).pos.line&&!(scope.names.any λ(n,k)=>n==x&&(k==.local||k==.cell))))=b
 have J:eI (.ListComp Z [⟨a0,iter,Y,0⟩] scope p2) (some (.Name x px)) pos.line X.env=pure b:=by rw[<-hb];rfl
 have imp:∀ D σ H,bk8 (TFv Γ m) (aF9 i) D σ H->bk8 (tComp h wi g tc te) (aF9 i) D σ H:=λ D σ H q=>h5 _ _ _ q
 cases b with
 | true =>
  have B:X.env.scope.names.lookup x=some .local:=by
   simp only[aj]at hb
   exact eq_of_beq hb.1.1.2
  exact(aU1 N' h nd a1 B h1 h2 G.calm h3 h4 J).imp imp
 | false=>exact(bs5 nd a1 l1 (aX5 N' h h1 h2 G.calm h3 h4) J l2).imp imp
theorem bz6 {X:Cx}{B:Ck}{e:mH}{v:Expr}{x:Str}{i:Nat}{px pos:Pos}(G:CG Γ F n X B)(Y:B.N[i]?=some x)(hl:B.loc x=true)(h:mE B e v=true) :
  PS X (.Assign [.Name x px] v pos) (TSv Γ (DV.ex F (.asg (.one i) e))):=by
 obtain⟨l1,Z⟩:=G.loc hl
 have nd:X.N.Nodup:=by rw[G.N];exact G.nd
 have J:X.N[i]?=some x:=by rw[G.N];exact Y
 by_cases hc:av8 v=true
 ·exact(bs5 nd J l1 (sE e v X B G h).1 (ao2 hc) Z).imp λ D σ H q=>bg2 (tg:=.one i) (TSv.eq (λ ρ s=>rfl) q)
 ·have hs:=aP2 h
  cases v with
  | ListComp elt gs sc p =>
   cases e with
   | mk k l =>
    obtain⟨h1,h2⟩:=zg h
    have e:=of_decide_eq_true h1
    subst e
    exact(bn0 G (bM6 (sL l _ X B G 0 h2)) Y hl).imp λ D σ H q=>bl7 (tg:=.one i) (TSv.eq (λ ρ s=>rfl) q)
   | _=>exact ff h
  | SetComp _ _ _ _=>cases hs
  | DictComp _ _ _ _ _=>cases hs
  | _=>exact absurd rfl hc
mutual
theorem sS:∀(st:DV.S) (S:Stmt) (X:Cx) (B:Ck),CG Γ F n X B->mS B st S=true->PS X S (TSv Γ (DV.ex F st))
 | .asg tg e,S,X,B,G,h=>by
  cases S with
  | Assign ts v p =>
   cases ts with
   | cons t ts1 =>
    cases ts1 with
    | nil =>
     obtain⟨h,h3⟩:=zg h
     obtain⟨Y,J⟩:=zg h
     cases tg with
     | one i =>
      have h:=Y
      cases t with
      | Name x px =>
       obtain⟨Z,a2⟩:=zg h
       exact bz6 G (of_decide_eq_true Z) a2 J
      | _=>exact ff h
     | tup is =>
      obtain⟨Z,a2⟩:=zg h3
      have h:=Y
      cases t with
      | Tuple te tk tp=>exact(aV6 (sE e _ X B G J).1 (bn9 G Y) (show eI v (some (.Tuple te tk tp)) p.line X.env=pure false from ao2 a2) (aT4 Z) rfl).imp λ D σ H q=>bg2 (TSv.eq (λ ρ s=>rfl) q)
      | _=>exact ff h
    | _=>exact ff h
   | _=>exact ff h
  | _=>exact ff h
 | .setIx o i e,S,X,B,G,h=>by
  cases S with
  | Assign ts v p2 =>
   cases ts with
   | cons tt ts1 =>
    cases tt with
    | Subscript ob ix p1 =>
     cases ts1 with
     | nil =>
      obtain⟨h,h4⟩:=zg h
      obtain⟨h,h3⟩:=zg h
      obtain⟨Y,J⟩:=zg h
      have a0:=aP2 J
      refine(aV6 (sE e _ X B G h3).1 (bM3 (sE o _ X B G Y).1 (sE i _ X B G J).1 (bV0 (ap0 G.room)) ?_) (show eI v (some (.Subscript ob ix p1)) p2.line X.env=pure false from ao2 h4) aS1 ?_).imp λ D σ H q=>bq2 (TSv.eq (λ ρ s=>rfl) q)
      ·intro w
       cases ix<;>first|rfl|cases a0
      ·rfl
     | _=>exact ff h
    | _=>exact ff h
   | _=>exact ff h
  | _=>exact ff h
 | .aug i e,S,X,B,G,h=>by
  cases S with
  | AugAssign tt op v p =>
   cases tt with
   | Name x p1 =>
    cases op with
    | Add =>
     obtain⟨h,h3⟩:=zg h
     obtain⟨Y,J⟩:=zg h
     obtain⟨l1,l2⟩:=G.loc J
     exact(bS5 (by rw[G.N];exact G.nd) (by rw[G.N];exact of_decide_eq_true Y) l1 (sE e _ X B G h3).1 bY6 l2).imp λ D σ H q=>bJ6 (TSv.eq (λ ρ s=>rfl) q)
    | _=>exact ff h
   | _=>exact ff h
  | _=>exact ff h
 | .ex e,S,X,B,G,h=>by
  cases S with
  | Expr v p =>
   obtain⟨Y,J⟩:=zg h
   exact(bd8 (sE e _ X B G Y).1 (ao2 J)).imp λ D σ H q=>bw6 (TSv.eq (λ ρ s=>rfl) q)
  | _=>exact ff h
 | .ret e,S,X,B,G,h=>by
  cases S with
  | Return vo p =>
   cases vo with
   | some v =>
    exact(aN8 (sE e _ X B G h).1).imp λ D σ H q=>bY3 (TSv.eq (λ ρ s=>rfl) q)
   | _=>exact ff h
  | _=>exact ff h
 | .retN,S,X,B,G,h=>by
  cases S with
  | Return vo p =>
   cases vo with
   | none =>
    exact bC0.imp λ D σ H q=>bz2 (TSv.eq (λ ρ s=>rfl) q)
   | _=>exact ff h
  | _=>exact ff h
 | .ite c a b,S,X,B,G,h=>by
  cases S with
  | If t l r p =>
   obtain⟨h,h3⟩:=zg h
   obtain⟨Y,J⟩:=zg h
   exact(bX2 (sE c _ X B G Y).2 (sSs a _ X B G J) (sSs b _ X B G h3)).imp λ D σ H q=>ce2 (TSv.eq (λ ρ s=>rfl) q)
  | _=>exact ff h
 | .whl c b,S,X,B,G,h=>by
  cases S with
  | While t l o p =>
   cases o with
   | nil =>
    obtain⟨Y,J⟩:=zg h
    exact(aO3 (by rw[G.xe];exact jT) (sE c _ X B G Y).2 (sSs b _ X B G J)).imp λ D σ H q=>bl9 (TSv.eq (λ ρ s=>rfl) q)
   | _=>exact ff h
  | _=>exact ff h
 | .for_ tg it b,S,X,B,G,h=>by
  cases S with
  | For tgt iter l o p =>
   cases o with
   | nil =>
    obtain⟨h,h3⟩:=zg h
    obtain⟨Y,J⟩:=zg h
    exact(bt6 (by rw[G.xe];exact jT) G.calm (sI it _ _ X B G J) (bn9 G Y) (sSs b _ X B G h3) (aA2 (bu6 J))).imp λ D σ H q=>bP8 (TSv.eq (λ ρ s=>rfl) q)
   | _=>exact ff h
  | _=>exact ff h
 | .pass,S,X,B,G,h=>ff h
 | .cont,S,X,B,G,h=>by
  cases S with
  | Continue p =>
   exact aJ7.imp λ D σ H q=>bA9 (TSv.eq (λ ρ s=>rfl) q)
  | _=>exact ff h
 | .brk,S,X,B,G,h=>ff h
 | .und _,S,X,B,G,h=>ff h
 | .raise,S,X,B,G,h=>bl0.imp λ D σ H q=>by
  obtain⟨φ,ρ,s,c,s',E,R,hm,q⟩:=q
  cases hm
theorem sSs:∀(st:ni) (S:List Stmt) (X:Cx) (B:Ck),CG Γ F n X B->mSs B st S=true->PSs X S (TSv Γ (lN F st))
 | .nil,S,X,B,G,h=>by
  cases S with
  | nil =>
   exact aK2.imp λ D σ H q=>bH3 (m:=lN F .nil) (λ ρ s=>rfl) q
  | _=>exact ff h
 | .cons s ss,S,X,B,G,h=>by
  cases S with
  | cons x xs =>
   obtain⟨Y,J⟩:=zg h
   exact(zz (sS s _ X B G Y) (sSs ss _ X B G J)).imp λ D σ H q=>bs3 (TSv.eq (λ ρ s=>rfl) q)
  | _=>exact ff h
end
end
structure XC (F:lr)(K:ac)(mg:Str->Option Value):Prop where
 at_:∀ c:String,F.xc c=true->∃ C,mg (c:Str)=some (.ref C)/\ExcCls K C/\excI K C=true
 cls:∀ c:String,F.xt c=true->∃ C,mg (c:Str)=some (.ref C)
 sub:∀(c d:String) (C D:Addr),F.xc c=true->F.xt d=true->mg (c:Str)=some (.ref C)->mg (d:Str)=some (.ref D)->bp K (.ref C) (.ref D)=some (lB c d)
 exm:∀(c d:String) (C D:Addr),F.xc c=true->F.xt d=true->mg (c:Str)=some (.ref C)->mg (d:Str)=some (.ref D)->cx K (.ref C) (.ref D)=some (lB c d)
 ve0:∀ c:String,F.xc c=true->mg ("ValueError":Str)=none
 ve1:∀(c:String) (C:Addr),F.xc c=true->mg (c:Str)=some (.ref C)->bp K (.ref C) (.type "ValueError")=some true
section
variable {Γ:Gm} {F:lr} {n:Nat} {X:Cx} {ck:Ck} {a C:Addr} {oe:Obj}
end
noncomputable def mX (ck:Ck):nj->List Stmt->Bool
 | .no,_=>true
 | .rais c,S=>match S with|.Raise (some (.Call (.Name x _) [.Constant (.str _) _ _] [] _)) none _::_=>decide (x=(c:Str))&&ck.gl x|_=>false
 | .call f as,S=>match S with
  | .Expr (.Call (.Name x _) (e::es) [] _) _::_=>decide (x=(f:Str))&&ck.gl x&&mAs ck as (e::es)
  | .Assign [.Name _ _] (.Call (.Name x _) (e::es) [] _) _::_=>decide (x=(f:Str))&&ck.gl x&&mAs ck as (e::es)
  | .Assign [.Name _ _] (.Subscript (.Call (.Name x _) (e::es) [] _) ix _) _::_=>decide (x=(f:Str))&&ck.gl x&&mAs ck as (e::es)&&shp ix
  | _=>false
 | .iteT c a r,S=>match S with|.If t l [] _::rest=>mE ck c t&&mX ck a l&&mX ck r rest|_=>false
 | .iteE _ _ _,_=>false
 | .seq s b,S=>match S with|x::rest=>mS ck s x&&mX ck b rest|_=>false
 | .forX tg it b x,S=>match S with|.For tgt iter l [] _::_=>mTg ck tg tgt&&mI ck tgt it iter&&mSs ck b l&&mX ck x l|_=>false
 | .whlX c b x,S=>match S with|.While t l [] _::_=>mE ck c t&&mSs ck b l&&mX ck x l|_=>false
noncomputable def noL:nj->Bool
 | .iteT _ a r=>noL a&&noL r
 | .iteE _ a r=>noL a&&noL r
 | .seq _ b=>noL b
 | .forX _ _ _ _=>false
 | .whlX _ _ _=>false
 | _=>true
noncomputable def noR:nj->Bool
 | .rais _=>false
 | .iteT _ a r=>noR a&&noR r
 | .iteE _ a r=>noR a&&noR r
 | .seq _ b=>noR b
 | .forX _ _ _ x=>noR x
 | .whlX _ _ x=>noR x
 | _=>true
def av9 (Γ:Gm)(mg:Str->Option Value)(φ:Nat->Addr)(s:kY)(H:Hp)(c:String)(s':kY)(E:XK):Prop :=
 ∀ φ' H' a C,Gr φ s H φ' s' H'->s.length<=s'.length->Rp Γ φ' H' s'->mg (c:Str)=some (.ref C)->E (.ref a) (some C) H'
def TXv (Γ:Gm)(mg:Str->Option Value)(m:k6->kY->Option (String×kY))(E:XK):TS:=λ _ σ H=>∃ φ ρ s c s',RE Γ φ H s.length ρ σ/\Rp Γ φ H s/\m ρ s=some (c,s')/\av9 Γ mg φ s H c s' E
def spX (Γ:Gm)(mg:Str->Option Value)(x:List kZ->kY->Option (String×kY)):Sp:=λ vs H _ E=>∃ φ s l c s',Rp Γ φ H s/\RVL Γ φ H l vs/\k7 s.length l=true/\x l s=some (c,s')/\av9 Γ mg φ s H c s' E
theorem av9.trans {Γ:Gm}{mg:Str->Option Value}{φ φ1:Nat->Addr}{s s1 s':kY}{H B:Hp}{c:String}{E:XK}(h:av9 Γ mg φ s H c s' E)(g:Gr φ s H φ1 s1 B)(l:s.length<=s1.length):av9 Γ mg φ1 s1 B c s' E :=
 λ φ' H' a C g' F p m=>h φ' H' a C (g.trans g' l) (av l F) p m
theorem PA.nox {X:Cx}{e:List Expr}{t:TA}(h:PA X.nox e t):PA X e t:=λ pos B s σ H Q I hw =>
 br (h pos B s σ H Q (I.wish _) hw) (λ _ _ ⟨v,H',F,r,q⟩=>⟨v,H',F.unwish,r,q⟩) λ _ _ z=>bz z
theorem PS.nox {X:Cx}{st:Stmt}{t:TS}(h:PS X.nox st t):PS X st t:=λ B s σ H D I hw =>
 br (h B s σ H D (I.wish _) hw) (λ _ _ q=>q.unwish) λ _ _ z=>bz z
def XOk (Γ:Gm)(prog:aH)(w:World)(K:ac)(mg:Str->Option Value)(base:Heap)(F:lr)(n:Nat):Prop:=∀ f:String,(∀ l s,F.xcall f l s=none) \/
 ∃ a fd ps,FnOk prog w K mg base (CX1 prog w) n a fd ps (spX Γ mg (F.xcall f))/\mg (f:Str)=some (.ref a)/\cu K (.ref a)=true/\Binds K fd ps []
section
variable {Γ:Gm} {F:lr} {n:Nat} {X:Cx} {ck:Ck} {a C:Addr} {oe:Obj}
theorem be6 {y:Str}{F pos:Pos}{e:Expr}{G:TE}(he:PE X e G)(hn:av8 e=true)(hw:fR [.Name y F] e X.env=pure none):PS X (.Assign [.Name y F] e pos) (λ D σ H=>G σ H λ _ _=>False):=by
 intro B s σ H D I h
 exact aV6 (X:=X) (tg:=.Name y F) (pos:=pos) he bj8 (show eI e (some (.Name y F)) pos.line X.env=pure false from ao2 hn) hw rfl B s σ H D I h
theorem bc0 (G:CG Γ F n X.nox ck)(XO:XOk Γ X.prog X.w X.K X.mg X.base F n){E:XK}(hp:al9 (CX1 X.prog X.w) X E){f:String}{h:mr}{e:Expr}{es:List Expr}{p pos:Pos}(hg:ck.gl (f:Str)=true)(m:mAs ck h (e::es)=true) :
  ∃ t:TE,PE X (.Call (.Name (f:Str) p) (e::es) [] pos) t/\∀ D σ H Q,TXv Γ X.mg (lT F (.call f h)) E D σ H->t σ H Q:=by
 obtain⟨g1,g2,g3⟩:=G.gl hg
 rcases XO f with hbad|⟨a,fd,ps,hF,B,hk,hb⟩
 ·refine⟨λ _ _ _=>False,λ _ _ _ _ _ _ z=>z.elim,λ D σ H Q q=>?_⟩
  obtain⟨φ,ρ,s,c,s',J,R,hm,q⟩:=q
  change(match lS F h ρ s with|.ok l s1=>F.xcall f l s1|_=>none)=_ at hm
  split at hm
  ·rw[hbad]at hm;cases hm
  ·cases hm
 ·have hs:=aH6 m
  have pa:PA X (e::es) (TAv Γ (lS F h)):=(sAs h _ X.nox ck G m).nox
  refine⟨_,ba9 hF G.room g1 B hk hb .nil hp pa g2 (zb (hs e (aD ..))) (zJ λ x hx=>hs x (ao _ hx)).1,λ D σ H Q q=>?_⟩
  obtain⟨φ,ρ,s,c,s',J,R,hm,q⟩:=q
  change(match lS F h ρ s with|.ok l s1=>F.xcall f l s1|_=>none)=_ at hm
  split at hm
  ·rename_i l s1 e1
   refine⟨φ,ρ,s,l,s1,J,R,e1,λ vs φ1 Y g1 l1 Z r1 R1=>?_⟩
   show spX Γ X.mg (F.xcall f) (vs++[]) Y Q E
   rw[bv]
   exact⟨φ1,s1,l,c,s',R1,r1,Z,hm,q.trans g1 l1⟩
  ·cases hm
theorem bW8 {mg:Str->Option Value}{E:XK}{mI:k6->kY->k8 l8}{mb:k6->kY->k8 lH}{mx:k6->kY->Option (String×kY)}{tg:lL}{D D0:Ends}{σ:St}{H:Hp} (h:TXv Γ mg (λ ρ s=>match mI ρ s with
  | .ok q s0=>nn (λ s=>lJ s0 s q.src) (λ d ρ s=>match lA ρ tg d with
   | some ρ=>mb ρ s
   | none=>.bad) (λ d ρ s=>match lA ρ tg d with
   | some ρ=>mx ρ s
   | none=>none) q.its ρ s0
  | _=>none) E D0 σ H):cj2 (TIv Γ mI) (gOf Γ.K tg) (λ D σ H=>TSv Γ mb D σ H\/TXv Γ mg mx E D σ H) D σ H:=by
 obtain⟨φ,ρ,s,c,s',Ev,R,hm,k⟩:=h
 dsimp only at hm
 split at hm
 case h_2=>cases hm
 rename_i q s0 e1
 refine⟨φ,ρ,s,q,s0,Ev,R,e1,λ J φ1 H1 g1 l1 b1 R1 wk=>?_⟩
 refine⟨λ i m σ' H'=>∃ φ' ρ' t,Gr φ1 s0 H1 φ' t H'/\Rp Γ φ' H' t/\RE Γ φ' H' t.length ρ' σ'/\i<=q.its.length/\m=q.its.length - i /\
  nn (λ s=>lJ s0 s q.src) (λ d ρ s=>match lA ρ tg d with
   | some ρ=>mb ρ s
   | none=>.bad) (λ d ρ s=>match lA ρ tg d with
   | some ρ=>mx ρ s
   | none=>none) (q.its.drop i) ρ' t=some (c,s'),⟨q.its.length,?_⟩,?_⟩
 ·exact⟨φ1,ρ,s0,Gr.refl _ _ _,R1,Ev.mono g1 l1,cN _,by simp,by rw[ed];exact hm⟩
 ·rintro i m σ' H' ⟨φ',ρ',t,g,R',E',a4,rfl,hc⟩
  have B:=g.le
  rcases js i q.its.length with hlt|hge
  ·have hd:q.its[i]?=some q.its[i]:=aq hlt
   rw[dE hlt]at hc
   unfold nn at hc
   split at hc
   case isFalse=>cases hc
   rename_i a3
   obtain⟨a2,a0⟩:=(wk φ' H' t g B R' a3 i).1 hlt
   refine .inr ⟨a2,_,λ σ2 H2 n=>⟨q.its.length - (i+1),by omega,n⟩,λ x H2 a1=>?_⟩
   obtain⟨sm,rv⟩:=a0 x H2 a1
   obtain⟨g2,R2⟩:=R'.same sm
   have rd:=rv _ hd
   have bd:(q.its[i]).bnd t.length=true:=zh B _ (am8 b1 hd)
   cases hb:lA ρ' tg q.its[i]with
   | none =>
    rw[hb]at hc
    cases hc
   | some ρ3 =>
    rw[hb]at hc
    refine bn3 (E'.mono g2 (aw _)) rd bd hb λ σ3 E3=>?_
    have go:∀ {c1:lH} {F:kY},mb ρ3 t=.ok c1 F->(∀ φ2 G,Gr φ' t H2 φ2 F G->t.length<=F.length->Rp Γ φ2 G F->Gr φ1 s0 H1 φ2 F G):=λ _ φ2 G Z l4 Y=>(g.trans g2 B).trans Z B
    split at hc
    ·rename_i ρ1 F hs
     exact .inl ⟨φ',ρ3,t,.next ρ1,F,E3,R2,hs,λ φ2 G Z l4 Y σ1 E1=>⟨φ2,ρ1,F,go hs φ2 G Z l4 Y,Y,E1,hlt,rfl,hc⟩⟩
    ·rename_i ρ1 F hs
     exact .inl ⟨φ',ρ3,t,.cont ρ1,F,E3,R2,hs,λ φ2 G Z l4 Y σ1 E1=>⟨φ2,ρ1,F,go hs φ2 G Z l4 Y,Y,E1,hlt,rfl,hc⟩⟩
    ·cases hc
    ·exact .inr ⟨φ',ρ3,t,c,s',E3,R2,hc,k.trans (g1.trans (g.trans g2 B) l1) (av l1 B)⟩
  ·rw[eA hge]at hc
   cases hc
theorem bk5 {mg:Str->Option Value}{E:XK}{mc:k6->kY->k8 kZ}{mb:k6->kY->k8 lH}{mx:k6->kY->Option (String×kY)}{D Z:Ends}{σ:St}{H:Hp}(h:TXv Γ mg (DV.whlX mc mb mx) E Z σ H):aX8 (TTv Γ mc) (λ D σ H=>TSv Γ mb D σ H\/TXv Γ mg mx E D σ H) D σ H:=by
 obtain⟨φ,ρ,s,c,s',B,R,hm,q⟩:=h
 unfold DV.whlX at hm
 split at hm
 case isFalse=>cases hm
 rename_i hn
 generalize hn.choose=n at hm
 refine⟨λ n σ H=>∃ φ ρ s,RE Γ φ H s.length ρ σ/\Rp Γ φ H s/\DV.zG mc mb mx n ρ s=some (c,s')/\av9 Γ mg φ s H c s' E,⟨n,φ,ρ,s,B,R,hm,q⟩,?_⟩
 clear B R hm q hn
 rintro n σ H ⟨φ,ρ,s,B,R,hm,q⟩
 cases n with
 | zero=>cases hm
 | succ n =>
  unfold DV.zG at hm
  split at hm
  case h_2=>cases hm
  rename_i s1 e1
  refine⟨φ,ρ,s,true,s1,B,R,e1,λ φ1 H1 g1 l1 R1=>?_⟩
  show if true=true then _ else _
  rw[if_pos rfl]
  refine⟨_,λ σ' H' w=>⟨n,cU n,w⟩,?_⟩
  split at hm
  ·rename_i ρ1 s2 e2
   exact .inl ⟨φ1,ρ,s1,.next ρ1,s2,B.mono g1 l1,R1,e2,λ φ2 Y J G R2 σ1 F=>⟨φ2,ρ1,s2,F,R2,hm,q.trans (g1.trans J l1) (av l1 G)⟩⟩
  ·rename_i ρ1 s2 e2
   exact .inl ⟨φ1,ρ,s1,.cont ρ1,s2,B.mono g1 l1,R1,e2,λ φ2 Y J G R2 σ1 F=>⟨φ2,ρ1,s2,F,R2,hm,q.trans (g1.trans J l1) (av l1 G)⟩⟩
  ·cases hm
  ·exact .inr ⟨φ1,ρ,s1,c,s',B.mono g1 l1,R1,hm,q.trans g1 l1⟩
theorem aJ1 (G:CG Γ F n X.nox ck)(xc:XC F X.K X.mg)(XO:XOk Γ X.prog X.w X.K X.mg X.base F n){E:XK}(hp:al9 (CX1 X.prog X.w) X E):∀(b:nj) (S:List Stmt),(noR b=true\/aS4 X E)->(noL b=true\/ir (model X.prog X.w) X.A X.env X.xe)->mX ck b S=true->PSs X S (TXv Γ X.mg (lT F b) E)
 | .no,S,_,_,h=>λ B s σ H D I q=>by
  obtain⟨_,_,_,_,_,_,_,z,_⟩:=q
  cases z
 | .rais c,S,hT,_,h=>by
  have hT:aS4 X E:=hT.elim (λ z=>by cases z) id
  cases hx:F.xc c with
  | false =>
   intro B s σ H D I q
   obtain⟨_,_,s,_,_,_,_,z,_⟩:=q
   change(if F.xc c=true then some (c,s)else none)=_ at z
   rw[hx]at z;cases z
  | true =>
   cases S with
   | nil=>exact ff h
   | cons st S=>cases st with
    | Raise v k p=>cases v with
     | none=>exact ff h
     | some v=>cases v with
      | Call g xs kw pc=>cases g with
       | Name x pn=>cases xs with
        | nil=>exact ff h
        | cons y xs=>cases y with
         | Constant cv j py=>cases cv with
          | str t=>cases xs with
           | cons _ _=>exact ff h
           | nil=>cases kw with
            | cons _ _=>exact ff h
            | nil=>cases k with
             | some _=>exact ff h
             | none =>
              obtain⟨Y,J⟩:=zg h
              have e:=of_decide_eq_true Y
              subst e
              obtain⟨g1,g2,g3⟩:=G.gl J
              obtain⟨C,hC,hE,_⟩:=xc.at_ c hx
              refine(zz (bl4 hT hE g1 hC G.room.hd g2) zY).imp λ D σ H q a=>?_
              obtain⟨φ,ρ,s,c',s',Ev,R,hm,q⟩:=q
              change(if F.xc c=true then some (c,s)else none)=_ at hm
              rw[hx,if_pos rfl]at hm
              cases hm
              exact q φ H a C (Gr.refl φ s H) (aw _) R hC
          | _=>exact ff h
         | _=>exact ff h
       | _=>exact ff h
      | _=>exact ff h
    | _=>exact ff h
 | .call f as,S,_,_,h=>by
  cases S with
  | nil=>exact ff h
  | cons st S=>cases st with
   | Assign ts v p=>cases ts with
    | nil=>exact ff h
    | cons t0 ts=>cases t0 with
     | Name y py=>cases ts with
      | cons _ _=>exact ff h
      | nil=>cases v with
       | Call g xs kw pc=>cases g with
        | Name x pn=>cases xs with
         | nil=>exact ff h
         | cons y xs=>cases kw with
          | cons _ _=>exact ff h
          | nil =>
           obtain⟨h,h3⟩:=zg h
           obtain⟨Y,J⟩:=zg h
           have e:=of_decide_eq_true Y
           subst e
           obtain⟨t,ht,hq⟩:=bc0 G XO hp J h3
           exact(zz (be6 ht rfl rfl) zY).imp λ D σ H q=>hq D σ H _ q
        | _=>exact ff h
       | Subscript g ix ps=>cases g with
        | Call g xs kw pc=>cases g with
         | Name x pn=>cases xs with
          | nil=>exact ff h
          | cons y xs=>cases kw with
           | cons _ _=>exact ff h
           | nil =>
            obtain⟨h,h4⟩:=zg h
            obtain⟨h,h3⟩:=zg h
            obtain⟨Y,J⟩:=zg h
            have e:=of_decide_eq_true Y
            subst e
            obtain⟨t,ht,hq⟩:=bc0 G XO hp J h3
            exact(zz (be6 (bV2 (bK9 (Γ:=Γ) (X:=X) (show X.K=Γ.K from G.K) (ap0 G.room)) ht bn8 (aw1 h4)) rfl rfl) zY).imp λ D σ H q=>hq D σ H _ q
         | _=>exact ff h
        | _=>exact ff h
       | _=>exact ff h
     | _=>exact ff h
   | Expr v p=>cases v with
    | Call g xs kw pc=>cases g with
     | Name x pn=>cases xs with
      | nil=>exact ff h
      | cons y xs=>cases kw with
       | cons _ _=>exact ff h
       | nil =>
        obtain⟨h,h3⟩:=zg h
        obtain⟨Y,J⟩:=zg h
        have e:=of_decide_eq_true Y
        subst e
        obtain⟨t,ht,hq⟩:=bc0 G XO hp J h3
        exact(zz (bd8 ht (ao2 rfl)) zY).imp λ D σ H q=>hq D σ H _ q
     | _=>exact ff h
    | _=>exact ff h
   | _=>exact ff h
 | .iteT c a r,S,hT,Z,h=>by
  cases S with
  | nil=>exact ff h
  | cons st S=>cases st with
   | If t l o p=>cases o with
    | cons _ _=>exact ff h
    | nil =>
     obtain⟨h,h3⟩:=zg h
     obtain⟨Y,J⟩:=zg h
     have a2:noR a=true\/aS4 X E:=hT.elim (λ z=>.inl (zg z).1) .inr
     have a4:noR r=true\/aS4 X E:=hT.elim (λ z=>.inl (zg z).2) .inr
     have a0:noL a=true\/_:=Z.elim (λ z=>.inl (zg z).1) .inr
     have a1:noL r=true\/_:=Z.elim (λ z=>.inl (zg z).2) .inr
     refine(zz (bX2 (sE c _ X.nox ck G Y).2.nox (aJ1 G xc XO hp a _ a2 a0 J) aK2) (aJ1 G xc XO hp r _ a4 a1 h3)).imp λ D σ H q=>?_
     obtain⟨φ,ρ,s,c',s',Ev,R,hm,q⟩:=q
     change(match k9 F c ρ s with|.ok (.bl b) s1=>if b then lT F a ρ s1 else lT F r ρ s1|_=>none)=_ at hm
     split at hm
     ·rename_i b s1 e1
      refine⟨φ,ρ,s,b,s1,Ev,R,e1,λ φ1 H1 g1 l1 R1=>?_⟩
      cases b with
      | true=>exact⟨φ1,ρ,s1,c',s',Ev.mono g1 l1,R1,hm,q.trans g1 l1⟩
      | false=>exact⟨φ1,ρ,s1,c',s',Ev.mono g1 l1,R1,hm,q.trans g1 l1⟩
     ·cases hm
   | _=>exact ff h
 | .iteE _ _ _,S,_,_,h=>ff h
 | .seq st b,S,hT,Z,h=>by
  cases S with
  | nil=>exact ff h
  | cons x S =>
   obtain⟨Y,J⟩:=zg h
   refine(zz (sS st _ X.nox ck G Y).nox (aJ1 G xc XO hp b _ hT Z J)).imp λ D σ H q=>?_
   obtain⟨φ,ρ,s,c',s',Ev,R,hm,q⟩:=q
   change(match DV.ex F st ρ s with|.ok (.next ρ1) s1=>lT F b ρ1 s1|_=>none)=_ at hm
   split at hm
   ·rename_i ρ1 s1 e1
    exact⟨φ,ρ,s,.next ρ1,s1,Ev,R,e1,λ φ1 H1 g1 l1 R1 σ1 a3=>⟨φ1,ρ1,s1,c',s',a3,R1,hm,q.trans g1 l1⟩⟩
   ·cases hm
 | .forX tg it b x,S,hT,Z,h=>by
  have Z:ir (model X.prog X.w) X.A X.env X.xe:=Z.elim (λ z=>by cases z) id
  cases S with
  | nil=>exact ff h
  | cons st S=>cases st with
   | For tgt iter l o p=>cases o with
    | cons _ _=>exact ff h
    | nil =>
     obtain⟨h,h4⟩:=zg h
     obtain⟨h,h3⟩:=zg h
     obtain⟨Y,J⟩:=zg h
     have hb:PSs X l (λ D σ H=>TSv Γ (lN F b) D σ H\/TXv Γ X.mg (lT F x) E D σ H):=λ B s σ H D I q=>q.elim (λ z=>(sSs b _ X.nox ck G h3).nox B s σ H D I z) (λ z=>aJ1 G xc XO hp x _ hT (.inr Z) h4 B s σ H D I z)
     have hi:PI X tgt iter (TIv Γ (mf F it)):=(sI it _ _ X.nox ck G J).nox
     have hg:PG X tgt (gOf Γ.K tg):=(bn9 G Y).nox
     refine(zz (bt6 Z G.calm hi hg hb (aA2 (bu6 J))) zY).imp λ D σ H q=>?_
     exact bW8 (mI:=mf F it) (mb:=lN F b) (mx:=lT F x) (tg:=tg) (q:TXv Γ X.mg _ E D σ H)
   | _=>exact ff h
 | .whlX c b x,S,hT,Z,h=>by
  have Z:ir (model X.prog X.w) X.A X.env X.xe:=Z.elim (λ z=>by cases z) id
  cases S with
  | nil=>exact ff h
  | cons st S=>cases st with
   | While t l o p=>cases o with
    | cons _ _=>exact ff h
    | nil =>
     obtain⟨h,h3⟩:=zg h
     obtain⟨Y,J⟩:=zg h
     have hb:PSs X l (λ D σ H=>TSv Γ (lN F b) D σ H\/TXv Γ X.mg (lT F x) E D σ H):=λ B s σ H D I q=>q.elim (λ z=>(sSs b _ X.nox ck G J).nox B s σ H D I z) (λ z=>aJ1 G xc XO hp x _ hT (.inr Z) h3 B s σ H D I z)
     exact(zz (aO3 Z (sE c _ X.nox ck G Y).2.nox hb) zY).imp λ D σ H q=>bk5 (mc:=k9 F c) (mb:=lN F b) (mx:=lT F x) (q:TXv Γ X.mg _ E D σ H)
   | _=>exact ff h
theorem bz1 {tb:List Stmt}{h₀:fY}{hs:List fY}{p:Pos}{t:TS}(hx:X.xe=λ _ _=>False)(h:PSs X tb t):PS X (.Try tb (h₀::hs) [] [] p) t:=by
 intro B s σ H D I q
 refine jH (br (h B s σ H D I q) (λ f s1 z=>?_) (λ e s1 z=>?_))
 ·cases f with
  | next=>exact c5 z
  | _=>exact z
 ·rw[hx]at z;exact z.elim
noncomputable def mHn (h:DV.Hd)(S:List Stmt):Bool:=match h with
 | .nob b=>(match S with|[.Return (some (.Constant (.bool b') _ _)) _]=>decide (b'=b)|_=>false)
 | .noe=>(match S with|[.Return (some (.List [] _)) _]=>true|_=>false)
 | _=>false
noncomputable def thN:DV.Hd->TS
 | .nob b=>λ D σ H=>D.rt (.bl b) H
 | .noe=>λ D σ H=>∀ p,H p=none->D.rt (.ref p) (upd H p (.lst []))
 | _=>λ _ _ _=>False
theorem ce5 {h:DV.Hd}{S:List Stmt}(m:mHn h S=true):PSs X S (thN h):=by
 cases h with
 | nob b =>
  cases S with
  | nil=>exact ff m
  | cons s S=>cases s with
   | Return vo p=>cases vo with
    | none=>exact ff m
    | some v=>cases v with
     | Constant k j pk=>cases k with
      | bool b'=>cases S with
       | cons _ _=>exact ff m
       | nil =>
        have e:=of_decide_eq_true m
        subst e
        exact(bh2 (aN8 bR2)).imp λ D σ H q=>q
      | _=>exact ff m
     | _=>exact ff m
   | _=>exact ff m
 | noe =>
  cases S with
  | nil=>exact ff m
  | cons s S=>cases s with
   | Return vo p=>cases vo with
    | none=>exact ff m
    | some v=>cases v with
     | List vs pl=>cases vs with
      | cons _ _=>cases S with|nil=>exact ff m|cons _ _=>exact ff m
      | nil=>cases S with
       | cons _ _=>exact ff m
       | nil=>exact(bh2 (aN8 (aX4 aj9))).imp λ D σ H q=>⟨cN _,λ p hp=>q p hp⟩
     | _=>exact ff m
   | _=>exact ff m
 | _=>exact ff m
noncomputable def EN (C:Addr)(th:TS)(D:Ends):XK:=λ _ o H'=>o=some C/\∀ σ,th { nx:=λ _ _=>False,rt:=D.rt } σ H'
theorem bi8 {tb:List Stmt}{x:Str}{b₀:Stmt}{G:List Stmt}{np Z p:Pos}{hs:List fY}{m:k6->kY->Option (String×kY)}{th:TS}(a2:X.ex=[])(a4:X.stack=X.env::X.outer)(a6:X.env.frame=some X.env.locals)
  (hc:ExcCls X.K C) (hg:Gl X x) (hm:X.mg x=some (.ref C)) (hd:(x==("__debug__":Str))=false)
  (a1:∀(pn:List (Addr×Obj)) (W:Value->af->Prop) (E:XK),al9 (CX1 X.prog X.w) { X with pn:=pn,xe:=W } E->PSs { X with pn:=pn,xe:=W } tb (TXv Γ X.mg m E)) (b0:∀ a oe,oe.cls=.ref C->PSs (X.hnd a oe) (b₀::G) th) :
  PS X (.Try tb (.ExceptHandler (some (.Name x np)) none (b₀::G) Z::hs) [] [] p) (λ D σ H=>TXv Γ X.mg m (EN C th D) D σ H):=by
 intro B s σ H D I q
 let W:Value->af->Prop:=λ e s₁=>wpAny (model X.prog X.w) X.A (jD e X.env) (λ _ s₂=>wpAny (model X.prog X.w) X.A (kx e none) (λ _ s₃=>wpAny (model X.prog X.w) X.A (handleBy e X.env (.ExceptHandler (some (.Name x np)) none (b₀::G) Z::hs)) (SP X B D) X.xe s₃) X.xe s₂) X.xe s₁
 have a3:({ X with pn:=X.pn++B,xe:=W }:Cx).Ok:=⟨I.ok.mod,I.ok.kind,I.ok.glob,I.ok.blt,I.ok.above,I.ok.inj,I.ok.has,I.ok.cab,I.ok.hd,I.ok.frames,I.ok.stk,I.ok.exf,I.ok.bs,I.ok.bsz,I.ok.noex,I.ok.exfs,I.ok.funs,I.ok.frf⟩
 have I':Inv { X with pn:=X.pn++B,xe:=W } [] σ H s:=⟨a3,I.os,I.bare,I.base,I.loc,I.cell,I.free,I.freeC,λ p hp=>I.pin p (by rw[bv]at hp;exact hp),I.hok,I.len⟩
 have F:∀ {Y:List (Addr×Obj)} {σ':St} {H':Hp} {s':af},Inv { X with pn:=X.pn++B,xe:=W } Y σ' H' s'->Inv X B σ' H' s':=λ J=>⟨I.ok,J.os,J.bare,J.base,J.loc,J.cell,J.free,J.freeC,λ p hp=>J.pin p (bu _ hp),J.hok,J.len⟩
 have hp:al9 (CX1 X.prog X.w) { X with pn:=X.pn++B,xe:=W } (EN C th D):=λ Y σ' H' s' e b2 J h=>by
  obtain⟨a,C',b1,rfl,T,eC,hq⟩:=CX1.tr J a2 h
  cases eC
  obtain⟨a0,oe,vs,T0,oT,ts,h1,h2,h3,h4,h5,h6,a5,h7⟩:=T.tr
  exact be2 ⟨F T.inv,T.n0,T.nH,λ p hp=>T.np p (bu _ hp),a0,oe,vs,T0,oT,ts,h1,h2,h3,h4,h5,h6,λ p hp=>a5 p (bu _ hp),h7⟩ a2 a4 a6 hc hg hm hd (b0 a) (hq σ')
 refine jH (br (a1 _ W _ hp [] s σ H D I' q) (λ f s1 z=>?_) (λ e s1 z=>z))
 cases f with
 | next=>obtain⟨σ1,H1,J,z⟩:=z;exact c5 ⟨σ1,H1,F J,z⟩
 | brk=>obtain⟨σ1,H1,J,z⟩:=z;exact⟨σ1,H1,F J,z⟩
 | cont=>obtain⟨σ1,H1,J,z⟩:=z;exact⟨σ1,H1,F J,z⟩
 | ret u=>obtain⟨v,σ1,H1,J,r,z⟩:=z;exact⟨v,σ1,H1,F J,r,z⟩
end
section
variable {Γ:Gm}
theorem aG9 {φ φ1:Nat->Addr}{H B:Hp}{s s1:kY}(R:Rp Γ φ H s)(g:Gr φ s H φ1 s1 B)(ho:nq s s1=true){i:Nat}{o:lG}(F:i<s.length)(e:s1[i]?=some o):o.bnd s.length=true:=by
 unfold nq at ho
 have:=aU.mp ho i (cr.mpr F)
 rw[e,bS]at this
 rcases this with h|h
 ·exact R.wf i o (of_decide_eq_true h).symm
 ·exact h
theorem qu {s1:kY}{k i:Nat}{o:lG}(e:(s1.take k)[i]?=some o):i<k/\s1[i]?=some o:=by
 rw[i5]at e
 split at e
 ·exact⟨‹_›,e⟩
 ·cases e
theorem aR4 {φ φ1:Nat->Addr}{H h:Hp}{s s1:kY}(R:Rp Γ φ H s)(g:Gr φ s H φ1 s1 h)(R1:Rp Γ φ1 h s1)(ho:nq s s1=true):Gr φ s H φ1 (s1.take s.length) h/\Rp Γ φ1 h (s1.take s.length):=by
 have hl:(s1.take s.length).length=s.length:=by rw[bZ];have:=g.le;omega
 refine⟨⟨g.w,by rw[hl];exact aw _,λ i G F=>by rw[hl]at F;omega,λ i o B e e'=>g.kd i o B e (qu e').2,g.st,g.fr⟩,λ i j o B e e' m m' z=>R1.inj i j o B (qu e).2 (qu e').2 m m' z,λ i o e=>R1.obj i o (qu e).2,λ i o e=>?_,R1.tab⟩
 rw[hl]
 exact aG9 R g ho (qu e).1 (qu e).2
theorem qd {φ φ1:Nat->Addr}{H G:Hp}{s s1 s':kY}{v0 d:kZ}{v:V}(R:Rp Γ φ H s)(g:Gr φ s H φ1 s1 G)(R1:Rp Γ φ1 G s1)(hb:v0.bnd s1.length=true)(r:RV Γ φ1 G v0 v)(h:m6 s v0 s1=.ok d s') :
  ∃ φ',Gr φ s H φ' s' G/\s.length<=s'.length/\d.bnd s'.length=true/\RV Γ φ' G d v/\Rp Γ φ' G s':=by
 have all:d=v0->s'=s1->∃ φ',Gr φ s H φ' s' G/\s.length<=s'.length/\d.bnd s'.length=true/\RV Γ φ' G d v/\Rp Γ φ' G s':=λ e1 e2=>by
  subst e1;subst e2
  exact⟨φ1,g,g.le,hb,r,R1⟩
 unfold m6 at h
 split at h
 case isFalse=>cases h;exact all rfl rfl
 rename_i ho
 obtain⟨gt,Rt⟩:=aR4 R g R1 ho
 have hl:(s1.take s.length).length=s.length:=by rw[bZ];have:=g.le;omega
 have tk:d=v0->s'=s1.take s.length->v0.bnd s.length=true->∃ φ',Gr φ s H φ' s' G/\s.length<=s'.length/\d.bnd s'.length=true/\RV Γ φ' G d v/\Rp Γ φ' G s':=λ e1 e2 b=>by
  subst e1;subst e2
  exact⟨φ1,gt,by rw[hl];exact aw _,by rw[hl];exact b,r,Rt⟩
 split at h
 ·rename_i k
  split at h
  ·cases h
   exact tk rfl rfl (by unfold la;exact decide_eq_true ‹_›)
  ·rename_i hk
   split at h
   ·rename_i o Z
    split at h
    ·rename_i Y
     cases h
     have gw:Gw φ1 s.length G (λ i=>if i=s.length then φ1 k else φ1 i) G:=⟨λ i B=>if_neg (aJ B),Kp.refl _⟩
     have key:∀(i:Nat) (J:lG),(s1.take s.length++[o])[i]?=some J->(i<s.length/\s1[i]?=some J)\/(i=s.length/\J=o):=λ i J e=>by
      rcases eg i s.length with h|h|h
      ·rw[aP (by rw[hl];exact h)]at e;exact .inl (qu e)
      ·subst h
       rw[aR (by rw[hl];exact aw _),hl,gG]at e
       exact .inr ⟨rfl,(aE e).symm⟩
      ·rw[bM (by rw[ax,hl];simp;omega)]at e;cases e
     have F:(s1.take s.length++[o]).length=s.length+1:=by rw[ax,hl];rfl
     refine⟨λ i=>if i=s.length then φ1 k else φ1 i,⟨⟨λ i B=>?_,g.w.kp⟩,by rw[F];omega,λ i h1 h2=>?_,λ i oo J e e'=>?_,g.st,g.fr⟩,by rw[F];omega,by unfold la;rw[F];exact decide_eq_true (cU _),?_,⟨λ i j oi oj a1 a0 mi mj e=>?_,λ i J e=>?_,λ i J e=>?_,R1.tab⟩⟩
     ·show(if i=s.length then φ1 k else φ1 i)=φ i
      rw[if_neg (aJ B)];exact g.w.map i B
     ·rw[F]at h2
      show H (if i=s.length then φ1 k else φ1 i)=none
      rw[if_pos (by omega)]
      exact g.new k (by omega) (ae.mp Z).1
     ·rcases key i J e' with⟨_,e2⟩|⟨B,_⟩
      ·exact g.kd i oo J e e2
      ·have:=(ae.mp e).1;omega
     ·rw[r.refE]
      unfold RV
      show V.ref (φ1 k)=V.ref (if s.length=s.length then φ1 k else φ1 s.length)
      rw[if_pos rfl]
     ·rcases key i oi a1 with⟨B,ei⟩|⟨B,zi⟩<;>rcases key j oj a0 with⟨hj,ej⟩|⟨hj,zj⟩
      ·rw[if_neg (aJ B),if_neg (aJ hj)]at e
       exact R1.inj i j oi oj ei ej mi mj e
      ·rw[if_neg (aJ B),if_pos hj]at e
       subst zj
       have:=R1.inj i k oi _ ei Z mi mj e
       omega
      ·rw[if_neg (aJ hj),if_pos B]at e
       subst zi
       have:=R1.inj k j _ oj Z ej mi mj e
       omega
      ·rw[B,hj]
     ·rcases key i J e with⟨B,e⟩|⟨B,rfl⟩
      ·show RO Γ _ _ (if i=s.length then φ1 k else φ1 i) J
       rw[if_neg (aJ B)]
       exact(R1.obj i J e).mono gw (aG9 R g ho B e) λ _ u hu=>hu
      ·show RO Γ _ _ (if i=s.length then φ1 k else φ1 i) J
       rw[if_pos B]
       exact(R1.obj k _ Z).mono gw Y λ _ u hu=>hu
     ·rw[F]
      rcases key i J e with⟨B,e⟩|⟨_,rfl⟩
      ·exact zW (dv _) _ (aG9 R g ho B e)
      ·exact zW (dv _) _ Y
    ·cases h;exact all rfl rfl
   ·exact fb h
 ·split at h
  ·cases h;exact tk rfl rfl ‹_›
  ·cases h;exact all rfl rfl
structure LamGood (J:LamI)(L:mw):Prop where
 sc:LamScope (J.ps++J.fr) J.ps J.fr J.scope
 ps:J.ps.length=L.ps
 fr:J.fr.length=L.cs
 m:mE (ck0 (J.ps++J.fr) J.scope) L.body J.body=true
 pa:lamArgs J.params=some J.ps
 bind:∀(clos:List (Str×Addr)) (doc pm:Value) (c':Addr) (ctv:Value) (us:List Value),us.length=J.ps.length->dZ (dz "<lambda>" J.qual J.params J.body J.scope clos pm (.ref c') ctv) ⟨us,[]⟩=pure (J.ps.zip us) /\
  ∀(nm:Str) (rp:Pos),dZ (fM nm J.qual J.params [.Return (some J.body) rp] J.scope clos .none .none doc pm none (.ref c') ctv) ⟨us,[]⟩=pure (J.ps.zip us)
structure LkAt (Γ:Gm)(cds:List (Addr×Addr))(f:Str)(sc:Scope)(N:List Str)(fd:bO)(id:String)(caps:List Nat)(params:ci)(body:Expr)(scope:Scope)(c P:Addr)(J:LamI):Prop where
 code:fd.code=.ref c
 cd:(c,P)∈cds
 ck:lamCheck scope sc=true
 fre:∀ x,scope.names.lookup x=some .free->sc.names.lookup x=some .cell
 cel:∀ y∈sc.names,y.2=.cell->sc.names.lookup y.1=some .cell
 df:∀ env,defaultsOf params env=([],[])
 lg:Γ.lg id J
 q:J.qual=f ++ ".<locals>."++J.own
 p:J.params=params
 b:J.body=body
 s:J.scope=scope
 len:J.fr.length=caps.length
 at_:∀(i j:Nat) (x:Str),caps[i]?=some j->J.fr[i]?=some x->N[j]?=some x
 fr:∀ x∈J.fr,scope.names.lookup x=some .free
 tab:(P,J.qual)∈Γ.T
def bC6 (Γ:Gm)(cds:List (Addr×Addr))(f:Str)(sc:Scope)(N:List Str)(fd:bO)(lk:String->List Nat->Expr->Bool):Prop :=
 ∀ id caps E,lk id caps E=true->∃ c P params body scope pos J,E=lamText J params body scope pos/\LkAt Γ cds f sc N fd id caps params body scope c P J
def GoodB (Γ:Gm)(cds:List (Addr×Addr))(mg:Str->Option Value)(f:String)(pc vc:Nat)(m:Ck->List Stmt->Bool):Prop:=∃ st N ps a fd lk,DefAt Γ.K mg (f:Str) st ps a fd/\FnScope N ps (defScope st)/\ps.length=pc/\N.length=pc+vc/\m ⟨N,defScope st,lk⟩ (zq st)=true/\bC6 Γ cds (f:Str) (defScope st) N fd lk
def Good (Γ:Gm)(cds:List (Addr×Addr))(mg:Str->Option Value)(f:String)(d:my):Prop:=GoodB Γ cds mg f d.ps d.vs λ ck S=>mSs ck d.body S
noncomputable def mT0 (ck:Ck)(d:nr)(S:List Stmt):Bool:=match S with
 | st::rest=>(match st with|.Try tb hs [] [] _=>(match hs with|[eh]=>(match eh with|.ExceptHandler (some en) (some nm) hb _=>false|.ExceptHandler (some en) none hb _=>(match en,hb with|.Name x _,b::su=>mSs ck d.body tb&&(mX ck d.xb tb&&(noR d.xb&&(noL d.xb&&(decide (x=(d.c:Str))&&(ck.gl x&&(mHn d.h (b::su)&&mSs ck d.tl rest))))))|_,_=>false)|_=>false)|_=>false)|_=>false)
 | _=>false
noncomputable def cb8 (ck:Ck):ni->List Stmt->Option (List Stmt)
 | .nil,S=>some S
 | .cons s ss,S=>match S with|x::xs=>(match mS ck s x with|true=>cb8 ck ss xs|false=>none)|[]=>none
noncomputable def mT (ck:Ck)(d:nr)(S:List Stmt):Bool:=match cb8 ck d.pre S with
 | some S1=>mT0 ck d S1
 | none=>false
structure PrOk (Γ:Gm)(cds:List (Addr×Addr))(P:lv)(mg:Str->Option Value)(w:World):Prop where
 df:∀ f d,P.df f=some d->Good Γ cds mg f d
 con:∀ x d,P.con x=some d->∃ v u,mg (x:Str)=some u/\RelV v u/\(∀ m,d.bnd m=true)/\∀ φ H,RV Γ φ H d v
 bi:∀ x∈bNames,mg x=none
 fa:∀(f:String) (a:Addr),Γ.fa f=some a->mg (f:Str)=some (.ref a)/\∃ oc od fd sl,Γ.K.lookup a=some ⟨oc,od,.func fd,sl⟩
 lg:∀ id J,Γ.lg id J->∃ L,P.lm id=some L/\LamGood J L
 nd:(Γ.T.map (·.1)).Nodup
 xf:∀ f d,P.xf f=some d->GoodB Γ cds mg f d.ps d.vs λ ck S=>mX ck d.body S
 tf:∀ f d,P.tf f=some d->GoodB Γ cds mg f d.ps d.vs λ ck S=>mT ck d S
 xc:∀ c:String,P.xc c=true->∃ C,mg (c:Str)=some (.ref C)/\ExcCls Γ.K C/\excI Γ.K C=true
 xt:∀ c:String,P.xt c=true->∃ C,mg (c:Str)=some (.ref C)
 xs:∀(c d:String) (C D:Addr),P.xc c=true->P.xt d=true->mg (c:Str)=some (.ref C)->mg (d:Str)=some (.ref D)->bp Γ.K (.ref C) (.ref D)=some (lB c d)
 xm:∀(c d:String) (C D:Addr),P.xc c=true->P.xt d=true->mg (c:Str)=some (.ref C)->mg (d:Str)=some (.ref D)->cx Γ.K (.ref C) (.ref D)=some (lB c d)
 xe:∀(c:String) (C:Addr),P.xc c=true->mg (c:Str)=some (.ref C)->cx Γ.K (.ref C) (.ref C)=some true
 v0:∀ c:String,P.xc c=true->mg ("ValueError":Str)=none
 v1:∀(c:String) (C:Addr),P.xc c=true->mg (c:Str)=some (.ref C)->bp Γ.K (.ref C) (.type "ValueError")=some true
 cdc:∀(c:String) kvs,P.cdc c=some kvs->∃ a,mg (c:Str)=some (.ref a)/\∀(prog:aH) (h:Heap),Γ.K.In h->StrTab prog w h a (strD kvs)
noncomputable def aw5 (Γ : Gm) (prog : Program) (w : World) (mg : Str -> Option Value) (base : Heap) (F : DV.Fns) (n : Nat) : Prop := (∀ f : String, (∀ l s, F.call f l s = .bad) \/
      ∃ a fd ps, FnOk prog w Γ.K mg base CX0 n a fd ps (spV Γ (F.call f)) /\ mg (f : Str) = some (.ref a) /\ cu Γ.K (.ref a) = true /\ Binds Γ.K fd ps []) /\
  ∀(id : String) (J : LamI) (f : Addr) (cap : List V) (clos : List (Str × Addr)), Γ.lg id J -> cap.length = J.fr.length -> ClOk prog w Γ.K mg base n (λ H => CloAt H f J cap clos) f (spL Γ (F.lam id) cap)
theorem az0 {φ:Nat->Addr}{H:Hp}{n k:Nat}{N:List Str}{l:List kZ}{vs:List V}(r:RVL Γ φ H l vs)(b:k7 n l=true)(hN:N.length=l.length+k):RE Γ φ H n (l.map some++aC k none) (al4 N vs):=by
 have hl:=r.length
 refine⟨?_,λ i d e=>?_⟩
 ·unfold al4;simp[hl,hN]
 ·by_cases hi:i<l.length
  ·rw[aP (by simpa using hi),aN]at e
   have e':l[i]?=some d:=by
    rw[aq hi]at e ⊢
    exact aE e
   obtain⟨v,e1,e2⟩:=r.get e'
   refine⟨am8 b e',v,?_,e2⟩
   unfold al4
   rw[aP (by rw[aF,hl];exact hi),aN,e1];rfl
  ·rw[aR (by simpa using jC hi)]at e
   rw[f8]at e
   split at e<;>cases e
theorem bv1 {F:List (Addr×Addr)}{P:lv}{prog:aH}{w:World}{mg:Str->Option Value}(Y:PrOk Γ F P mg w)(n:Nat):∀(c:String) B,(lf P n).cdc c=some B->∃ a,mg (c:Str)=some (.ref a)/\∀ h:Heap,Γ.K.In h->StrTab prog w h a (strD B):=by
 have:(lf P n).cdc=P.cdc:=by cases n<;>rfl
 rw[this]
 intro c B e
 obtain⟨a,J,G⟩:=Y.cdc c B e
 exact⟨a,J,G prog⟩
theorem ba0 {Y:List (Addr×Addr)}{P:lv}{prog:aH}{w:World}{mg:Str->Option Value}{base:Heap}(Z:PrOk Γ Y P mg w)(hb:∀ y∈Y,cc base y.1 y.2/\BM mg base)(n:Nat)(B:aw5 Γ prog w mg base (lf P n) (n+31))
  {f:String} {st:Stmt} {N ps:List Str} {a:Addr} {fd:bO} {lk:String->List Nat->Expr->Bool} (hS:FnScope N ps (defScope st)) (hL:bC6 Γ Y (f:Str) (defScope st) N fd lk) (F:Value) (a6:∀ id h E,lk id h E=true->fd.code=F) (A:aV) (G:List Env) (sh:af) (H:Hp) (E:XK) (hr:Room (n+31) (A.deeper (e6 (f:Str) (defScope st) sh.heap.objs.size a F))) :
  CG Γ (lf P n) (n+31) (au5 CX0 prog w Γ.K mg base N (f:Str) (defScope st) a F A G sh H E).nox ⟨N,defScope st,lk⟩:=by
 refine⟨rfl,rfl,hS.nd,rfl,rfl,?_,hr,λ x k e=>.inl e,λ _ _=>rfl,Z.bi,B.1,?_,λ id h E' a1=>?_,B.2,Z.fa,DV.ak5 P n,bv1 Z n⟩
 ·show lu+1<=n+31
  unfold lu;omega
 ·have:(lf P n).con=P.con:=by cases n<;>rfl
  rw[this];exact Z.con
 ·obtain⟨c,Pa,params,body,scope,pos,J,eE,L⟩:=hL id h E' a1
  obtain⟨a4,a2⟩:=hb _ L.cd
  obtain⟨L',_,lg⟩:=Z.lg id J L.lg
  refine⟨c,Pa,params,body,scope,pos,J,eE,⟨?_,a4,a2,L.ck,L.df _,L.lg,L.q,L.p,L.b,L.s,L.len,L.at_,L.fr,λ x hx=>?_,L.tab,Z.nd,λ _=>rfl,λ x c hx=>?_,lg.sc,lg.pa,λ a0 pm c' a5 us a3=>(lg.bind a0 .none pm c' a5 us a3).1⟩⟩
  ·show F=.ref c
   rw[<-a6 id h E' a1];exact L.code
  ·exact zL (L.fre x hx)
  ·rcases zt (aL hx)with z|z
   ·exact .inl (L.cel (x,.cell) z rfl)
   ·exact absurd z (by simp)
theorem ch3 {a1:List (Addr×Addr)}{P:lv}{prog:aH}{w:World}{mg:Str->Option Value}{base:Heap}(hP:PrOk Γ a1 P mg w)(hb:∀ y∈a1,cc base y.1 y.2/\BM mg base)(n:Nat)(a0:aw5 Γ prog w mg base (lf P n) (n+31))
  {f:String} {d:my} (e:P.df f=some d) {st:Stmt} {N ps:List Str} {a:Addr} {fd:bO} {lk:String->List Nat->Expr->Bool} (hD:DefAt Γ.K mg (f:Str) st ps a fd) (hS:FnScope N ps (defScope st)) (h1:ps.length=d.ps) (h2:N.length=d.ps+d.vs) (hm:mSs ⟨N,defScope st,lk⟩ d.body (zq st)=true) (hL:bC6 Γ a1 (f:Str) (defScope st) N fd lk) :
  FnOk prog w Γ.K mg base CX0 (n+1+31) a fd ps (spV Γ ((lf P (n+1)).call f)):=by
 have Z:∀ vs H Q E,spV Γ ((lf P (n+1)).call f) vs H Q E->vs.length=ps.length:=λ vs H Q E q=>by
  obtain⟨φ,s,l,d',s',R,r,b,hc,k⟩:=q
  simp only[lf,e]at hc
  split at hc
  ·rw[r.length,h1];assumption
  ·exact fb hc
 have body:∀(F:Value),(∀ id B E,lk id B E=true->fd.code=F)->∀(A:aV) (Y:List Env) (sh:af) (H:Hp) (vs:List V) (Q:VK) (E:XK),Room (n+31) (A.deeper (e6 (f:Str) (defScope st) sh.heap.objs.size a F))->spV Γ ((lf P (n+1)).call f) vs H Q E ->
   ∃ t,PSs (au5 CX0 prog w Γ.K mg base N (f:Str) (defScope st) a F A Y sh H E).nox (zq st) t/\t { nx:=λ _ H'=>Q .non H',rt:=Q } (al4 N vs) H:=by
  intro F a4 A Y sh H vs Q E hr q
  have G:=ba0 hP hb n a0 hS hL (a:=a) F a4 A Y sh H E hr
  refine⟨_,sSs d.body (zq st) _ ⟨N,defScope st,lk⟩ G hm,?_⟩
  obtain⟨φ,s,l,d',s',R,r,b,hc,k⟩:=q
  simp only[lf,e]at hc
  split at hc
  case isFalse=>exact fb hc
  rename_i Z
  obtain⟨c,s1,e1,hc⟩:=aa5 hc
  refine⟨φ,l.map some++aC d.vs none,s,c,s1,az0 r b (by rw[h2,Z]),R,e1,λ φ1 H1 g1 l1 R1=>?_⟩
  cases c with
  | ret v0 =>
   intro v hb rv
   obtain⟨φ',g',l',b',r',R'⟩:=qd R g1 R1 hb rv hc
   exact k v φ' H1 g' l' b' r' R'
  | next ρ =>
   intro σ' _
   obtain⟨φ',g',l',b',r',R'⟩:=qd (v0:=.non) R g1 R1 rfl RV.nonI hc
   exact k .non φ' H1 g' l' b' r' R'
  | cont ρ=>exact fb hc
  | brk ρ=>exact fb hc
 by_cases hl:∃ id B E,lk id B E=true
 ·obtain⟨id,B,E,a3⟩:=hl
  obtain⟨c,Pa,params,a2,scope,pos,J,eE,L⟩:=hL id B E a3
  exact hD.fn.okC L.code hS Z (body _ λ _ _ _ _=>L.code)
 ·exact hD.fn.ok hS Z (λ F=>body F λ id B E h=>absurd ⟨id,B,E,h⟩ hl)
theorem Fun.okX {Z:CXT}{P:aH}{w:World}{K:ac}{mg:Str->Option Value}{base:Heap}{x qual:Str}{st:Stmt}{f:Addr}{J:bO}{N ps:List Str}{k:Nat}{sp:Sp}(F:Fun K x qual st f J)(S:FnScope N ps (defScope st))(len:∀ vs H Q E,sp vs H Q E->vs.length=ps.length)
  (G:∀(B:Value),J.code=B->∀(A:aV) (h:List Env) (s:af) (H:Hp) (vs:List V) (Q:VK) (E:XK),Room k (A.deeper (e6 qual (defScope st) s.heap.objs.size f B))->sp vs H Q E ->
   ∃ t,PSs (au5 Z P w K mg base N qual (defScope st) f B A h s H E) (zq st) t/\t { nx:=λ _ H'=>Q .non H',rt:=Q } (al4 N vs) H):FnOk P w K mg base Z (k+1) f J ps sp:=by
 obtain⟨oc,od,kV,a0,pm,an,B,ct,a1,rfl,lk,hc⟩:=F.ex
 exact bv9 lk hc S len λ A h s H vs Q E hr Y=>G B rfl A h s H vs Q E hr Y
theorem bR6 {J:List (Addr×Addr)}{P:lv}{w:World}{mg:Str->Option Value}(B:PrOk Γ J P mg w)(n:Nat):XC (lf P n) Γ.K mg:=by
 have e:(lf P n).xc=P.xc:=by cases n<;>rfl
 have e':(lf P n).xt=P.xt:=by cases n<;>rfl
 exact⟨λ c h=>B.xc c (by rw[e]at h;exact h),λ c h=>B.xt c (by rw[e']at h;exact h),λ c d C D G F=>B.xs c d C D (by rw[e]at G;exact G) (by rw[e']at F;exact F),λ c d C D G F=>B.xm c d C D (by rw[e]at G;exact G) (by rw[e']at F;exact F),λ c h=>B.v0 c (by rw[e]at h;exact h),λ c C h=>B.v1 c C (by rw[e]at h;exact h)⟩
theorem bQ0 {F:List (Addr×Addr)}{P:lv}{prog:aH}{w:World}{mg:Str->Option Value}{base:Heap}(hP:PrOk Γ F P mg w)(hb:∀ y∈F,cc base y.1 y.2/\BM mg base)(n:Nat)(B:aw5 Γ prog w mg base (lf P n) (n+31))(XO:XOk Γ prog w Γ.K mg base (lf P n) (n+31))
  {f:String} {d:DV.Xf} (e:P.xf f=some d) {st:Stmt} {N ps:List Str} {a:Addr} {Z:bO} {lk:String->List Nat->Expr->Bool} (hD:DefAt Γ.K mg (f:Str) st ps a Z) (hS:FnScope N ps (defScope st)) (h1:ps.length=d.ps) (h2:N.length=d.ps+d.vs) (hm:mX ⟨N,defScope st,lk⟩ d.body (zq st)=true) (hL:bC6 Γ F (f:Str) (defScope st) N Z lk) :
  FnOk prog w Γ.K mg base (CX1 prog w) (n+1+31) a Z ps (spX Γ mg ((lf P (n+1)).xcall f)):=by
 refine hD.fn.okX hS (λ vs H Q E q=>?_) λ Y a0 A h sh H vs Q E hr q=>?_
 ·obtain⟨φ,s,l,c,s',R,r,b,hc,k⟩:=q
  simp only[lf,e]at hc
  split at hc
  ·rw[r.length,h1];assumption
  ·cases hc
 ·have G:=ba0 hP hb n B hS hL (a:=a) Y (λ _ _ _ _=>a0) A h sh H E hr
  obtain⟨φ,s,l,c,s',R,r,b,hc,k⟩:=q
  simp only[lf,e]at hc
  split at hc
  case isFalse=>cases hc
  rename_i J
  exact⟨_,aJ1 (X:=au5 (CX1 prog w) prog w Γ.K mg base N (f:Str) (defScope st) a Y A h sh H E) G (bR6 hP n) XO ci1 d.body (zq st) (.inr cd4) (.inr PassesOwn.leaving) hm,φ,l.map some++aC d.vs none,s,c,s',az0 r b (by rw[h2,J]),R,hc,k⟩
theorem bq8 {F:lr}{n:Nat}{X:Cx}{B:Ck}{t:TS}(G:CG Γ F n X B):∀ {pre:ni} {S J:List Stmt},cb8 B pre S=some J->PSs X J t->PSs X S (cf0 (TSv Γ (lN F pre)) t)
 | .nil,S,J,h,h1=>by
  cases h
  refine h1.imp λ D σ H q=>?_
  obtain⟨φ,ρ,s,c,s',E,R,e,q⟩:=q
  cases e
  exact q.here R σ E
 | .cons s ss,S,J,h,h1=>by
  cases S with
  | nil=>exact absurd h (by nofun)
  | cons x xs =>
   have h:(match mS B s x with|true=>cb8 B ss xs|false=>none)=some J:=h
   cases hm:mS B s x with
   | false=>rw[hm]at h;exact absurd h (by nofun)
   | true =>
    rw[hm]at h
    exact(zz (sS s _ X B G hm) (bq8 G h h1)).imp λ D σ H q=>bs3 (D:={ D with nx:=t D }) (TSv.eq (λ ρ s=>rfl) q)
theorem bt0 {a5:List (Addr×Addr)}{P:lv}{prog:aH}{w:World}{mg:Str->Option Value}{base:Heap}(hP:PrOk Γ a5 P mg w)(hb:∀ y∈a5,cc base y.1 y.2/\BM mg base)(n:Nat)(a0:aw5 Γ prog w mg base (lf P n) (n+31))(XO:XOk Γ prog w Γ.K mg base (lf P n) (n+31))
  {f:String} {d:nr} (e0:P.df f=none) (e:P.tf f=some d) {st:Stmt} {N ps:List Str} {a:Addr} {fd:bO} {lk:String->List Nat->Expr->Bool} (hD:DefAt Γ.K mg (f:Str) st ps a fd) (hS:FnScope N ps (defScope st)) (h1:ps.length=d.ps) (h2:N.length=d.ps+d.vs) (hm:mT ⟨N,defScope st,lk⟩ d (zq st)=true) (hL:bC6 Γ a5 (f:Str) (defScope st) N fd lk) :
  FnOk prog w Γ.K mg base CX0 (n+1+31) a fd ps (spV Γ ((lf P (n+1)).call f)):=by
 refine hD.fn.okX hS (λ vs H Q E q=>?_) λ F b6 A B sh H vs Q E hr q=>?_
 ·obtain⟨φ,s,l,d',s',R,r,b,hc,k⟩:=q
  simp only[lf,e0,e]at hc
  split at hc
  ·rw[r.length,h1];assumption
  ·exact fb hc
 have G:=ba0 hP hb n a0 hS hL (a:=a) F (λ _ _ _ _=>b6) A B sh H E hr
 have xc:=bR6 hP n
 obtain⟨φ,s,l,d',s',R,r,b,hc,k⟩:=q
 simp only[lf,e0,e]at hc
 split at hc
 case isFalse=>exact fb hc
 rename_i a6
 have E0:=az0 r b (k:=d.vs) (N:=N) (by rw[h2,a6])
 unfold mT at hm
 split at hm
 case h_2=>exact ff hm
 rename_i S1 b1
 unfold DV.bj4 at hc
 split at hc
 case h_2=>exact fb hc
 rename_i ρ0 s0 ep
 suffices key:∃ t,PSs (au5 CX0 prog w Γ.K mg base N (f:Str) (defScope st) a F A B sh H E).nox S1 t/\∀ φ0 σ0 H0,Gr φ s H φ0 s0 H0->s.length<=s0.length->Rp Γ φ0 H0 s0->RE Γ φ0 H0 s0.length ρ0 σ0->t { nx:=λ _ H'=>Q .non H',rt:=Q } σ0 H0 by
  obtain⟨t,ht,kt⟩:=key
  refine⟨_,(bq8 (X:=(au5 CX0 prog w Γ.K mg base N (f:Str) (defScope st) a F A B sh H E).nox) G b1 ht).nox,?_⟩
  exact⟨φ,l.map some++aC d.vs none,s,.next ρ0,s0,E0,R,ep,λ φ1 H1 g1 l1 R1 σ1 E1=>kt φ1 σ1 H1 g1 l1 R1 E1⟩
 unfold mT0 at hm
 split at hm
 case h_2=>exact ff hm
 rename_i c3 rest
 split at hm
 case h_2=>exact ff hm
 rename_i tb hs tp
 split at hm
 case h_2=>exact ff hm
 rename_i eh
 have run:mSs ⟨N,defScope st,lk⟩ d.body tb=true->mSs ⟨N,defScope st,lk⟩ d.tl rest=true->((lN (lf P n) d.body ρ0 s0).bind λ c s1=>match c with
  | .ret v=>m6 s v s1
  | .next ρ=>(lN (lf P n) d.tl ρ s1).bind λ c s2=>match c with
   | .ret v=>m6 s v s2
   | .next _=>m6 s .non s2
   | _=>.bad
  | _=>.bad)=.ok d' s'->∃ t,PSs (au5 CX0 prog w Γ.K mg base N (f:Str) (defScope st) a F A B sh H E).nox (.Try tb [eh] [] [] tp::rest) t/\∀ φ0 σ0 H0,Gr φ s H φ0 s0 H0->s.length<=s0.length->Rp Γ φ0 H0 s0->RE Γ φ0 H0 s0.length ρ0 σ0->t { nx:=λ _ H'=>Q .non H',rt:=Q } σ0 H0:=λ m1 a1 hc=>by
  refine⟨_,(zz (bz1 (X:=(au5 CX0 prog w Γ.K mg base N (f:Str) (defScope st) a F A B sh H E).nox) rfl (sSs d.body tb _ ⟨N,defScope st,lk⟩ G m1)) (sSs d.tl rest _ ⟨N,defScope st,lk⟩ G a1)),λ φ0 σ0 H0 g0 l0 R0 Ea=>?_⟩
  obtain⟨c,s1,e1,hc⟩:=aa5 hc
  refine⟨φ0,ρ0,s0,c,s1,Ea,R0,e1,λ φ1 H1 g1 l1 R1=>?_⟩
  replace g1:=g0.trans g1 l0
  replace l1:=av l0 l1
  cases c with
  | ret v0 =>
   intro v hb rv
   obtain⟨φ',g',Y,b',r',R'⟩:=qd R g1 R1 hb rv hc
   exact k v φ' H1 g' Y b' r' R'
  | next ρ =>
   intro σ' E1
   obtain⟨c,s2,e2,hc⟩:=aa5 hc
   refine⟨φ1,ρ,s1,c,s2,E1,R1,e2,λ φ2 H2 g2 l2 R2=>?_⟩
   cases c with
   | ret v0 =>
    intro v hb rv
    obtain⟨φ',g',Y,b',r',R'⟩:=qd R (g1.trans g2 l1) R2 hb rv hc
    exact k v φ' H2 g' Y b' r' R'
   | next ρ =>
    intro σ' _
    obtain⟨φ',g',Y,b',r',R'⟩:=qd (v0:=.non) R (g1.trans g2 l1) R2 rfl RV.nonI hc
    exact k .non φ' H2 g' Y b' r' R'
   | cont ρ=>exact fb hc
   | brk ρ=>exact fb hc
  | cont ρ=>exact fb hc
  | brk ρ=>exact fb hc
 split at hm
 ·exact ff hm
 ·rename_i en c2 hp
  split at hm
  case h_2=>exact ff hm
  rename_i x np b0 su
  obtain⟨m1,hm⟩:=zg hm
  obtain⟨m2,hm⟩:=zg hm
  obtain⟨m3,hm⟩:=zg hm
  obtain⟨c1,hm⟩:=zg hm
  obtain⟨m4,hm⟩:=zg hm
  obtain⟨m5,hm⟩:=zg hm
  obtain⟨a4,a1⟩:=zg hm
  have ex:=of_decide_eq_true m4
  subst ex
  unfold DV.aB8 at hc
  split at hc
  ·rename_i c s1 hx
   split at hc
   case isFalse=>exact fb hc
   rename_i a3
   obtain⟨rfl,b5,hok⟩:=a3
   obtain⟨C,hC,hE,hI⟩:=xc.at_ _ b5
   obtain⟨g1,g2,g3⟩:=G.gl m5
   refine⟨_,(zz (bi8 (X:=(au5 CX0 prog w Γ.K mg base N (f:Str) (defScope st) a F A B sh H E).nox) (Γ:=Γ) (C:=C) (m:=lT (lf P n) d.xb) (th:=thN d.h) rfl rfl rfl hE g1 hC g2 (λ pn W E1 b4=>?_) λ a' oe hcl=>ce5 a4) zY),λ φ0 σ0 H0 g0 l0 R0 Ea=>?_⟩
   ·have G':CG Γ (lf P n) (n+31) ({ (au5 CX0 prog w Γ.K mg base N (f:Str) (defScope st) a F A B sh H E).nox with pn:=pn,xe:=W }:Cx).nox ⟨N,defScope st,lk⟩:=⟨G.K,G.N,G.nd,rfl,G.calm,G.deep,G.room,G.sc,G.fn,G.bi,G.call,G.con,λ id b3 E' c0=>by
     obtain⟨c,Pa,params,body,scope,pos,J,eE,L⟩:=G.lam id b3 E' c0
     exact⟨c,Pa,params,body,scope,pos,J,eE,⟨L.code,L.hd,L.bm,L.ck,L.df,L.lg,L.q,L.p,L.b,L.s,L.len,L.at_,L.fr,L.cl,L.tab,L.nd,L.fn,L.kd,L.gs,L.gp,L.gb⟩⟩,G.cl,G.fa,G.fk,G.cdc⟩
    exact aJ1 (X:={ (au5 CX0 prog w Γ.K mg base N (f:Str) (defScope st) a F A B sh H E).nox with pn:=pn,xe:=W }) G' xc XO b4 d.xb tb (.inl m3) (.inl c1) m2
   ·refine⟨φ0,ρ0,s0,d.c,s1,Ea,R0,hx,λ φ' H' a' C' g' Y R' Z=>?_⟩
    replace g':=g0.trans g' l0
    replace Y:=av l0 Y
    have Z:mg (d.c:Str)=some (.ref C'):=Z
    rw[hC]at Z
    cases Z
    refine⟨rfl,λ σ=>?_⟩
    cases hh:d.h with
    | nob b =>
     rw[hh]at hc
     obtain⟨φ2,a2,l2,b2,r2,R2⟩:=qd (v0:=.bl b) R g' R' rfl RV.blI hc
     exact k _ φ2 H' a2 l2 b2 r2 R2
    | noe =>
     rw[hh]at hc
     intro p hp
     obtain⟨gn,Rn⟩:=R'.new (o:=.lst []) (u:=.lst []) hp rfl λ φ' H' g e=>⟨[],e,.nil⟩
     obtain⟨φ2,a2,l2,b2,r2,R2⟩:=qd (v0:=.ref s1.length) R (g'.trans gn Y) Rn (by unfold la;simp) (v:=.ref p) (by unfold RV;simp) hc
     exact k _ φ2 _ a2 l2 b2 r2 R2
    | _=>rw[hh]at a4;exact ff a4
  ·exact run m1 a1 hc
 ·exact ff hm
theorem by8 {b5:List (Addr×Addr)}{P:lv}{prog:aH}{w:World}{mg:Str->Option Value}{base:Heap}(hP:PrOk Γ b5 P mg w)(n:Nat)(Z:aw5 Γ prog w mg base (lf P n) (n+31))
  (id:String) (J:LamI) (f:Addr) (cap:List V) (F:List (Str×Addr)) (b6:Γ.lg id J) (a3:cap.length=J.fr.length) :
  ClOk prog w Γ.K mg base (n+1+31) (λ H=>CloAt H f J cap F) f (spL Γ ((lf P (n+1)).lam id) cap):=by
 obtain⟨L,eL,LG⟩:=hP.lg id J b6
 have a1:∀ vs H Q E,spL Γ ((lf P (n+1)).lam id) cap vs H Q E->vs.length=J.ps.length:=λ vs H Q E q=>by
  obtain⟨φ,s,cs,l,d,s',R,r,rc,b,bc,hc,k⟩:=q
  simp only[lf,eL]at hc
  split at hc
  ·rename_i hh;rw[r.length,LG.ps];exact hh.1
  ·exact fb hc
 have main:∀(A:aV) (Y:List Env) (sh:af) (H:Hp) (cd:Value) (vs:List V) (Q:VK),Room (n+31) (A.deeper (cX J.qual J.scope sh.heap.objs.size f cd (aQ (sh.heap.objs.size+1) J.scope.names F)))->Cells F H->(∀ b o,Γ.K.lookup b=some o->H b=none)->spL Γ ((lf P (n+1)).lam id) cap vs H Q E0 ->
   ∃ t,PE (aH0 prog w Γ.K mg base (J.ps++J.fr) J.qual J.scope f cd F A Y sh H) J.body t/\t (vs.map some++cap.map some) (ai6 F H) λ v H'=>(∀ b,isC F b=true->H' b=none)->Q v (Put F H H'):=by
  intro A Y sh H cd vs Q hr B hK q
  have G:CG Γ (lf P n) (n+31) (aH0 prog w Γ.K mg base (J.ps++J.fr) J.qual J.scope f cd F A Y sh H) (ck0 (J.ps++J.fr) J.scope):=by
   refine⟨rfl,rfl,LG.sc.nd,rfl,rfl,?_,hr,λ x k e=>.inl e,λ x e=>?_,hP.bi,Z.1,?_,λ _ _ _ h=>(by cases h),Z.2,hP.fa,DV.ak5 P n,bv1 hP n⟩
   ·show lu+1<=n+31
    unfold lu;omega
   ·show(J.scope.names.lookup x==some .cell)=true
    rw[show J.scope.names.lookup x=some .cell from e];rfl
   ·have:(lf P n).con=P.con:=by cases n<;>rfl
    rw[this];exact hP.con
  refine⟨_,(sE L.body J.body _ (ck0 (J.ps++J.fr) J.scope) G LG.m).1,?_⟩
  obtain⟨φ,s,cs,l,d,s',R,r,rc,b,bc,hc,k⟩:=q
  simp only[lf,eL]at hc
  split at hc
  case isFalse=>exact fb hc
  rename_i hh
  obtain⟨h1,h2,h3⟩:=hh
  rw[aj,aj]at h3
  obtain⟨⟨b4,b2⟩,b3⟩:=h3
  obtain⟨v0,s1,e1,hc⟩:=aa5 hc
  have RD:Rp Γ φ (ai6 F H) s:=R.dropC B b3
  have b0:RVL Γ φ (ai6 F H) (l++cs) (vs++cap):=(RVL.dropC B l vs b4 r).append (RVL.dropC B cs cap b2 rc)
  refine⟨φ,l.map some++cs.map some,s,v0,s1,⟨by simp[r.length,rc.length],λ i x ei=>?_⟩,RD,e1,λ v φ1 H1 g1 l1 b1 r1 R1 a2=>?_⟩
  ·rw[<-cz,aN]at ei
   have a6:(l++cs)[i]?=some x:=by
    cases q:(l++cs)[i]? with
    | none=>rw[q]at ei;cases ei
    | some y=>rw[q]at ei;cases ei;rfl
   obtain⟨u,e3,e4⟩:=b0.get a6
   refine⟨am8 (zK b bc) a6,u,?_,e4⟩
   rw[<-cz,aN,e3];rfl
  ·obtain⟨φ',g',l',b',r',R'⟩:=qd RD g1 R1 b1 r1 hc
   have gp:=Gr.put B a2 hK R' g'
   obtain⟨gs,Rs⟩:=R'.same (bf0 (H:=H) a2)
   exact k v φ' _ gp l' b' (RV.mono gs d v b' r') Rs
 unfold CloAt
 cases q:J.nm with
 | none=>exact bC9 LG.sc a1 a3 (λ pm c' a0 us a4=>(LG.bind F .none pm c' a0 us a4).1) (λ A Y sh H cd vs Q hr hat hK q=>by
   obtain⟨pm,c',a0,_,_,B,_⟩:=hat
   exact main A Y sh H cd vs Q hr B hK q)
 | some p=>exact bC5 LG.sc a1 a3 (λ a5 pm c' a0 us a4=>(LG.bind F a5 pm c' a0 us a4).2 _ _) (λ A Y sh H cd vs Q hr hat hK q=>by
   obtain⟨a5,pm,c',a0,_,_,B,_⟩:=hat
   obtain⟨t,h1,h2⟩:=main A Y sh H cd vs Q hr B hK q
   exact⟨_,zz (aN8 h1) aK2,h2⟩)
theorem ay7 {a0:List (Addr×Addr)}{P:lv}{prog:aH}{w:World}{mg:Str->Option Value}{base:Heap}(B:PrOk Γ a0 P mg w)(hb:∀ y∈a0,cc base y.1 y.2/\BM mg base):∀ n:Nat,aw5 Γ prog w mg base (lf P n) (n+31)/\XOk Γ prog w Γ.K mg base (lf P n) (n+31)
 | 0=>⟨⟨λ f=>.inl λ l s=>rfl,λ id J f cap h _ _=>⟨λ A a1 s H us vs Q _ _ _ _ q=>by
   obtain⟨φ,s,cs,l,d,s',R,r,rc,b,bc,hc,k⟩:=q
   cases hc⟩⟩,λ f=>.inl λ l s=>rfl⟩
 | n+1=>by
  obtain⟨ih,XO⟩:=ay7 (prog:=prog) (w:=w) (base:=base) B hb n
  refine⟨⟨λ f=>?_,λ id J f cap h G F=>by8 B n ih id J f cap h G F⟩,λ f=>?_⟩
  ·cases e:P.df f with
   | none =>
    cases e2:P.tf f with
    | none=>exact .inl λ l s=>by simp only[lf,e,e2]
    | some d =>
     obtain⟨st,N,ps,a,Y,lk,hD,hS,G,F,hm,Z⟩:=B.tf f d e2
     exact .inr ⟨a,Y,ps,bt0 B hb n ih XO e e2 hD hS G F hm Z,hD.mg,hD.fn.kp,hD.bi⟩
   | some d =>
    obtain⟨st,N,ps,a,Y,lk,hD,hS,G,F,hm,Z⟩:=B.df f d e
    exact .inr ⟨a,Y,ps,ch3 B hb n ih e hD hS G F hm Z,hD.mg,hD.fn.kp,hD.bi⟩
  ·cases e:P.xf f with
   | none=>exact .inl λ l s=>by simp only[lf,e]
   | some d =>
    obtain⟨st,N,ps,a,Y,lk,hD,hS,G,F,hm,Z⟩:=B.xf f d e
    exact .inr ⟨a,Y,ps,bQ0 B hb n ih XO e hD hS G F hm Z,hD.mg,hD.fn.kp,hD.bi⟩
def spT (Γ:Gm):Sp:=λ vs H Q _=>∃(a:Addr) (ns:List Int),vs=[.ref a]/\SqF Γ.K H a (ns.map V.int)/\ns.length<=63/\TabsH Γ.T H/\∀ H',Q (.bl true) H'
theorem aQ8 {φ:Nat->Addr}{H:Hp}:∀ ns:List Int,RVL Γ φ H (ns.map DV.D.int) (ns.map V.int)
 | []=>.nil
 | n::ns=>.cons RV.intI (aQ8 ns)
theorem aC8 {m:Nat}:∀ ns:List Int,k7 m (ns.map DV.D.int)=true
 | []=>rfl
 | n::ns=>by rw[a8];unfold k7;rw[aC8 ns];rfl
theorem bR5 {P:lv}{k:Nat}(h:∀ ns:List Int,ns.length<=63->∃ s',(lf P k).call "law" [.ref 0] [.ro (ns.map DV.D.int)]=.ok (.bl true) s')(vs:List V)(H:Hp)(Q:VK)(E:XK)(q:spT Γ vs H Q E):spV Γ ((lf P k).call "law") vs H Q E:=by
 obtain⟨a,ns,rfl,F,hl,hT,B⟩:=q
 obtain⟨s',hs⟩:=h ns hl
 refine⟨λ _=>a,[.ro (ns.map DV.D.int)],[.ref 0],.bl true,s',⟨λ i j o G e e' m m' _=>?_,λ i o e=>?_,λ i o e=>?_,hT⟩,.cons RV.refI .nil,?_,hs,λ v φ' H' g l b r R=>?_⟩
 ·cases i with
  | zero=>cases e;cases m
  | succ i=>cases e
 ·cases i with
  | zero=>cases e;exact⟨_,F,aQ8 ns⟩
  | succ i=>cases e
 ·cases i with
  | zero=>cases e;unfold lb;exact aC8 ns
  | succ i=>cases e
 ·unfold k7 la k7;rfl
 ·rw[r.blE];exact B H'
theorem aM0 {B:List (Addr×Addr)}{mg:Str->Option Value}:∀ {tbl:List (String×my)},(∀ p∈tbl,Good Γ B mg p.1 p.2)->∀ f d,tbl.lookup f=some d->Good Γ B mg f d
 | [],_,f,d,h=>by cases h
 | (g,e)::tbl,H,f,d,h=>by
  rw[bf]at h
  cases q:f==g with
  | true =>
   rw[q]at h
   cases h
   rw[eq_of_beq q]
   exact H (g,_) (aD ..)
  | false =>
   rw[q]at h
   exact aM0 (λ p hp=>H p (ao _ hp)) f d h
def bo6 (Γ:Gm)(mg:Str->Option Value)(x:String)(d:kZ):Prop:=∃ v u,mg (x:Str)=some u/\RelV v u/\(∀ m,d.bnd m=true)/\∀ φ H,RV Γ φ H d v
theorem bg4 {mg:Str->Option Value}:∀ {tbl:List (String×kZ)},(∀ p∈tbl,bo6 Γ mg p.1 p.2)->∀ f d,tbl.lookup f=some d->bo6 Γ mg f d
 | [],_,f,d,h=>by cases h
 | (g,e)::tbl,H,f,d,h=>by
  rw[bf]at h
  cases q:f==g with
  | true =>
   rw[q]at h
   cases h
   rw[eq_of_beq q]
   exact H (g,_) (aD ..)
  | false =>
   rw[q]at h
   exact bg4 (λ p hp=>H p (ao _ hp)) f d h
theorem bE5 {mg:Str->Option Value}{x:String}{i:Int}{t:Tok}(h:mg (x:Str)=some (.int i t)):bo6 Γ mg x (.int i):=⟨.int i,_,h,⟨t,rfl⟩,λ _=>rfl,λ _ _=>RV.intI⟩
inductive ConV (Γ:Gm):kZ->Value->Prop where
 | int (i:Int) (t:Tok):ConV Γ (.int i) (.int i t)
 | str (x:List Nat) (t:Tok) (h:x.length<=1000):ConV Γ (.str x) (.str ⟨x.toArray⟩ t)
inductive ConL (Γ:Gm):List kZ->List Value->Prop where
 | nil:ConL Γ [] []
 | cons {d v l vs} (a:ConV Γ d v) (b:ConL Γ l vs):ConL Γ (d::l) (v::vs)
theorem bD2 {mg:Str->Option Value}{x:String}{a:Addr}{o:Obj}{its:List Value}{n:Nat}{l:List kZ}(h:mg (x:Str)=some (.ref a))(hk:Γ.K.lookup a=some o)(hc:o.cls=.type "tuple")(hd:o.data=.seq its.toArray n)(hz:its.length<=1000)
  (hl:ConL Γ l its) (J:ln l=false:=by rfl):bo6 Γ mg x (.tup l):=by
 have key:∃ B,Vals B its/\(∀ m,k7 m l=true)/\∀ φ H,RVL Γ φ H l B:=by
  clear hd hz J
  induction hl with
  | nil=>exact⟨[],.nil,λ _=>rfl,λ _ _=>.nil⟩
  | cons a b ih =>
   obtain⟨B,F,G,h3⟩:=ih
   cases a with
   | int i t=>exact⟨.int i::B,.cons ⟨t,rfl⟩ F,λ m=>by unfold k7;rw[G];rfl,λ φ H=>.cons RV.intI (h3 φ H)⟩
   | str x t h=>exact⟨.str ⟨x.toArray⟩::B,.cons ⟨t,rfl⟩ F,λ m=>by unfold k7;rw[G];rfl,λ φ H=>.cons (RV.strI (by unfold lh;omega)) (h3 φ H)⟩
 obtain⟨B,F,G,h3⟩:=key
 refine⟨.ref a,_,h,rfl,λ m=>by unfold la;exact G m,λ φ H=>RV.tupC (.inr ⟨o,its.toArray,n,hk,hc,hd,?_,F⟩) (λ z=>by rw[J]at z;cases z) (h3 φ H)⟩
 rw[az];exact aM5 hz
end
theorem aT8 {P:aH}{w:World}{K:ac}{mg mb:Str->Option Value}{k:Nat}{fa a:Addr}{fd:bO}{x:Str}{sp:Sp}{B:af}{vs:List Value}{ns:List Int}{tabs:List (Addr×Addr)}
  (KX:K.In B.heap) (a6:B.heap.Ns bn mg) (hb:B.heap.Ns gk mb) (c1:∀ x:Str,x ≠ "__name__"->mb x=bA x) (a4:B.heap.NoLimit) (hg:B.gens=#[]) (d2:BM mg B.heap) (hT:j9 tabs B.heap) (d0:ka K=true)
  (ha:B.heap.get? a=some { cls:=.type "list",data:=.seq vs.toArray }) (hi:jV vs ns) (hl:ns.length<=aO) (hr:Room k iw)
  (F:∀ base:Heap,K.In base->base.Ns bn mg->BM mg base->(∀ q∈tabs,cc base q.1 q.2)->FnOk P w K mg base CX0 k fa fd [x] sp) (a2:∀(s:af) (u:Value),jU s fd ⟨[u],[]⟩ [(x,u)])
  (e4:∀ H:Hp,(∀ q∈tabs,H q.2=some (.tbl #[]))->SqL K H a (ns.map V.int)->(∀ u,H a=some u->(∃ o xs,u=.frz o (.lst xs))\/∃ ps,u=.tbl ps)->sp [.ref a] H (λ v _=>v=.bl true) E0) :
  fI (model P w) iw (.call (.ref fa) ⟨[.ref a],[]⟩) (λ r s'=>r=.ok (.ret (.bool true))/\OldK B.heap s'.heap/\s'.os=B.os/\fc s'.gens) B:=by
 have rv:=aC2 hi
 have a5:=hi.length
 have G:∀ b,b∈tabs.map (·.2)->B.heap.get? b=some (ip #[]):=λ b h=>by
  obtain⟨q,hq,rfl⟩:=aW.mp h
  exact(hT q hq).2
 have Y:∀ H:Hp,(∀ b u,H b=some u->(b=a/\∃ o xs,u=.frz o (.lst xs))\/(b∈tabs.map (·.2)/\u=.tbl #[]))->(∀ q∈tabs,H q.2=some (.tbl #[]))->SqL K H a (ns.map V.int)->HOk P w H B.heap->(H a≠none->K.lookup a=none) ->
   fI (model P w) iw (.call (.ref fa) ⟨[.ref a],[]⟩) (λ r s'=>r=.ok (.ret (.bool true))/\OldK B.heap s'.heap/\s'.os=B.os/\fc s'.gens) B:=by
  intro H hO d3 hS hok hK
  have un:∀ b o,B.heap.get? b=some o->o.cls≠.type "list"->(∀ vs,o.data≠.fields vs)->H b=none:=λ b o e n1 n2=>by
   cases q:H b with
   | none=>rfl
   | some u =>
    rcases hO b u q with⟨z,_⟩|⟨z,_⟩
    ·rw[z,ha]at e;cases e;exact absurd rfl n1
    ·rw[G b z]at e;cases e;exact absurd rfl (n2 #[])
  have J:∀ {b:Addr} {m:Str->Option Value},B.heap.Ns b m->(bh8 B.heap H).Ns b m:=λ {b m} ⟨o,es,ep,e,d,r⟩=>by
   refine⟨o,es,ep,ap5 e ?_,d,r⟩
   cases q:H b with
   | none=>rfl
   | some u =>
    rcases hO b u q with⟨z,_⟩|⟨z,_⟩
    ·rw[z,ha]at e;cases e;cases d
    ·rw[G b z]at e;cases e;cases d
  have b0:K.In (bh8 B.heap H):=λ b o e=>ap5 (KX b o e) (by
   cases q:H b with
   | none=>rfl
   | some u =>
    rcases hO b u q with⟨z,_⟩|⟨z,_⟩
    ·subst z
     rw[hK (by rw[q];simp)]at e;cases e
    ·have e2:=KX b o e
     rw[G b z]at e2
     have h2:=aU.mp d0 (b,o) (PySem.W.mem_of_lookupK e)
     have e3:o=ip #[]:=(aE e2).symm
     subst e3
     exact absurd (show false=true from h2) aX)
  have hM:Mod K mg (bh8 B.heap H):=⟨b0,J a6,⟨mb,J hb,c1⟩,let⟨mc,h1,h2⟩:=a4;⟨mc,J h1,h2⟩⟩
  have c3:BM mg (bh8 B.heap H):=by
   obtain⟨bm,ob,b1,b2,b3,b4,b5,b6⟩:=d2
   exact⟨bm,ob,b1,b2,ap5 b3 (un bm ob b3 (by rw[b4];nofun) (by rw[b6];nofun)),b4,b5,b6⟩
  have d1:∀ q∈tabs,cc (bh8 B.heap H) q.1 q.2:=λ q hq=>by
   obtain⟨o,c2,c0,tf,a3,tg,c4,text,tt,e1,r1,r2⟩:=(hT q hq).1
   refine⟨o,c2,c0,tf,a3,tg,c4,text,tt,ap5 e1 ?_,r1,r2⟩
   cases q2:H q.1 with
   | none=>rfl
   | some u =>
    rcases hO _ u q2 with⟨z,_⟩|⟨z,_⟩
    ·rw[z,ha]at e1;cases e1;exact absurd r1 (by simp)
    ·rw[G _ z]at e1;cases e1;exact absurd r1 (by simp)
  have e0:Env0 P w K mg (bh8 B.heap H) iw [] B H:=⟨rfl,hM,λ b o e=>bw1 e,Nat.le_of_eq (ba1 _ _),trivial,λ b hb=>absurd (show b∈([]:List Addr)from hb) (by simp),hok,.of_eq hg⟩
  refine jk ((F _ b0 (J a6) c3 d1).run iw [] B H ⟨[.ref a],[]⟩ [.ref a] [.ref a] _ _ hr e0 (a2 B (.ref a)) (.cons rfl .nil) (e4 H d3 hS (λ u e=>(hO a u e).elim (λ z=>.inl z.2) (λ z=>.inr ⟨_,z.2⟩)))) λ r s' h=>?_
  cases r with
  | error e=>exact bz h
  | ok fl =>
   cases fl with
   | next=>exact bz h
   | brk=>exact bz h
   | cont=>exact bz h
   | ret u =>
    obtain⟨v,H',os,bare,a1,Z,r',q⟩:=h
    have q':v=.bl true:=q
    subst q'
    obtain rfl:u=Value.bool true:=r'
    have key:∀ b o,B.heap.get? b=some o->asItWas B.heap s'.heap b o/\∃ o',s'.heap.get? b=some o':=λ b o e=>by
     cases q:H b with
     | none =>
      have z:=a1.keep b o e q (by intro z;exact absurd (show b∈([]:List Addr)from z) (by simp)) (by simp)
      exact⟨.inl z,o,z⟩
     | some u =>
      rcases hO b u q with⟨_,ob,xs,z⟩|⟨z,z2⟩
      ·subst z
       have z2:=a1.frzs b ob _ q
       obtain⟨e1,_⟩:=hok b _ q
       obtain⟨e2,_⟩:=Z b _ z2
       rw[e]at e1;cases e1
       exact⟨.inl e2,_,e2⟩
      ·subst z2
       obtain⟨a0,z3⟩:=a1.tbls b _ q
       have g:s'.heap.get? b=some { cls:=.none,data:=.fields (#[]++a0) }:=Z b _ z3
       have e1:=G b z
       rw[e]at e1;cases e1
       obtain⟨p,hp,ep⟩:=aW.mp z
       refine⟨.inr (.inl ⟨?_,rfl,#[],a0,rfl,g⟩),_,g⟩
       have t:=((hT p hp).1.tab (hT p hp).2).isCodeTable
       rw[ep]at t
       exact t
    exact⟨rfl,⟨λ b o e=>(key b o e).1,λ b o e=>(key b o e).2⟩,os,bare⟩
 have tbl:∀ b,b∈tabs.map (·.2)->b≠a:=λ b h z=>by
  have e:=G b h
  rw[z,ha]at e;cases e
 cases hk:K.lookup a with
 | some o =>
  have e:=KX a o hk
  rw[ha]at e
  cases e
  refine Y (λ b=>if b∈tabs.map (·.2)then some (.tbl #[])else none) (λ b u z=>?_) (λ q hq=>if_pos (bV hq)) (.inr ⟨_,vs.toArray,_,hk,rfl,rfl,rfl,by rw[az,a5];exact hl,by simpa using rv⟩) (λ b u z=>?_) λ z=>?_
  ·by_cases hb:b∈tabs.map (·.2)
   ·have z':=(if_pos hb).symm.trans z
    cases z'
    exact .inr ⟨hb,rfl⟩
   ·have z':=(if_neg hb).symm.trans z
    cases z'
  ·by_cases hb:b∈tabs.map (·.2)
   ·have z':=(if_pos hb).symm.trans z
    cases z'
    exact G b hb
   ·have z':=(if_neg hb).symm.trans z
    cases z'
  ·exact absurd (if_neg λ y=>tbl a y rfl) z
 | none =>
  refine Y (λ b=>if b=a then some (.frz { cls:=.type "list",data:=.seq vs.toArray } (.lst (ns.map V.int)))else if b∈tabs.map (·.2)then some (.tbl #[])else none) (λ b u z=>?_) (λ q hq=>?_) (.inl (.inr ⟨{ cls:=.type "list",data:=.seq vs.toArray },if_pos rfl⟩)) (λ b u z=>?_) λ _=>hk
  ·by_cases hb:b=a
   ·have z':=(if_pos hb).symm.trans z
    cases z'
    exact .inl ⟨hb,_,_,rfl⟩
   ·have z':=(if_neg hb).symm.trans z
    by_cases hc:b∈tabs.map (·.2)
    ·rw[if_pos hc]at z';cases z';exact .inr ⟨hc,rfl⟩
    ·rw[if_neg hc]at z';cases z'
  ·have hm:q.2∈tabs.map (·.2):=bV hq
   show(if _ then _ else if _ then _ else _)=_
   rw[if_neg (tbl _ hm),if_pos hm]
  ·by_cases hb:b=a
   ·have z':=(if_pos hb).symm.trans z
    cases z'
    subst hb
    exact⟨ha,by rw[aF];exact hl,vs,_,rv,ha⟩
   ·have z':=(if_neg hb).symm.trans z
    by_cases hc:b∈tabs.map (·.2)
    ·rw[if_pos hc]at z';cases z';exact G b hc
    ·rw[if_neg hc]at z';cases z'
theorem bh4 {ts:List Addr}{l:cY}{n k:Nat}{q:aH}{loose:List Str}{XP:(Str->Option Value)->Heap->Prop}{YP:World->Heap->Prop}{d:DefRec}{K:Params->ac}{sp:ac->Sp}{x:Str}(names:List Str)
  (hn:l.most=some n) (a1:n<=aO) (a4:d.params.defaults=[]) (hr:Room k iw)
  (hY:∀(w:World) (h:Heap),YP w h->(K w.params).In h/\∀ P∈ts,h.get? P=some (ip #[])) (a0:∀ w:World,bL3 (K w.params) names ts=true) (a2:∀ w:World,ka (K w.params)=true)
  (F:∀(w:World) (mg:Str->Option Value) (fa:Addr) (h:Heap),(K w.params).In h->h.Ns bn mg->mg d.name=some (.ref fa) ->
   ∃ fd:bO,(∀(s:af) (u:Value),jU s fd ⟨[u],[]⟩ [(x,u)]) /\
    ∀ base:Heap,(K w.params).In base->base.Ns bn mg->BM mg base->bE0 (K w.params) names base->FnOk l.prog w (K w.params) mg base CX0 k fa fd [x] (sp (K w.params)))
  (a6:∀(K:ac) (H:Hp) (a:Addr) (ns:List Int),ns.length<=n->bB7 K names H->SqL K H a (ns.map V.int)->(∀ u,H a=some u->(∃ o xs,u=.frz o (.lst xs))\/∃ ps,u=.tbl ps)->sp K [.ref a] H (λ v _=>v=.bl true) E0) :
  kh q loose XP YP l.row.toRowW d [] (λ f vs=>jW f vs):=by
 refine Att.attach_call hn a4 λ w s₀ s₁ mg mb fa o pm cd b0 a vs ns G Y ho hd b1 a5 Z J B hg=>?_
 obtain⟨KX,a3⟩:=hY w _ Y
 obtain⟨fd,hb,hF⟩:=F w mg fa _ KX G.T.g a5
 have hT:j9 ((aE8 (K w.params) names).map (·.2)) s₁.heap:=λ p hp=>by
  obtain⟨y,hy,rfl⟩:=aW.mp hp
  obtain⟨h1,h2⟩:=aw2.mp hy
  have z:=aU.mp (a0 w) y.1 h1
  rw[h2]at z
  have z':(jF (K w.params) y.2.1 y.2.2&&ts.contains y.2.2)=true:=z
  rw[aj]at z'
  exact⟨PySem.W.codeHd_of_K KX z'.1,a3 _ (by simpa using z'.2)⟩
 have hm:∀ x∈names,∀ c P,bj (K w.params) x=some (c,P)->(c,P)∈(aE8 (K w.params) names).map (·.2):=λ x hx c P e=>aW.mpr ⟨(x,c,P),aw2.mpr ⟨hx,e⟩,rfl⟩
 refine aT8 (tabs:=(aE8 (K w.params) names).map (·.2)) KX G.T.g G.T.b G.T.builtins G.T.nolimit hg ?_ hT (a2 w) Z J (av B a1) hr (λ base k1 k2 k3 k4=>hF base k1 k2 k3 λ x hx c P e=>k4 _ (hm x hx c P e)) hb λ H hO hS hF=>a6 (K w.params) H a ns B (λ x hx c P e=>hO _ (hm x hx c P e)) hS hF
 obtain⟨bm,ob,h1,h2,h3,h4,h5,h6⟩:=G.T.bmain
 exact⟨bm,ob,h1,h2,h3,h4,h5,h6⟩
def spB (names:List Str)(K:ac):Sp:=λ vs H Q _=>∃(a:Addr) (ns:List Int),vs=[.ref a]/\SqF K H a (ns.map V.int)/\ns.length<=63/\bB7 K names H/\∀ H',Q (.bl true) H'
theorem bZ6 {names:List Str}{K:ac}{H:Hp}{a:Addr}{ns:List Int}(hl:ns.length<=63)(hB:bB7 K names H)(B:SqL K H a (ns.map V.int))(G:∀ u,H a=some u->(∃ o F,u=.frz o (.lst F))\/∃ ps,u=.tbl ps):spB names K [.ref a] H (λ v _=>v=.bl true) E0:=by
 refine⟨a,ns,rfl,⟨B,λ H' k=>?_⟩,hl,hB,λ _=>rfl⟩
 rcases B with(h|⟨o,h⟩)|h
 ·rcases G _ h with⟨_,_,z⟩|⟨_,z⟩<;>cases z
 ·exact .inl (.inr ⟨o,k _ _ h rfl⟩)
 ·exact .inr h
def co4 (P:lv):String->LamI->Prop:=λ id J=>∃ L,P.lm id=some L/\LamGood J L
noncomputable def sfx (x:Str):Str:=if x = "letter_table" then "least_fee" else "<lambda>"
noncomputable def bA1 (names:List Str)(K:ac):List (Addr×Str):=names.map λ x=>(((bj K x).getD (0,0)).2,x ++ ".<locals>."++sfx x)
noncomputable def bD1 (names:List Str)(K:ac):List (Addr×Addr):=names.map λ x=>(bj K x).getD (0,0)
noncomputable def cg2 (K:ac)(f:String):Option Addr:=match cq K bn (f:Str)with
 | some (some (.ref a))=>(match K.lookup a with
  | some ⟨_,_,.func _,_⟩=>some a
  | _=>none)
 | _=>none
theorem aM9 {K:ac}{f:String}{a:Addr}(h:cg2 K f=some a):cq K bn (f:Str)=some (some (.ref a))/\∃ oc od B sl,K.lookup a=some ⟨oc,od,.func B,sl⟩:=by
 unfold cg2 at h
 split at h
 ·rename_i F e
  split at h
  ·rename_i oc od B sl e2
   cases h
   exact⟨e,_,_,_,_,e2⟩
  ·cases h
 ·cases h
noncomputable abbrev bh6 (names:List Str)(P:lv)(K:ac):Gm:=⟨K,cg2 K,co4 P,bA1 names K⟩
theorem cc7 {names:List Str}{P:lv}{K:ac}{h:Heap}{mg:Str->Option Value}(X:K.In h)(G:h.Ns bn mg):∀(f:String) (a:Addr),(bh6 names P K).fa f=some a->mg (f:Str)=some (.ref a)/\∃ oc od B sl,(bh6 names P K).K.lookup a=some ⟨oc,od,.func B,sl⟩:=λ f a e=>⟨b8 X G (aM9 e).1,(aM9 e).2⟩
theorem bl2 {names:List Str}{P:lv}{K:ac}(F:∀ x∈names,(bj K x).isSome=true){vs:List V}{H:Hp}{Q:VK}{E:XK}(q:spB names K vs H Q E):spT (bh6 names P K) vs H Q E:=by
 obtain⟨a,ns,e,h,hl,hB,B⟩:=q
 refine⟨a,ns,e,h,hl,TabsH.init λ p hp=>?_,B⟩
 simp only[bA1,cf]at hp
 obtain⟨x,hx,rfl⟩:=aW.mp hp
 exact hB x hx _ _ (ax3 (F x hx))
theorem be9 {names:List Str}{K:ac}{mg:Str->Option Value}{base:Heap}(h:∀ x∈names,(bj K x).isSome=true)(bm:BM mg base)(hc:bE0 K names base):∀ y∈bD1 names K,cc base y.1 y.2/\BM mg base:=λ y hy=>by
 obtain⟨x,hx,rfl⟩:=aW.mp hy
 exact⟨hc x hx _ _ (ax3 (h x hx)),bm⟩
theorem aL1 {p:ci}{ps:List Str}(h:lamArgs p=some ps):∃ args,p=⟨[],args,none,[],[],none,[]⟩/\args.map (·.arg)=ps:=by
 unfold lamArgs at h
 split at h
 ·exact⟨_,rfl,aE h⟩
 ·cases h
def bp9 (ps:List Str):Prop:=∀ params,lamArgs params=some ps->∀(qual:Str) (body:Expr) (scope:Scope) (clos:List (Str×Addr)) (doc pm:Value) (c':Addr) (ctv:Value) (us:List Value),us.length=ps.length->dZ (dz "<lambda>" qual params body scope clos pm (.ref c') ctv) ⟨us,[]⟩=pure (ps.zip us) /\
 ∀(nm:Str) (rp:Pos),dZ (fM nm qual params [.Return (some body) rp] scope clos .none .none doc pm none (.ref c') ctv) ⟨us,[]⟩=pure (ps.zip us)
noncomputable def bc4 (ps fr:List Str)(sc:Scope):Bool:=decide (sc.kind=.function)&&!sc.isCoroutine&&!sc.isGenerator&&decide ((ps++fr).Nodup)&&(ps.all λ x=>decide (sc.names.lookup x=some .local)||decide (sc.names.lookup x=some .cell))&&(fr.all λ x=>decide (sc.names.lookup x=some .free))&&(sc.names.all λ y=>!decide (y.2=.cell)||decide (sc.names.lookup y.1=some .cell))
theorem bb6 {ps fr:List Str}{sc:Scope}(h:bc4 ps fr sc=true):LamScope (ps++fr) ps fr sc:=by
 unfold bc4 at h
 simp only[aj,decide_eq_true_eq,d9,aU,bS]at h
 obtain⟨⟨⟨⟨⟨⟨J,G⟩,h3⟩,Y⟩,B⟩,F⟩,h7⟩:=h
 exact⟨J,G,h3,Y,rfl,B,F,λ y hy e=>by
  rcases h7 y hy with z|z
  ·rw[e]at z;simp at z
  ·exact z⟩
noncomputable def bK2 (scope sc:Scope):Bool:=scope.names.all λ y=>!decide (scope.names.lookup y.1=some .free)||decide (sc.names.lookup y.1=some .cell)
theorem bm5 {scope sc:Scope}(h:bK2 scope sc=true):∀ x,scope.names.lookup x=some .free->sc.names.lookup x=some .cell:=λ x hx=>by
 have:=aU.mp h (x,.free) (aL hx)
 simp only[bS,d9,decide_eq_false_iff_not,decide_eq_true_eq]at this
 rcases this with z|z
 ·exact absurd hx z
 ·exact z
noncomputable def lkB (sc:Scope)(N:List Str)(caps:List Nat)(params:ci)(body:Expr)(scope:Scope)(t:mw×List Str×List Str):Bool :=
 decide (lamArgs params=some t.2.1)&&decide (caps.map (λ j=>N[j]?)=t.2.2.map some)&&lamCheck scope sc&&bK2 scope sc&&bc4 t.2.1 t.2.2 scope&&decide (t.2.1.length=t.1.ps)&&decide (t.2.2.length=t.1.cs)&&mE (ck0 (t.2.1++t.2.2) scope) t.1.body body
noncomputable def lkG (f:Str)(sc:Scope)(N:List Str)(tab:List (String×mw×List Str×List Str))(id:String)(caps:List Nat)(E:Expr):Bool:=match tab.lookup id,E with
 | some t,.Lambda params body scope _=>decide (sfx f = "<lambda>")&&lkB sc N caps params body scope t
 | some t,.NamedExpr (.Name nm _) (.Lambda params body scope p1) p2=>decide (sfx f=nm)&&decide (p1=p2)&&lkB sc N caps params body scope t
 | _,_=>false
theorem bw8 {names:List Str}{P:lv}{K:ac}{f:Str}{sc:Scope}{N:List Str}{fd:bO}{tab:List (String×mw×List Str×List Str)}(hf:f∈names)(G:fd.code=.ref ((bj K f).getD (0,0)).1)(Y:∀ y∈sc.names,y.2=.cell->sc.names.lookup y.1=some .cell)
  (Z:∀ id t,tab.lookup id=some t->P.lm id=some t.1/\bp9 t.2.1):bC6 (bh6 names P K) (bD1 names K) f sc N fd (lkG f sc N tab):=by
 intro id B E h
 have F:∀(t:mw×List Str×List Str) (params:ci) (body:Expr) (scope:Scope) (nm:Option (Str×Pos)),tab.lookup id=some t->lkB sc N B params body scope t=true->(match nm with|none => "<lambda>" | some p=>p.1)=sfx f ->
   LkAt (bh6 names P K) (bD1 names K) f sc N fd id B params body scope ((bj K f).getD (0,0)).1 ((bj K f).getD (0,0)).2 ⟨f ++ ".<locals>."++sfx f,params,body,scope,t.2.1,t.2.2,nm⟩:=λ t params body scope nm e h hs=>by
  obtain⟨L,ps,fr⟩:=t
  unfold lkB at h
  simp only[aj,decide_eq_true_eq]at h
  obtain⟨⟨⟨⟨⟨⟨⟨h1,h2⟩,h3⟩,h4⟩,h5⟩,h6⟩,h7⟩,h8⟩:=h
  obtain⟨hL,hB⟩:=Z id _ e
  obtain⟨args,rfl,a1⟩:=aL1 h1
  have J:fr.length=B.length:=by have:=congrArg kN h2;simpa using this.symm
  have S:=bb6 h5
  refine⟨G,aW.mpr ⟨f,hf,rfl⟩,h3,bm5 h4,Y,λ env=>rfl,⟨L,hL,⟨S,h6,h7,h8,h1,λ a2 a3 pm c' a4 us a0=>hB _ h1 _ _ _ _ _ _ _ _ _ a0⟩⟩,?_,rfl,rfl,rfl,J,λ i j x e1 e2=>?_,S.frs,aW.mpr ⟨f,hf,rfl⟩⟩
  ·show f ++ ".<locals>."++sfx f=f ++ ".<locals>."++LamI.own _
   unfold LamI.own
   rw[<-hs]<;>rfl
  ·have e3:(B.map (λ j=>N[j]?))[i]?=some (N[j]?):=by rw[aN,e1];rfl
   rw[h2,aN,e2]at e3
   exact(aE e3).symm
 unfold lkG at h
 split at h
 case h_3=>cases h
 ·rename_i t params body scope pos e
  rw[aj]at h
  exact⟨_,_,params,body,scope,pos,_,rfl,F t params body scope none e h.2 (of_decide_eq_true h.1).symm⟩
 ·rename_i t nm rp params body scope p1 p2 e
  rw[aj,aj]at h
  have ep:=of_decide_eq_true h.1.2
  subst ep
  exact⟨_,_,params,body,scope,p1,_,rfl,F t params body scope (some (nm,rp)) e h.2 (of_decide_eq_true h.1.1).symm⟩
theorem be4 {names:List Str}{P:lv}{K:ac}{f:Str}{sc:Scope}{N:List Str}{B:bO}:bC6 (bh6 names P K) (bD1 names K) f sc N B (λ _ _ _=>false):=λ _ _ _ h=>by cases h
theorem cj7 {names:List Str}{P:lv}{K:ac}:∀ id J,(bh6 names P K).lg id J->∃ L,P.lm id=some L/\LamGood J L:=λ _ _ h=>h
theorem cd2 {P:lv}{tab:List (String×mw×List Str×List Str)}(h:∀ p∈tab,P.lm p.1=some p.2.1/\bp9 p.2.2.1):∀ id t,tab.lookup id=some t->P.lm id=some t.1/\bp9 t.2.1:=by
 induction tab with
 | nil=>intro id t e;cases e
 | cons y l ih =>
  intro id t e
  rw[bf]at e
  cases q:id==y.1 with
  | true =>
   rw[q]at e
   cases e
   rw[eq_of_beq q]
   exact h y (aD ..)
  | false =>
   rw[q]at e
   exact ih (λ p hp=>h p (ao _ hp)) id t e
def cb4 (K:ac)(n:Str)(st:Stmt):Prop:=∃(f:Addr) (od an:Option Addr) (sl:Array (Option Value)) (oc kV dc pm cd ct:Value),cq K bn n=some (some (.ref f)) /\
 K.lookup f=some ⟨oc,od,.func (cW n n (defArgs st) (zq st) (defScope st) .none kV dc pm an cd ct),sl⟩/\fq K cd n=true/\cu K (.ref f)=true
def cl7 (n:Str)(st:Stmt)(ps:List Str):Prop:=∀(kV doc pm:Value) (an:Option Addr) (cdv ct:Value) (us:List Value),us.length=ps.length->dZ (cW n n (defArgs st) (zq st) (defScope st) .none kV doc pm an cdv ct) ⟨us,[]⟩=pure (ps.zip us)
theorem bd0 {Q:List Value->Prop}(h:Q [])(us:List Value)(hl:us.length=0):Q us:=by
 cases us with
 | nil=>exact h
 | cons _ _=>cases hl
theorem bdS {k:Nat}{Q:List Value->Prop}(h:∀ a us,us.length=k->Q (a::us))(us:List Value)(hl:us.length=k+1):Q us:=by
 cases us with
 | nil=>cases hl
 | cons a us=>exact h a us (Nat.succ.inj hl)
theorem bd1 {Q:List Value->Prop}(h:∀ a,Q [a]):∀ us:List Value,us.length=1->Q us:=bdS λ a=>bd0 (h a)
theorem bd2 {Q:List Value->Prop}(h:∀ a b,Q [a,b]):∀ us:List Value,us.length=2->Q us:=bdS λ a=>bd1 (h a)
theorem bd3 {Q:List Value->Prop}(h:∀ a b c,Q [a,b,c]):∀ us:List Value,us.length=3->Q us:=bdS λ a=>bd2 (h a)
theorem bd4 {Q:List Value->Prop}(h:∀ a b c d,Q [a,b,c,d]):∀ us:List Value,us.length=4->Q us:=bdS λ a=>bd3 (h a)
theorem bd5 {Q:List Value->Prop}(h:∀ a b c d e,Q [a,b,c,d,e]):∀ us:List Value,us.length=5->Q us:=bdS λ a=>bd4 (h a)
def DTB (names:List Str)(P:lv)(n:String)(pc vc:Nat)(m:Ck->List Stmt->Bool)(st:Stmt):Prop:=∃ N ps,FnScope N ps (defScope st)/\ps.length=pc/\N.length=pc+vc/\cl7 n st ps/\(m ⟨N,defScope st,λ _ _ _=>false⟩ (zq st)=true \/
 ((n:Str)∈names/\∃ tab,m ⟨N,defScope st,lkG n (defScope st) N tab⟩ (zq st)=true/\(∀ y∈(defScope st).names,y.2=.cell->(defScope st).names.lookup y.1=some .cell)/\∀ p∈tab,P.lm p.1=some p.2.1/\bp9 p.2.2.1))
def DT (names:List Str)(P:lv)(n:String)(d:my)(st:Stmt):Prop:=DTB names P n d.ps d.vs (λ ck S=>mSs ck d.body S) st
theorem al3 {names:List Str}{P:lv}{K:ac}{h:Heap}{mg:Str->Option Value}{n:String}{J vc:Nat}{m:Ck->List Stmt->Bool}{st:Stmt}(X:K.In h)(G:h.Ns bn mg)(hT:∀ x∈names,(bj K x).isSome=true)(hD:cb4 K n st)(hd:DTB names P n J vc m st):GoodB (bh6 names P K) (bD1 names K) mg n J vc m:=by
 obtain⟨f,od,an,sl,oc,kV,dc,pm,cd,ct,a,l,c,k⟩:=hD
 obtain⟨N,ps,Z,Y,h3,h4,B⟩:=hd
 have F:=br1 (st:=st) l c k
 have D:DefAt K mg n st ps f _:=⟨F,b8 X G a,F.binds h4⟩
 rcases B with B|⟨hn,tab,B,h6,h7⟩
 ·exact⟨_,_,_,_,_,_,D,Z,Y,h3,B,be4⟩
 ·exact⟨_,_,_,_,_,_,D,Z,Y,h3,B,bw8 hn (PySem.W.law_code X G (ax3 (hT _ hn)) (b8 X G a) (X _ _ l) rfl) h6 (cd2 h7)⟩
theorem good_of {names:List Str}{P:lv}{K:ac}{h:Heap}{mg:Str->Option Value}{n:String}{d:my}{st:Stmt}(X:K.In h)(G:h.Ns bn mg)(hT:∀ x∈names,(bj K x).isSome=true)(hD:cb4 K n st)(hd:DT names P n d st):Good (bh6 names P K) (bD1 names K) mg n d:=al3 X G hT hD hd
theorem aI9 {α:Type}{Q:String->α->Prop}:∀ {tbl:List (String×α)},(∀ p∈tbl,Q p.1 p.2)->∀ f d,tbl.lookup f=some d->Q f d
 | [],_,f,d,h=>by cases h
 | (g,e)::tbl,H,f,d,h=>by
  rw[bf]at h
  cases q:f==g with
  | true =>
   rw[q]at h
   cases h
   rw[eq_of_beq q]
   exact H (g,_) (aD ..)
  | false =>
   rw[q]at h
   exact aI9 (λ p hp=>H p (ao _ hp)) f d h
noncomputable def cn2 (K:ac)(c:String):Bool:=match cq K bn (c:Str)with|some (some (.ref C))=>cf1 K C&&(excI K C&&(cx K (.ref C) (.ref C)==some true&&(bp K (.ref C) (.type "ValueError")==some true&&cq K bn ("ValueError":Str)==some none)))|_=>false
noncomputable def cl0 (K:ac)(c:String):Bool:=match cq K bn (c:Str)with|some (some (.ref _))=>true|_=>false
noncomputable def cl4 (K:ac)(c d:String):Bool:=match cq K bn (c:Str),cq K bn (d:Str)with|some (some (.ref C)),some (some (.ref D))=>bp K (.ref C) (.ref D)==some (lB c d)&&cx K (.ref C) (.ref D)==some (lB c d)|_,_=>false
noncomputable def bA5 (K:ac)(cs ts:List String):Bool:=cs.all (cn2 K)&&(ts.all (cl0 K)&&cs.all λ c=>ts.all λ d=>cl4 K c d)
theorem at4 {K:ac}{h:Heap}{mg:Str->Option Value}{cs ts:List String}(X:K.In h)(G:h.Ns bn mg)(hx:bA5 K cs ts=true) :
  (∀ c:String,cs.contains c=true->∃ C,mg (c:Str)=some (.ref C)/\ExcCls K C/\excI K C=true)/\(∀ c:String,ts.contains c=true->∃ C,mg (c:Str)=some (.ref C)) /\
  (∀(c d:String) (C D:Addr),cs.contains c=true->ts.contains d=true->mg (c:Str)=some (.ref C)->mg (d:Str)=some (.ref D)->bp K (.ref C) (.ref D)=some (lB c d)) /\
  (∀(c d:String) (C D:Addr),cs.contains c=true->ts.contains d=true->mg (c:Str)=some (.ref C)->mg (d:Str)=some (.ref D)->cx K (.ref C) (.ref D)=some (lB c d)) /\
  (∀(c:String) (C:Addr),cs.contains c=true->mg (c:Str)=some (.ref C)->cx K (.ref C) (.ref C)=some true)/\(∀ c:String,cs.contains c=true->mg ("ValueError":Str)=none) /\
  ∀(c:String) (C:Addr),cs.contains c=true->mg (c:Str)=some (.ref C)->bp K (.ref C) (.type "ValueError")=some true:=by
 unfold bA5 at hx
 simp only[aj]at hx
 obtain⟨h1,Z,h3⟩:=hx
 have one:∀ c:String,cs.contains c=true->∃ C,mg (c:Str)=some (.ref C)/\ExcCls K C/\excI K C=true/\cx K (.ref C) (.ref C)=some true/\bp K (.ref C) (.type "ValueError")=some true/\mg ("ValueError":Str)=none:=λ c hc=>by
  have q:=aU.mp h1 c (dk.mp hc)
  unfold cn2 at q
  split at q
  ·rename_i C e
   rw[aj,aj,aj,aj]at q
   exact⟨C,b8 X G e,bB0 q.1,q.2.1,eq_of_beq q.2.2.1,eq_of_beq q.2.2.2.1,i9 X G (eq_of_beq q.2.2.2.2)⟩
  ·cases q
 have two:∀(c d:String) (C D:Addr),cs.contains c=true->ts.contains d=true->mg (c:Str)=some (.ref C)->mg (d:Str)=some (.ref D)->bp K (.ref C) (.ref D)=some (lB c d)/\cx K (.ref C) (.ref D)=some (lB c d):=λ c d C D hc hd mc Y=>by
  have q:=aU.mp (aU.mp h3 c (dk.mp hc)) d (dk.mp hd)
  unfold cl4 at q
  split at q
  ·rename_i B D' e1 e2
   have F:=b8 X G e1
   have J:=b8 X G e2
   rw[mc]at F;cases F
   rw[Y]at J;cases J
   rw[aj]at q
   exact⟨eq_of_beq q.1,eq_of_beq q.2⟩
  ·cases q
 refine⟨λ c hc=>?_,λ c hc=>?_,λ c d C D a b e f=>(two c d C D a b e f).1,λ c d C D a b e f=>(two c d C D a b e f).2,λ c C hc hm=>?_,λ c hc=>?_,λ c C hc hm=>?_⟩
 ·obtain⟨C,a,b,e,_⟩:=one c hc;exact⟨C,a,b,e⟩
 ·have q:=aU.mp Z c (dk.mp hc)
  unfold cl0 at q
  split at q
  ·rename_i C e
   exact⟨C,b8 X G e⟩
  ·cases q
 ·obtain⟨B,a,_,_,b,_⟩:=one c hc;rw[hm]at a;cases a;exact b
 ·obtain⟨B,_,_,_,_,_,b⟩:=one c hc;exact b
 ·obtain⟨B,a,_,_,_,b,_⟩:=one c hc;rw[hm]at a;cases a;exact b
end L2
end
noncomputable section
namespace DV
noncomputable def az1:Df:=⟨"_law_bag",2,3,(.cons (.asg (.one 2) (.cst (.int 0))) (.cons (.ite (.cmp .lt (.var 1) (.bi .len (.cons (.var 0) .nil))) (.cons (.asg (.one 2) (.bi .abs (.cons (.ix (.var 0) (.var 1)) .nil))) .nil) .nil) (.cons (.asg (.one 3) (.bin .add (.bin .mul (.cst (.int 7919)) (.var 1)) (.cst (.int 17)))) (.cons (.for_ (.one 4) (.rng1 (.bi .min2 (.cons (.bi .len (.cons (.var 0) .nil)) (.cons (.cst (.int 60)) .nil)))) (.cons (.asg (.one 3) (.bin .mod (.bin .add (.bin .add (.bin .mul (.var 3) (.cst (.int 48271))) (.bin .mod (.ix (.var 0) (.var 4)) (.cst (.int 2147483647)))) (.var 4)) (.cst (.int 2147483629)))) .nil)) (.cons (.ite (.cmp .lt (.var 2) (.bin .pow (.cst (.int 10)) (.cst (.int 18)))) (.cons (.asg (.one 2) (.cst (.int 0))) .nil) .nil) (.cons (.ret (.lst (.cons (.var 2) (.cons (.var 3) .nil)))) .nil))))))⟩
noncomputable def aj0:Df:=⟨"_law_take",2,3,(.cons (.ite (.cmp .gt (.ix (.var 0) (.cst (.int 0))) (.cst (.int 0))) (.cons (.asg (.one 2) (.bin .mod (.ix (.var 0) (.cst (.int 0))) (.var 1))) (.cons (.setIx (.var 0) (.cst (.int 0)) (.bin .fdiv (.ix (.var 0) (.cst (.int 0))) (.var 1))) (.cons (.ret (.var 2)) .nil))) .nil) (.cons (.asg (.one 3) (.cst (.int 0))) (.cons (.asg (.one 4) (.cst (.int 1))) (.cons (.whl (.cmp .lt (.var 4) (.var 1)) (.cons (.setIx (.var 0) (.cst (.int 1)) (.bin .mod (.bin .add (.bin .mul (.ix (.var 0) (.cst (.int 1))) (.cst (.int 48271))) (.cst (.int 7919))) (.cst (.int 2147483647)))) (.cons (.asg (.one 3) (.bin .add (.bin .mul (.var 3) (.cst (.int 1073741789))) (.bin .mod (.bin .mul (.bin .fdiv (.ix (.var 0) (.cst (.int 1))) (.cst (.int 8))) (.cst (.int 69621))) (.cst (.int 1073741789))))) (.cons (.asg (.one 4) (.bin .mul (.var 4) (.cst (.int 1073741789)))) .nil)))) (.cons (.ret (.bin .mod (.var 3) (.var 1))) .nil)))))⟩
noncomputable def aj6:Df:=⟨"_law_rooms",2,1,(.cons (.asg (.one 2) (.call "_law_take" (.ex (.var 0) (.ex (.bin .shl (.cst (.int 1)) (.var 1)) .nil)))) (.cons (.ret (.mk .tuple (.compIf (.one 0) (.rng1 (.var 1)) (.cmp .eq (.bin .mod (.bin .fdiv (.var 1) (.bin .shl (.cst (.int 1)) (.var 0))) (.cst (.int 2))) (.cst (.int 1))) (.var 0) [none,some 2]))) .nil))⟩
noncomputable def ah1:Df:=⟨"letters_of",1,0,(.cons (.ret (.slU (.glob "LETTERS") (.ix (.var 0) (.cst (.int 0))))) .nil)⟩
noncomputable def ao8:Df:=⟨"_law_word",3,2,(.cons (.asg (.one 3) (.cst (.str []))) (.cons (.for_ (.one 4) (.rng1 (.call "_law_take" (.ex (.var 0) (.ex (.bin .add (.var 2) (.cst (.int 1))) .nil)))) (.cons (.asg (.one 3) (.bin .add (.var 3) (.ix (.cst (.str [97,98,99])) (.call "_law_take" (.ex (.var 0) (.ex (.var 1) .nil)))))) .nil)) (.cons (.ret (.var 3)) .nil)))⟩
noncomputable def ah4:Df:=⟨"rooms_of",1,0,(.cons (.ret (.ix (.var 0) (.cst (.int 1)))) .nil)⟩
noncomputable def ah8:Df:=⟨"begins_of",1,0,(.cons (.ret (.ix (.var 0) (.cst (.int 2)))) .nil)⟩
noncomputable def ah6:Df:=⟨"ends_of",1,0,(.cons (.ret (.ix (.var 0) (.cst (.int 3)))) .nil)⟩
noncomputable def ah3:Df:=⟨"doors_of",1,0,(.cons (.ret (.ix (.var 0) (.cst (.int 4)))) .nil)⟩
noncomputable def bs9:Df:=⟨"grid",2,2,(.cons (.asg (.one 2) (.lst .nil)) (.cons (.for_ (.one 3) (.rng1 (.var 0)) (.cons (.ex (.meth .append (.var 2) (.cons (.mk .tuple (.comp (.one 0) (.rng1 (.var 0)) (.callV 1 (.cons (.var 2) (.cons (.var 0) .nil))) [none,some 1,some 3])) .nil))) .nil)) (.cons (.ret (.mk .tuple (.seq (.var 2)))) .nil)))⟩
noncomputable def ai1:Df:=⟨"least",1,0,(.cons (.ret (.mkD .min (.compIf (.one 0) (.seq (.var 0)) (.notN (.var 0)) (.var 0) [none]) (.cst .non))) .nil)⟩
noncomputable def ai9:Df:=⟨"added",2,0,(.cons (.ite (.or (.isN (.var 0)) (.isN (.var 1))) (.cons (.ret (.cst .non)) .nil) .nil) (.cons (.ret (.bin .add (.var 0) (.var 1))) .nil))⟩
noncomputable def an9:Df:=⟨"cut",2,0,(.cons (.ite (.or (.isN (.var 0)) (.cmp .le (.var 0) (.var 1))) (.cons (.ret (.var 0)) .nil) .nil) (.cons (.ret (.bin .add (.var 1) (.cst (.int 1)))) .nil))⟩
noncomputable def ak9:Df:=⟨"_law_bound",1,0,(.cons (.ret (.ix (.lst (.cons (.call "_law_take" (.ex (.var 0) (.ex (.cst (.int 3)) .nil))) (.cons (.call "_law_take" (.ex (.var 0) (.ex (.cst (.int 13)) .nil))) (.cons (.call "_law_take" (.ex (.var 0) (.ex (.bin .pow (.cst (.int 10)) (.cst (.int 9))) .nil))) (.cons (.call "_law_take" (.ex (.var 0) (.ex (.bin .pow (.cst (.int 10)) (.cst (.int 30))) .nil))) .nil))))) (.call "_law_take" (.ex (.var 0) (.ex (.cst (.int 4)) .nil))))) .nil)⟩
noncomputable def ah7:Df:=⟨"first_row",1,1,(.cons (.asg (.one 1) (.call "begins_of" (.ex (.var 0) .nil))) (.cons (.ret (.mk .tuple (.comp (.one 0) (.rng1 (.call "rooms_of" (.ex (.var 0) .nil))) (.ite (.cmp .isin (.var 0) (.var 1)) (.cst (.int 0)) (.cst .non)) [none,some 1]))) .nil))⟩
noncomputable def af9:Df:=⟨"least_into",4,0,(.cons (.ret (.call "least" (.ex (.mk .list (.compIf (.tup [0,1,2,3]) (.seq (.call "doors_of" (.ex (.var 0) .nil))) (.and (.cmp .eq (.var 1) (.var 4)) (.cmp .eq (.var 2) (.var 5))) (.call "added" (.ex (.ix (.var 6) (.var 0)) (.ex (.var 3) .nil))) [none,none,none,none,some 2,some 3,some 1])) .nil))) .nil)⟩
noncomputable def ap4:Df:=⟨"led",4,0,(.cons (.ret (.mk .tuple (.comp (.one 0) (.rng1 (.call "rooms_of" (.ex (.var 0) .nil))) (.call "cut" (.ex (.call "least_into" (.ex (.var 1) (.ex (.var 2) (.ex (.var 3) (.ex (.var 0) .nil))))) (.ex (.var 4) .nil))) [none,some 0,some 2,some 3,some 1]))) .nil)⟩
noncomputable def ai0:Df:=⟨"end_of",2,0,(.cons (.ret (.call "least" (.ex (.mk .list (.comp (.one 0) (.seq (.call "ends_of" (.ex (.var 0) .nil))) (.ix (.var 1) (.var 0)) [none,some 1])) .nil))) .nil)⟩
noncomputable def ai4:Df:=⟨"_law_machine",1,5,(.cons (.asg (.one 1) (.bin .add (.cst (.int 1)) (.call "_law_take" (.ex (.var 0) (.ex (.cst (.int 3)) .nil))))) (.cons (.asg (.one 2) (.bin .add (.cst (.int 1)) (.call "_law_take" (.ex (.var 0) (.ex (.cst (.int 5)) .nil))))) (.cons (.asg (.one 3) (.call "_law_take" (.ex (.var 0) (.ex (.cst (.int 13)) .nil)))) (.cons (.ite (.cmp .eq (.call "_law_take" (.ex (.var 0) (.ex (.cst (.int 8)) .nil))) (.cst (.int 7))) (.cons (.asg (.one 3) (.call "_law_take" (.ex (.var 0) (.ex (.cst (.int 31)) .nil)))) .nil) .nil) (.cons (.asg (.one 4) (.lst .nil)) (.cons (.for_ (.one 5) (.rng1 (.var 3)) (.cons (.ex (.meth .append (.var 4) (.cons (.tup (.cons (.call "_law_take" (.ex (.var 0) (.ex (.var 2) .nil))) (.cons (.ix (.cst (.str [97,98,99])) (.call "_law_take" (.ex (.var 0) (.ex (.var 1) .nil)))) (.cons (.call "_law_take" (.ex (.var 0) (.ex (.var 2) .nil))) (.cons (.call "_law_take" (.ex (.var 0) (.ex (.cst (.int 4)) .nil))) .nil))))) .nil))) .nil)) (.cons (.ret (.tup (.cons (.var 1) (.cons (.var 2) (.cons (.call "_law_rooms" (.ex (.var 0) (.ex (.var 2) .nil))) (.cons (.call "_law_rooms" (.ex (.var 0) (.ex (.var 2) .nil))) (.cons (.mk .tuple (.seq (.var 4))) .nil))))))) .nil)))))))⟩
noncomputable def ai7:Df:=⟨"rows_met",2,4,(.cons (.asg (.one 2) (.call "first_row" (.ex (.var 0) .nil))) (.cons (.asg (.one 3) (.lst (.cons (.tup (.cons (.cst (.str [])) (.cons (.var 2) .nil))) .nil))) (.cons (.asg (.one 4) (.dicU (.var 2) (.cst (.bl true)))) (.cons (.asg (.one 5) (.cst (.int 0))) (.cons (.whl (.and (.cmp .lt (.var 5) (.bi .len (.cons (.var 3) .nil))) (.not (.call "ends_above" (.ex (.var 0) (.ex (.var 1) (.ex (.ix (.ix (.var 3) (.neg (.cst (.int 1)))) (.cst (.int 1))) .nil)))))) (.cons (.ex (.call "meet_behind" (.ex (.var 0) (.ex (.var 1) (.ex (.ix (.var 3) (.var 5)) (.ex (.var 3) (.ex (.var 4) .nil))))))) (.cons (.aug 5 (.cst (.int 1))) .nil))) (.cons (.ret (.var 3)) .nil))))))⟩
noncomputable def ag7:Df:=⟨"ends_above",3,0,(.cons (.ret (.cmp .eq (.call "end_of" (.ex (.var 0) (.ex (.var 2) .nil))) (.bin .add (.var 1) (.cst (.int 1))))) .nil)⟩
noncomputable def ag3:Df:=⟨"meet_behind",5,2,(.cons (.for_ (.one 5) (.seq (.call "letters_of" (.ex (.var 0) .nil))) (.cons (.asg (.one 6) (.call "led" (.ex (.var 0) (.ex (.var 1) (.ex (.ix (.var 2) (.cst (.int 1))) (.ex (.var 5) .nil)))))) (.cons (.ite (.cmp .isin (.var 6) (.var 4)) (.cons .cont .nil) .nil) (.cons (.ite (.cmp .eq (.bi .len (.cons (.var 3) .nil)) (.glob "MOST_ROWS")) (.cons .raise .nil) .nil) (.cons (.setIx (.var 4) (.var 6) (.cst (.bl true))) (.cons (.ex (.meth .append (.var 3) (.cons (.tup (.cons (.bin .add (.ix (.var 2) (.cst (.int 0))) (.var 5)) (.cons (.var 6) .nil))) .nil))) (.cons (.ite (.call "ends_above" (.ex (.var 0) (.ex (.var 1) (.ex (.var 6) .nil)))) (.cons .retN .nil) .nil) .nil))))))) .nil)⟩
noncomputable def ak1:Df:=⟨"above",2,1,(.cons (.asg (.one 2) (.ix (.call "rows_met" (.ex (.var 0) (.ex (.var 1) .nil))) (.neg (.cst (.int 1))))) (.cons (.ite (.call "ends_above" (.ex (.var 0) (.ex (.var 1) (.ex (.ix (.var 2) (.cst (.int 1))) .nil)))) (.cons (.ret (.ix (.var 2) (.cst (.int 0)))) .nil) .nil) (.cons (.ret (.cst .non)) .nil)))⟩
noncomputable def al0:Df:=⟨"_law_price",2,7,(.cons (.asg (.one 2) (.mk .list (.comp (.one 0) (.rng1 (.ix (.var 0) (.cst (.int 1)))) (.ix (.lst (.cons (.cst .non) (.cons (.cst (.int 0)) .nil))) (.bi .int (.cons (.cmp .isin (.var 0) (.ix (.var 1) (.cst (.int 2)))) .nil))) [none,some 0]))) (.cons (.for_ (.one 3) (.seq (.var 1)) (.cons (.asg (.one 4) (.mk .list (.comp (.one 0) (.seq (.var 2)) (.cst .non) [none]))) (.cons (.for_ (.tup [5,6,7,8]) (.seq (.ix (.var 0) (.cst (.int 4)))) (.cons (.ite (.and (.cmp .eq (.var 6) (.var 3)) (.notN (.ix (.var 2) (.var 5)))) (.cons (.ite (.or (.isN (.ix (.var 4) (.var 7))) (.cmp .lt (.bin .add (.ix (.var 2) (.var 5)) (.var 8)) (.ix (.var 4) (.var 7)))) (.cons (.setIx (.var 4) (.var 7) (.bin .add (.ix (.var 2) (.var 5)) (.var 8))) .nil) .nil) .nil) .nil) .nil)) (.cons (.asg (.one 2) (.var 4)) .nil)))) (.cons (.ret (.mkD .min (.compIf (.one 0) (.seq (.ix (.var 0) (.cst (.int 3)))) (.notN (.ix (.var 1) (.var 0))) (.ix (.var 1) (.var 0)) [none,some 2]) (.cst .non))) .nil)))⟩
noncomputable def ah5:Df:=⟨"_law_costs_more",3,1,(.cons (.asg (.one 3) (.call "_law_price" (.ex (.var 0) (.ex (.var 1) .nil)))) (.cons (.ret (.and (.notN (.var 3)) (.cmp .gt (.var 3) (.var 2)))) .nil))⟩
noncomputable def ak2:Df:=⟨"_law_words",1,5,(.cons (.asg (.one 1) (.lst (.cons (.cst (.str [])) .nil))) (.cons (.asg (.one 2) (.lst (.cons (.cst (.str [])) .nil))) (.cons (.for_ (.one 3) (.rng1 (.cst (.int 4))) (.cons (.asg (.one 4) (.lst .nil)) (.cons (.for_ (.one 5) (.seq (.var 2)) (.cons (.asg (.one 4) (.bin .add (.var 4) (.mk .list (.comp (.one 0) (.seq (.slU (.cst (.str [97,98,99])) (.var 0))) (.bin .add (.var 1) (.var 0)) [none,some 5])))) .nil)) (.cons (.asg (.one 2) (.var 4)) (.cons (.asg (.one 1) (.bin .add (.var 1) (.var 2))) .nil))))) (.cons (.ret (.var 1)) .nil))))⟩
noncomputable def au6:Df:=⟨"sign_product",2,1,(.cons (.asg (.one 2) (.bi .len (.cons (.var 0) .nil))) (.cons (.ret (.callC "grid" (.ex (.var 2) (.lam "sign_product.0" [2,0,1] .nil)))) .nil))⟩
noncomputable def an5:Lm:=⟨"sign_product.0",2,3,(.mk .min (.comp (.one 0) (.rng1 (.var 2)) (.bi .max2 (.cons (.ix (.ix (.var 1) (.var 2)) (.var 0)) (.cons (.ix (.ix (.var 3) (.var 0)) (.var 4)) .nil))) [none,some 3,some 0,some 4,some 1]))⟩
noncomputable def am0:Df:=⟨"_law_price",2,7,(.cons (.asg (.one 2) (.mk .list (.comp (.one 0) (.rng1 (.ix (.var 0) (.cst (.int 1)))) (.ix (.lst (.cons (.cst .non) (.cons (.cst (.int 0)) .nil))) (.bi .int (.cons (.cmp .isin (.var 0) (.ix (.var 1) (.cst (.int 2)))) .nil))) [none,some 0]))) (.cons (.for_ (.one 3) (.seq (.var 1)) (.cons (.asg (.one 4) (.mk .list (.comp (.one 0) (.seq (.var 2)) (.cst .non) [none]))) (.cons (.for_ (.tup [5,6,7,8]) (.seq (.ix (.var 0) (.cst (.int 4)))) (.cons (.ite (.and (.cmp .eq (.var 6) (.var 3)) (.notN (.ix (.var 2) (.var 5)))) (.cons (.ite (.or (.isN (.ix (.var 4) (.var 7))) (.cmp .lt (.bin .add (.ix (.var 2) (.var 5)) (.var 8)) (.ix (.var 4) (.var 7)))) (.cons (.setIx (.var 4) (.var 7) (.bin .add (.ix (.var 2) (.var 5)) (.var 8))) .nil) .nil) .nil) .nil) .nil)) (.cons (.asg (.one 2) (.var 4)) .nil)))) (.cons (.ret (.mkD .min (.compIf (.one 0) (.seq (.ix (.var 0) (.cst (.int 3)))) (.notN (.ix (.var 1) (.var 0))) (.ix (.var 1) (.var 0)) [none,some 2]) (.cst .non))) .nil)))⟩
noncomputable def cp8:Df:=⟨"_law_on",3,5,(.cons (.asg (.one 3) (.mk .list (.comp (.one 0) (.seq (.var 2)) (.cst .non) [none]))) (.cons (.for_ (.tup [4,5,6,7]) (.seq (.ix (.var 0) (.cst (.int 4)))) (.cons (.ite (.and (.cmp .eq (.var 5) (.var 1)) (.notN (.ix (.var 2) (.var 4)))) (.cons (.ite (.or (.isN (.ix (.var 3) (.var 6))) (.cmp .lt (.bin .add (.ix (.var 2) (.var 4)) (.var 7)) (.ix (.var 3) (.var 6)))) (.cons (.setIx (.var 3) (.var 6) (.bin .add (.ix (.var 2) (.var 4)) (.var 7))) .nil) .nil) .nil) .nil) .nil)) (.cons (.ret (.var 3)) .nil)))⟩
class Has (P:Pr)(d:Df):Prop where
 eq:P.df d.name=some d
class HasL (P:Pr)(d:Lm):Prop where
 eq:P.lm d.id=some d
class HasC (P:Pr)(x:String)(v:D):Prop where
 eq:P.con x=some v
noncomputable def fin (s:Sto)(c:Ct)(s':Sto):R D:=match c with
 | .ret v=>zo s v s'
 | .next _=>zo s .non s'
 | _=>.bad
@[simp] theorem ab7 (s:Sto) (v:D) (s':Sto):fin s (.ret v) s'=zo s v s':=rfl
@[simp] theorem ab3 (s:Sto) (ρ:Env) (s':Sto):fin s (.next ρ) s'=zo s .non s':=rfl
theorem ze {P:Pr}(d:Df)[h:Has P d]{n:Nat}{l:List D}{s:Sto}(hl:l.length=d.ps) :
  (aa0 P (n+1)).call d.name l s=(exs (aa0 P n) d.body (l.map some++aC d.vs none) s).bind (fin s):=by
 simp only[aa0,h.eq,hl,if_true]
 rfl
theorem bx6 {P:Pr}{x:String}{v:D}[h:HasC P x v]{n:Nat}:(aa0 P n).con x=some v:=by
 cases n<;>exact h.eq
theorem as9 (s t:Sto):ar0 s (s++t)=true:=by
 unfold ar0
 rw[aU]
 intro i h
 rw[cr]at h
 rw[aP h]
 simp
theorem bc9 (s t:Sto)(r:Nat)(o:O)(h:o.bnd s.length=true):ar0 s (s.set r o++t)=true:=by
 unfold ar0
 rw[aU]
 intro i B
 rw[cr]at B
 rw[aP (by rw[bK];exact B)]
 by_cases e:r=i
 ·subst e;rw[a9 B];simp[h]
 ·rw[bh e];simp
theorem ql {s t:Sto}{d:D}(h:∀ n,d.bnd n=true)(hr:∀ r,d≠.ref r):zo s d (s++t)=.ok d s:=by
 unfold zo
 rw[as9,if_pos rfl]
 cases d with
 | ref r=>exact absurd rfl (hr r)
 | _=>simp[h]
theorem zn {s:Sto}{d:D}(h:∀ n,d.bnd n=true)(hr:∀ r,d≠.ref r):zo s d s=.ok d s:=by
 have:=ql (s:=s) (t:=[]) h hr
 rwa [bv]at this
theorem at0 {s t:Sto}{d:D}{r:Nat}{o:O}(h:∀ n,d.bnd n=true)(hr:∀ r,d≠.ref r)(ho:o.bnd s.length=true):zo s d (s.set r o++t)=.ok d (s.set r o):=by
 unfold zo
 rw[bc9 s t r o ho,if_pos rfl]
 have e:(s.set r o++t).take s.length=s.set r o:=by rw[List.take_append_of_le_length (by simp),ee (by simp)]
 cases d with
 | ref r=>exact absurd rfl (hr r)
 | _=>simp only[h,if_true,e]
theorem qJ {s:Sto}{d:D}{r:Nat}{o:O}(h:∀ n,d.bnd n=true)(hr:∀ r,d≠.ref r)(ho:o.bnd s.length=true):zo s d (s.set r o)=.ok d (s.set r o):=by
 have:=at0 (s:=s) (t:=[]) (r:=r) h hr ho
 rwa [bv]at this
theorem aF8 {s t u:Sto}{o:O}(ho:o.bnd s.length=true):zo s (.ref (s.length+t.length)) (s++(t++o::u))=.ok (.ref s.length) (s++[o]):=by
 unfold zo
 rw[as9,if_pos rfl]
 simp[ho,aR]
@[simp] theorem ba2 {s:Sto} {i:Int}:zo s (.int i) s=.ok (.int i) s:=zn (λ _=>rfl) (by nofun)
@[simp] theorem bn6 {s:Sto} {i:Bool}:zo s (.bl i) s=.ok (.bl i) s:=zn (λ _=>rfl) (by nofun)
@[simp] theorem aE7 {s:Sto}:zo s .non s=.ok .non s:=zn (λ _=>rfl) (by nofun)
@[simp] theorem bT2 {s:Sto} {x:List Nat}:zo s (.str x) s=.ok (.str x) s:=zn (λ _=>rfl) (by nofun)
theorem qF {c:Env->Sto->R D}{g:Env->Sto->R Ct}:∀ {n:Nat} {ρ:Env} {s:Sto},qU c g n ρ s≠.bad->qU c g (n+1) ρ s=qU c g n ρ s
 | 0,_,_,h=>absurd rfl h
 | n+1,ρ,s,h=>by
  rw[show qU c g (n+1+1) ρ s=tru (c ρ s) (λ b s=>if b then(g ρ s).bind λ B s=>match B with
   | .next ρ=>qU c g (n+1) ρ s|.cont ρ=>qU c g (n+1) ρ s|.brk ρ=>.ok (.next ρ) s|.ret d=>.ok (.ret d) s else .ok (.next ρ) s)from rfl]
  have e:qU c g (n+1) ρ s=tru (c ρ s) (λ b s=>if b then(g ρ s).bind λ B s=>match B with
   | .next ρ=>qU c g n ρ s|.cont ρ=>qU c g n ρ s|.brk ρ=>.ok (.next ρ) s|.ret d=>.ok (.ret d) s else .ok (.next ρ) s):=rfl
  rw[e]at h ⊢
  unfold tru at h ⊢
  cases hc:c ρ s with
  | exc _ _=>rfl
  | bad=>rfl
  | ok d s1 =>
   rw[hc]at h
   cases d with
   | bl b =>
    cases b with
    | false=>rfl
    | true =>
     simp only[R.bind_ok,if_true]at h ⊢
     cases hg:g ρ s1 with
     | exc _ _=>rfl
     | bad=>rfl
     | ok B s2 =>
      rw[hg]at h
      simp only[R.bind_ok]at h ⊢
      cases B with
      | next ρ'=>exact qF h
      | cont ρ'=>exact qF h
      | _=>rfl
   | _=>rfl
theorem zZ {c:Env->Sto->R D}{g:Env->Sto->R Ct}{n:Nat}{ρ:Env}{s:Sto}(h:qU c g n ρ s≠.bad):∀ k,qU c g (n+k) ρ s=qU c g n ρ s
 | 0=>rfl
 | k+1=>by
  have e:=zZ h k
  rw[<-c9,qF (by rw[e];exact h),e]
theorem bS3 {c:Env->Sto->R D}{g:Env->Sto->R Ct}{n:Nat}{ρ:Env}{s:Sto}{r:Ct}{t:Sto}(h:qU c g n ρ s=.ok r t):whl c g ρ s=.ok r t:=by
 have hb:qU c g n ρ s≠.bad:=by rw[h];nofun
 have hx:∃ n,qU c g n ρ s≠.bad:=⟨n,hb⟩
 unfold whl
 rw[dif_pos hx]
 have F:=zZ hx.choose_spec n
 have B:=zZ hb hx.choose
 rw[<-F,fe,B,h]
theorem aq4 {c:Env->Sto->R D}{g:Env->Sto->R Ct}{ρ ρ':Env}{s s1 s':Sto}(hc:c ρ s=.ok (.bl true) s1)(hg:g ρ s1=.ok (.next ρ') s'):whl c g ρ s=whl c g ρ' s':=by
 have key:∀ n,qU c g (n+1) ρ s=qU c g n ρ' s':=λ n=>by
  show tru (c ρ s) _=_
  rw[hc,ad2,if_pos rfl,hg];rfl
 unfold whl
 by_cases hx:∃ n,qU c g n ρ' s'≠.bad
 ·have hy:∃ n,qU c g n ρ s≠.bad:=⟨hx.choose+1,by rw[key];exact hx.choose_spec⟩
  rw[dif_pos hx,dif_pos hy]
  have B:=zZ hy.choose_spec (hx.choose+1)
  have h:=zZ (n:=hx.choose+1) (ρ:=ρ) (s:=s) (by rw[key];exact hx.choose_spec) hy.choose
  rw[<-B,fe,h,key]
 ·have hy:¬ ∃ n,qU c g n ρ s≠.bad:=λ⟨n,hn⟩=>by
   cases n with
   | zero=>exact hn rfl
   | succ n=>exact hx ⟨n,by rw[<-key];exact hn⟩
  rw[dif_neg hx,dif_neg hy]
theorem aI8 {c:Env->Sto->R D}{g:Env->Sto->R Ct}{ρ:Env}{s s1:Sto}(hc:c ρ s=.ok (.bl false) s1):whl c g ρ s=.ok (.next ρ) s1 :=
 bS3 (n:=1) (by show tru (c ρ s) _=_;rw[hc,ad2];rfl)
theorem ay5 {ok:Sto->Bool}{g:D->Env->Sto->R Ct}(P:Nat->Env->Sto->Prop):∀(l:List D) (k:Nat) (ρ:Env) (s:Sto),
  P k ρ s->(∀(j:Nat) (ρ:Env) (s:Sto),j<=l.length->P (k+j) ρ s->ok s=true)->(∀(j:Nat) (d:D) (ρ:Env) (s:Sto),l[j]?=some d->P (k+j) ρ s->∃ ρ' s',(g d ρ s=.ok (.next ρ') s'\/g d ρ s=.ok (.cont ρ') s')/\P (k+j+1) ρ' s') ->
  ∃ ρ' s',at8 ok g l ρ s=.ok (.next ρ') s'/\P (k+l.length) ρ' s'
 | [],k,ρ,s,h,o,_=>⟨ρ,s,by show(if ok s then _ else _)=_;rw[if_pos (o 0 ρ s (aw _) h)],h⟩
 | d::l,k,ρ,s,h,o,t=>by
  have ho:=o 0 ρ s (cN _) h
  obtain⟨ρ1,s1,hg,B⟩:=t 0 d ρ s rfl h
  obtain⟨ρ2,s2,e,F⟩:=ay5 P l (k+1) ρ1 s1 B (λ j ρ' s' hj hp=>o (j+1) ρ' s' (by simpa using hj) (by rwa [show k+(j+1)=k+1+j by omega])) λ j d' ρ' s' hj hp=>by
   have:=t (j+1) d' ρ' s' (by simpa using hj) (by rwa [show k+(j+1)=k+1+j by omega])
   rwa [show k+(j+1)+1=k+1+j+1 by omega]at this
  refine⟨ρ2,s2,?_,by rwa [bq,show k+(l.length+1)=k+1+l.length by omega]⟩
  show(if ok s then _ else _)=_
  rw[if_pos ho]
  rcases hg with hg|hg<;>(rw[hg];exact e)
noncomputable def Nx (Q:Env->Sto->Prop):R Ct->Prop
 | .ok (.next ρ) s=>Q ρ s
 | .ok (.cont ρ) s=>Q ρ s
 | _=>False
@[simp] theorem ce7 (Q:Env->Sto->Prop) (ρ:Env) (s:Sto):Nx Q (.ok (.next ρ) s)=Q ρ s:=rfl
@[simp] theorem cg0 (Q:Env->Sto->Prop) (ρ:Env) (s:Sto):Nx Q (.ok (.cont ρ) s)=Q ρ s:=rfl
theorem ap3 {Q:Env->Sto->Prop}{r:R Ct}{ρ:Env}{s:Sto}(e:r=.ok (.next ρ) s)(h:Q ρ s):Nx Q r:=by rw[e];exact h
theorem Nx.out {Q:Env->Sto->Prop}:∀ {r:R Ct},Nx Q r->∃ ρ s,(r=.ok (.next ρ) s\/r=.ok (.cont ρ) s)/\Q ρ s
 | .ok (.next ρ) s,h=>⟨ρ,s,.inl rfl,h⟩
 | .ok (.cont ρ) s,h=>⟨ρ,s,.inr rfl,h⟩
 | .ok (.ret _) _,h=>h.elim
 | .ok (.brk _) _,h=>h.elim
 | .exc _ _,h=>h.elim
 | .bad,h=>h.elim
noncomputable def Tst (A B:Sto->Prop):R D->Prop
 | .ok (.bl false) s=>A s
 | .ok (.bl true) s=>B s
 | _=>False
@[simp] theorem bu1 (A B:Sto->Prop) (b:Bool) (s:Sto):Tst A B (.ok (.bl b) s)=if b then B s else A s:=by cases b<;>rfl
theorem Tst.out {A B:Sto->Prop}:∀ {r:R D},Tst A B r->(∃ s,r=.ok (.bl false) s/\A s)\/∃ s,r=.ok (.bl true) s/\B s
 | .ok (.bl false) s,h=>.inl ⟨s,rfl,h⟩
 | .ok (.bl true) s,h=>.inr ⟨s,rfl,h⟩
 | .ok .non _,h=>h.elim
 | .ok (.int _) _,h=>h.elim
 | .ok (.str _) _,h=>h.elim
 | .ok (.tup _) _,h=>h.elim
 | .ok (.ref _) _,h=>h.elim
 | .ok (.fn _) _,h=>h.elim
 | .ok (.clo _ _) _,h=>h.elim
 | .exc _ _,h=>h.elim
 | .bad,h=>h.elim
theorem bi6 {c:Env->Sto->R D}{g:Env->Sto->R Ct}{ρ ρ':Env}{s s1 s':Sto}(hc:c ρ s=.ok (.bl true) s1)(hg:g ρ s1=.ok (.cont ρ') s'):whl c g ρ s=whl c g ρ' s':=by
 have key:∀ n,qU c g (n+1) ρ s=qU c g n ρ' s':=λ n=>by
  show tru (c ρ s) _=_
  rw[hc,ad2,if_pos rfl,hg];rfl
 unfold whl
 by_cases hx:∃ n,qU c g n ρ' s'≠.bad
 ·have hy:∃ n,qU c g n ρ s≠.bad:=⟨hx.choose+1,by rw[key];exact hx.choose_spec⟩
  rw[dif_pos hx,dif_pos hy]
  have B:=zZ hy.choose_spec (hx.choose+1)
  have h:=zZ (n:=hx.choose+1) (ρ:=ρ) (s:=s) (by rw[key];exact hx.choose_spec) hy.choose
  rw[<-B,fe,h,key]
 ·have hy:¬ ∃ n,qU c g n ρ s≠.bad:=λ⟨n,hn⟩=>by
   cases n with
   | zero=>exact hn rfl
   | succ n=>exact hx ⟨n,by rw[<-key];exact hn⟩
  rw[dif_neg hx,dif_neg hy]
theorem bS4 {c:Env->Sto->R D}{g:Env->Sto->R Ct}(P:Nat->Env->Sto->Prop)(Q:Env->Sto->Prop)
  (step:∀ k ρ s,P k ρ s->Tst (λ s1=>Q ρ s1) (λ s1=>Nx (λ ρ' s'=>∃ B,B<k/\P B ρ' s') (g ρ s1)) (c ρ s)) :
  ∀(k:Nat) (ρ:Env) (s:Sto),P k ρ s->∃ ρ' s',whl c g ρ s=.ok (.next ρ') s'/\Q ρ' s':=by
 intro k
 induction k using Nat.strongRecOn with
 | _ k ih =>
  intro ρ s h
  rcases(step k ρ s h).out with⟨s1,hc,F⟩|⟨s1,hc,hn⟩
  ·exact⟨ρ,s1,aI8 hc,F⟩
  ·obtain⟨ρ',s',hg,B,hk,hp⟩:=hn.out
   rcases hg with hg|hg
   ·rw[aq4 hc hg];exact ih B hk ρ' s' hp
   ·rw[bi6 hc hg];exact ih B hk ρ' s' hp
theorem bj3 {c:Env->Sto->R D}{g:Env->Sto->R Ct}{ρ:Env}{s:Sto}{α:Type}{f:Ct->Sto->R α}{W:R α->Prop}(P:Nat->Env->Sto->Prop)(Q:Env->Sto->Prop)(k:Nat)(h:P k ρ s)
  (step:∀ k ρ s,P k ρ s->Tst (λ s1=>Q ρ s1) (λ s1=>Nx (λ ρ' s'=>∃ B,B<k/\P B ρ' s') (g ρ s1)) (c ρ s))
  (F:∀ ρ' s',Q ρ' s'->W (f (.next ρ') s')):W ((whl c g ρ s).bind f):=by
 obtain⟨ρ',s',e,q⟩:=bS4 P Q step k ρ s h
 rw[e]
 exact F ρ' s' q
theorem bi5 {c:Env->Sto->R D}{g:Env->Sto->R Ct}{ρ:Env}{s:Sto}{α:Type}{f:Ct->Sto->R α}{x:R α}(P:Nat->Env->Sto->Prop)(Q:Env->Sto->Prop)(k:Nat)(h:P k ρ s)
  (step:∀ k ρ s,P k ρ s->Tst (λ s1=>Q ρ s1) (λ s1=>Nx (λ ρ' s'=>∃ B,B<k/\P B ρ' s') (g ρ s1)) (c ρ s))
  (F:∀ ρ' s',Q ρ' s'->f (.next ρ') s'=x):(whl c g ρ s).bind f=x:=bj3 (W:=(·=x)) P Q k h step F
theorem qw {ok:Sto->Bool}{g:D->Env->Sto->R Ct}{l:List D}{ρ:Env}{s:Sto}{α:Type}{f:Ct->Sto->R α}{W:R α->Prop}(P:Nat->Env->Sto->Prop)(h:P 0 ρ s)
  (o:∀(j:Nat) (ρ:Env) (s:Sto),j<=l.length->P j ρ s->ok s=true) (step:∀(j:Nat) (d:D) (ρ:Env) (s:Sto),l[j]?=some d->P j ρ s->Nx (P (j+1)) (g d ρ s))
  (B:∀ ρ' s',P l.length ρ' s'->W (f (.next ρ') s')):W ((at8 ok g l ρ s).bind f):=by
 obtain⟨ρ',s',e,q⟩:=ay5 P l 0 ρ s h (λ j ρ s hj hp=>o j ρ s hj (by rwa [gF]at hp)) (λ j d ρ s hj hp=>by
  rw[gF]at hp ⊢
  exact(step j d ρ s hj hp).out)
 rw[e]
 rw[gF]at q
 exact B ρ' s' q
theorem bi0 {ok:Sto->Bool}{g:D->Env->Sto->R Ct}{l:List D}{ρ:Env}{s:Sto}{α:Type}{f:Ct->Sto->R α}{x:R α}(P:Nat->Env->Sto->Prop)(h:P 0 ρ s)
  (o:∀(j:Nat) (ρ:Env) (s:Sto),j<=l.length->P j ρ s->ok s=true) (step:∀(j:Nat) (d:D) (ρ:Env) (s:Sto),l[j]?=some d->P j ρ s->Nx (P (j+1)) (g d ρ s))
  (B:∀ ρ' s',P l.length ρ' s'->f (.next ρ') s'=x):(at8 ok g l ρ s).bind f=x:=qw (W:=(·=x)) P h o step B
section
variable {F:Fns} {ρ:Env} {s:Sto}
@[simp] theorem qz (i:Nat):ev F (.var i) ρ s=aH1 ρ i s:=rfl
@[simp] theorem ad3 (c:Cn):ev F (.cst c) ρ s=.ok c.d s:=rfl
@[simp] theorem ad4 (op:BOp) (a b:E):ev F (.bin op a b) ρ s=(ev F a ρ s).bind λ x s=>(ev F b ρ s).bind λ y s=>ao3 op x y s:=rfl
@[simp] theorem af4 (a:E):ev F (.not a) ρ s=tru (ev F a ρ s) λ b s=>.ok (.bl (!b)) s:=rfl
@[simp] theorem ad1 (op:COp) (a b:E):ev F (.cmp op a b) ρ s=(ev F a ρ s).bind λ x s=>(ev F b ρ s).bind λ y s=>qB op x y s:=rfl
@[simp] theorem cb6 (o p:COp) (a b c:E):ev F (.chain o p a b c) ρ s=(ev F a ρ s).bind λ x s=>(ev F b ρ s).bind λ y s=>tru (qB o x y s) λ k s=>if k then(ev F c ρ s).bind λ z s=>qB p y z s else .ok (.bl false) s:=rfl
@[simp] theorem af8 (a:E):ev F (.isN a) ρ s=(ev F a ρ s).bind λ x s=>.ok (.bl (decide (x=.non))) s:=rfl
@[simp] theorem ab9 (a:E):ev F (.notN a) ρ s=(ev F a ρ s).bind λ x s=>.ok (.bl (!decide (x=.non))) s:=rfl
@[simp] theorem ae5 (a b:E):ev F (.and a b) ρ s=tru (ev F a ρ s) λ c s=>if c then tru (ev F b ρ s) λ c s=>.ok (.bl c) s else .ok (.bl false) s:=rfl
@[simp] theorem ag5 (a b:E):ev F (.or a b) ρ s=tru (ev F a ρ s) λ c s=>if c then .ok (.bl true) s else tru (ev F b ρ s) λ c s=>.ok (.bl c) s:=rfl
@[simp] theorem ae9 (c a b:E):ev F (.ite c a b) ρ s=tru (ev F c ρ s) λ k s=>if k then ev F a ρ s else ev F b ρ s:=rfl
@[simp] theorem af6 (es:Es):ev F (.tup es) ρ s=(evs F es ρ s).bind λ l s=>.ok (.tup l) s:=rfl
@[simp] theorem ae1 (es:Es):ev F (.lst es) ρ s=(evs F es ρ s).bind λ l s=>aj2 (.lst l) s:=rfl
@[simp] theorem ag0 (a b:E):ev F (.ix a b) ρ s=(ev F a ρ s).bind λ x s=>(ev F b ρ s).bind λ y s=>ixM x y s:=rfl
@[simp] theorem ac1 (f:String) (h:As):ev F (.call f h) ρ s=(am6 F h ρ s).bind λ l s=>F.call f l s:=rfl
@[simp] theorem cc0 (f:String) (h:As):ev F (.callC f h) ρ s=(am6 F h ρ s).bind λ l s=>(F.call f l s).bind λ d s'=>if(d.ncl&&s'.all O.ncl)=true then .ok d s' else .bad:=rfl
@[simp] theorem ag1 (b:Bi) (es:Es):ev F (.bi b es) ρ s=(evs F es ρ s).bind λ l s=>bi b l s:=rfl
@[simp] theorem ag2 (k:Mk) (it:L):ev F (.mk k it) ρ s=(evL F it ρ s).bind λ q s=>mk k q s:=rfl
@[simp] theorem af1 (k:Mk) (it:L) (d:E):ev F (.mkD k it d) ρ s=(evL F it ρ s).bind λ q s=>(ev F d ρ s).bind λ d s=>mkD k q d s:=rfl
@[simp] theorem af0 (k:Mk) (e:E):ev F (.mks k e) ρ s=(ev F e ρ s).bind λ x s=>(bt7 x s).bind λ q s=>mk k q s:=rfl
@[simp] theorem cl1 (o:E) (c:Nat):ev F (.spl o c) ρ s=(ev F o ρ s).bind λ x s=>cd6 c x s:=rfl
@[simp] theorem ch9 (id:String) (e:E) (j:Int):ev F (.minK id e j) ρ s=(ev F e ρ s).bind λ x s=>(bt7 x s).bind λ q s=>bv5 j q s:=rfl
@[simp] theorem ac9 (k:Mk) (e d:E):ev F (.mkDs k e d) ρ s=(ev F e ρ s).bind λ x s=>(ev F d ρ s).bind λ z s=>(bt7 x s).bind λ q s=>mkD k q z s:=rfl
@[simp] theorem ac8 (m:Mt) (o:E) (es:Es):ev F (.meth m o es) ρ s=(ev F o ρ s).bind λ x s=>(evs F es ρ s).bind λ l s=>meth m x l s:=rfl
@[simp] theorem cj3 (o e:E):ev F (.extS o e) ρ s=(ev F o ρ s).bind λ x s=>(ev F e ρ s).bind λ y s=>extS x y s:=rfl
@[simp] theorem cm8 (a:E):ev F (.rev a) ρ s=(ev F a ρ s).bind λ x s=>cf5 x s:=rfl
@[simp] theorem cn1 (o:E) (it:L):ev F (.ext o it) ρ s=(ev F o ρ s).bind λ x s=>(evL F it ρ s).bind λ q s=>bU2 x q s:=rfl
@[simp] theorem ab8:evs F .nil ρ s=.ok [] s:=rfl
@[simp] theorem aa6 (e:E) (es:Es):evs F (.cons e es) ρ s=(ev F e ρ s).bind λ d s=>(evs F es ρ s).bind λ l s=>.ok (d::l) s:=rfl
@[simp] theorem aa8:am6 F .nil ρ s=.ok [] s:=rfl
@[simp] theorem ac0 (e:E) (h:As):am6 F (.ex e h) ρ s=(ev F e ρ s).bind λ d s=>(am6 F h ρ s).bind λ l s=>.ok (d::l) s:=rfl
@[simp] theorem ch0 (f:String) (h:As):am6 F (.fn f h) ρ s=(am6 F h ρ s).bind λ l s=>.ok (.fn f::l) s:=rfl
@[simp] theorem ab6 (e:E):evI F (.seq e) ρ s=(ev F e ρ s).bind λ d s=>aA8 d s:=rfl
@[simp] theorem cb9 (es:Es):evL F (.disp es) ρ s=evs F es ρ s:=rfl
@[simp] theorem ac4 (e:E):evL F (.seq e) ρ s=(ev F e ρ s).bind λ d s=>bJ5 d s:=rfl
noncomputable def bA6 (x:D):M Sq:=λ s=>match x with|.int i=>if -W62<=i/\i<W62 then .ok ⟨qC 0 i,[]⟩ s else .bad|_=>.bad
@[simp] theorem aa9 (a:E):evI F (.rng1 a) ρ s=(ev F a ρ s).bind λ x s=>bA6 x s:=rfl
theorem qG {i:Int}(h0:-W62<=i)(h:i<W62):bA6 (.int i) s=.ok ⟨qC 0 i,[]⟩ s:=by unfold bA6;simp only[h0,h,and_self,if_true]
noncomputable def nxt (F:Fns)(ss:Ss)(c:Ct)(s:Sto):R Ct:=match c with|.next ρ=>exs F ss ρ s|c=>.ok c s
@[simp] theorem qe (h:Ss) (ρ:Env) (s:Sto):nxt F h (.next ρ) s=exs F h ρ s:=rfl
@[simp] theorem ac2 (h:Ss) (d:D) (s:Sto):nxt F h (.ret d) s=.ok (.ret d) s:=rfl
@[simp] theorem ab1 (h:Ss) (ρ:Env) (s:Sto):nxt F h (.cont ρ) s=.ok (.cont ρ) s:=rfl
@[simp] theorem ab5:exs F .nil ρ s=.ok (.next ρ) s:=rfl
@[simp] theorem zT (st:S) (h:Ss):exs F (.cons st h) ρ s=(ex F st ρ s).bind (nxt F h):=rfl
noncomputable def cd5 (ρ:Option Env)(s:Sto):R Ct:=match ρ with|some ρ=>.ok (.next ρ) s|none=>.bad
@[simp] theorem aa2 (ρ:Env) (s:Sto):cd5 (some ρ) s=.ok (.next ρ) s:=rfl
@[simp] theorem ad8 (tg:Tg) (e:E):ex F (.asg tg e) ρ s=(ev F e ρ s).bind λ d s=>cd5 (zP ρ tg d) s:=rfl
@[simp] theorem ab2 (o i e:E):ex F (.setIx o i e) ρ s=(ev F e ρ s).bind λ d s=>(ev F o ρ s).bind λ x s=>(ev F i ρ s).bind λ y s=>(setIx x y d s).bind λ _ s=>.ok (.next ρ) s:=rfl
@[simp] theorem ag6 (e:E):ex F (.ex e) ρ s=(ev F e ρ s).bind λ _ s=>.ok (.next ρ) s:=rfl
@[simp] theorem ae4 (e:E):ex F (.ret e) ρ s=(ev F e ρ s).bind λ d s=>.ok (.ret d) s:=rfl
@[simp] theorem bH8:ex F .retN ρ s=.ok (.ret .non) s:=rfl
@[simp] theorem ae3 (c:E) (a b:Ss):ex F (.ite c a b) ρ s=tru (ev F c ρ s) λ k s=>if k then exs F a ρ s else exs F b ρ s:=rfl
@[simp] theorem af3 (c:E) (b:Ss):ex F (.whl c b) ρ s=whl (ev F c) (exs F b) ρ s:=rfl
noncomputable def turn (F:Fns)(tg:Tg)(b:Ss)(d:D)(ρ:Env)(s:Sto):R Ct:=match zP ρ tg d with
 | some ρ=>exs F b ρ s
 | none=>.bad
@[simp] theorem ae2 (tg:Tg) (it:I) (b:Ss):ex F (.for_ tg it b) ρ s=(evI F it ρ s).bind λ q s0=>at8 (λ s=>chk s0 s q.src) (turn F tg b) q.its ρ s0:=rfl
@[simp] theorem ac7:ex F .cont ρ s=.ok (.cont ρ) s:=rfl
@[simp] theorem af7 (i:Nat):ex F (.und i) ρ s=cd5 (ar9 ρ i) s:=rfl
@[simp] theorem ac5:ex F .pass ρ s=.ok (.next ρ) s:=rfl
@[simp] theorem zX (i:Nat) (d:D):zP ρ (.one i) d=au1 ρ i d:=rfl
@[simp] theorem aa3 (is:List Nat) (l:List D):zP ρ (.tup is) (.tup l)=at1 ρ is l:=rfl
@[simp] theorem aa4:at1 ρ [] []=some ρ:=rfl
@[simp] theorem aa1 (i:Nat) (is:List Nat) (d:D) (l:List D):at1 ρ (i::is) (d::l)=(au1 ρ i d).bind λ ρ=>at1 ρ is l:=rfl
@[simp] theorem qA (d:D) (ρ:Env):aH1 (some d::ρ) 0 s=.ok d s:=rfl
@[simp] theorem zS (x:Option D) (ρ:Env) (i:Nat):aH1 (x::ρ) (i+1) s=aH1 ρ i s:=by unfold aH1;rw[List.getElem?_cons_succ]
@[simp] theorem ad0 (d:D) (x:Option D) (ρ:Env):au1 (x::ρ) 0 d=some (some d::ρ):=rfl
@[simp] theorem ad5 (d:D) (x:Option D) (ρ:Env) (i:Nat):au1 (x::ρ) (i+1) d=(au1 ρ i d).map (x::·):=by
 unfold au1
 by_cases h:i < ρ.length
 ·rw[if_pos (by simpa using h),if_pos h];rfl
 ·rw[if_neg (by simpa using h),if_neg h];rfl
@[simp] theorem ab0 (x:Option D) (ρ:Env):ar9 (x::ρ) 0=some (none::ρ):=rfl
@[simp] theorem ab4 (x:Option D) (ρ:Env) (i:Nat):ar9 (x::ρ) (i+1)=(ar9 ρ i).map (x::·):=by
 unfold ar9
 by_cases h:i < ρ.length
 ·rw[if_pos (by simpa using h),if_pos h];rfl
 ·rw[if_neg (by simpa using h),if_neg h];rfl
@[simp] theorem ad7 (i:Int):(Cn.int i).d=.int i:=rfl
@[simp] theorem ag4 (i:Bool):(Cn.bl i).d=.bl i:=rfl
@[simp] theorem ae7 (i:List Nat):(Cn.str i).d=.str i:=rfl
@[simp] theorem ae0:Cn.non.d=.non:=rfl
@[simp] theorem ac3 (a b:Int):ao3 .add (.int a) (.int b) s=.ok (.int (a+b)) s:=rfl
@[simp] theorem ac6 (a b:Int):ao3 .sub (.int a) (.int b) s=.bad:=rfl
theorem an4 {a b:Int}(h:mulOk a b=true):ao3 .mul (.int a) (.int b) s=.ok (.int (a*b)) s:=by show(if mulOk a b then _ else _:M D) s=_;rw[if_pos h];rfl
theorem bw3 {a b:Int}(h:a.natAbs<2^64):mulOk a b=true:=by unfold mulOk;simp[h]
theorem ay6 {a b:Int}(h:b.natAbs<2^64):mulOk a b=true:=by unfold mulOk;simp[h]
theorem ar4 {a b:Int}(h:0<b):ao3 .mod (.int a) (.int b) s=.ok (.int (a % b)) s:=by show(if 0<b then _ else _:M D) s=_;rw[if_pos h];rfl
theorem bD5:(10:Int)^200<=(DIVL:Int):=by unfold DIVL;decide +kernel
theorem ax1 {a b:Int}(h:0<b)(B:b<10^200):ao3 .fdiv (.int a) (.int b) s=.ok (.int (a / b)) s:=by show(if 0<b/\b<(DIVL:Int)then _ else _:M D) s=_;rw[if_pos ⟨h,Int.lt_of_lt_of_le B bD5⟩];rfl
theorem aI5 {a b:Int}(h:0<=b/\b<=1000000/\a.natAbs<2^64):ao3 .pow (.int a) (.int b) s=.ok (.int (a^b.toNat)) s:=by show(if _ then _ else _:M D) s=_;rw[if_pos h];rfl
@[simp] theorem ad6 (a b:Int):qB .lt (.int a) (.int b) s=.ok (.bl (decide (a<b))) s:=rfl
@[simp] theorem ae8 (a b:Int):qB .le (.int a) (.int b) s=.ok (.bl (decide (a<=b))) s:=rfl
@[simp] theorem ae6 (a b:Int):qB .gt (.int a) (.int b) s=.ok (.bl (decide (b<a))) s:=rfl
@[simp] theorem af5 (a b:Int):qB .ge (.int a) (.int b) s=.bad:=rfl
@[simp] theorem ad9 (a b:Int):qB .eq (.int a) (.int b) s=.ok (.bl (decide (a=b))) s:=rfl
@[simp] theorem af2 (a b:Int):qB .ne (.int a) (.int b) s=.ok (.bl (!decide (a=b))) s:=rfl
@[simp] theorem aa7 (o:O):aj2 o s=.ok (.ref s.length) (s++[o]):=rfl
@[simp] theorem cj6 (l:List D):bi .len [.tup l] s=.ok (.int l.length) s:=rfl
@[simp] theorem bf1 (l:List Nat):bi .len [.str l] s=.ok (.int l.length) s:=rfl
theorem bb0 {r:Nat}{l:List D}(h:s[r]?=some (.lst l)):bi .len [.ref r] s=.ok (.int l.length) s:=by simp only[bi,bi1,bA2,h]
theorem br4 {r:Nat}{l:List D}(h:s[r]?=some (.ro l)):bi .len [.ref r] s=.ok (.int l.length) s:=by simp only[bi,bi1,bA2,h]
@[simp] theorem cj9 (i:Int):bi .abs [.int i] s=.ok (.int (if i<0 then -i else i)) s:=rfl
@[simp] theorem bj6 (a b:Int):bi .min2 [.int a,.int b] s=.ok (.int (if b<a then b else a)) s:=rfl
@[simp] theorem ca6 (a b:Int):bi .max2 [.int a,.int b] s=.ok (.int (if b > a then b else a)) s:=rfl
@[simp] theorem bZ0 (a:Int):bi .isInt [.int a] s=.ok (.bl true) s:=rfl
@[simp] theorem bJ3 (a:Int):bi .isBool [.int a] s=.ok (.bl false) s:=rfl
@[simp] theorem bQ4 (l:List D):bi .isTup [.tup l] s=.ok (.bl true) s:=rfl
theorem bO1 {r:Nat}{l:List D}{j:Nat}{d:D}(h:s[r]?=some (.ro l))(hj:l[j]?=some d):ixM (.ref r) (.int (j:Int)) s=.ok d s:=by
 have hl:j<l.length:=(ae.mp hj).1
 have e:l[j]=d:=(ae.mp hj).2
 simp[ixM,h,ixn,hl,e]
theorem as0 {r:Nat}{l:List D}{j:Nat}{d:D}(h:s[r]?=some (.lst l))(hj:l[j]?=some d):ixM (.ref r) (.int (j:Int)) s=.ok d s:=by
 have hl:j<l.length:=(ae.mp hj).1
 have e:l[j]=d:=(ae.mp hj).2
 simp[ixM,h,ixn,hl,e]
theorem ix_tup {l:List D}{j:Nat}{d:D}(hj:l[j]?=some d):ixM (.tup l) (.int (j:Int)) s=.ok d s:=by
 have hl:j<l.length:=(ae.mp hj).1
 have e:l[j]=d:=(ae.mp hj).2
 simp[ixM,ixn,hl,e]
theorem bB6 {r:Nat}{l:List D}{j:Nat}{v:D}(h:s[r]?=some (.lst l))(hl:j<l.length):setIx (.ref r) (.int (j:Int)) v s=.ok () (s.set r (.lst (l.set j v))):=by
 simp[setIx,h,ixn,hl]
theorem an2 {r:Nat}{l:List D}{v:D}(h:s[r]?=some (.lst l))(hl:l.length<LIM):meth .append (.ref r) [v] s=.ok .non (s.set r (.lst (l++[v]))):=by
 show(match s[r]? with|some (.lst l)=>(if l.length<LIM then R.ok D.non (s.set r (.lst (l++[v])))else .bad)|_=>.bad:R D)=_
 rw[h]
 exact if_pos hl
end
theorem aH7 (s t:Sto)(b:Bool):∃ s',zo s (.bl b) t=.ok (.bl b) s':=by
 unfold zo
 by_cases h:ar0 s t=true
 ·rw[if_pos h];exact⟨_,rfl⟩
 ·rw[if_neg h];exact⟨_,rfl⟩
def Yes (r:R D):Prop:=∃ s',r=.ok (.bl true) s'
theorem aD6 (s t:Sto):Yes (zo s (.bl true) t):=aH7 s t true
theorem qq {a b:Int}{j:Nat}{d:D}(h:(qC a b)[j]?=some d):(j:Int)<b - a/\d=.int (a+j):=by
 have hj:=(ae.mp h).1
 simp only[qC,aF,List.length_range]at hj
 unfold qC at h
 rw[aN,cB hj]at h
 exact⟨by omega,(aE h).symm⟩
def ci2 (P:Pr)(k:Nat):Prop:=∀ ns:List Int,ns.length<=63->Yes ((aa0 P k).call "law" [.ref 0] [.ro (ns.map D.int)])
noncomputable def qh:Option Int->D
 | none=>.non
 | some i=>.int i
@[simp] theorem qD:qh none=.non:=rfl
@[simp] theorem qp (i:Int):qh (some i)=.int i:=rfl
@[simp] theorem am4 (p:Option Int) (n:Nat):(qh p).bnd n=true:=by cases p<;>rfl
theorem aq3 (p:Option Int)(r:Nat):qh p≠.ref r:=by cases p<;>nofun
@[simp] theorem aU2 {s:Sto} {p:Option Int}:zo s (qh p) s=.ok (qh p) s:=zn (am4 p) (aq3 p)
noncomputable def cutO (k:Int):Option Int->Option Int
 | none=>none
 | some p=>if p<=k then some p else some (k+1)
theorem bO2 {P:Pr}[Has P an9](n:Nat)(p:Option Int)(k:Int)(s:Sto):(aa0 P (n+1)).call "cut" [qh p,.int k] s=.ok (qh (cutO k p)) s:=by
 refine(ze an9 rfl).trans ?_
 cases p with
 | none=>simp[an9,cutO]
 | some p =>
  by_cases h:p<=k<;>simp[an9,cutO,h]
noncomputable def ag8 (b:Nat×Nat):O:=.lst [.int b.1,.int b.2]
@[simp] theorem ca8 (b:Nat×Nat) (n:Nat):(ag8 b).bnd n=true:=rfl
noncomputable def tkW (many:Nat):Nat->Nat->Nat->Nat->Nat×Nat
 | 0,mix,num,_=>(num,mix)
 | n+1,mix,num,room=>if room<many then tkW many n ((mix*48271+7919) % 2147483647) (num*1073741789+(mix*48271+7919) % 2147483647 / 8*69621 % 1073741789) (room*1073741789)else(num,mix)
noncomputable def tk (b:Nat×Nat)(many:Nat):Nat×(Nat×Nat) :=
 if 0<b.1 then(b.1 % many,(b.1 / many,b.2))else let r:=tkW many 12 b.2 0 1;(r.1 % many,(b.1,r.2))
theorem bX7 (b:Nat×Nat){many:Nat}(h:0<many):(tk b many).1<many:=by
 unfold tk
 split
 ·exact Nat.mod_lt _ h
 ·exact Nat.mod_lt _ h
theorem aW5 {many:Nat}{k B F room:Nat}(h:many<=room):tkW many k B F room=(F,B):=by
 cases k with
 | zero=>rfl
 | succ k=>unfold tkW;rw[if_neg (by omega)]
theorem bo2 {many:Nat}{k B F room:Nat}(h:room<many):tkW many (k+1) B F room=tkW many k ((B*48271+7919) % 2147483647) (F*1073741789+(B*48271+7919) % 2147483647 / 8*69621 % 1073741789) (room*1073741789):=by
 conv=>lhs;unfold tkW
 rw[if_pos h]
theorem bz3 {P:Pr}[Has P aj0](n:Nat)(b:Nat×Nat)(many:Nat)(h0:0<many)(h:many<=10^90)(s:Sto)(r:Nat)(hs:s[r]?=some (ag8 b)) :
  (aa0 P (n+1)).call "_law_take" [.ref r,.int many] s=.ok (.int (tk b many).1) (s.set r (ag8 (tk b many).2)):=by
 refine(ze aj0 rfl).trans ?_
 obtain⟨c,m⟩:=b
 have hr:r<s.length:=(ae.mp hs).1
 have Y:(0:Int)<(many:Int):=by omega
 have Z:(many:Int)<10^200:=by
  have:(10:Int)^90<10^200:=by decide +kernel
  have:((many:Nat):Int)<=((10^90:Nat):Int):=by exact_mod_cast h
  omega
 by_cases hc:0<c
 ·have J:s[r]?=some (.lst [.int c,.int m]):=hs
  simp[aj0,ixM,J,ixn,hc,ar4 Y,ax1 Y Z,setIx,tk]
  exact qJ (λ _=>rfl) (by nofun) rfl
 ·have a0:c=0:=by omega
  subst a0
  have J:s[r]?=some (.lst [.int 0,.int m]):=hs
  simp[aj0,ixM,J,ixn]
  refine bi5 (λ k ρ t=>∃ B F room:Nat,ρ=[some (.ref r),some (.int many),none,some (.int F),some (.int room)]/\t=s.set r (ag8 (0,B))/\many<=room*1073741789^k/\tkW many k B F room=tkW many 12 m 0 1)
   (λ ρ t=>∃ room:Nat,ρ=[some (.ref r),some (.int many),none,some (.int (tkW many 12 m 0 1).1),some (.int room)]/\t=s.set r (ag8 (0,(tkW many 12 m 0 1).2))) 12 ⟨m,0,1,by simp,?_,?_,rfl⟩ ?_ ?_
  ·have e:s[r]=ag8 (0,m):=(ae.mp hs).2
   rw[<-e,gZ]
  ·refine av h ?_
   decide +kernel
  ·rintro k ρ t ⟨B,F,room,rfl,rfl,G,he⟩
   by_cases hlt:room<many
   ·simp only[ad1,qz,qA,zS,R.bind_ok,ad6,bu1,jq,hlt,decide_true,if_true]
    cases k with
    | zero=>simp at G;omega
    | succ k =>
     have h1:(s.set r (ag8 (0,B)))[r]?=some (.lst [.int 0,.int B]):=by rw[a9 hr];rfl
     have m1:∀ a:Int,mulOk a 48271=true:=λ a=>ay6 (by decide)
     have m2:∀ a:Int,mulOk a 1073741789=true:=λ a=>ay6 (by decide)
     have m3:∀ a:Int,mulOk a 69621=true:=λ a=>ay6 (by decide)
     refine ap3 ?_ ⟨k,cU k,(B*48271+7919) % 2147483647,F*1073741789+(B*48271+7919) % 2147483647 / 8*69621 % 1073741789,room*1073741789,rfl,rfl,?_,?_⟩
     ·simp[ixM,h1,ixn,an4 (m1 _),ar4,setIx,hr,an4 (m2 _),an4 (m3 _),ax1,ag8]
     ·rw[kJ]at G
      rw[Nat.mul_assoc,kF 1073741789];exact G
     ·rw[<-he,bo2 hlt]
   ·simp only[ad1,qz,qA,zS,R.bind_ok,ad6,bu1,jq,hlt,decide_false,if_false,ag]
    refine⟨room,?_,?_⟩
    ·rw[<-he,aW5 (by omega)]
    ·rw[<-he,aW5 (by omega)]
  ·rintro ρ t ⟨room,rfl,rfl⟩
   simp[ar4 Y,tk]
   exact qJ (λ _=>rfl) (by nofun) rfl
noncomputable def bu2 (at_:Int)(ns:List Int):Nat->Int
 | 0=>7919*at_+17
 | k+1=>(bu2 at_ ns k*48271+(ns.getD k 0) % 2147483647+k) % 2147483629
theorem by2 (at_:Int)(h:0<=at_)(ns:List Int):∀ k,0<=bu2 at_ ns k
 | 0=>by unfold bu2;omega
 | k+1=>by unfold bu2;exact Int.emod_nonneg _ (by decide)
noncomputable def cellF (ns:List Int)(at_:Nat):Nat:=if 10^18<=(ns.getD at_ 0).natAbs then(ns.getD at_ 0).natAbs else 0
noncomputable def bE9 (ns:List Int)(at_:Nat):Nat×Nat:=(cellF ns at_,(bu2 at_ ns (min ns.length 60)).toNat)
theorem bs0 {P:Pr}[Has P az1](n:Nat)(ns:List Int)(at_:Nat)(s:Sto)(r:Nat)(hs:s[r]?=some (.ro (ns.map D.int)))(hl:ns.length<=63) :
  (aa0 P (n+1)).call "_law_bag" [.ref r,.int at_] s=.ok (.ref s.length) (s++[ag8 (bE9 ns at_)]):=by
 refine(ze az1 rfl).trans ?_
 have m1:∀ a:Int,mulOk 7919 a=true:=λ a=>bw3 (by decide)
 have m2:∀ a:Int,mulOk a 48271=true:=λ a=>ay6 (by decide)
 have B:bi .len [.ref r] s=.ok (.int ns.length) s:=by rw[br4 hs,aF]
 have F:∀(c:Int),(c<10^18->cellF ns at_=0)->(10^18<=c->(cellF ns at_:Int)=c) ->
   (exs (aa0 P n) (.cons (.asg (.one 3) (.bin .add (.bin .mul (.cst (.int 7919)) (.var 1)) (.cst (.int 17)))) (.cons (.for_ (.one 4) (.rng1 (.bi .min2 (.cons (.bi .len (.cons (.var 0) .nil)) (.cons (.cst (.int 60)) .nil)))) (.cons (.asg (.one 3) (.bin .mod (.bin .add (.bin .add (.bin .mul (.var 3) (.cst (.int 48271))) (.bin .mod (.ix (.var 0) (.var 4)) (.cst (.int 2147483647)))) (.var 4)) (.cst (.int 2147483629)))) .nil)) (.cons (.ite (.cmp .lt (.var 2) (.bin .pow (.cst (.int 10)) (.cst (.int 18)))) (.cons (.asg (.one 2) (.cst (.int 0))) .nil) .nil) (.cons (.ret (.lst (.cons (.var 2) (.cons (.var 3) .nil)))) .nil)))) [some (.ref r),some (.int at_),some (.int c),none,none] s).bind (fin s)=.ok (.ref s.length) (s++[ag8 (bE9 ns at_)]):=by
  intro c h1 h2
  simp[an4 (m1 _),B]
  have hk:(if(60:Int)<(ns.length:Int)then 60 else(ns.length:Int))=((min ns.length 60:Nat):Int):=by omega
  rw[hk,qG (by unfold W62;omega) (by unfold W62;omega)]
  simp only[R.bind_ok]
  refine bi0 (λ j ρ t=>t=s/\∃ x,ρ=[some (.ref r),some (.int at_),some (.int c),some (.int (bu2 at_ ns j)),x]) ⟨rfl,none,rfl⟩ (λ _ _ _ _ _=>rfl) ?_ ?_
  ·rintro j d ρ t hj ⟨rfl,x,rfl⟩
   have a0:j<min ns.length 60:=by have:=(ae.mp hj).1;simpa [qC]using this
   have hd:d=.int (j:Int):=by simpa [qC,a0]using hj.symm
   subst hd
   refine ap3 ?_ ⟨rfl,some (.int (j:Int)),rfl⟩
   have hx:ixM (.ref r) (.int (j:Int)) t=.ok (.int (ns.getD j 0)) t:=bO1 hs (by simp[show j<ns.length by omega])
   simp[turn,an4 (m2 _),hx,ar4,bu2]
  ·rintro ρ t ⟨rfl,x,rfl⟩
   have Y:(qC 0 ((min ns.length 60:Nat):Int)).length=min ns.length 60:=by simp[qC]
   rw[Y]
   have J:=by2 at_ (by omega) ns (min ns.length 60)
   have G:∀ Z,(Z:Int)=cellF ns at_->zo t (.ref t.length) (t++[.lst [.int Z,.int (bu2 at_ ns (min ns.length 60))]])=.ok (.ref t.length) (t++[ag8 (bE9 ns at_)]):=by
    intro Z a1
    have:=aF8 (s:=t) (t:=[]) (u:=[]) (o:=ag8 (bE9 ns at_)) rfl
    simp only[gN,kI,cK]at this
    rw[<-this]
    simp[ag8,bE9,a1,e9 J]
   by_cases h:c<10^18
   ·have h':c<1000000000000000000:=h
    simp[aI5,h']
    exact G 0 (by rw[h1 h];rfl)
   ·have h':¬ c<1000000000000000000:=h
    simp[aI5,h']
    exact G c (h2 (by omega)).symm
 by_cases hat:at_<ns.length
 ·have hx:ixM (.ref r) (.int at_) s=.ok (.int (ns.getD at_ 0)) s:=bO1 hs (by simp[hat])
  have e:=F (if ns.getD at_ 0<0 then -ns.getD at_ 0 else ns.getD at_ 0) (by unfold cellF;intro h;rw[if_neg (by omega)]) (by unfold cellF;intro h;rw[if_pos (by omega)];omega)
  rw[<-e]
  simp[az1,B,hat,hx]
 ·have e:=F 0 (by unfold cellF;intro h;rw[if_neg];rw[bF,bM (by omega)];decide) (by intro h;exact absurd h (by decide))
  rw[<-e]
  simp[az1,B,hat]
theorem ay4 {s t:Sto}{r:Nat}{o:O}(h:r<s.length):(s++t).set r o=s.set r o++t:=by rw[cL,if_pos h]
theorem zD {s t:Sto}{r:Nat}{o:O}(h:s[r]?=some o):(s++t)[r]?=some o:=by
 rw[aP (ae.mp h).1];exact h
theorem z9 {s:Sto}{r:Nat}{o:O}(h:r<s.length):(s.set r o)[r]?=some o:=a9 h
theorem aO7 {P:Pr}[Has P aj0](n:Nat)(b:Nat×Nat)(many:Int)(h0:0<many)(h:many<=10^90)(s:Sto)(r:Nat)(hs:s[r]?=some (ag8 b)) :
  (aa0 P (n+1)).call "_law_take" [.ref r,.int many] s=.ok (.int (tk b many.toNat).1) (s.set r (ag8 (tk b many.toNat).2)):=by
 have:=bz3 n b many.toNat (P:=P) (by omega) (by have:many<=((10^90:Nat):Int):=(by simpa using h);omega) s r hs
 rwa [show((many.toNat:Nat):Int)=many by omega]at this
noncomputable def bd (b:Nat×Nat):Nat×(Nat×Nat) :=
 let x0:=tk b 3
 let x1:=tk x0.2 13
 let x2:=tk x1.2 1000000000
 let x3:=tk x2.2 1000000000000000000000000000000
 let i:=tk x3.2 4
 ([x0.1,x1.1,x2.1,x3.1].getD i.1 0,i.2)
theorem bp6 {P:Pr}[Has P aj0][Has P ak9](n:Nat)(b:Nat×Nat)(s:Sto)(r:Nat)(hs:s[r]?=some (ag8 b)) :
  (aa0 P (n+2)).call "_law_bound" [.ref r] s=.ok (.int (bd b).1) (s.set r (ag8 (bd b).2)):=by
 refine(ze ak9 rfl).trans ?_
 have hr:r<s.length:=(ae.mp hs).1
 have T:=λ b many h0 h s r hs=>aO7 (P:=P) n b many h0 h s r hs
 simp[ak9,aI5,T _ 3 (by decide) (by decide) _ _ hs]
 rw[T _ 13 (by decide) (by decide) _ _ (z9 hr)]
 simp[hr]
 rw[T _ 1000000000 (by decide) (by decide) _ _ (z9 hr)]
 simp[hr]
 rw[T _ 1000000000000000000000000000000 (by decide) (by decide) _ _ (z9 hr)]
 simp[hr]
 rw[T _ 4 (by decide) (by decide) _ _ (zD (z9 hr))]
 have G:=bX7 (tk (tk (tk (tk b 3).2 13).2 1000000000).2 1000000000000000000000000000000).2 (many:=4) (by decide)
 rw[ay4 (by simpa using hr),bW]
 simp only[R.bind_ok,Int.reduceToNat]
 generalize B:tk (tk (tk (tk (tk b 3).2 13).2 1000000000).2 1000000000000000000000000000000).2 4=i at G
 have F:∀(l:List D) (t:Sto) (q:Nat) (d:D),t[q]?=some (.lst l)->l[i.1]?=some d->ixM (.ref q) (.int (i.1:Int)) t=.ok d t:=λ l t q d Y J=>as0 Y J
 rw[F [.int (tk b 3).1,.int (tk (tk b 3).2 13).1,.int (tk (tk (tk b 3).2 13).2 1000000000).1,.int (tk (tk (tk (tk b 3).2 13).2 1000000000).2 1000000000000000000000000000000).1] _ _ (.int (bd b).1) (by simp) ?_]
 ·simp only[R.bind_ok,ab7,bd,B]
  exact at0 (λ _=>rfl) (by nofun) rfl
 ·unfold bd
  simp only[B]
  obtain⟨i,Z⟩:=i
  match i,G with
  | 0,_=>rfl
  | 1,_=>rfl
  | 2,_=>rfl
  | 3,_=>rfl
section
variable {F:Fns} {ρ:Env} {s:Sto}
noncomputable def am5 (F:Fns)(tg:Tg)(e:E)(d:D)(ρ:Env)(s:Sto):R (Option D×Env):=match zP ρ tg d with
 | some ρ=>(ev F e ρ s).bind λ v s=>.ok (some v,ρ) s
 | none=>.bad
noncomputable def ax5 (F:Fns)(tg:Tg)(c e:E)(d:D)(ρ:Env)(s:Sto):R (Option D×Env):=match zP ρ tg d with
 | some ρ=>tru (ev F c ρ s) λ k s=>if k then(ev F e ρ s).bind λ v s=>.ok (some v,ρ) s else .ok (none,ρ) s
 | none=>.bad
@[simp] theorem aq2 (tg:Tg) (it:I) (e:E) (h:List (Option Nat)):evL F (.comp tg it e h) ρ s=(evI F it ρ s).bind λ q s0=>if q.its.length<=LIM then ak0 (λ s=>chk s0 s q.src) (am5 F tg e) q.its (qb ρ h) s0 else .bad:=rfl
@[simp] theorem ao1 (tg:Tg) (it:I) (c e:E) (h:List (Option Nat)):evL F (.compIf tg it c e h) ρ s=(evI F it ρ s).bind λ q s0=>if q.its.length<=LIM then ak0 (λ s=>chk s0 s q.src) (ax5 F tg c e) q.its (qb ρ h) s0 else .bad:=rfl
@[simp] theorem bM8 (a h:E):ev F (.slU a h) ρ s=(ev F a ρ s).bind λ x s=>(ev F h ρ s).bind λ y s=>match y with|.int i=>slM x none (some i) s|_=>.bad:=rfl
@[simp] theorem ck6 (a h:E):ev F (.slL a h) ρ s=(ev F a ρ s).bind λ x s=>(ev F h ρ s).bind λ y s=>match y with|.int i=>slM x (some i) none s|_=>.bad:=rfl
end
theorem zU {ok:Sto->Bool}{g:D->Env->Sto->R (Option D×Env)}(P:Env->Sto->Prop)(f:D->Option D):∀(l:List D) (ρ:Env) (s:Sto),P ρ s ->
  (∀ ρ s,P ρ s->ok s=true)->(∀ d∈l,∀ ρ s,P ρ s->∃ ρ' s',g d ρ s=.ok (f d,ρ') s'/\P ρ' s')->∃ ρ' s',ak0 ok g l ρ s=.ok (l.filterMap f) s'/\P ρ' s'
 | [],ρ,s,h,o,_=>⟨ρ,s,by unfold ak0;rw[if_pos (o ρ s h)];rfl,h⟩
 | d::l,ρ,s,h,o,st=>by
  obtain⟨ρ1,s1,e1,F⟩:=st d (aD ..) ρ s h
  obtain⟨ρ2,s2,e2,B⟩:=zU P f l ρ1 s1 F o λ x hx=>st x (ao _ hx)
  refine⟨ρ2,s2,?_,B⟩
  unfold ak0
  rw[if_pos (o ρ s h),e1]
  simp only[R.bind_ok]
  rw[e2,aY]
  cases f d<;>rfl
theorem qr {P:Pr}[Has P aj0](n:Nat){s:Sto}{r:Nat}(hs:∃ b,s[r]?=some (ag8 b))(many:Int)(h0:0<many)(h:many<=10^90) :
  ∃(k:Nat) (b:Nat×Nat),(k:Int)<many/\(aa0 P (n+1)).call "_law_take" [.ref r,.int many] s=.ok (.int k) (s.set r (ag8 b)):=by
 obtain⟨b,hb⟩:=hs
 have:=bX7 b (many:=many.toNat) (by omega)
 exact⟨(tk b many.toNat).1,(tk b many.toNat).2,by omega,aO7 n b many h0 h s r hb⟩
theorem an6 {k:Int}(h:k<=1000):k<=10^90:=Int.le_trans h (by decide)
theorem as3 {s:Sto}{r:Nat}{b:Nat×Nat}(h:r<s.length):∃ B,(s.set r (ag8 b))[r]?=some (ag8 B):=⟨b,z9 h⟩
theorem bh0 {s:Sto}{r:Nat}(h:∃ b,s[r]?=some (ag8 b)):r<s.length:=by obtain⟨b,hb⟩:=h;exact(ae.mp hb).1
theorem aW1 {k:Int}{s:Sto}(h:0<=k/\k<=1000000):ao3 .shl (.int 1) (.int k) s=.ok (.int (1*2^k.toNat)) s:=by
 show(if 0<=k/\k<=1000000/\(1:Int).natAbs<2^64 then _ else _:M D) s=_
 rw[if_pos ⟨h.1,h.2,by decide⟩];rfl
theorem zA {l:List D}(h:∀ d∈l,∀ n,d.bnd n=true)(n:Nat):D.bndL n l=true:=by
 induction l with
 | nil=>rfl
 | cons d l ih=>unfold D.bndL;rw[h d (aD ..),ih λ x hx=>h x (ao _ hx)];rfl
noncomputable def aC1 (bits:Nat):D->Option D
 | .int i=>if(bits:Int) / (1*2^i.toNat) % 2=1 then some (.int i)else none
 | _=>none
theorem aZ4 {h:Nat}{l:List D}:∀ d∈l.filterMap (aC1 h),∀ n,d.bnd n=true:=λ d hd n=>by
 obtain⟨x,hx,e⟩:=bR.mp hd
 cases x with
 | int i =>
  simp only[aC1]at e
  split at e
  ·cases e;rfl
  ·cases e
 | _=>cases e
theorem aT5 {P:Pr}[Has P aj0][Has P aj6](n:Nat){s:Sto}{r:Nat}(hs:∃ b,s[r]?=some (ag8 b))(k:Int)(h0:0<=k)(h:k<=5) :
  ∃(B:Nat) (b:Nat×Nat),(aa0 P (n+2)).call "_law_rooms" [.ref r,.int k] s=.ok (.tup ((qC 0 k).filterMap (aC1 B))) (s.set r (ag8 b)):=by
 have e0:(aa0 P (n+2)).call "_law_rooms" [.ref r,.int k] s=_:=ze aj6 (n:=n+1) rfl
 have hr:=bh0 hs
 have hp:(1:Int)*2^k.toNat<=32:=by
  have:k.toNat<=5:=by omega
  have G:(2:Nat)^k.toNat<=2^5:=iq (by decide) this
  have h3:((2^k.toNat:Nat):Int)<=32:=by exact_mod_cast G
  rw[fO];simpa using h3
 have J:(0:Int)<1*2^k.toNat:=by rw[fO];exact Int.pow_pos (by decide)
 obtain⟨B,b,hb,eb⟩:=qr (P:=P) n hs (1*2^k.toNat) J (an6 (by omega))
 rw[e0]
 simp only[aj6,zT,ad8,ac1,ac0,aa8,qz,ad4,ad3,ad7,a8,gD,bX,cK,qA,zS,R.bind_ok,aW1 ⟨h0,by omega⟩,eb,zX]
 simp only[aC,ad5,ad0,ak,aa2,R.bind_ok,qe,zT,ab5,ae4,ag2,ao1,aa9,qz,qA,zS]
 rw[qG (by unfold W62;omega) (by unfold W62;omega)]
 simp only[R.bind_ok]
 rw[if_pos (by simp[qC];unfold LIM;omega)]
 have key:∃(ρ':Env) (s':Sto),ak0 (λ Y=>chk (s.set r (ag8 b)) Y []) (ax5 (aa0 P (n+1)) (.one 0) (.cmp .eq (.bin .mod (.bin .fdiv (.var 1) (.bin .shl (.cst (.int 1)) (.var 0))) (.cst (.int 2))) (.cst (.int 1))) (.var 0)) (qC 0 k) (qb [some (.ref r),some (.int k),some (.int B)] [none,some 2]) (s.set r (ag8 b))=.ok ((qC 0 k).filterMap (aC1 B)) s'/\(s'=s.set r (ag8 b)/\∃ x,ρ'=[x,some (D.int B)]):=by
  refine zU (λ ρ u=>u=s.set r (ag8 b)/\∃ x,ρ=[x,some (.int B)]) (aC1 B) (qC 0 k) _ _ ⟨rfl,none,rfl⟩ (λ _ _ _=>rfl) ?_
  rintro d hd ρ u ⟨rfl,x,rfl⟩
  obtain⟨j,hj⟩:=cO hd
  obtain⟨G,rfl⟩:=qq hj
  refine⟨[some (.int (0+j)),some (.int B)],_,?_,rfl,_,rfl⟩
  have Z:j<5:=by omega
  have a0:(1:Int)*2^((0:Int)+j).toNat<=32:=by
   have:((0:Int)+j).toNat<=5:=by omega
   have G:(2:Nat)^((0:Int)+j).toNat<=2^5:=iq (by decide) this
   have h3:((2^((0:Int)+j).toNat:Nat):Int)<=32:=by exact_mod_cast G
   rw[fO];simpa using h3
  have F:(0:Int)<1*2^((0:Int)+j).toNat:=by rw[fO];exact Int.pow_pos (by decide)
  unfold ax5
  simp only[zX,ad0,ad1,ad4,qz,ad3,ad7,qA,zS,R.bind_ok]
  rw[aW1 ⟨by omega,by omega⟩]
  simp only[R.bind_ok]
  rw[ax1 F (by omega)]
  simp only[R.bind_ok]
  rw[ar4 (by decide)]
  simp only[R.bind_ok,ad9,ad2]
  simp[aC1]
  split<;>rfl
 obtain⟨ρ',s',e,h1⟩:=key
 rw[e]
 obtain⟨rfl,_⟩:=h1
 refine⟨B,b,?_⟩
 simp only[R.bind_ok,mk,ac2,ab7]
 exact qJ (λ m=>by unfold D.bnd;exact zA aZ4 m) (by nofun) rfl
theorem bu7 {k:Nat}(h:k<3)(s:Sto):ixM (.str [97,98,99]) (.int (k:Int)) s=.ok (.str [97+k]) s:=by
 match k,h with
 | 0,_=>rfl
 | 1,_=>rfl
 | 2,_=>rfl
theorem aA4 {P:Pr}[Has P aj0](n:Nat){s t:Sto}{r:Nat}(hr:r<s.length)(b:Nat×Nat)(many:Int)(h0:0<many)(h:many<=10^90) :
  ∃(k:Nat) (B:Nat×Nat),(k:Int)<many/\(aa0 P (n+1)).call "_law_take" [.ref r,.int many] (s.set r (ag8 b)++t)=.ok (.int k) (s.set r (ag8 B)++t):=by
 obtain⟨k,B,G,F⟩:=qr (P:=P) n (s:=s.set r (ag8 b)++t) (r:=r) ⟨b,zD (z9 hr)⟩ many h0 h
 refine⟨k,B,G,?_⟩
 rw[F,ay4 (by rw[bK];exact hr),bW]
theorem bW3 {s t:Sto}{r:Nat}{b:Nat×Nat}{l:List D}{v:D}(h:l.length<LIM):meth .append (.ref s.length) [v] (s.set r (ag8 b)++(.lst l::t))=.ok .non (s.set r (ag8 b)++(.lst (l++[v])::t)):=by
 rw[an2 (l:=l) (by rw[aR (by simp)];simp) h]
 congr 1
 rw[cL,if_neg (by simp)]
 simp
theorem ax8 {a b:List Nat}{s:Sto}(h:a.length+b.length<=LIM):ao3 .add (.str a) (.str b) s=.ok (.str (a++b)) s:=by
 show(if a.length+b.length<=LIM then _ else _:M D) s=_;rw[if_pos h];rfl
def Lts (L:Nat)(w:List Nat):Prop:=∀ c∈w,97<=c/\c<97+L
theorem rep_len (l:List Nat):∀ n,(rep n l).length=l.length*n
 | 0=>by simp[rep]
 | n+1=>by simp[rep,rep_len l n,jM];omega
noncomputable def bW1 (L:Nat)(d:D):Bool:=match d with
 | .str w=>decide (w.length<=200)&&w.all λ c=>decide (97<=c/\c<97+L)
 | _=>false
theorem be8 {P:Pr}{x:String}{v:D}[HasC P x v]{n:Nat}{ρ:Env}{s:Sto}:ev (aa0 P n) (.glob x) ρ s=.ok v s:=by
 show(match(aa0 P n).con x with|some d=>R.ok d s|none=>.bad)=_
 rw[bx6 (v:=v)]
noncomputable abbrev aY9:List D:=[.str [97],.str [98],.str [99]]
theorem by0 {L:Nat}(h:L<=3)(s:Sto):slM (.tup aY9) none (some (L:Int)) s=.ok (.tup (aY9.take L)) s:=by
 match L,h with
 | 0,_=>rfl
 | 1,_=>rfl
 | 2,_=>rfl
 | 3,_=>rfl
theorem aS3 {P:Pr}[Has P ah1][HasC P "LETTERS" (.tup aY9)](n:Nat){L:Nat}(h:L<=3)(l:List D)(s:Sto):(aa0 P (n+1)).call "letters_of" [.tup (.int L::l)] s=.ok (.tup (aY9.take L)) s:=by
 refine(ze ah1 rfl).trans ?_
 have B:ixM (.tup (.int L::l)) (.int ((0:Nat):Int)) s=.ok (.int L) s:=ix_tup rfl
 simp -implicitDefEqProofs [ah1,be8 (v:=.tup aY9)]
 rw[show(0:Int)=((0:Nat):Int)from rfl,B]
 simp only[R.bind_ok]
 rw[by0 h]
 simp -implicitDefEqProofs
 match L,h with
 | 0,_=>exact zn (λ _=>rfl) (by nofun)
 | 1,_=>exact zn (λ _=>rfl) (by nofun)
 | 2,_=>exact zn (λ _=>rfl) (by nofun)
 | 3,_=>exact zn (λ _=>rfl) (by nofun)
theorem qv {a b:D}{s:Sto}:qB .isin a b s=(inM a b s).bind λ r s=>.ok (.bl r) s:=rfl
@[simp] theorem ck5 {F:Fns} {ρ:Env} {s:Sto} (a:E):ev F (.neg a) ρ s=(ev F a ρ s).bind λ x s=>match x with|.int i=>.ok (.int (-i)) s|_=>.bad:=rfl
structure Dr where
 a:Nat
 l:Nat
 b:Nat
 t:Nat
noncomputable def Dr.d (x:Dr):D:=.tup [.int x.a,.str [x.l],.int x.b,.int x.t]
structure Mc where
 L:Nat
 R:Nat
 bg:List Nat
 en:List Nat
 ds:List Dr
noncomputable def qQ (l:List Nat):List D:=l.map λ(k:Nat)=>D.int (k:Int)
noncomputable def sg (w:List Nat):List D:=w.map λ c=>.str [c]
noncomputable def Mc.ps (m:Mc):List D:=[.int m.L,.int m.R,.tup (qQ m.bg),.tup (qQ m.en),.tup (m.ds.map Dr.d)]
noncomputable def Mc.d (m:Mc):D:=.tup m.ps
structure Dr.Ok (m:Mc)(x:Dr):Prop where
 a:x.a<m.R
 l:97<=x.l/\x.l<97+m.L
 b:x.b<m.R
 t:x.t<4
structure Mc.Ok (m:Mc):Prop where
 L1:1<=m.L
 L3:m.L<=3
 R1:1<=m.R
 R5:m.R<=5
 bg:(∀ k∈m.bg,k<m.R)/\m.bg.Pairwise (· < ·)
 en:(∀ k∈m.en,k<m.R)/\m.en.Pairwise (· < ·)
 ds:(∀ x∈m.ds,x.Ok m)/\m.ds.length<=75
theorem aq1 {l:List Nat}:∀ d∈qQ l,∀ n,d.bnd n=true:=λ d hd n=>by
 obtain⟨c,_,rfl⟩:=aW.mp hd;rfl
theorem aY0 {l:List Dr}:∀ d∈l.map Dr.d,∀ n,d.bnd n=true:=λ d hd n=>by
 obtain⟨c,_,rfl⟩:=aW.mp hd;rfl
theorem bC2 {m:Mc}:∀ d∈m.ps,∀ n,d.bnd n=true:=λ d hd n=>by
 simp only[Mc.ps,aI,b7,or_false]at hd
 rcases hd with rfl|rfl|rfl|rfl|rfl
 ·rfl
 ·rfl
 ·unfold D.bnd;exact zA aq1 n
 ·unfold D.bnd;exact zA aq1 n
 ·unfold D.bnd;exact zA aY0 n
theorem bQ6 (m:Mc)(n:Nat):m.d.bnd n=true:=by unfold Mc.d D.bnd;exact zA bC2 n
noncomputable def aQ0 (bits k:Nat):List Nat:=(a7 k).filter λ i=>decide (bits / 2^i % 2=1)
theorem aX6 (h k:Nat):(∀ i∈aQ0 h k,i<k)/\(aQ0 h k).Pairwise (· < ·) :=
 ⟨λ i B=>cr.mp (eX.mp B).1,kR _ gH⟩
theorem bn1 (B:Nat)(k:Nat):(qC 0 (k:Int)).filterMap (aC1 B)=qQ (aQ0 B k):=by
 unfold qC aQ0 qQ
 simp only[jr,bD]
 rw[cj]
 induction (a7 k)with
 | nil=>rfl
 | cons i l ih =>
  rw[aY,gh]
  have e:((B:Int) / (1*2^((0:Int)+(i:Int)).toNat) % 2=1)↔(B / 2^i % 2=1):=by
   rw[fO,show((0:Int)+(i:Int)).toNat=i by omega]
   have:((B:Int) / 2^i % 2)=((B / 2^i % 2:Nat):Int):=by simp
   rw[this];omega
  simp only[kq,aC1]
  by_cases h:B / 2^i % 2=1
  ·rw[if_pos (e.mpr h)]
   simp only[h,decide_true,if_true,a8]
   rw[<-ih,gI]
  ·rw[if_neg λ z=>h (e.mp z)]
   simp only[h,decide_false]
   exact ih
theorem aN0 {P:Pr}[Has P aj0][Has P aj6](n:Nat){s:Sto}{r:Nat}(hs:∃ b,s[r]?=some (ag8 b))(k:Nat)(h:k<=5) :
  ∃(l:List Nat) (b:Nat×Nat),((∀ i∈l,i<k)/\l.Pairwise (· < ·))/\(aa0 P (n+2)).call "_law_rooms" [.ref r,.int k] s=.ok (.tup (qQ l)) (s.set r (ag8 b)):=by
 obtain⟨B,b,e⟩:=aT5 (P:=P) n hs k (by omega) (by omega)
 rw[bn1]at e
 exact⟨_,b,aX6 B k,e⟩
def McR (s:Sto)(r:Nat)(x:R D):Prop:=∃(m:Mc) (b:Nat×Nat),m.Ok/\x=.ok m.d (s.set r (ag8 b))
section
variable {P:Pr}
theorem aK0 {l:List D}{s:Sto}(j:Nat){d:D}(h:l[j]?=some d):ixM (.tup l) (.int (j:Int)) s=.ok d s:=ix_tup h
theorem ixL (m:Mc)(s:Sto):ixM m.d (.int 0) s=.ok (.int m.L) s:=aK0 0 rfl
theorem ixR (m:Mc)(s:Sto):ixM m.d (.int 1) s=.ok (.int m.R) s:=aK0 1 rfl
theorem ixB (m:Mc)(s:Sto):ixM m.d (.int 2) s=.ok (.tup (qQ m.bg)) s:=aK0 2 rfl
theorem ixE (m:Mc)(s:Sto):ixM m.d (.int 3) s=.ok (.tup (qQ m.en)) s:=aK0 3 rfl
theorem ixD (m:Mc)(s:Sto):ixM m.d (.int 4) s=.ok (.tup (m.ds.map Dr.d)) s:=aK0 4 rfl
theorem as8 [Has P ah4](n:Nat)(m:Mc)(s:Sto):(aa0 P (n+1)).call "rooms_of" [m.d] s=.ok (.int m.R) s:=by
 refine(ze ah4 rfl).trans ?_
 simp -implicitDefEqProofs [ah4,ixR]
theorem qE {s:Sto}{l:List D}(h:∀ d∈l,∀ n,d.bnd n=true):zo s (.tup l) s=.ok (.tup l) s:=zn (λ n=>by unfold D.bnd;exact zA h n) (by nofun)
theorem aF2 [Has P ah8](n:Nat)(m:Mc)(s:Sto):(aa0 P (n+1)).call "begins_of" [m.d] s=.ok (.tup (qQ m.bg)) s:=by
 refine(ze ah8 rfl).trans ?_
 simp -implicitDefEqProofs [ah8,ixB,qE aq1]
theorem aU9 [Has P ah6](n:Nat)(m:Mc)(s:Sto):(aa0 P (n+1)).call "ends_of" [m.d] s=.ok (.tup (qQ m.en)) s:=by
 refine(ze ah6 rfl).trans ?_
 simp -implicitDefEqProofs [ah6,ixE,qE aq1]
theorem aK4 [Has P ah3](n:Nat)(m:Mc)(s:Sto):(aa0 P (n+1)).call "doors_of" [m.d] s=.ok (.tup (m.ds.map Dr.d)) s:=by
 refine(ze ah3 rfl).trans ?_
 simp -implicitDefEqProofs [ah3,ixD,qE aY0]
@[simp] theorem ch1 (a b:Nat) (s:Sto):qB .ne (.str [a]) (.str [b]) s=.ok (.bl (!decide (a=b))) s:=by
 show(match eqv s DEEP (.str [a]) (.str [b])with|some r=>R.ok (D.bl (!r)) s|none=>.bad)=_
 have:eqv s DEEP (.str [a]) (.str [b])=some ([a]==[b]):=rfl
 rw[this]
 have e:([a]==[b])=decide (a=b):=by rw[gO];simp
 rw[e]
@[simp] theorem ay1 (a b:Nat) (s:Sto):qB .eq (.str [a]) (.str [b]) s=.ok (.bl (decide (a=b))) s:=by
 show(match eqv s DEEP (.str [a]) (.str [b])with|some r=>R.ok (D.bl r) s|none=>.bad)=_
 have:eqv s DEEP (.str [a]) (.str [b])=some ([a]==[b]):=rfl
 rw[this]
 have e:([a]==[b])=decide (a=b):=by rw[gO];simp
 rw[e]
end
theorem good_of {L:Nat}{w:List Nat}(h:w.length<=200)(hw:Lts L w):bW1 L (.str w)=true:=by
 unfold bW1
 simp only[h,decide_true,fZ,aU,decide_eq_true_eq]
 exact hw
@[simp] theorem ci8 {F:Fns} {ρ:Env} {s:Sto} (a h B:E):ev F (.slLU a h B) ρ s=(ev F a ρ s).bind λ x s=>(ev F h ρ s).bind λ y s=>match y with|.int i=>(ev F B ρ s).bind (λ z s=>match z with|.int j=>slM x (some i) (some j) s|_=>.bad)|_=>.bad:=rfl
theorem two {l:List D}(h:l.length=2):∃ a b,l=[a,b]:=by
 match l,h with
 | [a,b],_=>exact⟨a,b,rfl⟩
@[simp] theorem cb2 {F:Fns} {ρ:Env} {s:Sto} (e:E):evI F (.enum (.seq e)) ρ s=(ev F e ρ s).bind λ d s=>(bk4 d s).bind λ q s=>.ok ⟨by4 0 q.its,q.src⟩ s:=rfl
noncomputable def row (m:Nat)(f:Nat->Int):List D:=(a7 m).map λ j=>.int (f j)
@[simp] theorem cj4 {m:Nat} {f:Nat->Int}:(row m f).length=m:=by unfold row;simp
theorem an8 {l:List D}(s:Sto):aA8 (.tup l) s=.ok ⟨l,[]⟩ s:=rfl
theorem aQ4 {ok:Sto->Bool}{g:D->Env->Sto->R (Option D×Env)}(P:Env->Sto->Prop)(f:D->D)(l:List D)(ρ:Env)(s:Sto)(h:P ρ s)
  (o:∀ ρ s,P ρ s->ok s=true) (st:∀ d∈l,∀ ρ s,P ρ s->∃ ρ' s',g d ρ s=.ok (some (f d),ρ') s'/\P ρ' s'):∃ ρ' s',ak0 ok g l ρ s=.ok (l.map f) s'/\P ρ' s':=by
 obtain⟨ρ',s',e,p⟩:=zU P (λ d=>some (f d)) l ρ s h o st
 refine⟨ρ',s',?_,p⟩
 rw[e];congr 1;induction l<;>simp_all
theorem aO4 {ok:Sto->Bool}{g:D->Env->Sto->R (Option D×Env)}(P:Env->Sto->Prop)(f:Nat->D)(n:Nat)(ρ:Env)(s:Sto)(h:P ρ s)
  (o:∀ ρ s,P ρ s->ok s=true) (st:∀ j,j<n->∀ ρ s,P ρ s->∃ ρ' s',g (.int (j:Int)) ρ s=.ok (some (f j),ρ') s'/\P ρ' s'):∃ ρ' s',ak0 ok g (qC 0 (n:Int)) ρ s=.ok ((a7 n).map f) s'/\P ρ' s':=by
 obtain⟨ρ',s',e,p⟩:=aQ4 (g:=g) P (λ d=>match d with|.int i=>f i.toNat|d=>d) (qC 0 (n:Int)) ρ s h o λ d hd ρ s hp=>by
  obtain⟨j,hj⟩:=cO hd
  obtain⟨B,rfl⟩:=qq hj
  obtain⟨ρ',s',e,p⟩:=st j (by omega) ρ s hp
  refine⟨ρ',s',?_,p⟩
  rw[gI,e];rfl
 refine⟨ρ',s',?_,p⟩
 rw[e]
 congr 1
 unfold qC
 rw[cf,show((n:Int) - 0).toNat=n by omega]
 exact List.map_congr_left λ j _=>by
  show f ((0:Int)+(j:Int)).toNat=f j
  congr 1;omega
theorem aP4 (n:Nat):(qC 0 (n:Int)).length=n:=by simp[qC]
noncomputable def prN (f g:Nat->Nat->Int)(i j:Nat):Nat->Int
 | 0=>3
 | k+1=>if f i k<3 then(let b:=(if g k j > f i k then g k j else f i k);if b<prN f g i j k then b else prN f g i j k)else prN f g i j k
noncomputable def pr (m:Nat)(f g:Nat->Nat->Int)(i j:Nat):Int:=prN f g i j m
noncomputable def bR1 (m:Nat)(f:Nat->Nat->Int):Sto:=(a7 m).map λ i=>.lst (row m (f i))
@[simp] theorem bN4 {m:Nat} {f:Nat->Nat->Int}:(bR1 m f).length=m:=by unfold bR1;simp
noncomputable def cq1 (p m:Nat):List D:=(a7 m).map λ i=>.ref (p+i)
@[simp] theorem cf6 {F:Fns} {ρ:Env} {s:Sto} (a b:E):evI F (.zip (.seq a) (.seq b)) ρ s=(ev F a ρ s).bind λ x s=>(ev F b ρ s).bind λ y s=>(aS0 x s).bind λ p s=>(aS0 y s).bind λ q s=>.ok ⟨cc3 p.its q.its,p.src++q.src⟩ s:=rfl
theorem ix_str {l:List Nat}{j c:Nat}{s:Sto}(hj:l[j]?=some c):ixM (.str l) (.int (j:Int)) s=.ok (.str [c]) s:=by
 have hl:j<l.length:=(ae.mp hj).1
 have e:l[j]=c:=(ae.mp hj).2
 simp[ixM,ixn,hl,e]
noncomputable def shN (f:Nat->Nat->Int)(i j:Nat):Nat->Int
 | 0=>3
 | k+1=>let b:=max (max (f i k) (if f k k=1 then 2 else f k k)) (f k j);if b<shN f i j k then b else shN f i j k
noncomputable def sh (m:Nat)(f:Nat->Nat->Int)(i j:Nat):Int:=shN f i j m
inductive Stp where
 | let_ (c:Nat)|pair (i j:Nat)|sharp (i:Nat)
noncomputable def Stp.d:Stp->D
 | .let_ c=>.tup [.str [108,101,116,116,101,114],.str [c]]
 | .pair i j=>.tup [.str [112,97,105,114],.int i,.int j]
 | .sharp i=>.tup [.str [115,104,97,114,112],.int i]
section
variable {s:Sto} {r:Nat} {b:Int} {A B C:List D} {T:Sto}
end
section
variable {m:Nat} {f:Nat->Nat->Int} {x:Int}
end
noncomputable def ci5 (a c:Int)(vs:List Int):Stp->Int
 | .let_ _=>a
 | .pair i j=>vs.getD i 0+vs.getD j 0
 | .sharp i=>vs.getD i 0*c
noncomputable def vl (a c:Int)(l:List Stp):List Int:=l.foldl (λ vs x=>vs++[ci5 a c vs x]) []
section
variable {F:Fns} {ρ:Env} {s:Sto}
end
noncomputable def Stp.t (c:Int):Stp->D
 | .sharp i=>.tup [.str [116,105,109,101,115],.int i,.int c]
 | x=>x.d
section
variable {P:Pr} [Has P bs9] [Has P au6] [HasL P an5]
end
noncomputable def ai2 (S:Int->Prop):Option Int->Prop
 | none=>∀ c,¬ S c
 | some c=>S c/\∀ c',S c'->c<=c'
theorem ai2.eq {S F:Int->Prop}{o B:Option Int}(h:ai2 S o)(h':ai2 F B)(e:∀ c,S c↔F c):o=B:=by
 cases o with
 | none =>
  cases B with
  | none=>rfl
  | some c=>exact absurd ((e c).mpr h'.1) (h c)
 | some c =>
  cases B with
  | none=>exact absurd ((e c).mp h.1) (h' c)
  | some c' =>
   have J:=h.2 c' ((e c').mpr h'.1)
   have G:=h'.2 c ((e c).mp h.1)
   rw[show c=c' by omega]
theorem ai2.congr {S B:Int->Prop}{o:Option Int}(h:ai2 S o)(e:∀ c,S c↔B c):ai2 B o:=by
 cases o with
 | none=>exact λ c hc=>h c ((e c).mpr hc)
 | some c=>exact⟨(e c).mp h.1,λ F hc=>h.2 F ((e F).mpr hc)⟩
noncomputable def minO:Option Int->Option Int->Option Int
 | none,x=>x
 | some a,none=>some a
 | some a,some b=>if b<a then some b else some a
theorem ai2.or {S F:Int->Prop}{o B:Option Int}(h:ai2 S o)(h':ai2 F B):ai2 (λ c=>S c\/F c) (minO o B):=by
 cases o with
 | none =>
  cases B with
  | none=>exact λ c hc=>hc.elim (h c) (h' c)
  | some b=>exact⟨.inr h'.1,λ c hc=>hc.elim (λ z=>absurd z (h c)) (h'.2 c)⟩
 | some a =>
  cases B with
  | none=>exact⟨.inl h.1,λ c hc=>hc.elim (h.2 c) (λ z=>absurd z (h' c))⟩
  | some b =>
   show ai2 _ (if b<a then some b else some a)
   by_cases hlt:b<a
   ·rw[if_pos hlt]
    exact⟨.inr h'.1,λ c hc=>hc.elim (λ z=>by have:=h.2 c z;omega) (h'.2 c)⟩
   ·rw[if_neg hlt]
    exact⟨.inl h.1,λ c hc=>hc.elim (h.2 c) (λ z=>by have:=h'.2 c z;omega)⟩
theorem ai2.add {S:Int->Prop}{o:Option Int}(h:ai2 S o)(k:Int):ai2 (λ c=>∃ B,S B/\c=B+k) (o.map (·+k)):=by
 cases o with
 | none=>rintro c ⟨B,h',_⟩;exact h B h'
 | some a=>exact⟨⟨a,h.1,rfl⟩,by rintro c ⟨B,h',rfl⟩;have:=h.2 B h';show a+k<=B+k;omega⟩
noncomputable def Wk (ds:List Dr):List Nat->Nat->Nat->Int->Prop
 | [],p,q,c=>p=q/\c=0
 | x::w,p,q,c=>∃ d∈ds,d.a=p/\d.l=x/\∃ c':Int,Wk ds w d.b q c'/\c=(d.t:Int)+c'
theorem az3 {J:List Dr}{x:Nat}:∀ {w:List Nat} {p q:Nat} {c:Int},Wk J (w++[x]) p q c↔∃ d∈J,d.l=x/\d.b=q/\∃ B:Int,Wk J w p d.a B/\c=B+(d.t:Int)
 | [],p,q,c=>by
  constructor
  ·rintro⟨d,hd,rfl,hx,B,⟨Y,G⟩,rfl⟩
   exact⟨d,hd,hx,Y,0,⟨rfl,rfl⟩,by omega⟩
  ·rintro⟨d,hd,hx,hb,B,⟨Y,G⟩,rfl⟩
   exact⟨d,hd,Y.symm,hx,0,⟨hb,rfl⟩,by omega⟩
 | y::w,p,q,c=>by
  constructor
  ·rintro⟨d,hd,ha,hy,B,h,rfl⟩
   obtain⟨e,he,hx,hb,F,G,rfl⟩:=az3.mp h
   exact⟨e,he,hx,hb,d.t+F,⟨d,hd,ha,hy,F,G,rfl⟩,by omega⟩
  ·rintro⟨e,he,hx,hb,B,⟨d,hd,ha,hy,F,G,rfl⟩,rfl⟩
   exact⟨d,hd,ha,hy,F+e.t,az3.mpr ⟨e,he,hx,hb,F,G,rfl⟩,by omega⟩
noncomputable def Dr.turn (x:Dr):Dr:=⟨x.b,x.l,x.a,x.t⟩
def Mc.Wk (m:Mc)(w:List Nat)(c:Int):Prop:=∃ p∈m.bg,∃ q∈m.en,DV.Wk m.ds w p q c
noncomputable def Mc.turn (m:Mc):Mc:=⟨m.L,m.R,m.en,m.bg,m.ds.map Dr.turn⟩
noncomputable def zc (row:List (Option Int)):List D:=row.map qh
theorem ap9 (row:List (Option Int)):(zc row).length=row.length:=aF ..
theorem aA6 {row:List (Option Int)}{k:Nat}{o:Option Int}(h:row[k]?=some o):(zc row)[k]?=some (qh o):=by unfold zc;rw[aN,h];rfl
theorem bT7 {s T:Sto}{k:Nat}{o:O}(h:s.length<=k):(s++T).set k o=s++T.set (k - s.length) o:=by rw[cL,if_neg (by omega)]
def qS (S:Nat->Int->Prop)(row:List (Option Int)):Prop:=∀ k o,row[k]?=some o->ai2 (S k) o
theorem aE6 {s:Sto}{k:Nat}:∀ {l:List Nat},inL s (.int k) (qQ l)=some (decide (k∈l))
 | []=>rfl
 | a::l=>by
  have B:=aE6 (s:=s) (k:=k) (l:=l)
  have e:eqv s DEEP (.int (a:Int)) (.int (k:Int))=some ((a:Int)==(k:Int)):=rfl
  show(match eqv s DEEP (.int (a:Int)) (.int (k:Int)),inL s (.int k) (qQ l)with|some a,some b=>some (a||b)|_,_=>none)=_
  rw[e,B]
  show some (((a:Int)==(k:Int))||decide (k∈l))=some _
  congr 1
  rw[gO]
  simp
  constructor
  ·rintro(h|h)
   ·exact .inl (by omega)
   ·exact .inr h
  ·rintro(h|h)
   ·exact .inl (by omega)
   ·exact .inr h
theorem aA3 {s:Sto}{k:Nat}{l:List Nat}:inM (.int k) (.tup (qQ l)) s=.ok (decide (k∈l)) s:=by unfold inM;simp only[aE6]
theorem aZ2 (b:Bool)(s:Sto):bi .int [.bl b] s=.ok (.int (if b then 1 else 0)) s:=by cases b<;>rfl
theorem av0:∀ l:List Int,qk (l.map D.int)=some l
 | []=>rfl
 | a::l=>by rw[a8];unfold qk;rw[av0 l];rfl
theorem aE3:∀(l:List Int) (a:Int),(l.foldl min a=a\/l.foldl min a∈l)/\l.foldl min a<=a/\∀ y∈l,l.foldl min a<=y
 | [],a=>⟨.inl rfl,ii _,λ y hy=>by cases hy⟩
 | b::l,a=>by
  obtain⟨B,F,h3⟩:=aE3 l (min a b)
  rw[c6]
  refine⟨?_,by omega,λ y hy=>?_⟩
  ·rcases B with h|h
   ·rw[h]
    rcases kH a b with z|z
    ·left;omega
    ·right;rw[show min a b=b by omega];exact aD ..
   ·exact .inr (ao _ h)
  ·rcases aI.mp hy with z|z
   ·rw[z];omega
   ·exact h3 y z
theorem qM (l:List Int):ai2 (λ c=>c∈l) (minI l):=by
 cases l with
 | nil=>exact λ c hc=>by cases hc
 | cons a l =>
  obtain⟨F,B,h3⟩:=aE3 l a
  refine⟨?_,λ y hy=>?_⟩
  ·rcases F with h|h
   ·rw[h];exact aD ..
   ·exact ao _ h
  ·rcases aI.mp hy with z|z
   ·rw[z];exact B
   ·exact h3 y z
theorem aZ6 (l:List Int)(s:Sto):mkD .min (l.map D.int) .non s=.ok (qh (minI l)) s:=by
 unfold mkD
 simp only[av0]
 cases minI l<;>rfl
def bs2 (m:Mc)(w:List Nat)(s:Sto)(x:R D):Prop:=∃ o,ai2 (m.Wk w) o/\x=.ok (qh o) s
def au7 (S:Nat->Int->Prop)(x:Nat)(ds:List Dr)(k:Nat)(c:Int):Prop:=∃ d∈ds,d.l=x/\d.b=k/\∃ c':Int,S d.a c'/\c=c'+(d.t:Int)
theorem aD4 {S:Nat->Int->Prop}{x:Nat}{F:List Dr}{d:Dr}{th:List (Option Int)}(h:qS (au7 S x F) th)(hn:∀ B,¬(d.l=x/\S d.a B)):qS (au7 S x (F++[d])) th:=λ k o hk=>by
 refine(h k o hk).congr λ c=>?_
 constructor
 ·rintro⟨e,he,r⟩;exact⟨e,aS.mpr (.inl he),r⟩
 ·rintro⟨e,he,hl,hb,B,hs,r⟩
  rcases aS.mp he with z|z
  ·exact⟨e,z,hl,hb,B,hs,r⟩
  ·rw[ay.mp z]at hl hs;exact absurd ⟨hl,hs⟩ (hn B)
theorem bh3 {S:Nat->Int->Prop}{x:Nat}{B:List Dr}{d:Dr}{th:List (Option Int)}{i:Int}(h:qS (au7 S x B) th)(hx:d.l=x)(G:ai2 (S d.a) (some i)){o:Option Int}(ho:th[d.b]?=some o) :
  qS (au7 S x (B++[d])) (th.set d.b (minO o (some (i+d.t)))):=λ k F hk=>by
 have hlt:d.b<th.length:=(ae.mp ho).1
 by_cases e:d.b=k
 ·subst e
  rw[a9 hlt]at hk
  cases hk
  refine((h _ o ho).or (G.add d.t)).congr λ c=>?_
  constructor
  ·rintro(⟨e,he,r⟩|r)
   ·exact⟨e,aS.mpr (.inl he),r⟩
   ·exact⟨d,aS.mpr (.inr (ay.mpr rfl)),hx,rfl,r⟩
  ·rintro⟨e,he,hl,hb,r⟩
   rcases aS.mp he with z|z
   ·exact .inl ⟨e,z,hl,hb,r⟩
   ·rw[ay.mp z]at r;exact .inr r
 ·rw[bh e]at hk
  refine(h k F hk).congr λ c=>?_
  constructor
  ·rintro⟨e,he,r⟩;exact⟨e,aS.mpr (.inl he),r⟩
  ·rintro⟨e',he,hl,hb,r⟩
   rcases aS.mp he with z|z
   ·exact⟨e',z,hl,hb,r⟩
   ·rw[ay.mp z]at hb;exact absurd hb e
def am2 (m:Mc)(w:List Nat)(k:Nat)(c:Int):Prop:=∃ p∈m.bg,Wk m.ds w p k c
theorem as4 {m:Mc}{w:List Nat}{x k:Nat}{c:Int}:au7 (am2 m w) x m.ds k c↔am2 m (w++[x]) k c:=by
 constructor
 ·rintro⟨d,hd,hl,hb,B,⟨p,hp,h⟩,rfl⟩
  exact⟨p,hp,az3.mpr ⟨d,hd,hl,hb,B,h,rfl⟩⟩
 ·rintro⟨p,hp,h⟩
  obtain⟨d,hd,hl,hb,B,F,rfl⟩:=az3.mp h
  exact⟨d,hd,hl,hb,B,⟨p,hp,F⟩,rfl⟩
theorem aB2 {m:Mc}{w:List Nat}{row:List (Option Int)}(J:row.length=m.R)(Y:∀ k∈m.en,k<m.R)(h:qS (am2 m w) row):ai2 (m.Wk w) (minI (m.en.filterMap λ q=>row.getD q none)):=by
 have at_:∀ q∈m.en,∃ o,row[q]?=some o/\row.getD q none=o/\ai2 (am2 m w q) o:=λ q F=>by
  have hlt:q<row.length:=by rw[J];exact Y q F
  exact⟨row[q],aq hlt,by simp[iA,hlt],h q _ (aq hlt)⟩
 have B:∀ c,c∈(m.en.filterMap λ q=>row.getD q none)↔∃ q∈m.en,row.getD q none=some c:=λ c=>bR
 have hl:=qM (m.en.filterMap λ q=>row.getD q none)
 cases e:minI (m.en.filterMap λ q=>row.getD q none)with
 | none =>
  rw[e]at hl
  rintro c ⟨p,hp,q,F,hw⟩
  obtain⟨o,Z,G,h3⟩:=at_ q F
  cases o with
  | none=>exact h3 c ⟨p,hp,hw⟩
  | some y=>exact hl y ((B y).mpr ⟨q,F,G⟩)
 | some z =>
  rw[e]at hl
  obtain⟨q,F,hz⟩:=(B z).mp hl.1
  refine⟨?_,λ c hc=>?_⟩
  ·obtain⟨o,Z,G,h3⟩:=at_ q F
   rw[G]at hz;subst hz
   obtain⟨p,hp,hw⟩:=h3.1
   exact⟨p,hp,q,F,hw⟩
  ·obtain⟨p,hp,q,F,hw⟩:=hc
   obtain⟨o,Z,G,h3⟩:=at_ q F
   cases o with
   | none=>exact absurd ⟨p,hp,hw⟩ (h3 c)
   | some y =>
    have h4:=h3.2 c ⟨p,hp,hw⟩
    have h5:=hl.2 y ((B y).mpr ⟨q,F,G⟩)
    omega
theorem zN {α β:Type}{f g:α->Option β}:∀ {l:List α},(∀ x∈l,f x=g x)->l.filterMap f=l.filterMap g
 | [],_=>rfl
 | a::l,h=>by rw[aY,aY,h a (aD ..),zN λ x hx=>h x (ao _ hx)]
noncomputable def addO:Option Int->Option Int->Option Int
 | some a,some b=>some (a+b)
 | _,_=>none
theorem as6:∀ l:List (Option Int),(zc l).filterMap (λ d=>if d=D.non then none else some d)=(l.filterMap id).map D.int
 | []=>rfl
 | o::l=>by
  have h:=as6 l
  unfold zc at h ⊢
  cases o with
  | none=>rw[a8,aY,aY];simpa using h
  | some i=>rw[a8,aY,aY];simpa using h
theorem aP6 {P:Pr}[Has P ai1](n:Nat){s:Sto}{q:Nat}{l:List (Option Int)}(G:s[q]?=some (.lst (zc l)))(hl:l.length<=1000):(aa0 P (n+1)).call "least" [.ref q] s=.ok (qh (minI (l.filterMap id))) s:=by
 have F:(aa0 P (n+1)).call "least" [.ref q] s=_:=ze ai1 (n:=n) rfl
 rw[F,show(dA some [D.ref q]++aC ai1.vs none)=[some (D.ref q)]from rfl]
 have B:aA8 (.ref q) s=.ok ⟨zc l,[q]⟩ s:=by simp only[aA8,G]
 obtain⟨ρ1,s1,e1,rfl,_⟩:=zU (ok:=λ s1=>chk s s1 [q]) (g:=ax5 (aa0 P n) (.one 0) (.notN (.var 0)) (.var 0)) (λ ρ u=>u=s/\∃ x,ρ=[x]) (λ d=>if d=D.non then none else some d) (zc l) [none] s ⟨rfl,none,rfl⟩ (λ _ u h=>by obtain⟨rfl,_⟩:=h;simp[chk]) (by
  rintro d hd ρ u ⟨rfl,x,rfl⟩
  refine⟨[some d],u,?_,rfl,_,rfl⟩
  unfold ax5
  by_cases hn:d=.non
  ·simp -implicitDefEqProofs only[zT,ab5,ad8,ae3,ae4,ag6,ae2,af3,ab2,ac7,ac5,af7,qz,ad3,ad4,af4,ad1,ae5,ag5,ae9,af6,ae1,ag0,ac1,ag1,ag2,af1,af0,ac9,ac8,af8,ab9,ab8,aa6,aa8,ac0,ab6,aa9,ac4,ag4,ad7,ae0,ae7,R.bind_ok,zX,aa3,aa4,aa1,ad5,ad0,ab4,ab0,qA,zS,ak,am,aa2,qe,ac2,ab1,ab7,ab3,ac3,ac6,ad6,ae8,ae6,af5,ad9,af2,aa7,ad2,if_true,if_false,ag,decide_true,decide_false,au,ar,hn]
  ·simp -implicitDefEqProofs only[zT,ab5,ad8,ae3,ae4,ag6,ae2,af3,ab2,ac7,ac5,af7,qz,ad3,ad4,af4,ad1,ae5,ag5,ae9,af6,ae1,ag0,ac1,ag1,ag2,af1,af0,ac9,ac8,af8,ab9,ab8,aa6,aa8,ac0,ab6,aa9,ac4,ag4,ad7,ae0,ae7,R.bind_ok,zX,aa3,aa4,aa1,ad5,ad0,ab4,ab0,qA,zS,ak,am,aa2,qe,ac2,ab1,ab7,ab3,ac3,ac6,ad6,ae8,ae6,af5,ad9,af2,aa7,ad2,if_true,if_false,ag,decide_true,decide_false,au,ar,hn])
 rw[as6]at e1
 simp -implicitDefEqProofs only[ai1]
 simp -implicitDefEqProofs only[zT,ab5,ad8,ae3,ae4,ag6,ae2,af3,ab2,ac7,ac5,af7,qz,ad3,ad4,af4,ad1,ae5,ag5,ae9,af6,ae1,ag0,ac1,ag1,ag2,af1,af0,ac9,ac8,af8,ab9,ab8,aa6,aa8,ac0,ab6,aa9,ac4,ag4,ad7,ae0,ae7,R.bind_ok,zX,aa3,aa4,aa1,ad5,ad0,ab4,ab0,qA,zS,ak,am,aa2,qe,ac2,ab1,ab7,ab3,ac3,ac6,ad6,ae8,ae6,af5,ad9,af2,aa7,ad2,if_true,if_false,ag,decide_true,decide_false,au,ar,ao1,B,if_pos (show(zc l).length<=LIM by rw[ap9];unfold LIM;omega),show qb [some (D.ref q)] [none]=[none]from rfl,e1,aZ6]
 exact aU2
theorem bi2 {P:Pr}[Has P ai9](n:Nat)(a b:Option Int)(s:Sto):(aa0 P (n+1)).call "added" [qh a,qh b] s=.ok (qh (addO a b)) s:=by
 have h:(aa0 P (n+1)).call "added" [qh a,qh b] s=_:=ze ai9 (n:=n) rfl
 rw[h,show(dA some [qh a,qh b]++aC ai9.vs none)=[some (qh a),some (qh b)]from rfl]
 simp -implicitDefEqProofs only[ai9]
 cases a with
 | none=>simp -implicitDefEqProofs only[zT,ab5,ad8,ae3,ae4,ag6,ae2,af3,ab2,ac7,ac5,af7,qz,ad3,ad4,af4,ad1,ae5,ag5,ae9,af6,ae1,ag0,ac1,ag1,ag2,af1,af0,ac9,ac8,af8,ab9,ab8,aa6,aa8,ac0,ab6,aa9,ac4,ag4,ad7,ae0,ae7,R.bind_ok,zX,aa3,aa4,aa1,ad5,ad0,ab4,ab0,qA,zS,ak,am,aa2,qe,ac2,ab1,ab7,ab3,ac3,ac6,ad6,ae8,ae6,af5,ad9,af2,aa7,ad2,if_true,if_false,ag,decide_true,decide_false,au,ar,qD,show(D.non=D.non)=True from eq_self _];exact aE7
 | some a=>cases b with
  | none=>simp -implicitDefEqProofs only[zT,ab5,ad8,ae3,ae4,ag6,ae2,af3,ab2,ac7,ac5,af7,qz,ad3,ad4,af4,ad1,ae5,ag5,ae9,af6,ae1,ag0,ac1,ag1,ag2,af1,af0,ac9,ac8,af8,ab9,ab8,aa6,aa8,ac0,ab6,aa9,ac4,ag4,ad7,ae0,ae7,R.bind_ok,zX,aa3,aa4,aa1,ad5,ad0,ab4,ab0,qA,zS,ak,am,aa2,qe,ac2,ab1,ab7,ab3,ac3,ac6,ad6,ae8,ae6,af5,ad9,af2,aa7,ad2,if_true,if_false,ag,decide_true,decide_false,au,ar,qD,qp,show(D.non=D.non)=True from eq_self _,show(D.int a=D.non)=False from eq_false (by nofun)];exact aE7
  | some b=>simp -implicitDefEqProofs only[zT,ab5,ad8,ae3,ae4,ag6,ae2,af3,ab2,ac7,ac5,af7,qz,ad3,ad4,af4,ad1,ae5,ag5,ae9,af6,ae1,ag0,ac1,ag1,ag2,af1,af0,ac9,ac8,af8,ab9,ab8,aa6,aa8,ac0,ab6,aa9,ac4,ag4,ad7,ae0,ae7,R.bind_ok,zX,aa3,aa4,aa1,ad5,ad0,ab4,ab0,qA,zS,ak,am,aa2,qe,ac2,ab1,ab7,ab3,ac3,ac6,ad6,ae8,ae6,af5,ad9,af2,aa7,ad2,if_true,if_false,ag,decide_true,decide_false,au,ar,qp,show(D.int a=D.non)=False from eq_false (by nofun),show(D.int b=D.non)=False from eq_false (by nofun)];exact ba2
section
variable {P:Pr} [Has P bs9]
end
noncomputable def zC (m:Mc):List (Option Int):=(a7 m.R).map λ k=>if k∈m.bg then some 0 else none
noncomputable def bI9 (m:Mc)(row:List (Option Int))(x b:Nat):Option Int:=minI (((m.ds.filter λ d=>decide (d.l=x)&&decide (d.b=b)).map λ d=>addO (row.getD d.a none) (some (d.t:Int))).filterMap id)
noncomputable def br7 (m:Mc)(row:List (Option Int))(x:Nat):List (Option Int):=(a7 m.R).map (bI9 m row x)
noncomputable def bq4 (m:Mc)(row:List (Option Int)):Option Int:=minI (m.en.filterMap λ q=>row.getD q none)
theorem aq0 {row:List (Option Int)}:∀ d∈zc row,∀ n,d.bnd n=true:=λ d hd n=>by
 obtain⟨o,_,rfl⟩:=aW.mp hd;exact am4 _ n
theorem aZ5 {row:List (Option Int)}{k:Nat}(h:k<row.length)(s:Sto):ixM (.tup (zc row)) (.int (k:Int)) s=.ok (qh (row.getD k none)) s:=by
 refine ix_tup (aA6 ?_)
 rw[aq h];simp[iA,h]
theorem br5 (q:List D)(s:Sto):mk .tuple q s=.ok (.tup q) s:=rfl
theorem bh5 (q:List D)(s:Sto):mk .list q s=.ok (.ref s.length) (s++[.lst q]):=rfl
theorem aF6 {P:Pr}[Has P ah8][Has P ah4][Has P ah7](n:Nat){m:Mc}(hm:m.Ok)(s:Sto):(aa0 P (n+2)).call "first_row" [m.d] s=.ok (.tup (zc (zC m))) s:=by
 have B:(aa0 P (n+2)).call "first_row" [m.d] s=_:=ze ah7 (n:=n+1) rfl
 have F:=hm.R5
 rw[B,show(dA some [m.d]++aC ah7.vs none)=[some m.d,none]from rfl]
 obtain⟨ρ1,s1,e1,rfl,_⟩:=aO4 (ok:=λ s1=>chk s s1 []) (g:=am5 (aa0 P (n+1)) (.one 0) (.ite (.cmp .isin (.var 0) (.var 1)) (.cst (.int 0)) (.cst .non))) (λ ρ u=>u=s/\∃ x,ρ=[x,some (.tup (qQ m.bg))]) (λ k=>qh (if k∈m.bg then some 0 else none)) m.R [none,some (.tup (qQ m.bg))] s ⟨rfl,none,rfl⟩ (λ _ _ _=>rfl) (by
  rintro k hk ρ u ⟨rfl,x,rfl⟩
  refine⟨[some (.int k),some (.tup (qQ m.bg))],u,?_,rfl,_,rfl⟩
  unfold am5
  by_cases hb:k∈m.bg
  ·simp -implicitDefEqProofs only[zT,ab5,ad8,ae3,ae4,ag6,ae2,af3,ab2,ac7,ac5,af7,qz,ad3,ad4,af4,ad1,ae5,ag5,ae9,af6,ae1,ag0,ac1,ag1,ag2,af1,af0,ac9,ac8,af8,ab9,ab8,aa6,aa8,ac0,ab6,aa9,ac4,ag4,ad7,ae0,ae7,R.bind_ok,zX,aa3,aa4,aa1,ad5,ad0,ab4,ab0,qA,zS,ak,am,aa2,qe,ac2,ab1,ab7,ab3,ac3,ac6,ad6,ae8,ae6,af5,ad9,af2,aa7,ad2,if_true,if_false,ag,decide_true,decide_false,au,ar,qv,aA3,hb,qp]
  ·simp -implicitDefEqProofs only[zT,ab5,ad8,ae3,ae4,ag6,ae2,af3,ab2,ac7,ac5,af7,qz,ad3,ad4,af4,ad1,ae5,ag5,ae9,af6,ae1,ag0,ac1,ag1,ag2,af1,af0,ac9,ac8,af8,ab9,ab8,aa6,aa8,ac0,ab6,aa9,ac4,ag4,ad7,ae0,ae7,R.bind_ok,zX,aa3,aa4,aa1,ad5,ad0,ab4,ab0,qA,zS,ak,am,aa2,qe,ac2,ab1,ab7,ab3,ac3,ac6,ad6,ae8,ae6,af5,ad9,af2,aa7,ad2,if_true,if_false,ag,decide_true,decide_false,au,ar,qv,aA3,hb,qD])
 have h:((a7 m.R).map λ k=>qh (if k∈m.bg then some 0 else none))=zc (zC m):=by unfold zc zC;rw[cf];rfl
 rw[h]at e1
 simp -implicitDefEqProofs only[ah7]
 simp -implicitDefEqProofs only[zT,ab5,ad8,ae3,ae4,ag6,ae2,af3,ab2,ac7,ac5,af7,qz,ad3,ad4,af4,ad1,ae5,ag5,ae9,af6,ae1,ag0,ac1,ag1,ag2,af1,af0,ac9,ac8,af8,ab9,ab8,aa6,aa8,ac0,ab6,aa9,ac4,ag4,ad7,ae0,ae7,R.bind_ok,zX,aa3,aa4,aa1,ad5,ad0,ab4,ab0,qA,zS,ak,am,aa2,qe,ac2,ab1,ab7,ab3,ac3,ac6,ad6,ae8,ae6,af5,ad9,af2,aa7,ad2,if_true,if_false,ag,decide_true,decide_false,au,ar,aF2 n,as8 n,aq2,qG (s:=s1) (i:=(m.R:Int)) (by unfold W62;omega) (by unfold W62;omega),if_pos (show(qC 0 (m.R:Int)).length<=LIM by rw[aP4];unfold LIM;omega),show qb [some m.d,some (.tup (qQ m.bg))] [none,some 1]=[none,some (.tup (qQ m.bg))]from rfl,e1,br5]
 exact qE aq0
noncomputable def bj7 (row:List (Option Int))(x b:Nat):D->Option D
 | .tup [.int a,.str [l],.int c,.int t]=>if l=x/\c=(b:Int)then some (qh (addO (row.getD a.toNat none) (some t)))else none
 | _=>none
theorem aY6 (row:List (Option Int))(x b:Nat):∀ B:List Dr,(B.map Dr.d).filterMap (bj7 row x b)=zc ((B.filter λ d=>decide (d.l=x)&&decide (d.b=b)).map λ d=>addO (row.getD d.a none) (some (d.t:Int)))
 | []=>rfl
 | d::B=>by
  have F:=aY6 row x b B
  rw[a8,aY]
  have e:bj7 row x b d.d=if d.l=x/\(d.b:Int)=(b:Int)then some (qh (addO (row.getD (d.a:Int).toNat none) (some (d.t:Int))))else none:=rfl
  rw[e,bD]
  by_cases h:d.l=x/\d.b=b
  ·rw[if_pos ⟨h.1,by omega⟩,gh,if_pos (by simp[h]),a8]
   show _::_=zc (_::_)
   rw[F];rfl
  ·rw[if_neg (λ z=>h ⟨z.1,by omega⟩),gh,if_neg (by simpa using h)]
   exact F
theorem az7 {P:Pr}[Has P ai1][Has P ai9][Has P ah3][Has P af9](n:Nat){m:Mc}(hm:m.Ok){row:List (Option Int)}(hr:row.length=m.R)(x b:Nat)(s:Sto) :
  (aa0 P (n+2)).call "least_into" [m.d,.tup (zc row),.str [x],.int (b:Int)] s=.ok (qh (bI9 m row x b)) s:=by
 have Y:(aa0 P (n+2)).call "least_into" [m.d,.tup (zc row),.str [x],.int (b:Int)] s=_:=ze af9 (n:=n+1) rfl
 have hd:=hm.ds.2
 rw[Y,show(dA some [m.d,D.tup (zc row),.str [x],.int (b:Int)]++aC af9.vs none)=[some m.d,some (D.tup (zc row)),some (.str [x]),some (.int (b:Int))]from rfl]
 obtain⟨ρ1,s1,e1,rfl,_⟩:=zU (ok:=λ s1=>chk s s1 []) (g:=ax5 (aa0 P (n+1)) (.tup [0,1,2,3]) (.and (.cmp .eq (.var 1) (.var 4)) (.cmp .eq (.var 2) (.var 5))) (.call "added" (.ex (.ix (.var 6) (.var 0)) (.ex (.var 3) .nil)))) (λ ρ u=>u=s/\∃ y0 F J G,ρ=[y0,F,J,G,some (.str [x]),some (.int (b:Int)),some (D.tup (zc row))]) (bj7 row x b) (m.ds.map Dr.d) [none,none,none,none,some (.str [x]),some (.int (b:Int)),some (D.tup (zc row))] s ⟨rfl,none,none,none,none,rfl⟩ (λ _ _ _=>rfl) (by
  rintro d hd ρ u ⟨rfl,y0,F,J,G,rfl⟩
  obtain⟨z,hz,rfl⟩:=aW.mp hd
  have ok:=hm.ds.1 z hz
  have Z:bj7 row x b z.d=if z.l=x/\(z.b:Int)=(b:Int)then some (qh (addO (row.getD (z.a:Int).toNat none) (some (z.t:Int))))else none:=rfl
  have B:=bi2 (P:=P) n (row.getD z.a none) (some (z.t:Int)) u
  rw[qp]at B
  refine⟨[some (.int z.a),some (.str [z.l]),some (.int z.b),some (.int z.t),some (.str [x]),some (.int (b:Int)),some (D.tup (zc row))],u,?_,rfl,_,_,_,_,rfl⟩
  rw[Z,bD]
  unfold ax5
  rw[show z.d=.tup [.int z.a,.str [z.l],.int z.b,.int z.t]from rfl]
  by_cases h1:z.l=x
  ·by_cases h2:(z.b:Int)=(b:Int)
   ·rw[if_pos ⟨h1,h2⟩]
    simp -implicitDefEqProofs only[zT,ab5,ad8,ae3,ae4,ag6,ae2,af3,ab2,ac7,ac5,af7,qz,ad3,ad4,af4,ad1,ae5,ag5,ae9,af6,ae1,ag0,ac1,ag1,ag2,af1,af0,ac9,ac8,af8,ab9,ab8,aa6,aa8,ac0,ab6,aa9,ac4,ag4,ad7,ae0,ae7,R.bind_ok,zX,aa3,aa4,aa1,ad5,ad0,ab4,ab0,qA,zS,ak,am,aa2,qe,ac2,ab1,ab7,ab3,ac3,ac6,ad6,ae8,ae6,af5,ad9,af2,aa7,ad2,if_true,if_false,ag,decide_true,decide_false,au,ar,ay1,h1,h2,aZ5 (row:=row) (k:=z.a) (by rw[hr];exact ok.a),B]
   ·rw[if_neg (λ q=>h2 q.2)]
    simp -implicitDefEqProofs only[zT,ab5,ad8,ae3,ae4,ag6,ae2,af3,ab2,ac7,ac5,af7,qz,ad3,ad4,af4,ad1,ae5,ag5,ae9,af6,ae1,ag0,ac1,ag1,ag2,af1,af0,ac9,ac8,af8,ab9,ab8,aa6,aa8,ac0,ab6,aa9,ac4,ag4,ad7,ae0,ae7,R.bind_ok,zX,aa3,aa4,aa1,ad5,ad0,ab4,ab0,qA,zS,ak,am,aa2,qe,ac2,ab1,ab7,ab3,ac3,ac6,ad6,ae8,ae6,af5,ad9,af2,aa7,ad2,if_true,if_false,ag,decide_true,decide_false,au,ar,ay1,h1,h2]
  ·rw[if_neg (λ q=>h1 q.1)]
   simp -implicitDefEqProofs only[zT,ab5,ad8,ae3,ae4,ag6,ae2,af3,ab2,ac7,ac5,af7,qz,ad3,ad4,af4,ad1,ae5,ag5,ae9,af6,ae1,ag0,ac1,ag1,ag2,af1,af0,ac9,ac8,af8,ab9,ab8,aa6,aa8,ac0,ab6,aa9,ac4,ag4,ad7,ae0,ae7,R.bind_ok,zX,aa3,aa4,aa1,ad5,ad0,ab4,ab0,qA,zS,ak,am,aa2,qe,ac2,ab1,ab7,ab3,ac3,ac6,ad6,ae8,ae6,af5,ad9,af2,aa7,ad2,if_true,if_false,ag,decide_true,decide_false,au,ar,ay1,h1])
 rw[aY6]at e1
 have h:((m.ds.filter λ d=>decide (d.l=x)&&decide (d.b=b)).map λ d=>addO (row.getD d.a none) (some (d.t:Int))).length<=1000:=by
  rw[aF]
  exact av (List.length_filter_le _ _) (by omega)
 have el:=aP6 (P:=P) n (s:=s1++[O.lst (zc ((m.ds.filter λ d=>decide (d.l=x)&&decide (d.b=b)).map λ d=>addO (row.getD d.a none) (some (d.t:Int))))]) (q:=s1.length) (l:=(m.ds.filter λ d=>decide (d.l=x)&&decide (d.b=b)).map λ d=>addO (row.getD d.a none) (some (d.t:Int))) (by rw[aR (aw _)];simp) h
 simp -implicitDefEqProofs only[af9]
 simp -implicitDefEqProofs only[zT,ab5,ad8,ae3,ae4,ag6,ae2,af3,ab2,ac7,ac5,af7,qz,ad3,ad4,af4,ad1,ae5,ag5,ae9,af6,ae1,ag0,ac1,ag1,ag2,af1,af0,ac9,ac8,af8,ab9,ab8,aa6,aa8,ac0,ab6,aa9,ac4,ag4,ad7,ae0,ae7,R.bind_ok,zX,aa3,aa4,aa1,ad5,ad0,ab4,ab0,qA,zS,ak,am,aa2,qe,ac2,ab1,ab7,ab3,ac3,ac6,ad6,ae8,ae6,af5,ad9,af2,aa7,ad2,if_true,if_false,ag,decide_true,decide_false,au,ar,aK4 n,an8,ao1,if_pos (show(m.ds.map Dr.d).length<=LIM by rw[aF];unfold LIM;omega),show qb [some m.d,some (D.tup (zc row)),some (.str [x]),some (.int (b:Int))] [none,none,none,none,some 2,some 3,some 1]=[none,none,none,none,some (.str [x]),some (.int (b:Int)),some (D.tup (zc row))]from rfl,e1,bh5,el]
 exact ql (am4 _) (aq3 _)
theorem bJ7 {P:Pr}[Has P ai1][Has P ai9][Has P ah3][Has P ah4][Has P an9][Has P af9][Has P ap4](n:Nat){m:Mc}(hm:m.Ok){row:List (Option Int)}(hr:row.length=m.R)(k:Int)(x:Nat)(s:Sto) :
  (aa0 P (n+3)).call "led" [m.d,.int k,.tup (zc row),.str [x]] s=.ok (.tup (zc ((br7 m row x).map (cutO k)))) s:=by
 have B:(aa0 P (n+3)).call "led" [m.d,.int k,.tup (zc row),.str [x]] s=_:=ze ap4 (n:=n+2) rfl
 have F:=hm.R5
 rw[B,show(dA some [m.d,.int k,D.tup (zc row),.str [x]]++aC ap4.vs none)=[some m.d,some (.int k),some (D.tup (zc row)),some (.str [x])]from rfl]
 obtain⟨ρ1,s1,e1,rfl,_⟩:=aO4 (ok:=λ s1=>chk s s1 []) (g:=am5 (aa0 P (n+2)) (.one 0) (.call "cut" (.ex (.call "least_into" (.ex (.var 1) (.ex (.var 2) (.ex (.var 3) (.ex (.var 0) .nil))))) (.ex (.var 4) .nil)))) (λ ρ u=>u=s/\∃ y,ρ=[y,some m.d,some (D.tup (zc row)),some (.str [x]),some (.int k)]) (λ b=>qh (cutO k (bI9 m row x b))) m.R [none,some m.d,some (D.tup (zc row)),some (.str [x]),some (.int k)] s ⟨rfl,none,rfl⟩ (λ _ _ _=>rfl) (by
  rintro b hb ρ u ⟨rfl,y,rfl⟩
  refine⟨[some (.int b),some m.d,some (D.tup (zc row)),some (.str [x]),some (.int k)],u,?_,rfl,_,rfl⟩
  unfold am5
  simp -implicitDefEqProofs only[zT,ab5,ad8,ae3,ae4,ag6,ae2,af3,ab2,ac7,ac5,af7,qz,ad3,ad4,af4,ad1,ae5,ag5,ae9,af6,ae1,ag0,ac1,ag1,ag2,af1,af0,ac9,ac8,af8,ab9,ab8,aa6,aa8,ac0,ab6,aa9,ac4,ag4,ad7,ae0,ae7,R.bind_ok,zX,aa3,aa4,aa1,ad5,ad0,ab4,ab0,qA,zS,ak,am,aa2,qe,ac2,ab1,ab7,ab3,ac3,ac6,ad6,ae8,ae6,af5,ad9,af2,aa7,ad2,if_true,if_false,ag,decide_true,decide_false,au,ar,az7 (P:=P) n hm hr x b u,bO2 (P:=P) (n+1) (bI9 m row x b) k u])
 have h:((a7 m.R).map λ b=>qh (cutO k (bI9 m row x b)))=zc ((br7 m row x).map (cutO k)):=by unfold zc br7;rw[cf,cf];rfl
 rw[h]at e1
 simp -implicitDefEqProofs only[ap4]
 simp -implicitDefEqProofs only[zT,ab5,ad8,ae3,ae4,ag6,ae2,af3,ab2,ac7,ac5,af7,qz,ad3,ad4,af4,ad1,ae5,ag5,ae9,af6,ae1,ag0,ac1,ag1,ag2,af1,af0,ac9,ac8,af8,ab9,ab8,aa6,aa8,ac0,ab6,aa9,ac4,ag4,ad7,ae0,ae7,R.bind_ok,zX,aa3,aa4,aa1,ad5,ad0,ab4,ab0,qA,zS,ak,am,aa2,qe,ac2,ab1,ab7,ab3,ac3,ac6,ad6,ae8,ae6,af5,ad9,af2,aa7,ad2,if_true,if_false,ag,decide_true,decide_false,au,ar,as8 (n+1),aq2,qG (s:=s1) (i:=(m.R:Int)) (by unfold W62;omega) (by unfold W62;omega),if_pos (show(qC 0 (m.R:Int)).length<=LIM by rw[aP4];unfold LIM;omega),show qb [some m.d,some (.int k),some (D.tup (zc row)),some (.str [x])] [none,some 0,some 2,some 3,some 1]=[none,some m.d,some (D.tup (zc row)),some (.str [x]),some (.int k)]from rfl,e1,br5]
 exact qE aq0
theorem bY2 {m:Mc}(hm:m.Ok):m.en.length<=5:=by
 have B:=hm.R5
 have nd:m.en.Nodup:=hm.en.2.imp (λ h=>aJ h)
 have:=eO (l₂:=a7 m.R) nd (λ x hx=>cr.mpr (hm.en.1 x hx))
 simp at this;omega
theorem bd9 {P:Pr}[Has P ai1][Has P ah6][Has P ai0](n:Nat){m:Mc}(hm:m.Ok){row:List (Option Int)}(hr:row.length=m.R)(s:Sto) :
  (aa0 P (n+2)).call "end_of" [m.d,.tup (zc row)] s=.ok (qh (bq4 m row)) s:=by
 have B:(aa0 P (n+2)).call "end_of" [m.d,.tup (zc row)] s=_:=ze ai0 (n:=n+1) rfl
 have Y:=bY2 hm
 rw[B,show(dA some [m.d,D.tup (zc row)]++aC ai0.vs none)=[some m.d,some (D.tup (zc row))]from rfl]
 obtain⟨ρ1,s1,e1,rfl,_⟩:=aQ4 (ok:=λ s1=>chk s s1 []) (g:=am5 (aa0 P (n+1)) (.one 0) (.ix (.var 1) (.var 0))) (λ ρ u=>u=s/\∃ y,ρ=[y,some (D.tup (zc row))]) (λ d=>match d with|.int i=>qh (row.getD i.toNat none)|d=>d) (qQ m.en) [none,some (D.tup (zc row))] s ⟨rfl,none,rfl⟩ (λ _ _ _=>rfl) (by
  rintro d hd ρ u ⟨rfl,y,rfl⟩
  obtain⟨q,J,rfl⟩:=aW.mp hd
  refine⟨[some (.int q),some (D.tup (zc row))],u,?_,rfl,_,rfl⟩
  unfold am5
  simp -implicitDefEqProofs only[zT,ab5,ad8,ae3,ae4,ag6,ae2,af3,ab2,ac7,ac5,af7,qz,ad3,ad4,af4,ad1,ae5,ag5,ae9,af6,ae1,ag0,ac1,ag1,ag2,af1,af0,ac9,ac8,af8,ab9,ab8,aa6,aa8,ac0,ab6,aa9,ac4,ag4,ad7,ae0,ae7,R.bind_ok,zX,aa3,aa4,aa1,ad5,ad0,ab4,ab0,qA,zS,ak,am,aa2,qe,ac2,ab1,ab7,ab3,ac3,ac6,ad6,ae8,ae6,af5,ad9,af2,aa7,ad2,if_true,if_false,ag,decide_true,decide_false,au,ar,aZ5 (row:=row) (k:=q) (by rw[hr];exact hm.en.1 q J),bD])
 have F:(qQ m.en).map (λ d=>match d with|.int i=>qh (row.getD i.toNat none)|d=>d)=zc (m.en.map λ q=>row.getD q none):=by unfold qQ zc;rw[cf,cf];rfl
 rw[F]at e1
 have h:=aP6 (P:=P) n (s:=s1++[O.lst (zc (m.en.map λ q=>row.getD q none))]) (q:=s1.length) (l:=m.en.map λ q=>row.getD q none) (by rw[aR (aw _)];simp) (by rw[aF];omega)
 have G:minI ((m.en.map λ q=>row.getD q none).filterMap id)=bq4 m row:=by unfold bq4;rw[cj];rfl
 rw[G]at h
 simp -implicitDefEqProofs only[ai0]
 simp -implicitDefEqProofs only[zT,ab5,ad8,ae3,ae4,ag6,ae2,af3,ab2,ac7,ac5,af7,qz,ad3,ad4,af4,ad1,ae5,ag5,ae9,af6,ae1,ag0,ac1,ag1,ag2,af1,af0,ac9,ac8,af8,ab9,ab8,aa6,aa8,ac0,ab6,aa9,ac4,ag4,ad7,ae0,ae7,R.bind_ok,zX,aa3,aa4,aa1,ad5,ad0,ab4,ab0,qA,zS,ak,am,aa2,qe,ac2,ab1,ab7,ab3,ac3,ac6,ad6,ae8,ae6,af5,ad9,af2,aa7,ad2,if_true,if_false,ag,decide_true,decide_false,au,ar,aU9 n,an8,aq2,if_pos (show(qQ m.en).length<=LIM by unfold qQ;rw[aF];unfold LIM;omega),show qb [some m.d,some (D.tup (zc row))] [none,some 1]=[none,some (D.tup (zc row))]from rfl,e1,bh5,h]
 exact ql (am4 _) (aq3 _)
theorem bj1 {P:Pr}[Has P am0](n:Nat){m:Mc}(hm:m.Ok)(w:List Nat)(hw:w.length<=1000)(s:Sto):bs2 m w s ((aa0 P (n+1)).call "_law_price" [m.d,.str w] s):=by
 have e0:(aa0 P (n+1)).call "_law_price" [m.d,.str w] s=_:=ze am0 (n:=n) rfl
 rw[e0]
 have h5:=hm.R5
 simp -implicitDefEqProofs [am0,ixR]
 rw[qG (by unfold W62;omega) (by unfold W62;omega)]
 simp only[R.bind_ok]
 rw[if_pos (by simp[qC];unfold LIM;omega)]
 obtain⟨ρ1,s1,e1,T1,e4⟩:=zU (ok:=λ a0=>chk s a0 []) (g:=am5 (aa0 P n) (.one 0) (.ix (.lst (.cons (.cst .non) (.cons (.cst (.int 0)) .nil))) (.bi .int (.cons (.cmp .isin (.var 0) (.ix (.var 1) (.cst (.int 2)))) .nil)))) (λ ρ u=>∃ T,u=s++T/\∃ x,ρ=[x,some m.d])
  (λ d=>match d with|.int i=>some (qh (if i.toNat∈m.bg then some 0 else none))|_=>none) (qC 0 m.R) (qb [some m.d,some (.str w),none,none,none,none,none,none,none] [none,some 0]) s ⟨[],by simp,none,rfl⟩ (λ _ _ _=>rfl) (by
   rintro d hd ρ u ⟨T,rfl,x,rfl⟩
   obtain⟨j,hj⟩:=cO hd
   obtain⟨f4,rfl⟩:=qq hj
   rw[gI]
   have b4:=aA3 (s:=s++T++[.lst [.non,.int 0]]) (k:=j) (l:=m.bg)
   have hl:(s++T++[O.lst [.non,.int 0]])[(s++T).length]?=some (.lst [.non,.int 0]):=by simp
   by_cases hb:j∈m.bg
   ·have b1:ixM (.ref (s++T).length) (.int 1) (s++T++[O.lst [.non,.int 0]])=.ok (.int 0) _:=as0 (j:=1) hl rfl
    refine⟨[some (.int j),some m.d],s++T++[.lst [.non,.int 0]],?_,T++[.lst [.non,.int 0]],by simp,_,rfl⟩
    unfold am5
    simp -implicitDefEqProofs only[zX,ad0,ag0,ae1,aa6,ab8,ad3,ae0,ad7,R.bind_ok,aa7,ag1,ad1,qz,qA,zS,ixB,qv,b4,hb,decide_true,aZ2,if_true,b1,bD,qp]
   ·have b1:ixM (.ref (s++T).length) (.int 0) (s++T++[O.lst [.non,.int 0]])=.ok .non _:=as0 (j:=0) hl rfl
    refine⟨[some (.int j),some m.d],s++T++[.lst [.non,.int 0]],?_,T++[.lst [.non,.int 0]],by simp,_,rfl⟩
    unfold am5
    simp -implicitDefEqProofs only[zX,ad0,ag0,ae1,aa6,ab8,ad3,ae0,ad7,R.bind_ok,aa7,ag1,ad1,qz,qA,zS,ixB,qv,b4,hb,decide_false,aZ2,if_false,ag,b1,bD,qD])
 obtain⟨rfl,x1,rfl⟩:=e4
 have b3:(qC 0 (m.R:Int)).filterMap (λ d=>match d with|.int i=>some (qh (if i.toNat∈m.bg then some 0 else none))|_=>none)=zc ((a7 m.R).map λ k=>if k∈m.bg then some 0 else none):=by
  unfold qC zc
  rw[cj,cf,<-eD]
  simp only[jr,bD]
  refine zN λ k _=>?_
  simp only[kq,gI,bD]
 rw[b3]at e1
 rw[e1]
 simp -implicitDefEqProofs [mk]
 have sW:aA8 (.str w) (s++(T1++[O.lst (zc (dA (λ k=>if k∈m.bg then some 0 else none) (a7 m.R)))]))=.ok ⟨w.map λ c=>.str [c],[]⟩ _:=rfl
 rw[sW]
 simp only[R.bind_ok]
 refine qw (W:=bs2 m w s) (λ j ρ u=>∃(T:Sto) (k2:Nat) (row:List (Option Int)) (x3 x4 x5 x6 x7 x8:Option D),u=s++T/\s.length<=k2/\u[k2]?=some (.lst (zc row))/\row.length=m.R/\qS (am2 m (w.take j)) row/\ρ=[some m.d,some (.str w),some (.ref k2),x3,x4,x5,x6,x7,x8])
  ⟨_,s.length+T1.length,(a7 m.R).map (λ k=>if k∈m.bg then some 0 else none),_,_,_,_,_,_,rfl,by omega,by rw[<-bP,<-ax];simp,by simp,?_,rfl⟩ (λ _ _ _ _ _=>rfl) ?_ ?_
 ·intro k o hk
  rw[aN]at hk
  by_cases hkR:k<m.R
  ·rw[cB hkR]at hk
   cases hk
   show ai2 _ (if k∈m.bg then some 0 else none)
   by_cases hb:k∈m.bg
   ·rw[if_pos hb]
    exact⟨⟨k,hb,rfl,rfl⟩,by rintro c ⟨p,_,_,rfl⟩;omega⟩
   ·rw[if_neg hb]
    rintro c ⟨p,hp,rfl,_⟩;exact hb hp
  ·rw[bM (by simp;omega)]at hk;cases hk
 ·rintro j d ρ u hj ⟨T,k2,row,x3,x4,x5,x6,x7,x8,rfl,d1,g2,Y,a1,rfl⟩
  obtain⟨c,hc,rfl⟩:∃ c,w[j]?=some c/\d=.str [c]:=by
   rw[aN]at hj
   cases e:w[j]? with
   | none=>rw[e]at hj;cases hj
   | some c=>rw[e]at hj;cases hj;exact⟨c,rfl,rfl⟩
  have f2:k2<(s++T).length:=(ae.mp g2).1
  have sq:aA8 (.ref k2) (s++T)=.ok ⟨zc row,[k2]⟩ (s++T):=by simp only[aA8,g2]
  obtain⟨ρ2,s2,e2,b6,_⟩:=zU (ok:=λ a0=>chk (s++T) a0 [k2]) (g:=am5 (aa0 P n) (.one 0) (.cst .non)) (λ ρ u=>u=s++T/\∃ x,ρ=[x]) (λ _=>some .non) (zc row) (qb [some m.d,some (.str w),some (.ref k2),some (.str [c]),x4,x5,x6,x7,x8] [none]) (s++T) ⟨rfl,none,rfl⟩ (λ _ _ h=>by rw[h.1];simp[chk]) (by
   rintro d _ ρ u ⟨rfl,x,rfl⟩
   exact⟨[some d],s++T,by unfold am5;simp -implicitDefEqProofs,rfl,_,rfl⟩)
  subst b6
  have c1:(zc row).filterMap (λ _=>some D.non)=zc (row.map λ _=>none):=by
   unfold zc
   rw[cf,cj,<-eD]
   exact zN λ _ _=>rfl
  rw[c1]at e2
  have d3:(zc row).length<=LIM:=by rw[ap9,Y];unfold LIM;omega
  have sD:∀ S,aA8 (.tup (m.ds.map Dr.d)) S=.ok ⟨m.ds.map Dr.d,[]⟩ S:=λ _=>rfl
  conv=>arg 2;simp -implicitDefEqProofs [turn,sq,d3,e2,mk,ixD,sD]
  rw[<-bP,<-ax]
  have d2:(s++T++[O.lst (zc (row.map λ _=>none))])[(s++T).length]?=some (.lst (zc (row.map λ _=>none))):=by simp
  have b5:s.length<=(s++T).length:=by simp
  generalize f1:(s++T).length=k4 at *
  have c3:w.take j++[c]=w.take (j+1):=by
   have hlt:j<w.length:=(ae.mp hc).1
   have e:w[j]=c:=(ae.mp hc).2
   rw[<-e,f6]
  refine qw (W:=Nx _) (λ i ρ v=>∃(B:Sto) (th:List (Option Int)) (y5 y6 y7 y8:Option D),v=s++B/\v[k2]?=some (.lst (zc row))/\v[k4]?=some (.lst (zc th))/\th.length=m.R/\qS (au7 (am2 m (w.take j)) c (m.ds.take i)) th/\ρ=[some m.d,some (.str w),some (.ref k2),some (.str [c]),some (.ref k4),y5,y6,y7,y8])
   ⟨T++[.lst (zc (row.map λ _=>none))],row.map λ _=>none,_,_,_,_,by simp,zD g2,d2,by simp[Y],?_,rfl⟩ (λ _ _ _ _ _=>rfl) ?_ ?_
  ·intro k o hk
   rw[aN]at hk
   cases e:row[k]? with
   | none=>rw[e]at hk;cases hk
   | some _ =>
    rw[e]at hk;cases hk
    rintro c' ⟨d,hd,_⟩
    rw[List.take_zero]at hd;cases hd
  ·rintro i d ρ v hi ⟨B,th,y5,y6,y7,y8,rfl,a2,g4,G,J,rfl⟩
   obtain⟨x,hx,rfl⟩:∃ x,m.ds[i]?=some x/\d=x.d:=by
    rw[aN]at hi
    cases e:m.ds[i]? with
    | none=>rw[e]at hi;cases hi
    | some x=>rw[e]at hi;cases hi;exact⟨x,rfl,rfl⟩
   have hok:=hm.ds.1 x (aZ hx)
   have a3:m.ds.take (i+1)=m.ds.take i++[x]:=by
    have hlt:i<m.ds.length:=(ae.mp hx).1
    have e:m.ds[i]=x:=(ae.mp hx).2
    rw[<-e,f6]
   obtain⟨oa,ha⟩:∃ o,row[x.a]?=some o:=⟨row[x.a]'(by rw[Y];exact hok.a),aq _⟩
   obtain⟨ob,hb⟩:∃ o,th[x.b]?=some o:=⟨th[x.b]'(by rw[G];exact hok.b),aq _⟩
   have ia:ixM (.ref k2) (.int x.a) (s++B)=.ok (qh oa) (s++B):=as0 a2 (aA6 ha)
   have ib:ixM (.ref k4) (.int x.b) (s++B)=.ok (qh ob) (s++B):=as0 g4 (aA6 hb)
   have e5:k2≠k4:=by omega
   have c4:k4<(s++B).length:=(ae.mp g4).1
   have Z:x.d=.tup [.int x.a,.str [x.l],.int x.b,.int x.t]:=rfl
   have stay:qS (au7 (am2 m (w.take j)) c (m.ds.take (i+1))) th->∃(b2:Sto) (F:List (Option Int)) (z5 z6 z7 z8:Option D),s++B=s++b2/\(s++B)[k2]?=some (.lst (zc row))/\(s++B)[k4]?=some (.lst (zc F))/\F.length=m.R/\qS (au7 (am2 m (w.take j)) c (m.ds.take (i+1))) F/\[some m.d,some (.str w),some (.ref k2),some (.str [c]),some (.ref k4),some (.int x.a),some (.str [x.l]),some (.int x.b),some (.int x.t)]=[some m.d,some (.str w),some (.ref k2),some (.str [c]),some (.ref k4),z5,z6,z7,z8]:=λ h=>⟨B,th,_,_,_,_,rfl,a2,g4,G,h,rfl⟩
   by_cases hl:x.l=c
   ·cases oa with
    | none =>
     refine ap3 (ρ:=[some m.d,some (.str w),some (.ref k2),some (.str [c]),some (.ref k4),some (.int x.a),some (.str [x.l]),some (.int x.b),some (.int x.t)]) (s:=s++B) ?_ (stay ?_)
     ·simp -implicitDefEqProofs only[turn,Z,aa3,aa1,aa4,ad5,ad0,ak,am,zT,ab5,ae3,ae5,ad1,qz,qA,zS,R.bind_ok,ay1,hl,decide_true,ad2,if_true,ab9,ag0,ia,qD,au,if_false,ag,qe]
     ·rw[a3]
      refine aD4 J λ c' b0=>?_
      exact a1 x.a none ha c' b0.2
    | some y =>
     have a6:=bh3 J hl (a1 x.a (some y) ha) hb
     have a4:setIx (.ref k4) (.int x.b) (.int (y+x.t)) (s++B)=.ok () ((s++B).set k4 (.lst (zc (th.set x.b (some (y+x.t)))))):=by
      rw[bB6 g4 (by rw[ap9,G];exact hok.b)]
      unfold zc
      rw[List.map_set];rfl
     have a5:minO ob (some (y+x.t))=some (y+x.t)->∃(b2:Sto) (F:List (Option Int)) (z5 z6 z7 z8:Option D),(s++B).set k4 (.lst (zc (th.set x.b (some (y+x.t)))))=s++b2/\((s++B).set k4 (.lst (zc (th.set x.b (some (y+x.t))))))[k2]?=some (.lst (zc row))/\((s++B).set k4 (.lst (zc (th.set x.b (some (y+x.t))))))[k4]?=some (.lst (zc F))/\F.length=m.R/\qS (au7 (am2 m (w.take j)) c (m.ds.take (i+1))) F/\[some m.d,some (.str w),some (.ref k2),some (.str [c]),some (.ref k4),some (.int x.a),some (.str [x.l]),some (.int x.b),some (.int x.t)]=[some m.d,some (.str w),some (.ref k2),some (.str [c]),some (.ref k4),z5,z6,z7,z8]:=λ h =>
      ⟨_,th.set x.b (some (y+x.t)),_,_,_,_,bT7 b5,by rw[bh (cC e5)];exact a2,z9 c4,by simp[G],by rw[a3,<-h];exact a6,rfl⟩
     cases ob with
     | none =>
      refine ap3 (ρ:=[some m.d,some (.str w),some (.ref k2),some (.str [c]),some (.ref k4),some (.int x.a),some (.str [x.l]),some (.int x.b),some (.int x.t)]) (s:=(s++B).set k4 (.lst (zc (th.set x.b (some (y+x.t)))))) ?_ (a5 rfl)
      simp -implicitDefEqProofs [turn,Z,hl,ia,ib,a4]
     | some z =>
      by_cases hlt:y+x.t<z
      ·refine ap3 (ρ:=[some m.d,some (.str w),some (.ref k2),some (.str [c]),some (.ref k4),some (.int x.a),some (.str [x.l]),some (.int x.b),some (.int x.t)]) (s:=(s++B).set k4 (.lst (zc (th.set x.b (some (y+x.t)))))) ?_ (a5 (by show(if y+(x.t:Int)<z then _ else _)=_;rw[if_pos hlt]))
       simp -implicitDefEqProofs [turn,Z,hl,ia,ib,a4,hlt]
      ·refine ap3 (ρ:=[some m.d,some (.str w),some (.ref k2),some (.str [c]),some (.ref k4),some (.int x.a),some (.str [x.l]),some (.int x.b),some (.int x.t)]) (s:=s++B) ?_ (stay ?_)
       ·simp -implicitDefEqProofs [turn,Z,hl,ia,ib,hlt]
       ·rw[a3]
        have e:minO (some z) (some (y+(x.t:Int)))=some z:=by show(if y+(x.t:Int)<z then _ else _)=_;rw[if_neg hlt]
        rw[e]at a6
        have e2:th.set x.b (some z)=th:=by
         have f0:x.b<th.length:=(ae.mp hb).1
         have e3:th[x.b]=some z:=(ae.mp hb).2
         rw[<-e3,gZ]
        rwa [e2]at a6
   ·refine ap3 (ρ:=[some m.d,some (.str w),some (.ref k2),some (.str [c]),some (.ref k4),some (.int x.a),some (.str [x.l]),some (.int x.b),some (.int x.t)]) (s:=s++B) ?_ (stay ?_)
    ·simp -implicitDefEqProofs [turn,Z,hl]
    ·rw[a3]
     exact aD4 J λ c' b0=>hl b0.1
  ·rintro ρ v ⟨B,th,y5,y6,y7,y8,rfl,a2,g4,G,J,rfl⟩
   rw[aF,jI]at J
   refine ap3 (ρ:=[some m.d,some (.str w),some (.ref k4),some (.str [c]),some (.ref k4),y5,y6,y7,y8]) (s:=s++B) (by simp -implicitDefEqProofs) ⟨B,k4,th,_,_,_,_,_,_,rfl,b5,g4,G,?_,rfl⟩
   intro k o hk
   rw[<-c3]
   exact(J k o hk).congr λ c=>as4
 ·rintro ρ u ⟨T,k2,row,x3,x4,x5,x6,x7,x8,rfl,d1,g2,Y,a1,rfl⟩
  rw[aF,jI]at a1
  have sE:aA8 (.tup (qQ m.en)) (s++T)=.ok ⟨qQ m.en,[]⟩ (s++T):=rfl
  have f3:m.en.length<=5:=by
   have nd:m.en.Nodup:=hm.en.2.imp (λ h=>aJ h)
   have:=eO (l₂:=a7 m.R) nd (λ x hx=>cr.mpr (hm.en.1 x hx))
   simp at this;omega
  obtain⟨ρ3,s3,e3,c2,_⟩:=zU (ok:=λ a0=>chk (s++T) a0 []) (g:=ax5 (aa0 P n) (.one 0) (.notN (.ix (.var 1) (.var 0))) (.ix (.var 1) (.var 0))) (λ ρ u=>u=s++T/\∃ x,ρ=[x,some (.ref k2)]) (λ d=>match d with|.int i=>(row.getD i.toNat none).map D.int|_=>none) (qQ m.en) (qb [some m.d,some (.str w),some (.ref k2),x3,x4,x5,x6,x7,x8] [none,some 2]) (s++T) ⟨rfl,none,rfl⟩ (λ _ _ h=>rfl) (by
   rintro d hd ρ u ⟨rfl,x,rfl⟩
   obtain⟨q,hq,rfl⟩:=aW.mp hd
   have hlt:q<row.length:=by rw[Y];exact hm.en.1 q hq
   have ix:=as0 (s:=s++T) g2 (aA6 (aq hlt))
   refine⟨[some (.int q),some (.ref k2)],s++T,?_,rfl,_,rfl⟩
   have hg:row.getD ((q:Int).toNat) none=row[q]:=by simp[iA,hlt]
   unfold ax5
   simp only[hg]
   cases e:row[q]with
   | none=>rw[e]at ix;simp -implicitDefEqProofs [ix]
   | some y=>rw[e]at ix;simp -implicitDefEqProofs [ix])
  subst c2
  have c0:(qQ m.en).filterMap (λ d=>match d with|.int i=>(row.getD i.toNat none).map D.int|_=>none)=(m.en.filterMap λ q=>row.getD q none).map D.int:=by
   unfold qQ
   rw[cj,List.map_filterMap]
   exact zN λ q _=>rfl
  rw[c0]at e3
  refine⟨_,aB2 Y hm.en.1 a1,?_⟩
  have d0:(qQ m.en).length<=LIM:=by unfold qQ;rw[aF];unfold LIM;omega
  simp -implicitDefEqProofs [ixE,sE,d0,e3,aZ6]
  exact ql (am4 _) (aq3 _)
section
variable {ρ:Type}
variable (f:ρ->Nat->ρ) (ls:List Nat)
end
def Sr (row:List (Option Int))(k:Nat)(c:Int):Prop:=row.getD k none=some c
theorem aT3 (m:Mc)(row:List (Option Int))(x b:Nat):ai2 (au7 (Sr row) x m.ds b) (bI9 m row x b):=by
 refine(qM _).congr λ c=>?_
 simp only[bR,id_eq,exists_eq_right,aW,eX,aj,decide_eq_true_eq]
 constructor
 ·rintro⟨d,⟨hd,hl,hb⟩,e⟩
  cases hr:row.getD d.a none with
  | none=>rw[hr]at e;cases e
  | some i =>
   rw[hr]at e
   cases e
   exact⟨d,hd,hl,hb,i,hr,rfl⟩
 ·rintro⟨d,hd,hl,hb,i,hr,rfl⟩
  exact⟨d,⟨hd,hl,hb⟩,by rw[show row.getD d.a none=some i from hr];rfl⟩
theorem cm6 {s:Sto}{a b:Nat}{l m:List D}(F:s[a]?=some (.lst l))(B:s[b]?=some (.lst m))(h:l.length+m.length<=LIM):ao3 .add (.ref a) (.ref b) s=.ok (.ref s.length) (s++[.lst (l++m)]):=by
 show(match s[a]?,s[b]? with|some (.lst l),some (.lst m)=>(if l.length+m.length<=LIM then aj2 (.lst (l++m)) s else .bad)|_,_=>.bad:R D)=_
 rw[F,B]
 exact if_pos h
theorem bO9 {s:Sto}{o:O}:(s++[o])[s.length]?=some o:=by rw[aR (aw _)];simp
noncomputable def an1 (L:Nat):List Nat:=(a7 L).map (97+·)
theorem bU5:∀ {L:Nat},L<=3->aY9.take L=sg (an1 L)
 | 0,_=>rfl
 | 1,_=>rfl
 | 2,_=>rfl
 | 3,_=>rfl
 | n+4,h=>by omega
theorem bm7:∀ {a b:Option Int},qh a=qh b->a=b
 | none,none,_=>rfl
 | none,some _,h=>by cases h
 | some _,none,h=>by cases h
 | some a,some b,h=>by cases h;rfl
theorem aQ9:∀ {a b:List (Option Int)},zc a=zc b->a=b
 | [],[],_=>rfl
 | [],_::_,h=>by cases h
 | _::_,[],h=>by cases h
 | x::a,y::b,h=>by
  have h:qh x::zc a=qh y::zc b:=h
  injection h with h1 h2
  rw[bm7 h1,aQ9 h2]
theorem bo8 {row:List (Option Int)}(B:1<=row.length)(h:row.length<=1000):(D.tup (zc row)).keyS=true:=by
 show(D.hdI (zc row)&&((zc row).all D.keyF&&decide ((zc row).length<=1000)))=true
 rw[aj,aj]
 refine⟨?_,?_,by rw[ap9];exact decide_eq_true h⟩
 ·cases row with
  | nil=>cases B
  | cons o r=>cases o<;>rfl
 ·rw[aU]
  intro d hd
  obtain⟨o,_,rfl⟩:=aW.mp hd
  cases o<;>rfl
theorem bm8 (m:Mc)(row:List (Option Int))(x:Nat):(br7 m row x).length=m.R:=by unfold br7;simp
class HasX (P:Pr)(f:String)(d:Xf):Prop where
 at_:P.xf f=some d
class HasT (P:Pr)(f:String)(d:Tf):Prop where
 no:P.df f=none
 at_:P.tf f=some d
class HasE (P:Pr)(c:String)(ts:List String):Prop where
 at_:P.xc c=true
 ts:∀ t∈ts,P.xt t=true
theorem as5 {P:Pr}{f:String}(d:Xf)[h:HasX P f d]{n:Nat}{l:List D}{s:Sto}(hl:l.length=d.ps):(aa0 P (n+1)).xcall f l s=xB (aa0 P n) d.body (l.map some++aC d.vs none) s:=by
 show(match P.xf f with|some d=>if l.length=d.ps then xB (aa0 P n) d.body (l.map some++aC d.vs none) s else none|none=>none)=_
 rw[h.at_]
 exact if_pos hl
theorem bG4 {P:Pr}{f:String}(d:Tf)[h:HasT P f d]{n:Nat}{l:List D}{s:Sto}(hl:l.length=d.ps):(aa0 P (n+1)).call f l s=bj4 (aa0 P n) d l s:=by
 have e:(aa0 P (n+1)).call f l s=match P.df f with
   | some d=>if l.length=d.ps then(exs (aa0 P n) d.body (l.map some++aC d.vs none) s).bind λ c s'=>match c with
     | .ret v=>zo s v s'
     | .next _=>zo s .non s'
     | _=>.bad else .bad
   | none=>match P.tf f with
    | some d=>if l.length=d.ps then bj4 (aa0 P n) d l s else .bad
    | none=>.bad:=rfl
 rw[e,h.no]
 show(match P.tf f with|some d=>if l.length=d.ps then bj4 (aa0 P n) d l s else .bad|none=>.bad)=_
 rw[h.at_]
 exact if_pos hl
theorem bo4 {F:Fns}{d:Tf}{l:List D}{s s0:Sto}{ρ0:Env}(h:exs F d.pre (l.map some++aC d.vs none) s=.ok (.next ρ0) s0):bj4 F d l s=aB8 F d s ρ0 s0:=by
 unfold bj4
 rw[h]
theorem bP4 {P:Pr}{n:Nat}:(aa0 P n).xc=P.xc/\(aa0 P n).xt=P.xt:=by cases n<;>exact⟨rfl,rfl⟩
noncomputable abbrev Rw:=List (Option Int)
inductive Bres where
 | more (M:List (List Nat×Rw))|stop (M:List (List Nat×Rw))|over
section
variable (f:Rw->Nat->Rw) (ab:Rw->Bool)
open Classical in
noncomputable def inn (e:List Nat×Rw):List Nat->List (List Nat×Rw)->Bres
 | [],M=>.more M
 | x::ls,M=>if f e.2 x∈M.map (·.2)then inn e ls M else if M.length=300 then .over else if ab (f e.2 x)=true then .stop (M++[(e.1++[x],f e.2 x)])else inn e ls (M++[(e.1++[x],f e.2 x)])
noncomputable def bfs (ls:List Nat):Nat->Nat->List (List Nat×Rw)->Bres
 | 0,_,M=>.more M
 | n+1,at_,M=>match M[at_]? with
  | none=>.more M
  | some e=>match inn f ab e ls M with
   | .more M'=>bfs ls n (at_+1) M'
   | .stop M'=>.stop M'
   | .over=>.over
end
structure MOk (f:Rw->Nat->Rw)(ab:Rw->Bool)(R:Nat)(r0:Rw)(at_:Nat)(M:List (List Nat×Rw)):Prop where
 len:M.length<=300
 pos:1<=M.length
 hat:at_<=M.length
 sh:∀ e∈M,e.2.length=R
 fold:∀ e∈M,e.2=e.1.foldl f r0
 wl:∀ e∈M,e.1.length<=at_
section
variable {f:Rw->Nat->Rw} {ab:Rw->Bool} {R:Nat} {r0:Rw}
theorem MOk.snoc {k:Nat}{M:List (List Nat×Rw)}{e:List Nat×Rw}{x:Nat}(B:∀ r x,(f r x).length=R)(h:MOk f ab R r0 k M)(he:e∈M)(hk:e.1.length+1<=k)(hl:M.length≠300):MOk f ab R r0 k (M++[(e.1++[x],f e.2 x)]):=by
 refine⟨by rw[ax];have:=h.len;show M.length+1<=300;omega,by rw[ax];show 1<=M.length+1;omega,by rw[ax];have:=h.hat;omega,λ d hd=>?_,λ d hd=>?_,λ d hd=>?_⟩
 ·rcases aS.mp hd with z|z
  ·exact h.sh d z
  ·rw[ay.mp z];exact B _ _
 ·rcases aS.mp hd with z|z
  ·exact h.fold d z
  ·rw[ay.mp z]
   show f e.2 x=(e.1++[x]).foldl f r0
   rw[eB,<-h.fold e he];rfl
 ·rcases aS.mp hd with z|z
  ·exact h.wl d z
  ·rw[ay.mp z]
   show(e.1++[x]).length<=k
   rw[ax];exact hk
end
theorem aC0 {S:Int->Prop}{o:Option Int}(h:ai2 S o)(k:Int):ai2 (λ c=>∃ B,S B/\c=min B k) (o.map (min · k)):=by
 cases o with
 | none=>rintro c ⟨B,h',_⟩;exact h B h'
 | some a=>exact⟨⟨a,h.1,rfl⟩,by rintro c ⟨B,h',rfl⟩;have:=h.2 B h';show min a k<=min B k;omega⟩
theorem bz4 (k:Int)(o:Option Int):cutO k o=o.map (min · (k+1)):=by
 cases o with
 | none=>rfl
 | some c =>
  show(if c<=k then some c else some (k+1))=some (min c (k+1))
  split<;>congr 1<;>omega
noncomputable def zH (m:Mc)(k:Int)(r:Rw)(x:Nat):Rw:=(br7 m r x).map (cutO k)
theorem qa (m:Mc)(k:Int)(r:Rw)(x:Nat):(zH m k r x).length=m.R:=by unfold zH;rw[aF];exact bm8 ..
noncomputable def zl (m:Mc)(k:Int)(r:Rw):Bool:=decide (bq4 m r=some (k+1))
noncomputable def MtD (l:List (List Nat×Rw)):List D:=l.map λ e=>.tup [.str e.1,.tup (zc e.2)]
noncomputable def Sn (K:List Rw):List (D×D):=K.map λ r=>(.tup (zc r),.bl true)
theorem bb8 {r:Rw}{R:Nat}(F:1<=R)(B:R<=5)(h:r.length=R):(D.tup (zc r)).keyT=true:=by
 have k1:=bo8 (row:=r) (by omega) (by omega)
 have:∀ l:List D,(D.tup l).keyS=true->(∀ d∈l,∀ m,d≠.tup m)->(D.tup l).keyT=true:=λ l h hn=>by
  have h:(D.hdI l&&(l.all D.keyF&&decide (l.length<=1000)))=true:=h
  show(D.hdI l&&(l.all D.keyS&&decide (l.length<=1000)))=true
  rw[aj,aj]at h ⊢
  refine⟨h.1,?_,h.2.2⟩
  rw[aU]at h ⊢
  intro d hd
  have:=h.2.1 d hd
  cases d with
  | tup m=>exact absurd rfl (hn _ hd m)
  | _=>exact this
 refine this _ k1 λ d hd m e=>?_
 obtain⟨o,_,rfl⟩:=aW.mp hd
 cases o<;>cases e
theorem bp5 {a b:Rw}(h:D.tup (zc a)=D.tup (zc b)):a=b:=by injection h with h;exact aQ9 h
theorem aL0 (r:Rw):∀ K:List Rw,(look (.tup (zc r)) (Sn K)).isSome=decide (r∈K)
 | []=>by simp[Sn,look]
 | a::K=>by
  have B:=aL0 r K
  show(if D.tup (zc a)=.tup (zc r)then some (D.bl true)else look (.tup (zc r)) (Sn K)).isSome=_
  by_cases h:a=r
  ·subst h;rw[if_pos rfl];simp
  ·rw[if_neg (λ z=>h (bp5 z)),B]
   simp[cC h,h,eq_comm]
theorem bQ5 {r:Rw}{K:List Rw}(h:r ∉ K):aw9 (.tup (zc r)) (.bl true) (Sn K)=Sn (K++[r]):=by
 unfold aw9
 rw[aL0,decide_eq_false h,if_neg (by nofun)]
 unfold Sn
 rw[cz];rfl
theorem cc1 {r:Rw}{R:Nat}(F:1<=R)(B:R<=5)(h:r.length=R){s:Sto}{q:Nat}{K:List Rw}(g:s[q]?=some (.dit (Sn K))):inM (.tup (zc r)) (.ref q) s=.ok (decide (r∈K)) s:=by
 unfold inM
 simp only[g,bb8 F B h,if_true,aL0]
theorem bK5 {r:Rw}{R:Nat}(F:1<=R)(B:R<=5)(h:r.length=R){s:Sto}{q:Nat}{K:List Rw}(g:s[q]?=some (.dit (Sn K)))(hn:r ∉ K)(hl:K.length<LIM):setIx (.ref q) (.tup (zc r)) (.bl true) s=.ok () (s.set q (.dit (Sn (K++[r])))):=by
 unfold setIx
 simp only[g,bb8 F B h,show(Sn K).length<LIM by unfold Sn;rw[aF];exact hl,decide_true,Bool.and_self,if_true,bQ5 hn]
theorem bS2 {L:List (List Nat×Rw)}{j:Nat}{e:List Nat×Rw}(h:L[j]?=some e):(MtD L)[j]?=some (.tup [.str e.1,.tup (zc e.2)]):=by unfold MtD;rw[aN,h];rfl
theorem bt8 {l:List (List Nat×Rw)}{n:Nat}:(O.lst (MtD l)).bnd n=true:=by
 unfold O.bnd
 refine zA (λ d hd n=>?_) n
 obtain⟨e,_,rfl⟩:=aW.mp hd
 unfold D.bnd
 refine zA (λ d hd n=>?_) n
 rcases aI.mp hd with rfl|hd
 ·rfl
 ·rcases aI.mp hd with rfl|hd
  ·unfold D.bnd;exact zA aq0 n
  ·cases hd
theorem bQ1 {K:List Rw}{n:Nat}:(O.dit (Sn K)).bnd n=true:=by
 unfold O.bnd
 rw[aj]
 constructor
 ·refine zA (λ d hd n=>?_) n
  unfold Sn at hd
  rw[cf]at hd
  obtain⟨e,_,rfl⟩:=aW.mp hd
  show D.bnd n (.tup (zc e))=true
  unfold D.bnd;exact zA aq0 n
 ·refine zA (λ d hd n=>?_) n
  unfold Sn at hd
  rw[cf]at hd
  obtain⟨e,_,rfl⟩:=aW.mp hd
  rfl
theorem aR3 (s:Sto){p q:Nat}{a b:O}(ha:a.bnd s.length=true)(hb:b.bnd s.length=true):ar0 s ((s.set p a).set q b)=true:=by
 unfold ar0
 rw[aU]
 intro i h
 have h:=cr.mp h
 rw[bS]
 by_cases h1:q=i
 ·subst h1
  right
  rw[a9 (by simpa using h)]
  exact hb
 ·rw[bh h1]
  by_cases h2:p=i
  ·subst h2
   right
   rw[a9 h]
   exact ha
  ·left
   rw[bh h2]
   simp
theorem aT7 {s:Sto}{p q:Nat}{a b:O}(ha:a.bnd s.length=true)(hb:b.bnd s.length=true):zo s .non ((s.set p a).set q b)=.ok .non ((s.set p a).set q b):=by
 unfold zo
 rw[aR3 s ha hb,if_pos rfl]
 have:((s.set p a).set q b).take s.length=(s.set p a).set q b:=ee (by simp)
 simp only[this]
 rfl
theorem am1 {ok:Sto->Bool}{g:D->Env->Sto->R Ct}{d:D}{l:List D}{ρ:Env}{s:Sto}(h:ok s=true):at8 ok g (d::l) ρ s=(g d ρ s).bind λ c s=>match c with
  | .next ρ=>at8 ok g l ρ s
  | .cont ρ=>at8 ok g l ρ s
  | .brk ρ=>.ok (.next ρ) s
  | .ret d=>.ok (.ret d) s:=by
 show(if ok s then _ else _)=_
 rw[if_pos h]<;>rfl
theorem bB2 (o:Option Int)(i:Int)(s:Sto):qB .eq (qh o) (.int i) s=.ok (.bl (decide (o=some i))) s:=by
 cases o with
 | none=>rfl
 | some j =>
  rw[qp,ad9]
  simp
theorem qt {P:Pr}[Has P ai1][Has P ah6][Has P ai0][Has P ag7](n:Nat){m:Mc}(hm:m.Ok){r:Rw}(hr:r.length=m.R)(k:Int)(s:Sto) :
  (aa0 P (n+3)).call "ends_above" [m.d,.int k,.tup (zc r)] s=.ok (.bl (zl m k r)) s:=by
 have h:(aa0 P (n+3)).call "ends_above" [m.d,.int k,.tup (zc r)] s=_:=ze ag7 (n:=n+2) rfl
 rw[h,show(dA some [m.d,.int k,D.tup (zc r)]++aC ag7.vs none)=[some m.d,some (.int k),some (D.tup (zc r))]from rfl]
 simp -implicitDefEqProofs only[ag7]
 simp -implicitDefEqProofs only[zT,ab5,ad8,ae3,ae4,ag6,ae2,af3,ab2,ac7,ac5,af7,qz,ad3,ad4,af4,ad1,ae5,ag5,ae9,af6,ae1,ag0,ac1,ag1,ag2,af1,af0,ac9,ac8,af8,ab9,ab8,aa6,aa8,ac0,ab6,aa9,ac4,ag4,ad7,ae0,ae7,R.bind_ok,zX,aa3,aa4,aa1,ad5,ad0,ab4,ab0,qA,zS,ak,am,aa2,qe,ac2,ab1,ab7,ab3,ac3,ac6,ad6,ae8,ae6,af5,ad9,af2,aa7,ad2,if_true,if_false,ag,decide_true,decide_false,au,ar,bd9 (P:=P) n hm hr s,bB2]
 exact bn6
theorem aG4 {F:Fns}{st:S}{b:XB}{ρ ρ1:Env}{s s1:Sto}(h:ex F st ρ s=.ok (.next ρ1) s1):xB F (.seq st b) ρ s=xB F b ρ1 s1:=by
 show(match ex F st ρ s with|.ok (.next ρ1) s1=>xB F b ρ1 s1|_=>none)=_
 rw[h]
theorem bv2 {F:Fns}{c:E}{a r:XB}{ρ:Env}{s s1:Sto}{b:Bool}(h:ev F c ρ s=.ok (.bl b) s1):xB F (.iteT c a r) ρ s=if b=true then xB F a ρ s1 else xB F r ρ s1:=by
 show(match ev F c ρ s with|.ok (.bl b) s1=>if b then xB F a ρ s1 else xB F r ρ s1|_=>none)=_
 rw[h]
theorem bz9 {F:Fns}{c:String}{ρ:Env}{s:Sto}(h:F.xc c=true):xB F (.rais c) ρ s=some (c,s):=by
 show(if F.xc c=true then some (c,s)else none)=_
 rw[if_pos h]
theorem aI2 {F:Fns}{f:String}{B:As}{ρ:Env}{s s1:Sto}{l:List D}(h:am6 F B ρ s=.ok l s1):xB F (.call f B) ρ s=F.xcall f l s1:=by
 show(match am6 F B ρ s with|.ok l s1=>F.xcall f l s1|_=>none)=_
 rw[h]
noncomputable def enD (e:List Nat×Rw):D:=.tup [.str e.1,.tup (zc e.2)]
theorem cb7 (e:List Nat×Rw)(s:Sto):ixM (enD e) (.int 0) s=.ok (.str e.1) s:=aK0 0 rfl
theorem bq5 (e:List Nat×Rw)(s:Sto):ixM (enD e) (.int 1) s=.ok (.tup (zc e.2)) s:=aK0 1 rfl
noncomputable def StM (s:Sto)(p q:Nat)(M:List (List Nat×Rw)):Sto:=(s.set p (.lst (MtD M))).set q (.dit (Sn (M.map (·.2))))
theorem bG6 {s:Sto}{p q:Nat}{M:List (List Nat×Rw)}(hp:p<s.length)(h:p≠q):(StM s p q M)[p]?=some (.lst (MtD M)):=by
 unfold StM;rw[bh (cC h)];exact z9 hp
theorem cf9 {s:Sto}{p q:Nat}{M:List (List Nat×Rw)}(h:q<s.length):(StM s p q M)[q]?=some (.dit (Sn (M.map (·.2)))):=by
 unfold StM;exact z9 (by simpa using h)
noncomputable def zw:Ss:=(.cons (.asg (.one 6) (.call "led" (.ex (.var 0) (.ex (.var 1) (.ex (.ix (.var 2) (.cst (.int 1))) (.ex (.var 5) .nil)))))) (.cons (.ite (.cmp .isin (.var 6) (.var 4)) (.cons .cont .nil) .nil) (.cons (.ite (.cmp .eq (.bi .len (.cons (.var 3) .nil)) (.glob "MOST_ROWS")) (.cons .raise .nil) .nil) (.cons (.setIx (.var 4) (.var 6) (.cst (.bl true))) (.cons (.ex (.meth .append (.var 3) (.cons (.tup (.cons (.bin .add (.ix (.var 2) (.cst (.int 0))) (.var 5)) (.cons (.var 6) .nil))) .nil))) (.cons (.ite (.call "ends_above" (.ex (.var 0) (.ex (.var 1) (.ex (.var 6) .nil)))) (.cons .retN .nil) .nil) .nil))))))
noncomputable def mbX:XB:=(.seq (.asg (.one 6) (.call "led" (.ex (.var 0) (.ex (.var 1) (.ex (.ix (.var 2) (.cst (.int 1))) (.ex (.var 5) .nil)))))) (.iteT (.cmp .isin (.var 6) (.var 4)) .no (.iteT (.cmp .eq (.bi .len (.cons (.var 3) .nil)) (.glob "MOST_ROWS")) (.rais "TooMuch") .no)))
noncomputable def ah0:Xf:=⟨5,2,.forX (.one 5) (.seq (.call "letters_of" (.ex (.var 0) .nil))) zw mbX⟩
section
variable {P:Pr} [Has P ai1] [Has P ai9] [Has P ah3] [Has P ah4] [Has P ah6] [Has P an9] [Has P af9] [Has P ap4] [Has P ai0] [Has P ah1] [HasC P "LETTERS" (.tup aY9)] [HasC P "MOST_ROWS" (.int 300)] [Has P ag7] [Has P ag3]
theorem by3 [HasE P "TooMuch" []](n:Nat){m:Mc}(hm:m.Ok){k:Int}{e:List Nat×Rw}(he:e.2.length=m.R)(hw:e.1.length<=1000){s:Sto}{p q:Nat}(hp:p<s.length)(hq:q<s.length)(G:p≠q):∀(F:List Nat) (M:List (List Nat×Rw)) (J B:Option D),M.length<=300->(∀ d∈M,d.2.length=m.R) ->
  (match inn (zH m k) (zl m k) e F M with
  | .more M'=>∃ z5 z6,at8 (λ u=>chk s u []) (turn (aa0 P (n+3)) (.one 5) zw) (sg F) [some m.d,some (.int k),some (enD e),some (.ref p),some (.ref q),J,B] (StM s p q M)=.ok (.next [some m.d,some (.int k),some (enD e),some (.ref p),some (.ref q),z5,z6]) (StM s p q M')
  | .stop M'=>at8 (λ u=>chk s u []) (turn (aa0 P (n+3)) (.one 5) zw) (sg F) [some m.d,some (.int k),some (enD e),some (.ref p),some (.ref q),J,B] (StM s p q M)=.ok (.ret .non) (StM s p q M')
  | .over=>at8 (λ u=>chk s u []) (turn (aa0 P (n+3)) (.one 5) zw) (sg F) [some m.d,some (.int k),some (enD e),some (.ref p),some (.ref q),J,B] (StM s p q M)=.bad /\
   ∃ M',al8 (λ u=>chk s u []) (λ d ρ s=>match zP ρ (.one 5) d with
    | some ρ=>exs (aa0 P (n+3)) zw ρ s
    | none=>.bad) (λ d ρ s=>match zP ρ (.one 5) d with
    | some ρ=>xB (aa0 P (n+3)) mbX ρ s
    | none=>none) (sg F) [some m.d,some (.int k),some (enD e),some (.ref p),some (.ref q),J,B] (StM s p q M)=some ("TooMuch",StM s p q M'))
 | [],M,J,B,_,_=>by
  unfold inn
  exact⟨J,B,rfl⟩
 | x::F,M,J,B,hM,hs=>by
  unfold inn
  have a6:=hm.R1
  have a5:=hm.R5
  have gp:=bG6 (s:=s) (p:=p) (q:=q) (M:=M) hp G
  have gq:=cf9 (s:=s) (p:=p) (q:=q) (M:=M) hq
  have hl:=bJ7 (P:=P) n hm he k x (StM s p q M)
  rw[show(br7 m e.2 x).map (cutO k)=zH m k e.2 x from rfl]at hl
  have a0:=cc1 a6 a5 (qa m k e.2 x) gq
  have h:bi .len [.ref p] (StM s p q M)=.ok (.int (M.length:Int)) (StM s p q M):=by rw[bb0 gp,show(MtD M).length=M.length from aF ..]
  have a2:∀ ρ S,ev (aa0 P (n+3)) (.glob "MOST_ROWS") ρ S=.ok (.int 300) S:=λ ρ S=>be8
  have a3:sg (x::F)=.str [x]::sg F:=rfl
  have ft:∀(ρ:Env) (S:Sto),turn (aa0 P (n+3)) (.one 5) zw (.str [x]) ρ S=match zP ρ (.one 5) (.str [x])with
    | some ρ=>exs (aa0 P (n+3)) zw ρ S
    | none=>.bad:=λ _ _=>rfl
  have fx:∀ {ρ:Env} {S:Sto},al8 (λ u=>chk s u []) (λ d ρ s=>match zP ρ (.one 5) d with
    | some ρ=>exs (aa0 P (n+3)) zw ρ s
    | none=>.bad) (λ d ρ s=>match zP ρ (.one 5) d with
    | some ρ=>xB (aa0 P (n+3)) mbX ρ s
    | none=>none) (.str [x]::sg F) ρ S=match turn (aa0 P (n+3)) (.one 5) zw (.str [x]) ρ S with
     | .ok (.next ρ1) s1=>al8 (λ u=>chk s u []) (λ d ρ s=>match zP ρ (.one 5) d with
      | some ρ=>exs (aa0 P (n+3)) zw ρ s
      | none=>.bad) (λ d ρ s=>match zP ρ (.one 5) d with
      | some ρ=>xB (aa0 P (n+3)) mbX ρ s
      | none=>none) (sg F) ρ1 s1
     | .ok (.cont ρ1) s1=>al8 (λ u=>chk s u []) (λ d ρ s=>match zP ρ (.one 5) d with
      | some ρ=>exs (aa0 P (n+3)) zw ρ s
      | none=>.bad) (λ d ρ s=>match zP ρ (.one 5) d with
      | some ρ=>xB (aa0 P (n+3)) mbX ρ s
      | none=>none) (sg F) ρ1 s1
     | .ok _ _=>none
     | _=>match zP ρ (.one 5) (.str [x])with
      | some ρ=>xB (aa0 P (n+3)) mbX ρ S
      | none=>none:=λ {ρ S}=>rfl
  by_cases hm1:zH m k e.2 x∈M.map (·.2)
  ·rw[if_pos hm1]
   have et:turn (aa0 P (n+3)) (.one 5) zw (.str [x]) [some m.d,some (.int k),some (enD e),some (.ref p),some (.ref q),J,B] (StM s p q M)=.ok (.cont [some m.d,some (.int k),some (enD e),some (.ref p),some (.ref q),some (.str [x]),some (.tup (zc (zH m k e.2 x)))]) (StM s p q M):=by
    simp -implicitDefEqProofs only[zw]
    simp -implicitDefEqProofs only[zT,ab5,ad8,ae3,ae4,ag6,ae2,af3,ab2,ac7,ac5,af7,qz,ad3,ad4,af4,ad1,ae5,ag5,ae9,af6,ae1,ag0,ac1,ag1,ag2,af1,af0,ac9,ac8,af8,ab9,ab8,aa6,aa8,ac0,ab6,aa9,ac4,ag4,ad7,ae0,ae7,R.bind_ok,zX,aa3,aa4,aa1,ad5,ad0,ab4,ab0,qA,zS,ak,am,aa2,qe,ac2,ab1,ab7,ab3,ac3,ac6,ad6,ae8,ae6,af5,ad9,af2,aa7,ad2,if_true,if_false,ag,decide_true,decide_false,au,ar,turn,bq5,hl,qv,a0,hm1]
   have ih:=by3 n hm (k:=k) he hw hp hq G F M (some (.str [x])) (some (.tup (zc (zH m k e.2 x)))) hM hs
   rw[a3,am1 (ok:=λ u=>chk s u []) rfl,fx,et]
   exact ih
  ·rw[if_neg hm1]
   by_cases h300:M.length=300
   ·rw[if_pos h300]
    have et:turn (aa0 P (n+3)) (.one 5) zw (.str [x]) [some m.d,some (.int k),some (enD e),some (.ref p),some (.ref q),J,B] (StM s p q M)=.bad:=by
     simp -implicitDefEqProofs only[zw]
     simp -implicitDefEqProofs only[zT,ab5,ad8,ae3,ae4,ag6,ae2,af3,ab2,ac7,ac5,af7,qz,ad3,ad4,af4,ad1,ae5,ag5,ae9,af6,ae1,ag0,ac1,ag1,ag2,af1,af0,ac9,ac8,af8,ab9,ab8,aa6,aa8,ac0,ab6,aa9,ac4,ag4,ad7,ae0,ae7,R.bind_ok,zX,aa3,aa4,aa1,ad5,ad0,ab4,ab0,qA,zS,ak,am,aa2,qe,ac2,ab1,ab7,ab3,ac3,ac6,ad6,ae8,ae6,af5,ad9,af2,aa7,ad2,if_true,if_false,ag,decide_true,decide_false,au,ar,turn,bq5,hl,qv,a0,hm1,h,a2,show((M.length:Int)=300)=True from eq_true (by omega)]
     rfl
    rw[a3,am1 (ok:=λ u=>chk s u []) rfl,fx,et]
    refine⟨rfl,M,?_⟩
    show xB (aa0 P (n+3)) mbX [some m.d,some (.int k),some (enD e),some (.ref p),some (.ref q),some (.str [x]),B] (StM s p q M)=_
    have xa:ex (aa0 P (n+3)) (.asg (.one 6) (.call "led" (.ex (.var 0) (.ex (.var 1) (.ex (.ix (.var 2) (.cst (.int 1))) (.ex (.var 5) .nil)))))) [some m.d,some (.int k),some (enD e),some (.ref p),some (.ref q),some (.str [x]),B] (StM s p q M)=.ok (.next [some m.d,some (.int k),some (enD e),some (.ref p),some (.ref q),some (.str [x]),some (.tup (zc (zH m k e.2 x)))]) (StM s p q M):=by
     simp -implicitDefEqProofs only[zT,ab5,ad8,ae3,ae4,ag6,ae2,af3,ab2,ac7,ac5,af7,qz,ad3,ad4,af4,ad1,ae5,ag5,ae9,af6,ae1,ag0,ac1,ag1,ag2,af1,af0,ac9,ac8,af8,ab9,ab8,aa6,aa8,ac0,ab6,aa9,ac4,ag4,ad7,ae0,ae7,R.bind_ok,zX,aa3,aa4,aa1,ad5,ad0,ab4,ab0,qA,zS,ak,am,aa2,qe,ac2,ab1,ab7,ab3,ac3,ac6,ad6,ae8,ae6,af5,ad9,af2,aa7,ad2,if_true,if_false,ag,decide_true,decide_false,au,ar,bq5,hl]
    have xb:ev (aa0 P (n+3)) (.cmp .isin (.var 6) (.var 4)) [some m.d,some (.int k),some (enD e),some (.ref p),some (.ref q),some (.str [x]),some (.tup (zc (zH m k e.2 x)))] (StM s p q M)=.ok (.bl false) (StM s p q M):=by
     simp -implicitDefEqProofs only[zT,ab5,ad8,ae3,ae4,ag6,ae2,af3,ab2,ac7,ac5,af7,qz,ad3,ad4,af4,ad1,ae5,ag5,ae9,af6,ae1,ag0,ac1,ag1,ag2,af1,af0,ac9,ac8,af8,ab9,ab8,aa6,aa8,ac0,ab6,aa9,ac4,ag4,ad7,ae0,ae7,R.bind_ok,zX,aa3,aa4,aa1,ad5,ad0,ab4,ab0,qA,zS,ak,am,aa2,qe,ac2,ab1,ab7,ab3,ac3,ac6,ad6,ae8,ae6,af5,ad9,af2,aa7,ad2,if_true,if_false,ag,decide_true,decide_false,au,ar,qv,a0,hm1]
    have xc:ev (aa0 P (n+3)) (.cmp .eq (.bi .len (.cons (.var 3) .nil)) (.glob "MOST_ROWS")) [some m.d,some (.int k),some (enD e),some (.ref p),some (.ref q),some (.str [x]),some (.tup (zc (zH m k e.2 x)))] (StM s p q M)=.ok (.bl true) (StM s p q M):=by
     simp -implicitDefEqProofs only[zT,ab5,ad8,ae3,ae4,ag6,ae2,af3,ab2,ac7,ac5,af7,qz,ad3,ad4,af4,ad1,ae5,ag5,ae9,af6,ae1,ag0,ac1,ag1,ag2,af1,af0,ac9,ac8,af8,ab9,ab8,aa6,aa8,ac0,ab6,aa9,ac4,ag4,ad7,ae0,ae7,R.bind_ok,zX,aa3,aa4,aa1,ad5,ad0,ab4,ab0,qA,zS,ak,am,aa2,qe,ac2,ab1,ab7,ab3,ac3,ac6,ad6,ae8,ae6,af5,ad9,af2,aa7,ad2,if_true,if_false,ag,decide_true,decide_false,au,ar,h,a2,show((M.length:Int)=300)=True from eq_true (by omega)]
    have xd:(aa0 P (n+3)).xc "TooMuch"=true:=by rw[(bP4 (P:=P)).1];exact HasE.at_ (ts:=[])
    unfold mbX
    rw[aG4 xa,bv2 xb,if_neg (by nofun)]
    rw[bv2 xc,if_pos rfl,bz9 xd]
   ·rw[if_neg h300]
    have Y:=bK5 a6 a5 (qa m k e.2 x) gq hm1 (by rw[aF];unfold LIM;omega)
    generalize hU:(StM s p q M).set q (.dit (Sn (M.map (·.2)++[zH m k e.2 x])))=U at Y
    have gU:U[p]?=some (.lst (MtD M)):=by rw[<-hU,bh (cC G)];exact gp
    have Z:=an2 (v:=.tup [.str (e.1++[x]),.tup (zc (zH m k e.2 x))]) gU (by rw[show(MtD M).length=M.length from aF ..];unfold LIM;omega)
    have hV:U.set p (.lst (MtD M++[.tup [.str (e.1++[x]),.tup (zc (zH m k e.2 x))]]))=StM s p q (M++[(e.1++[x],zH m k e.2 x)]):=by
     rw[<-hU]
     unfold StM
     rw[bW,kr _ _ (cC G),bW,cz]
     unfold MtD
     rw[cz];rfl
    rw[hV]at Z
    have a1:=qt (P:=P) n hm (qa m k e.2 x) k (StM s p q (M++[(e.1++[x],zH m k e.2 x)]))
    have a4:=ax8 (a:=e.1) (b:=[x]) (s:=U) (show e.1.length+[x].length<=LIM by unfold LIM;simp;omega)
    cases hab:zl m k (zH m k e.2 x)with
    | true =>
     rw[if_pos rfl]
     have et:turn (aa0 P (n+3)) (.one 5) zw (.str [x]) [some m.d,some (.int k),some (enD e),some (.ref p),some (.ref q),J,B] (StM s p q M)=.ok (.ret .non) (StM s p q (M++[(e.1++[x],zH m k e.2 x)])):=by
      rw[hab]at a1
      simp -implicitDefEqProofs only[zw]
      simp -implicitDefEqProofs only[zT,ab5,ad8,ae3,ae4,ag6,ae2,af3,ab2,ac7,ac5,af7,qz,ad3,ad4,af4,ad1,ae5,ag5,ae9,af6,ae1,ag0,ac1,ag1,ag2,af1,af0,ac9,ac8,af8,ab9,ab8,aa6,aa8,ac0,ab6,aa9,ac4,ag4,ad7,ae0,ae7,R.bind_ok,zX,aa3,aa4,aa1,ad5,ad0,ab4,ab0,qA,zS,ak,am,aa2,qe,ac2,ab1,ab7,ab3,ac3,ac6,ad6,ae8,ae6,af5,ad9,af2,aa7,ad2,if_true,if_false,ag,decide_true,decide_false,au,ar,turn,cb7,bq5,hl,qv,a0,hm1,h,a2,show((M.length:Int)=300)=False from eq_false (by omega),Y,a4,Z,a1,bH8]
     rw[a3,am1 (ok:=λ u=>chk s u []) rfl,et]
     rfl
    | false =>
     rw[if_neg (by nofun)]
     have et:turn (aa0 P (n+3)) (.one 5) zw (.str [x]) [some m.d,some (.int k),some (enD e),some (.ref p),some (.ref q),J,B] (StM s p q M)=.ok (.next [some m.d,some (.int k),some (enD e),some (.ref p),some (.ref q),some (.str [x]),some (.tup (zc (zH m k e.2 x)))]) (StM s p q (M++[(e.1++[x],zH m k e.2 x)])):=by
      rw[hab]at a1
      simp -implicitDefEqProofs only[zw]
      simp -implicitDefEqProofs only[zT,ab5,ad8,ae3,ae4,ag6,ae2,af3,ab2,ac7,ac5,af7,qz,ad3,ad4,af4,ad1,ae5,ag5,ae9,af6,ae1,ag0,ac1,ag1,ag2,af1,af0,ac9,ac8,af8,ab9,ab8,aa6,aa8,ac0,ab6,aa9,ac4,ag4,ad7,ae0,ae7,R.bind_ok,zX,aa3,aa4,aa1,ad5,ad0,ab4,ab0,qA,zS,ak,am,aa2,qe,ac2,ab1,ab7,ab3,ac3,ac6,ad6,ae8,ae6,af5,ad9,af2,aa7,ad2,if_true,if_false,ag,decide_true,decide_false,au,ar,turn,cb7,bq5,hl,qv,a0,hm1,h,a2,show((M.length:Int)=300)=False from eq_false (by omega),Y,a4,Z,a1]
     have ih:=by3 n hm (k:=k) he hw hp hq G F (M++[(e.1++[x],zH m k e.2 x)]) (some (.str [x])) (some (.tup (zc (zH m k e.2 x)))) (by rw[ax];show M.length+1<=300;omega) (λ d hd=>by
      rcases aS.mp hd with z|z
      ·exact hs d z
      ·rw[ay.mp z];exact qa ..)
     rw[a3,am1 (ok:=λ u=>chk s u []) rfl,fx,et]
     exact ih
end
noncomputable def ch4 (f:Rw->Nat->Rw)(ab:Rw->Bool)(R:Nat)(r0:Rw)(k:Nat)(M:List (List Nat×Rw)):Bres->Prop
 | .more M'=>MOk f ab R r0 k M'/\(∀ e∈M',ab e.2=false)/\M.length<=M'.length
 | .stop M'=>MOk f ab R r0 k M'/\∃(A:List (List Nat×Rw)) (z:List Nat×Rw),M'=A++[z]/\ab z.2=true/\M.length<=A.length
 | .over=>True
theorem am3 {f:Rw->Nat->Rw}{ab:Rw->Bool}{R:Nat}{J:Rw}(G:∀ r x,(f r x).length=R){k:Nat}{e:List Nat×Rw}(hk:e.1.length+1<=k):∀(F:List Nat) (M:List (List Nat×Rw)),MOk f ab R J k M->e∈M->(∀ d∈M,ab d.2=false)->ch4 f ab R J k M (inn f ab e F M)
 | [],M,h,he,hn=>by unfold inn;exact⟨h,hn,aw _⟩
 | x::F,M,h,he,hn=>by
  unfold inn
  by_cases h1:f e.2 x∈M.map (·.2)
  ·rw[if_pos h1];exact am3 G hk F M h he hn
  ·rw[if_neg h1]
   by_cases h3:M.length=300
   ·rw[if_pos h3];trivial
   ·rw[if_neg h3]
    have h':=h.snoc (x:=x) G he hk h3
    cases ha:ab (f e.2 x)with
    | true=>rw[if_pos rfl];exact⟨h',M,_,rfl,ha,aw _⟩
    | false =>
     rw[if_neg (by nofun)]
     have Y:=am3 G hk F (M++[(e.1++[x],f e.2 x)]) h' (bu _ he) (λ d hd=>by
      rcases aS.mp hd with z|z
      ·exact hn d z
      ·rw[ay.mp z];exact ha)
     revert Y
     generalize inn f ab e F (M++[(e.1++[x],f e.2 x)])=B
     have hl:(M++[(e.1++[x],f e.2 x)]).length=M.length+1:=by rw[ax];rfl
     cases B with
     | more M'=>rintro⟨a,b,c⟩;exact⟨a,b,by omega⟩
     | stop M'=>rintro⟨a,A,z,e1,e2,e3⟩;exact⟨a,A,z,e1,e2,by omega⟩
     | over=>exact id
theorem bd7 {s:Sto}{r:Nat}{l:List D}{d:D}(h:s[r]?=some (.lst (l++[d]))):ixM (.ref r) (.int (-1)) s=.ok d s:=by
 have e:ixn (l++[d]).length (-1)=some l.length:=by
  unfold ixn
  rw[if_neg (by omega),if_pos (by rw[ax];show -((l.length+1:Nat):Int)<=-1;omega)]
  congr 1
  rw[ax]
  show(-1+((l.length+1:Nat):Int)).toNat=l.length
  omega
 unfold ixM
 simp only[h,e,am,aR (aw _),gG]
 rfl
theorem aL7 (s:Sto)(M:List (List Nat×Rw)):StM (s++[.lst [],.dit []]) s.length (s.length+1) M=s++[.lst (MtD M),.dit (Sn (M.map (·.2)))]:=by
 unfold StM
 rw[cL,if_neg (by omega),gG,cL,if_neg (by omega),show s.length+1 - s.length=1 by omega]
 rfl
theorem bD0 {s:Sto}{p q:Nat}(h:p≠q)(M B:List (List Nat×Rw)):((StM s p q M).set p (.lst (MtD B))).set q (.dit (Sn (B.map (·.2))))=StM s p q B:=by
 unfold StM
 rw[kr _ _ (cC h),bW,bW]
section
variable {P:Pr} [Has P ai1] [Has P ai9] [Has P ah3] [Has P ah4] [Has P ah6] [Has P an9] [Has P af9] [Has P ap4] [Has P ai0] [Has P ah1] [HasC P "LETTERS" (.tup aY9)] [HasC P "MOST_ROWS" (.int 300)] [Has P ag7] [Has P ag3] [HasX P "meet_behind" ah0] [HasE P "TooMuch" []]
theorem bC8 (n:Nat){m:Mc}(hm:m.Ok){k:Int}{e:List Nat×Rw}(he:e.2.length=m.R)(hw:e.1.length<=1000){s:Sto}{p q:Nat}(hp:p<s.length)(hq:q<s.length)(G:p≠q){M:List (List Nat×Rw)}(hM:M.length<=300)(hs:∀ d∈M,d.2.length=m.R) :
  match inn (zH m k) (zl m k) e (an1 m.L) M with
  | .more h=>(aa0 P (n+4)).call "meet_behind" [m.d,.int k,enD e,.ref p,.ref q] (StM s p q M)=.ok .non (StM s p q h)
  | .stop h=>(aa0 P (n+4)).call "meet_behind" [m.d,.int k,enD e,.ref p,.ref q] (StM s p q M)=.ok .non (StM s p q h)
  | .over=>(aa0 P (n+4)).call "meet_behind" [m.d,.int k,enD e,.ref p,.ref q] (StM s p q M)=.bad/\∃ h,(aa0 P (n+4)).xcall "meet_behind" [m.d,.int k,enD e,.ref p,.ref q] (StM s p q M)=some ("TooMuch",StM s p q h):=by
 have Y:=hm.L3
 have J:(aa0 P (n+4)).call "meet_behind" [m.d,.int k,enD e,.ref p,.ref q] (StM s p q M)=_:=ze ag3 (n:=n+3) rfl
 have x0:(aa0 P (n+4)).xcall "meet_behind" [m.d,.int k,enD e,.ref p,.ref q] (StM s p q M)=_:=as5 ah0 (n:=n+3) rfl
 have B:(aa0 P (n+3)).call "letters_of" [m.d] (StM s p q M)=.ok (.tup (sg (an1 m.L))) (StM s p q M):=by
  have:=aS3 (P:=P) (n+2) (L:=m.L) Y [.int m.R,.tup (qQ m.bg),.tup (qQ m.en),.tup (m.ds.map Dr.d)] (StM s p q M)
  rw[bU5 Y]at this
  exact this
 have go:=by3 (P:=P) n hm (k:=k) he hw hp hq G (an1 m.L) M none none hM hs
 have Z:∀ h,zo (StM s p q M) .non (StM s p q h)=.ok .non (StM s p q h):=λ h=>by
  have:=aT7 (s:=StM s p q M) (p:=p) (q:=q) (a:=.lst (MtD h)) (b:=.dit (Sn (h.map (·.2)))) bt8 bQ1
  rwa [bD0 G]at this
 rw[show(dA some [m.d,.int k,enD e,.ref p,.ref q]++aC ag3.vs none)=[some m.d,some (.int k),some (enD e),some (.ref p),some (.ref q),none,none]from rfl]at J
 have hb:ag3.body=.cons (.for_ (.one 5) (.seq (.call "letters_of" (.ex (.var 0) .nil))) zw) .nil:=rfl
 rw[hb]at J
 cases hB:inn (zH m k) (zl m k) e (an1 m.L) M with
 | more h =>
  rw[hB]at go
  obtain⟨z5,z6,go⟩:=go
  rw[J]
  simp -implicitDefEqProofs only[zT,ab5,ad8,ae3,ae4,ag6,ae2,af3,ab2,ac7,ac5,af7,qz,ad3,ad4,af4,ad1,ae5,ag5,ae9,af6,ae1,ag0,ac1,ag1,ag2,af1,af0,ac9,ac8,af8,ab9,ab8,aa6,aa8,ac0,ab6,aa9,ac4,ag4,ad7,ae0,ae7,R.bind_ok,zX,aa3,aa4,aa1,ad5,ad0,ab4,ab0,qA,zS,ak,am,aa2,qe,ac2,ab1,ab7,ab3,ac3,ac6,ad6,ae8,ae6,af5,ad9,af2,aa7,ad2,if_true,if_false,ag,decide_true,decide_false,au,ar,B,an8]
  rw[show at8 (λ F=>chk (StM s p q M) F []) (turn (aa0 P (n+3)) (.one 5) zw) (sg (an1 m.L)) [some m.d,some (.int k),some (enD e),some (.ref p),some (.ref q),none,none] (StM s p q M)=_ from go]
  simp -implicitDefEqProofs only[zT,ab5,ad8,ae3,ae4,ag6,ae2,af3,ab2,ac7,ac5,af7,qz,ad3,ad4,af4,ad1,ae5,ag5,ae9,af6,ae1,ag0,ac1,ag1,ag2,af1,af0,ac9,ac8,af8,ab9,ab8,aa6,aa8,ac0,ab6,aa9,ac4,ag4,ad7,ae0,ae7,R.bind_ok,zX,aa3,aa4,aa1,ad5,ad0,ab4,ab0,qA,zS,ak,am,aa2,qe,ac2,ab1,ab7,ab3,ac3,ac6,ad6,ae8,ae6,af5,ad9,af2,aa7,ad2,if_true,if_false,ag,decide_true,decide_false,au,ar]
  exact Z h
 | stop h =>
  rw[hB]at go
  rw[J]
  simp -implicitDefEqProofs only[zT,ab5,ad8,ae3,ae4,ag6,ae2,af3,ab2,ac7,ac5,af7,qz,ad3,ad4,af4,ad1,ae5,ag5,ae9,af6,ae1,ag0,ac1,ag1,ag2,af1,af0,ac9,ac8,af8,ab9,ab8,aa6,aa8,ac0,ab6,aa9,ac4,ag4,ad7,ae0,ae7,R.bind_ok,zX,aa3,aa4,aa1,ad5,ad0,ab4,ab0,qA,zS,ak,am,aa2,qe,ac2,ab1,ab7,ab3,ac3,ac6,ad6,ae8,ae6,af5,ad9,af2,aa7,ad2,if_true,if_false,ag,decide_true,decide_false,au,ar,B,an8]
  rw[show at8 (λ F=>chk (StM s p q M) F []) (turn (aa0 P (n+3)) (.one 5) zw) (sg (an1 m.L)) [some m.d,some (.int k),some (enD e),some (.ref p),some (.ref q),none,none] (StM s p q M)=_ from go]
  simp -implicitDefEqProofs only[zT,ab5,ad8,ae3,ae4,ag6,ae2,af3,ab2,ac7,ac5,af7,qz,ad3,ad4,af4,ad1,ae5,ag5,ae9,af6,ae1,ag0,ac1,ag1,ag2,af1,af0,ac9,ac8,af8,ab9,ab8,aa6,aa8,ac0,ab6,aa9,ac4,ag4,ad7,ae0,ae7,R.bind_ok,zX,aa3,aa4,aa1,ad5,ad0,ab4,ab0,qA,zS,ak,am,aa2,qe,ac2,ab1,ab7,ab3,ac3,ac6,ad6,ae8,ae6,af5,ad9,af2,aa7,ad2,if_true,if_false,ag,decide_true,decide_false,au,ar]
  exact Z h
 | over =>
  rw[hB]at go
  obtain⟨g1,h,g2⟩:=go
  refine⟨?_,h,?_⟩
  ·rw[J]
   simp -implicitDefEqProofs only[zT,ab5,ad8,ae3,ae4,ag6,ae2,af3,ab2,ac7,ac5,af7,qz,ad3,ad4,af4,ad1,ae5,ag5,ae9,af6,ae1,ag0,ac1,ag1,ag2,af1,af0,ac9,ac8,af8,ab9,ab8,aa6,aa8,ac0,ab6,aa9,ac4,ag4,ad7,ae0,ae7,R.bind_ok,zX,aa3,aa4,aa1,ad5,ad0,ab4,ab0,qA,zS,ak,am,aa2,qe,ac2,ab1,ab7,ab3,ac3,ac6,ad6,ae8,ae6,af5,ad9,af2,aa7,ad2,if_true,if_false,ag,decide_true,decide_false,au,ar,B,an8]
   rw[show at8 (λ F=>chk (StM s p q M) F []) (turn (aa0 P (n+3)) (.one 5) zw) (sg (an1 m.L)) [some m.d,some (.int k),some (enD e),some (.ref p),some (.ref q),none,none] (StM s p q M)=_ from g1]
   rfl
  ·rw[x0]
   have ei:evI (aa0 P (n+3)) (.seq (.call "letters_of" (.ex (.var 0) .nil))) [some m.d,some (.int k),some (enD e),some (.ref p),some (.ref q),none,none] (StM s p q M)=.ok ⟨sg (an1 m.L),[]⟩ (StM s p q M):=by
    simp -implicitDefEqProofs only[zT,ab5,ad8,ae3,ae4,ag6,ae2,af3,ab2,ac7,ac5,af7,qz,ad3,ad4,af4,ad1,ae5,ag5,ae9,af6,ae1,ag0,ac1,ag1,ag2,af1,af0,ac9,ac8,af8,ab9,ab8,aa6,aa8,ac0,ab6,aa9,ac4,ag4,ad7,ae0,ae7,R.bind_ok,zX,aa3,aa4,aa1,ad5,ad0,ab4,ab0,qA,zS,ak,am,aa2,qe,ac2,ab1,ab7,ab3,ac3,ac6,ad6,ae8,ae6,af5,ad9,af2,aa7,ad2,if_true,if_false,ag,decide_true,decide_false,au,ar,B,an8]
   show(match evI (aa0 P (n+3)) (.seq (.call "letters_of" (.ex (.var 0) .nil))) [some m.d,some (.int k),some (enD e),some (.ref p),some (.ref q),none,none] (StM s p q M)with
    | .ok sq s0=>al8 (λ s=>chk s0 s sq.src) (λ d ρ s=>match zP ρ (.one 5) d with
     | some ρ=>exs (aa0 P (n+3)) zw ρ s
     | none=>.bad) (λ d ρ s=>match zP ρ (.one 5) d with
     | some ρ=>xB (aa0 P (n+3)) mbX ρ s
     | none=>none) sq.its [some m.d,some (.int k),some (enD e),some (.ref p),some (.ref q),none,none] s0
    | _=>none)=_
   rw[ei]
   exact g2
end
theorem bF2 {F:Fns}{ρ ρ':Env}{s:Sto}{i:Nat}{a b:Int}{e:E}(B:aH1 ρ i s=.ok (.int a) s)(h:ev F e ρ s=.ok (.int b) s)(h3:au1 ρ i (.int (a+b))=some ρ'):ex F (.aug i e) ρ s=.ok (.next ρ') s:=by
 show(aH1 ρ i s).bind (λ x s=>(ev F e ρ s).bind λ y s=>match x,y with
  | .int a,.int b=>match au1 ρ i (.int (a+b))with|some ρ=>R.ok (Ct.next ρ) s|none=>.bad
  | _,_=>.bad)=_
 rw[B]
 show(ev F e ρ s).bind _=_
 rw[h]
 show(match au1 ρ i (.int (a+b))with|some ρ=>R.ok (Ct.next ρ) s|none=>.bad)=_
 rw[h3]
@[simp] theorem aI6 {F:Fns} {ρ:Env} {s:Sto}:ev F (.neg (.cst (.int 1))) ρ s=.ok (.int (-1)) s:=rfl
noncomputable def rmC:E:=(.and (.cmp .lt (.var 5) (.bi .len (.cons (.var 3) .nil))) (.not (.call "ends_above" (.ex (.var 0) (.ex (.var 1) (.ex (.ix (.ix (.var 3) (.neg (.cst (.int 1)))) (.cst (.int 1))) .nil))))))
noncomputable def rmA:As:=(.ex (.var 0) (.ex (.var 1) (.ex (.ix (.var 3) (.var 5)) (.ex (.var 3) (.ex (.var 4) .nil)))))
noncomputable def rmB:Ss:=(.cons (.ex (.call "meet_behind" rmA)) (.cons (.aug 5 (.cst (.int 1))) .nil))
noncomputable def ai5:Xf:=⟨2,4,.seq (.asg (.one 2) (.call "first_row" (.ex (.var 0) .nil))) (.seq (.asg (.one 3) (.lst (.cons (.tup (.cons (.cst (.str [])) (.cons (.var 2) .nil))) .nil))) (.seq (.asg (.one 4) (.dicU (.var 2) (.cst (.bl true)))) (.seq (.asg (.one 5) (.cst (.int 0))) (.whlX rmC rmB (.call "meet_behind" rmA)))))⟩
theorem aY7 {f:Rw->Nat->Rw}{ab:Rw->Bool}{h:List Nat}{n k:Nat}{M:List (List Nat×Rw)}:bfs f ab h (n+1) k M=match M[k]? with
  | none=>.more M
  | some e=>match inn f ab e h M with
   | .more M'=>bfs f ab h n (k+1) M'
   | .stop M'=>.stop M'
   | .over=>.over:=rfl
section
variable {P:Pr} [Has P ai1] [Has P ai9] [Has P ah3] [Has P ah4] [Has P ah6] [Has P an9] [Has P af9] [Has P ap4] [Has P ai0] [Has P ah1] [HasC P "LETTERS" (.tup aY9)] [HasC P "MOST_ROWS" (.int 300)] [Has P ag7] [Has P ag3] [HasX P "meet_behind" ah0] [HasE P "TooMuch" []]
theorem cn7 (n:Nat){m:Mc}(hm:m.Ok){k:Int}{s:Sto}{p q:Nat}(hp:p<s.length)(F:p≠q){A:List (List Nat×Rw)}{z:List Nat×Rw}(hz:z.2.length=m.R){d2:Option D}{j:Nat} :
  ev (aa0 P (n+4)) rmC [some m.d,some (.int k),d2,some (.ref p),some (.ref q),some (.int (j:Int))] (StM s p q (A++[z]))=.ok (.bl (decide (j<(A++[z]).length)&&!zl m k z.2)) (StM s p q (A++[z])):=by
 have gp:=bG6 (s:=s) (p:=p) (q:=q) (M:=A++[z]) hp F
 have h:bi .len [.ref p] (StM s p q (A++[z]))=.ok (.int ((A++[z]).length:Int)) (StM s p q (A++[z])):=by rw[bb0 gp,show(MtD (A++[z])).length=(A++[z]).length from aF ..]
 have B:ixM (.ref p) (.int (-1)) (StM s p q (A++[z]))=.ok (enD z) (StM s p q (A++[z])):=by
  refine bd7 (l:=MtD A) ?_
  rw[gp]
  unfold MtD
  rw[cz];rfl
 have G:=qt (P:=P) (n+1) hm hz k (StM s p q (A++[z]))
 unfold rmC
 by_cases hj:j<(A++[z]).length
 ·simp -implicitDefEqProofs only[zT,ab5,ad8,ae3,ae4,ag6,ae2,af3,ab2,ac7,ac5,af7,qz,ad3,ad4,af4,ad1,ae5,ag5,ae9,af6,ae1,ag0,ac1,ag1,ag2,af1,af0,ac9,ac8,af8,ab9,ab8,aa6,aa8,ac0,ab6,aa9,ac4,ag4,ad7,ae0,ae7,R.bind_ok,zX,aa3,aa4,aa1,ad5,ad0,ab4,ab0,qA,zS,ak,am,aa2,qe,ac2,ab1,ab7,ab3,ac3,ac6,ad6,ae8,ae6,af5,ad9,af2,aa7,ad2,if_true,if_false,ag,decide_true,decide_false,au,ar,h,show((j:Int)<((A++[z]).length:Int))=True from eq_true (by omega),B,aI6,bq5,G,show(j<(A++[z]).length)=True from eq_true hj,fZ]
 ·simp -implicitDefEqProofs only[zT,ab5,ad8,ae3,ae4,ag6,ae2,af3,ab2,ac7,ac5,af7,qz,ad3,ad4,af4,ad1,ae5,ag5,ae9,af6,ae1,ag0,ac1,ag1,ag2,af1,af0,ac9,ac8,af8,ab9,ab8,aa6,aa8,ac0,ab6,aa9,ac4,ag4,ad7,ae0,ae7,R.bind_ok,zX,aa3,aa4,aa1,ad5,ad0,ab4,ab0,qA,zS,ak,am,aa2,qe,ac2,ab1,ab7,ab3,ac3,ac6,ad6,ae8,ae6,af5,ad9,af2,aa7,ad2,if_true,if_false,ag,decide_true,decide_false,au,ar,h,show((j:Int)<((A++[z]).length:Int))=False from eq_false (by omega),show(j<(A++[z]).length)=False from eq_false hj,j0]
noncomputable def RmR (n:Nat)(P:Pr)(m:Mc)(k:Int)(s:Sto)(p q:Nat)(d2:Option D)(j:Nat)(M:List (List Nat×Rw)):Bres->Prop
 | .more M'=>(∃ a,whl (ev (aa0 P (n+4)) rmC) (exs (aa0 P (n+4)) rmB) [some m.d,some (.int k),d2,some (.ref p),some (.ref q),some (.int (j:Int))] (StM s p q M)=.ok (.next [some m.d,some (.int k),d2,some (.ref p),some (.ref q),a]) (StM s p q M'))/\(∀ N,zG (ev (aa0 P (n+4)) rmC) (exs (aa0 P (n+4)) rmB) (xB (aa0 P (n+4)) (.call "meet_behind" rmA)) N [some m.d,some (.int k),d2,some (.ref p),some (.ref q),some (.int (j:Int))] (StM s p q M)=none)
 | .stop M'=>(∃ a,whl (ev (aa0 P (n+4)) rmC) (exs (aa0 P (n+4)) rmB) [some m.d,some (.int k),d2,some (.ref p),some (.ref q),some (.int (j:Int))] (StM s p q M)=.ok (.next [some m.d,some (.int k),d2,some (.ref p),some (.ref q),a]) (StM s p q M'))/\(∀ N,zG (ev (aa0 P (n+4)) rmC) (exs (aa0 P (n+4)) rmB) (xB (aa0 P (n+4)) (.call "meet_behind" rmA)) N [some m.d,some (.int k),d2,some (.ref p),some (.ref q),some (.int (j:Int))] (StM s p q M)=none)
 | .over=>∃ N M',zG (ev (aa0 P (n+4)) rmC) (exs (aa0 P (n+4)) rmB) (xB (aa0 P (n+4)) (.call "meet_behind" rmA)) N [some m.d,some (.int k),d2,some (.ref p),some (.ref q),some (.int (j:Int))] (StM s p q M)=some ("TooMuch",StM s p q M')
noncomputable def aS6 (f:Rw->Nat->Rw)(ab:Rw->Bool)(R:Nat)(r0:Rw):Bres->Prop
 | .more M=>(∃ k,MOk f ab R r0 k M)/\∀ e∈M,ab e.2=false
 | .stop M=>(∃ k,MOk f ab R r0 k M)/\∃ A z,M=A++[z]/\ab z.2=true
 | .over=>True
theorem aD5 {c:Env->Sto->R D}{g:Env->Sto->R Ct}{B:Env->Sto->Option (String×Sto)}{ρ:Env}{s s1:Sto}(h:c ρ s=.ok (.bl false) s1):∀ N,zG c g B N ρ s=none
 | 0=>rfl
 | N+1=>by unfold zG;rw[h]
theorem qN {c:Env->Sto->R D}{g:Env->Sto->R Ct}{B:Env->Sto->Option (String×Sto)}{ρ ρ1:Env}{s s1 s2:Sto}(h:c ρ s=.ok (.bl true) s1)(F:g ρ s1=.ok (.next ρ1) s2)(N:Nat):zG c g B (N+1) ρ s=zG c g B N ρ1 s2:=by
 show(match c ρ s with
  | .ok (.bl true) s1=>match g ρ s1 with
   | .ok (.next ρ1) s2=>zG c g B N ρ1 s2
   | .ok (.cont ρ1) s2=>zG c g B N ρ1 s2
   | .ok _ _=>none
   | _=>B ρ s1
  | _=>none)=_
 rw[h]
 show(match g ρ s1 with
   | .ok (.next ρ1) s2=>zG c g B N ρ1 s2
   | .ok (.cont ρ1) s2=>zG c g B N ρ1 s2
   | .ok _ _=>none
   | _=>B ρ s1)=_
 rw[F]
theorem bD8 {c:Env->Sto->R D}{g:Env->Sto->R Ct}{B:Env->Sto->Option (String×Sto)}{ρ:Env}{s s1:Sto}(h:c ρ s=.ok (.bl true) s1)(F:g ρ s1=.bad)(N:Nat):zG c g B (N+1) ρ s=B ρ s1:=by
 show(match c ρ s with
  | .ok (.bl true) s1=>match g ρ s1 with
   | .ok (.next ρ1) s2=>zG c g B N ρ1 s2
   | .ok (.cont ρ1) s2=>zG c g B N ρ1 s2
   | .ok _ _=>none
   | _=>B ρ s1
  | _=>none)=_
 rw[h]
 show(match g ρ s1 with
   | .ok (.next ρ1) s2=>zG c g B N ρ1 s2
   | .ok (.cont ρ1) s2=>zG c g B N ρ1 s2
   | .ok _ _=>none
   | _=>B ρ s1)=_
 rw[F]
theorem ax9 {α:Type}{l:List α}(h:1<=l.length):∃ A z,l=A++[z]:=⟨l.dropLast,l.getLast (by intro e;rw[e]at h;cases h),(List.dropLast_concat_getLast _).symm⟩
theorem bN9 (n:Nat){m:Mc}(hm:m.Ok){k:Int}{s:Sto}{p q:Nat}(hp:p<s.length)(hq:q<s.length)(J:p≠q){d2:Option D}:∀(F j:Nat) (M:List (List Nat×Rw)),301<=F+j->MOk (zH m k) (zl m k) m.R (zC m) j M->(∀ e∈M,zl m k e.2=false) ->
  RmR n P m k s p q d2 j M (bfs (zH m k) (zl m k) (an1 m.L) F j M)/\aS6 (zH m k) (zl m k) m.R (zC m) (bfs (zH m k) (zl m k) (an1 m.L) F j M)
 | 0,j,M,hf,h,_=>by
  have:=h.hat
  have:=h.len
  omega
 | F+1,j,M,hf,h,hn=>by
  rw[aY7]
  obtain⟨A,z,hz⟩:=ax9 h.pos
  have a4:z.2.length=m.R:=h.sh z (by rw[hz];exact aK _ (ay.mpr rfl))
  have a5:zl m k z.2=false:=hn z (by rw[hz];exact aK _ (ay.mpr rfl))
  have hc:=cn7 (P:=P) n hm (k:=k) (s:=s) (p:=p) (q:=q) hp J (A:=A) (z:=z) a4 (d2:=d2) (j:=j)
  rw[<-hz,a5,ar,iR]at hc
  cases he:M[j]? with
  | none =>
   have hj:¬ j<M.length:=λ z=>by rw[aq z]at he;cases he
   rw[decide_eq_false hj]at hc
   exact⟨⟨⟨_,aI8 hc⟩,aD5 hc⟩,⟨j,h⟩,hn⟩
  | some e =>
   have hj:j<M.length:=(ae.mp he).1
   have Y:=aZ he
   rw[decide_eq_true hj]at hc
   have a6:=h.wl e Y
   have h':MOk (zH m k) (zl m k) m.R (zC m) (j+1) M:=⟨h.len,h.pos,hj,h.sh,h.fold,λ d hd=>fP (h.wl d hd)⟩
   have sp:=am3 (f:=zH m k) (ab:=zl m k) (qa m k) (k:=j+1) (e:=e) (by omega) (an1 m.L) M h' Y hn
   have mk:=bC8 (P:=P) n hm (k:=k) (e:=e) (h.sh e Y) (by have:=h.len;omega) hp hq J (M:=M) h.len h.sh
   have gp:=bG6 (s:=s) (p:=p) (q:=q) (M:=M) hp J
   have a0:ixM (.ref p) (.int (j:Int)) (StM s p q M)=.ok (enD e) (StM s p q M):=as0 gp (bS2 he)
   have body:∀ G,(aa0 P (n+4)).call "meet_behind" [m.d,.int k,enD e,.ref p,.ref q] (StM s p q M)=.ok .non (StM s p q G)->exs (aa0 P (n+4)) rmB [some m.d,some (.int k),d2,some (.ref p),some (.ref q),some (.int (j:Int))] (StM s p q M)=.ok (.next [some m.d,some (.int k),d2,some (.ref p),some (.ref q),some (.int ((j+1:Nat):Int))]) (StM s p q G):=λ G ec=>by
    have ea:ex (aa0 P (n+4)) (.aug 5 (.cst (.int 1))) [some m.d,some (.int k),d2,some (.ref p),some (.ref q),some (.int (j:Int))] (StM s p q G)=.ok (.next [some m.d,some (.int k),d2,some (.ref p),some (.ref q),some (.int ((j+1:Nat):Int))]) (StM s p q G):=bF2 (a:=(j:Int)) (b:=1) rfl rfl rfl
    unfold rmB rmA
    simp -implicitDefEqProofs only[zT,ab5,ad8,ae3,ae4,ag6,ae2,af3,ab2,ac7,ac5,af7,qz,ad3,ad4,af4,ad1,ae5,ag5,ae9,af6,ae1,ag0,ac1,ag1,ag2,af1,af0,ac9,ac8,af8,ab9,ab8,aa6,aa8,ac0,ab6,aa9,ac4,ag4,ad7,ae0,ae7,R.bind_ok,zX,aa3,aa4,aa1,ad5,ad0,ab4,ab0,qA,zS,ak,am,aa2,qe,ac2,ab1,ab7,ab3,ac3,ac6,ad6,ae8,ae6,af5,ad9,af2,aa7,ad2,if_true,if_false,ag,decide_true,decide_false,au,ar,a0,ec,ea]
   show RmR n P m k s p q d2 j M (match inn (zH m k) (zl m k) e (an1 m.L) M with
     | .more G=>bfs (zH m k) (zl m k) (an1 m.L) F (j+1) G
     | .stop G=>.stop G
     | .over=>.over)/\aS6 (zH m k) (zl m k) m.R (zC m) (match inn (zH m k) (zl m k) e (an1 m.L) M with
     | .more G=>bfs (zH m k) (zl m k) (an1 m.L) F (j+1) G
     | .stop G=>.stop G
     | .over=>.over)
   revert sp mk
   cases hB:inn (zH m k) (zl m k) e (an1 m.L) M with
   | more G =>
    rintro⟨s1,s2,s3⟩ mk
    have ih:=bN9 n hm (k:=k) hp hq J (d2:=d2) F (j+1) G (by omega) s1 s2
    have hb:=body G mk
    show RmR n P m k s p q d2 j M (bfs (zH m k) (zl m k) (an1 m.L) F (j+1) G)/\aS6 (zH m k) (zl m k) m.R (zC m) (bfs (zH m k) (zl m k) (an1 m.L) F (j+1) G)
    revert ih
    generalize bfs (zH m k) (zl m k) (an1 m.L) F (j+1) G=B
    cases B with
    | more M2 =>
     rintro⟨⟨⟨a,w⟩,x⟩,y⟩
     refine⟨⟨⟨a,(aq4 hc hb).trans w⟩,λ N=>?_⟩,y⟩
     cases N with
     | zero=>rfl
     | succ N=>rw[qN hc hb];exact x N
    | stop M2 =>
     rintro⟨⟨⟨a,w⟩,x⟩,y⟩
     refine⟨⟨⟨a,(aq4 hc hb).trans w⟩,λ N=>?_⟩,y⟩
     cases N with
     | zero=>rfl
     | succ N=>rw[qN hc hb];exact x N
    | over =>
     rintro⟨⟨N,M2,x⟩,y⟩
     exact⟨⟨N+1,M2,by rw[qN hc hb];exact x⟩,y⟩
   | stop G =>
    rintro⟨s1,A',z',e1,e2,e3⟩ mk
    have hb:=body G mk
    have a1:z'.2.length=m.R:=s1.sh z' (by rw[e1];exact aK _ (ay.mpr rfl))
    have Z:=cn7 (P:=P) n hm (k:=k) (s:=s) (p:=p) (q:=q) hp J (A:=A') (z:=z') a1 (d2:=d2) (j:=j+1)
    rw[<-e1,e2,au,Bool.and_false]at Z
    refine⟨⟨⟨_,(aq4 hc hb).trans (aI8 Z)⟩,λ N=>?_⟩,⟨_,s1⟩,A',z',e1,e2⟩
    cases N with
    | zero=>rfl
    | succ N=>rw[qN hc hb];exact aD5 Z N
   | over =>
    rintro _ ⟨a3,G,a2⟩
    have hbad:exs (aa0 P (n+4)) rmB [some m.d,some (.int k),d2,some (.ref p),some (.ref q),some (.int (j:Int))] (StM s p q M)=.bad:=by
     unfold rmB rmA
     simp -implicitDefEqProofs only[zT,ab5,ad8,ae3,ae4,ag6,ae2,af3,ab2,ac7,ac5,af7,qz,ad3,ad4,af4,ad1,ae5,ag5,ae9,af6,ae1,ag0,ac1,ag1,ag2,af1,af0,ac9,ac8,af8,ab9,ab8,aa6,aa8,ac0,ab6,aa9,ac4,ag4,ad7,ae0,ae7,R.bind_ok,zX,aa3,aa4,aa1,ad5,ad0,ab4,ab0,qA,zS,ak,am,aa2,qe,ac2,ab1,ab7,ab3,ac3,ac6,ad6,ae8,ae6,af5,ad9,af2,aa7,ad2,if_true,if_false,ag,decide_true,decide_false,au,ar,a0,a3]
     rfl
    refine⟨⟨1,G,?_⟩,trivial⟩
    rw[bD8 hc hbad]
    have ea:am6 (aa0 P (n+4)) rmA [some m.d,some (.int k),d2,some (.ref p),some (.ref q),some (.int (j:Int))] (StM s p q M)=.ok [m.d,.int k,enD e,.ref p,.ref q] (StM s p q M):=by
     unfold rmA
     simp -implicitDefEqProofs only[zT,ab5,ad8,ae3,ae4,ag6,ae2,af3,ab2,ac7,ac5,af7,qz,ad3,ad4,af4,ad1,ae5,ag5,ae9,af6,ae1,ag0,ac1,ag1,ag2,af1,af0,ac9,ac8,af8,ab9,ab8,aa6,aa8,ac0,ab6,aa9,ac4,ag4,ad7,ae0,ae7,R.bind_ok,zX,aa3,aa4,aa1,ad5,ad0,ab4,ab0,qA,zS,ak,am,aa2,qe,ac2,ab1,ab7,ab3,ac3,ac6,ad6,ae8,ae6,af5,ad9,af2,aa7,ad2,if_true,if_false,ag,decide_true,decide_false,au,ar,a0]
    rw[aI2 ea]
    exact a2
end
section
variable {c:Env->Sto->R D} {g:Env->Sto->R Ct} {gx:Env->Sto->Option (String×Sto)}
theorem qO:∀ {N:Nat} {ρ:Env} {s:Sto} {r:String×Sto},zG c g gx N ρ s=some r->∀ K,zG c g gx (N+K) ρ s=some r
 | 0,ρ,s,r,h,K=>by cases h
 | N+1,ρ,s,r,h,K=>by
  rw[show N+1+K=(N+K)+1 by omega]
  unfold zG at h ⊢
  split at h
  ·rename_i s1 e1
   split at h
   ·exact qO h K
   ·exact qO h K
   ·cases h
   ·exact h
  ·cases h
theorem aY8 {N:Nat}{ρ:Env}{s:Sto}{r:String×Sto}(h:zG c g gx N ρ s=some r):whlX c g gx ρ s=some r:=by
 unfold whlX
 have ex:∃ n,(zG c g gx n ρ s).isSome=true:=⟨N,by rw[h];rfl⟩
 rw[dif_pos ex]
 have hs:=ex.choose_spec
 generalize ex.choose=K at hs ⊢
 cases hK:zG c g gx K ρ s with
 | none=>rw[hK]at hs;cases hs
 | some r' =>
  have a:=qO h K
  have b:=qO hK N
  rw[fe]at b
  rw[a]at b
  exact b.symm
theorem aC3 {ρ:Env}{s:Sto}(h:∀ N,zG c g gx N ρ s=none):whlX c g gx ρ s=none:=by
 unfold whlX
 rw[dif_neg]
 rintro⟨N,hN⟩
 rw[h N]at hN;cases hN
end
noncomputable def Bk (m:Mc)(k:Int):Bres:=bfs (zH m k) (zl m k) (an1 m.L) 301 0 [([],zC m)]
theorem az2 {m:Mc}{k:Int}(hk:0<=k):zl m k (zC m)=false:=by
 unfold zl
 refine decide_eq_false λ h=>?_
 have hl:=qM (m.en.filterMap λ q=>(zC m).getD q none)
 rw[show minI (m.en.filterMap λ q=>(zC m).getD q none)=some (k+1)from h]at hl
 obtain⟨q,_,B⟩:=bR.mp hl.1
 rw[iA]at B
 unfold zC at B
 rw[aN]at B
 by_cases hR:q<m.R
 ·rw[cB hR]at B
  simp only[ak,Option.getD_some]at B
  split at B
  ·injection B with B;omega
  ·cases B
 ·rw[bM (by simp;omega)]at B
  cases B
theorem cd3 (m:Mc)(k:Int):MOk (zH m k) (zl m k) m.R (zC m) 0 [([],zC m)] :=
 ⟨(by show 1<=300;decide),aw 1,cN _,λ e he=>by rw[ay.mp he];show(zC m).length=m.R;unfold zC;simp,λ e he=>by rw[ay.mp he];rfl,λ e he=>by rw[ay.mp he];exact aw _⟩
theorem br2 {f:Rw->Nat->Rw}{ab:Rw->Bool}{R:Nat}{J:Rw}(Y:∀ r x,(f r x).length=R)(F:List Nat):∀(B j:Nat) (M:List (List Nat×Rw)),301<=B+j->MOk f ab R J j M->(∀ e∈M,ab e.2=false)->aS6 f ab R J (bfs f ab F B j M)
 | 0,j,M,hf',h,_=>by
  have:=h.hat
  have:=h.len
  omega
 | B+1,j,M,hf',h,hn=>by
  rw[aY7]
  cases he:M[j]? with
  | none=>exact⟨⟨j,h⟩,hn⟩
  | some e =>
   have hj:j<M.length:=(ae.mp he).1
   have G:=aZ he
   have Z:=h.wl e G
   have h':MOk f ab R J (j+1) M:=⟨h.len,h.pos,hj,h.sh,h.fold,λ d hd=>fP (h.wl d hd)⟩
   have sp:=am3 (f:=f) (ab:=ab) Y (k:=j+1) (e:=e) (by omega) F M h' G hn
   show aS6 f ab R J (match inn f ab e F M with
     | .more M'=>bfs f ab F B (j+1) M'
     | .stop M'=>.stop M'
     | .over=>.over)
   revert sp
   cases hB:inn f ab e F M with
   | more M'=>rintro⟨s1,s2,s3⟩;exact br2 Y F B (j+1) M' (by omega) s1 s2
   | stop M'=>rintro⟨s1,A',z',e1,e2,e3⟩;exact⟨⟨_,s1⟩,A',z',e1,e2⟩
   | over=>exact λ _=>trivial
theorem cc2 (m:Mc){k:Int}(hk:0<=k):aS6 (zH m k) (zl m k) m.R (zC m) (Bk m k) :=
 br2 (qa m k) (an1 m.L) 301 0 [([],zC m)] (by decide) (cd3 m k) (λ e he=>by rw[ay.mp he];exact az2 hk)
theorem bX3 {F:Fns}{ρ:Env}{s:Sto}(k v:E):ev F (.dicU k v) ρ s=(ev F k ρ (s++[.dit []])).bind λ kd s1=>(ev F v ρ s1).bind λ h s2=>if kd.keyT=true/\s2[s.length]?=some (.dit [])then .ok (.ref s.length) (s2.set s.length (.dit [(kd,h)]))else .bad:=rfl
noncomputable def RmO (P:Pr)(n:Nat)(m:Mc)(k:Int)(s:Sto):Bres->Prop
 | .more M=>(aa0 P (n+5)).call "rows_met" [m.d,.int k] s=.ok (.ref s.length) (s++[.lst (MtD M)])/\(aa0 P (n+5)).xcall "rows_met" [m.d,.int k] s=none
 | .stop M=>(aa0 P (n+5)).call "rows_met" [m.d,.int k] s=.ok (.ref s.length) (s++[.lst (MtD M)])/\(aa0 P (n+5)).xcall "rows_met" [m.d,.int k] s=none
 | .over=>∃ T,(aa0 P (n+5)).xcall "rows_met" [m.d,.int k] s=some ("TooMuch",s++T)
noncomputable def ak4:Xf:=⟨2,1,.call "rows_met" (.ex (.var 0) (.ex (.var 1) .nil))⟩
section
variable {P:Pr} [Has P ai1] [Has P ai9] [Has P ah3] [Has P ah4] [Has P ah8] [Has P ah6] [Has P an9] [Has P ah7] [Has P af9] [Has P ap4] [Has P ai0] [Has P ah1] [HasC P "LETTERS" (.tup aY9)] [HasC P "MOST_ROWS" (.int 300)] [Has P ag7] [Has P ag3] [HasX P "meet_behind" ah0] [HasE P "TooMuch" []] [Has P ai7] [HasX P "rows_met" ai5]
theorem aI3 (n:Nat){m:Mc}(hm:m.Ok){k:Int}(hk:0<=k)(s:Sto):RmO P n m k s (Bk m k):=by
 have e0:(aa0 P (n+5)).call "rows_met" [m.d,.int k] s=_:=ze ai7 (n:=n+4) rfl
 have x0:(aa0 P (n+5)).xcall "rows_met" [m.d,.int k] s=_:=as5 ai5 (n:=n+4) rfl
 have f1:=aF6 (P:=P) (n+2) hm
 have a3:=hm.R1
 have Z:=hm.R5
 have G:(D.tup (zc (zC m))).keyT=true:=bb8 a3 Z (by unfold zC;simp)
 have go:=(bN9 (P:=P) n hm (k:=k) (s:=s++[.lst [],.dit []]) (p:=s.length) (q:=s.length+1) (by simp) (by simp) (by omega) (d2:=some (.tup (zc (zC m)))) 301 0 [([],zC m)] (by decide) (cd3 m k) (λ e he=>by rw[ay.mp he];exact az2 hk)).1
 have a1:=aL7 s [([],zC m)]
 have g1:(s++[O.lst [D.tup [.str [],.tup (zc (zC m))]]]++[O.dit []])[s.length+1]?=some (.dit []):=by rw[aR (by simp),ax];simp
 have g2:(s++[O.lst [D.tup [.str [],.tup (zc (zC m))]]]++[O.dit []]).set (s.length+1) (.dit [(.tup (zc (zC m)),.bl true)])=StM (s++[.lst [],.dit []]) s.length (s.length+1) [([],zC m)]:=by
  rw[a1,bP,cL,if_neg (by omega),show s.length+1 - s.length=1 by omega];rfl
 have g3:(s++[O.lst [D.tup [.str [],.tup (zc (zC m))]]]).length=s.length+1:=by simp
 have hb:ai7.body=.cons (.asg (.one 2) (.call "first_row" (.ex (.var 0) .nil))) (.cons (.asg (.one 3) (.lst (.cons (.tup (.cons (.cst (.str [])) (.cons (.var 2) .nil))) .nil))) (.cons (.asg (.one 4) (.dicU (.var 2) (.cst (.bl true)))) (.cons (.asg (.one 5) (.cst (.int 0))) (.cons (.whl rmC rmB) (.cons (.ret (.var 3)) .nil))))):=rfl
 rw[hb,show(dA some [m.d,.int k]++aC ai7.vs none)=[some m.d,some (.int k),none,none,none,none]from rfl]at e0
 have F:∀ h,(∃ a,whl (ev (aa0 P (n+4)) rmC) (exs (aa0 P (n+4)) rmB) [some m.d,some (.int k),some (.tup (zc (zC m))),some (.ref s.length),some (.ref (s.length+1)),some (.int ((0:Nat):Int))] (StM (s++[.lst [],.dit []]) s.length (s.length+1) [([],zC m)])=.ok (.next [some m.d,some (.int k),some (.tup (zc (zC m))),some (.ref s.length),some (.ref (s.length+1)),a]) (StM (s++[.lst [],.dit []]) s.length (s.length+1) h))->(aa0 P (n+5)).call "rows_met" [m.d,.int k] s=.ok (.ref s.length) (s++[.lst (MtD h)]):=λ h ⟨a,hw⟩=>by
  have hw:whl (ev (aa0 P (n+4)) rmC) (exs (aa0 P (n+4)) rmB) [some m.d,some (.int k),some (.tup (zc (zC m))),some (.ref s.length),some (.ref (s.length+1)),some (.int 0)] (StM (s++[.lst [],.dit []]) s.length (s.length+1) [([],zC m)])=.ok (.next [some m.d,some (.int k),some (.tup (zc (zC m))),some (.ref s.length),some (.ref (s.length+1)),a]) (StM (s++[.lst [],.dit []]) s.length (s.length+1) h):=hw
  rw[e0]
  simp -implicitDefEqProofs only[zT,ab5,ad8,ae3,ae4,ag6,ae2,af3,ab2,ac7,ac5,af7,qz,ad3,ad4,af4,ad1,ae5,ag5,ae9,af6,ae1,ag0,ac1,ag1,ag2,af1,af0,ac9,ac8,af8,ab9,ab8,aa6,aa8,ac0,ab6,aa9,ac4,ag4,ad7,ae0,ae7,R.bind_ok,zX,aa3,aa4,aa1,ad5,ad0,ab4,ab0,qA,zS,ak,am,aa2,qe,ac2,ab1,ab7,ab3,ac3,ac6,ad6,ae8,ae6,af5,ad9,af2,aa7,ad2,if_true,if_false,ag,decide_true,decide_false,au,ar,f1,bX3,G,g3,g1,true_and,g2,hw]
  rw[aL7]
  have:=aF8 (s:=s) (t:=[]) (u:=[.dit (Sn (h.map (·.2)))]) (o:=.lst (MtD h)) bt8
  exact this
 have J:ex (aa0 P (n+4)) (.asg (.one 2) (.call "first_row" (.ex (.var 0) .nil))) [some m.d,some (.int k),none,none,none,none] s=.ok (.next [some m.d,some (.int k),some (.tup (zc (zC m))),none,none,none]) s:=by simp -implicitDefEqProofs only[zT,ab5,ad8,ae3,ae4,ag6,ae2,af3,ab2,ac7,ac5,af7,qz,ad3,ad4,af4,ad1,ae5,ag5,ae9,af6,ae1,ag0,ac1,ag1,ag2,af1,af0,ac9,ac8,af8,ab9,ab8,aa6,aa8,ac0,ab6,aa9,ac4,ag4,ad7,ae0,ae7,R.bind_ok,zX,aa3,aa4,aa1,ad5,ad0,ab4,ab0,qA,zS,ak,am,aa2,qe,ac2,ab1,ab7,ab3,ac3,ac6,ad6,ae8,ae6,af5,ad9,af2,aa7,ad2,if_true,if_false,ag,decide_true,decide_false,au,ar,f1]
 have a0:ex (aa0 P (n+4)) (.asg (.one 3) (.lst (.cons (.tup (.cons (.cst (.str [])) (.cons (.var 2) .nil))) .nil))) [some m.d,some (.int k),some (.tup (zc (zC m))),none,none,none] s=.ok (.next [some m.d,some (.int k),some (.tup (zc (zC m))),some (.ref s.length),none,none]) (s++[O.lst [D.tup [.str [],.tup (zc (zC m))]]]):=by simp -implicitDefEqProofs only[zT,ab5,ad8,ae3,ae4,ag6,ae2,af3,ab2,ac7,ac5,af7,qz,ad3,ad4,af4,ad1,ae5,ag5,ae9,af6,ae1,ag0,ac1,ag1,ag2,af1,af0,ac9,ac8,af8,ab9,ab8,aa6,aa8,ac0,ab6,aa9,ac4,ag4,ad7,ae0,ae7,R.bind_ok,zX,aa3,aa4,aa1,ad5,ad0,ab4,ab0,qA,zS,ak,am,aa2,qe,ac2,ab1,ab7,ab3,ac3,ac6,ad6,ae8,ae6,af5,ad9,af2,aa7,ad2,if_true,if_false,ag,decide_true,decide_false,au,ar]
 have a2:ex (aa0 P (n+4)) (.asg (.one 4) (.dicU (.var 2) (.cst (.bl true)))) [some m.d,some (.int k),some (.tup (zc (zC m))),some (.ref s.length),none,none] (s++[O.lst [D.tup [.str [],.tup (zc (zC m))]]])=.ok (.next [some m.d,some (.int k),some (.tup (zc (zC m))),some (.ref s.length),some (.ref (s.length+1)),none]) (StM (s++[.lst [],.dit []]) s.length (s.length+1) [([],zC m)]):=by simp -implicitDefEqProofs only[zT,ab5,ad8,ae3,ae4,ag6,ae2,af3,ab2,ac7,ac5,af7,qz,ad3,ad4,af4,ad1,ae5,ag5,ae9,af6,ae1,ag0,ac1,ag1,ag2,af1,af0,ac9,ac8,af8,ab9,ab8,aa6,aa8,ac0,ab6,aa9,ac4,ag4,ad7,ae0,ae7,R.bind_ok,zX,aa3,aa4,aa1,ad5,ad0,ab4,ab0,qA,zS,ak,am,aa2,qe,ac2,ab1,ab7,ab3,ac3,ac6,ad6,ae8,ae6,af5,ad9,af2,aa7,ad2,if_true,if_false,ag,decide_true,decide_false,au,ar,bX3,G,g3,g1,true_and,g2]
 have Y:ex (aa0 P (n+4)) (.asg (.one 5) (.cst (.int 0))) [some m.d,some (.int k),some (.tup (zc (zC m))),some (.ref s.length),some (.ref (s.length+1)),none] (StM (s++[.lst [],.dit []]) s.length (s.length+1) [([],zC m)])=.ok (.next [some m.d,some (.int k),some (.tup (zc (zC m))),some (.ref s.length),some (.ref (s.length+1)),some (.int ((0:Nat):Int))]) (StM (s++[.lst [],.dit []]) s.length (s.length+1) [([],zC m)]):=by simp -implicitDefEqProofs only[zT,ab5,ad8,ae3,ae4,ag6,ae2,af3,ab2,ac7,ac5,af7,qz,ad3,ad4,af4,ad1,ae5,ag5,ae9,af6,ae1,ag0,ac1,ag1,ag2,af1,af0,ac9,ac8,af8,ab9,ab8,aa6,aa8,ac0,ab6,aa9,ac4,ag4,ad7,ae0,ae7,R.bind_ok,zX,aa3,aa4,aa1,ad5,ad0,ab4,ab0,qA,zS,ak,am,aa2,qe,ac2,ab1,ab7,ab3,ac3,ac6,ad6,ae8,ae6,af5,ad9,af2,aa7,ad2,if_true,if_false,ag,decide_true,decide_false,au,ar];rfl
 have xr:(aa0 P (n+5)).xcall "rows_met" [m.d,.int k] s=whlX (ev (aa0 P (n+4)) rmC) (exs (aa0 P (n+4)) rmB) (xB (aa0 P (n+4)) (.call "meet_behind" rmA)) [some m.d,some (.int k),some (.tup (zc (zC m))),some (.ref s.length),some (.ref (s.length+1)),some (.int ((0:Nat):Int))] (StM (s++[.lst [],.dit []]) s.length (s.length+1) [([],zC m)]):=by
  rw[x0]
  show xB (aa0 P (n+4)) (.seq _ _) [some m.d,some (.int k),none,none,none,none] s=_
  rw[aG4 J,aG4 a0,aG4 a2,aG4 Y]
  rfl
 show RmO P n m k s (Bk m k)
 unfold Bk
 revert go
 generalize bfs (zH m k) (zl m k) (an1 m.L) 301 0 [([],zC m)]=B
 cases B with
 | more M=>rintro⟨a,b⟩;exact⟨F M a,by rw[xr];exact aC3 b⟩
 | stop M=>rintro⟨a,b⟩;exact⟨F M a,by rw[xr];exact aC3 b⟩
 | over =>
  rintro⟨N,h,hN⟩
  refine⟨[.lst (MtD h),.dit (Sn (h.map (·.2)))],?_⟩
  rw[xr,aY8 hN,aL7]
noncomputable def AbO (P:Pr)(n:Nat)(m:Mc)(k:Int)(s:Sto):Bres->Prop
 | .more M=>(aa0 P (n+6)).call "above" [m.d,.int k] s=.ok .non s/\(aa0 P (n+6)).xcall "above" [m.d,.int k] s=none
 | .stop M=>(∃ A z,M=A++[z]/\(aa0 P (n+6)).call "above" [m.d,.int k] s=.ok (.str z.1) s)/\(aa0 P (n+6)).xcall "above" [m.d,.int k] s=none
 | .over=>∃ T,(aa0 P (n+6)).xcall "above" [m.d,.int k] s=some ("TooMuch",s++T)
theorem bl1 [Has P ak1][HasX P "above" ak4](n:Nat){m:Mc}(hm:m.Ok){k:Int}(hk:0<=k)(s:Sto):AbO P n m k s (Bk m k):=by
 have e0:(aa0 P (n+6)).call "above" [m.d,.int k] s=_:=ze ak1 (n:=n+5) rfl
 have x0:(aa0 P (n+6)).xcall "above" [m.d,.int k] s=_:=as5 ak4 (n:=n+5) rfl
 have xr:(aa0 P (n+6)).xcall "above" [m.d,.int k] s=(aa0 P (n+5)).xcall "rows_met" [m.d,.int k] s:=by
  rw[x0]
  have ea:am6 (aa0 P (n+5)) (.ex (.var 0) (.ex (.var 1) .nil)) [some m.d,some (.int k),none] s=.ok [m.d,.int k] s:=by simp -implicitDefEqProofs only[zT,ab5,ad8,ae3,ae4,ag6,ae2,af3,ab2,ac7,ac5,af7,qz,ad3,ad4,af4,ad1,ae5,ag5,ae9,af6,ae1,ag0,ac1,ag1,ag2,af1,af0,ac9,ac8,af8,ab9,ab8,aa6,aa8,ac0,ab6,aa9,ac4,ag4,ad7,ae0,ae7,R.bind_ok,zX,aa3,aa4,aa1,ad5,ad0,ab4,ab0,qA,zS,ak,am,aa2,qe,ac2,ab1,ab7,ab3,ac3,ac6,ad6,ae8,ae6,af5,ad9,af2,aa7,ad2,if_true,if_false,ag,decide_true,decide_false,au,ar]
  show xB (aa0 P (n+5)) (.call "rows_met" _) [some m.d,some (.int k),none] s=_
  rw[aI2 ea]
 have rm:=aI3 (P:=P) n hm hk s
 have bo:=cc2 m hk
 rw[show(dA some [m.d,.int k]++aC ak1.vs none)=[some m.d,some (.int k),none]from rfl]at e0
 have J:∀ A z,z.2.length=m.R->(aa0 P (n+5)).call "rows_met" [m.d,.int k] s=.ok (.ref s.length) (s++[.lst (MtD (A++[z]))])->(aa0 P (n+6)).call "above" [m.d,.int k] s=.ok (if zl m k z.2=true then .str z.1 else .non) s:=λ A z hz hr=>by
  have Y:ixM (.ref s.length) (.int (-1)) (s++[.lst (MtD (A++[z]))])=.ok (enD z) (s++[.lst (MtD (A++[z]))]):=by
   refine bd7 (l:=MtD A) ?_
   rw[bO9]
   unfold MtD
   rw[cz];rfl
  have G:=qt (P:=P) (n+2) hm hz k (s++[.lst (MtD (A++[z]))])
  rw[e0]
  simp -implicitDefEqProofs only[ak1]
  cases hab:zl m k z.2 with
  | true =>
   rw[hab]at G
   simp -implicitDefEqProofs only[zT,ab5,ad8,ae3,ae4,ag6,ae2,af3,ab2,ac7,ac5,af7,qz,ad3,ad4,af4,ad1,ae5,ag5,ae9,af6,ae1,ag0,ac1,ag1,ag2,af1,af0,ac9,ac8,af8,ab9,ab8,aa6,aa8,ac0,ab6,aa9,ac4,ag4,ad7,ae0,ae7,R.bind_ok,zX,aa3,aa4,aa1,ad5,ad0,ab4,ab0,qA,zS,ak,am,aa2,qe,ac2,ab1,ab7,ab3,ac3,ac6,ad6,ae8,ae6,af5,ad9,af2,aa7,ad2,if_true,if_false,ag,decide_true,decide_false,au,ar,hr,aI6,Y,cb7,bq5,G]
   exact ql (λ _=>rfl) (by nofun)
  | false =>
   rw[hab]at G
   simp -implicitDefEqProofs only[zT,ab5,ad8,ae3,ae4,ag6,ae2,af3,ab2,ac7,ac5,af7,qz,ad3,ad4,af4,ad1,ae5,ag5,ae9,af6,ae1,ag0,ac1,ag1,ag2,af1,af0,ac9,ac8,af8,ab9,ab8,aa6,aa8,ac0,ab6,aa9,ac4,ag4,ad7,ae0,ae7,R.bind_ok,zX,aa3,aa4,aa1,ad5,ad0,ab4,ab0,qA,zS,ak,am,aa2,qe,ac2,ab1,ab7,ab3,ac3,ac6,ad6,ae8,ae6,af5,ad9,af2,aa7,ad2,if_true,if_false,ag,decide_true,decide_false,au,ar,hr,aI6,Y,cb7,bq5,G]
   exact ql (λ _=>rfl) (by nofun)
 revert rm bo
 generalize Bk m k=B
 cases B with
 | more M =>
  rintro⟨a,b⟩ ⟨⟨j,Z⟩,hn⟩
  obtain⟨A,z,rfl⟩:=ax9 Z.pos
  have F:z∈A++[z]:=aK _ (ay.mpr rfl)
  have:=J A z (Z.sh z F) a
  rw[hn z F]at this
  exact⟨this,by rw[xr];exact b⟩
 | stop M =>
  rintro⟨a,b⟩ ⟨⟨j,Z⟩,A,z,rfl,hab⟩
  have F:z∈A++[z]:=aK _ (ay.mpr rfl)
  have:=J A z (Z.sh z F) a
  rw[hab]at this
  exact⟨⟨A,z,rfl,this⟩,by rw[xr];exact b⟩
 | over =>
  rintro⟨T,h⟩ _
  exact⟨T,by rw[xr];exact h⟩
end
def LL (u w:List Nat):Prop:=u.length<w.length\/(u.length=w.length/\u<w)
def LE (u w:List Nat):Prop:=u=w\/LL u w
theorem aM1:∀ {a b c:List Nat},a<b->b<c->a<c
 | [],[],_,h,_=>absurd h (fA _)
 | _::_,[],_,h,_=>absurd h (by simp)
 | _,_::_,[],_,h=>absurd h (by simp)
 | [],_::_,_::_,_,_=>by simp
 | x::a,y::b,z::c,h,h'=>by
  rw[bN]at h h' ⊢
  rcases h with h|⟨rfl,h⟩
  ·rcases h' with h'|⟨rfl,h'⟩
   ·exact .inl (d7 h h')
   ·exact .inl h
  ·rcases h' with h'|⟨rfl,h'⟩
   ·exact .inl h'
   ·exact .inr ⟨rfl,aM1 h h'⟩
theorem bb4:∀ {a b:List Nat},a.length=b.length->a<b->∀ x y,a++[x]<b++[y]
 | [],[],_,h,_,_=>absurd h (fA _)
 | _::_,[],h,_,_,_=>by cases h
 | [],_::_,h,_,_,_=>by cases h
 | u::a,v::b,hl,h,x,y=>by
  rw[bN]at h
  rw[bX,bX,bN]
  rcases h with h|⟨rfl,h⟩
  ·exact .inl h
  ·exact .inr ⟨rfl,bb4 (by simpa using hl) h x y⟩
theorem bf9:∀ {a:List Nat} {x y:Nat},x<y->a++[x]<a++[y]
 | [],x,y,h=>by rw[cK,cK,bN];exact .inl h
 | u::a,x,y,h=>by rw[bX,bX,bN];exact .inr ⟨rfl,bf9 h⟩
theorem lx_split:∀ {a b:List Nat} {x y:Nat},a.length=b.length->a++[x]<b++[y]->a<b\/(a=b/\x<y)
 | [],[],x,y,_,h=>by
  rw[cK,cK,bN]at h
  rcases h with h|⟨_,h⟩
  ·exact .inr ⟨rfl,h⟩
  ·exact absurd h (fA _)
 | _::_,[],_,_,h,_=>by cases h
 | [],_::_,_,_,h,_=>by cases h
 | u::a,v::b,x,y,hl,h=>by
  rw[bX,bX,bN]at h
  rw[bN]
  rcases h with h|⟨rfl,h⟩
  ·exact .inl (.inl h)
  ·rcases lx_split (by simpa using hl) h with g|⟨rfl,g⟩
   ·exact .inl (.inr ⟨rfl,g⟩)
   ·exact .inr ⟨rfl,g⟩
theorem LL.trans {a b c:List Nat}(h:LL a b)(h':LL b c):LL a c:=by
 rcases h with h|⟨h,g⟩
 ·rcases h' with h'|⟨h',g'⟩
  ·exact .inl (d7 h h')
  ·exact .inl (h'▸h)
 ·rcases h' with h'|⟨h',g'⟩
  ·exact .inl (h▸h')
  ·exact .inr ⟨h.trans h',aM1 g g'⟩
theorem LL.irr {a:List Nat}:¬ LL a a:=by
 rintro(h|⟨_,h⟩)
 ·exact bC _ h
 ·exact fA _ h
theorem LL.snoc {a b:List Nat}(h:LL a b)(x y:Nat):LL (a++[x]) (b++[y]):=by
 rcases h with h|⟨h,g⟩
 ·exact .inl (by rw[ax,ax];show a.length+1<b.length+1;omega)
 ·exact .inr ⟨by rw[ax,ax,h];rfl,bb4 h g x y⟩
theorem LL.last {a:List Nat}{x y:Nat}(h:x<y):LL (a++[x]) (a++[y]):=.inr ⟨by simp,bf9 h⟩
theorem LL.split {a b:List Nat}{x y:Nat}(h:LL (a++[x]) (b++[y])):LL a b\/(a=b/\x<y):=by
 rcases h with h|⟨h,g⟩
 ·rw[ax,ax]at h
  exact .inl (.inl (by have h:a.length+1<b.length+1:=h;omega))
 ·rw[ax,ax]at h
  have h:a.length+1=b.length+1:=h
  rcases lx_split (by omega) g with g|g
  ·exact .inl (.inr ⟨by omega,g⟩)
  ·exact .inr g
theorem LE.trans {a b c:List Nat}(h:LE a b)(h':LE b c):LE a c:=by
 rcases h with rfl|h
 ·exact h'
 ·rcases h' with rfl|h'
  ·exact .inr h
  ·exact .inr (h.trans h')
theorem LE.lt {a b c:List Nat}(h:LE a b)(h':LL b c):LL a c:=by
 rcases h with rfl|h
 ·exact h'
 ·exact h.trans h'
theorem LE.snoc {a b:List Nat}(h:LE a b)(x:Nat):LE (a++[x]) (b++[x]):=by
 rcases h with rfl|h
 ·exact .inl rfl
 ·exact .inr (h.snoc x x)
section
variable {f:Rw->Nat->Rw} {ab:Rw->Bool} {R:Nat} {r0:Rw} {ls:List Nat}
structure Od (f:Rw->Nat->Rw)(r0:Rw)(ls:List Nat)(j:Nat)(M:List (List Nat×Rw)):Prop where
 hd:([],r0)∈M
 srt:M.Pairwise λ a b=>LL a.1 b.1
 cls:∀ i d,i<j->M[i]?=some d->∀ x∈ls,∃ c∈M,c.2=f d.2 x/\LE c.1 (d.1++[x])
theorem bU6 {M:List (List Nat×Rw)}(h:M.Pairwise λ a b=>LL a.1 b.1){i j:Nat}{d e:List Nat×Rw}(F:M[i]?=some d)(hj:M[j]?=some e)(hl:LL d.1 e.1):i<j:=by
 obtain⟨G,rfl⟩:=ae.mp F
 obtain⟨B,rfl⟩:=ae.mp hj
 rcases eg i j with q|q|q
 ·exact q
 ·subst q;exact absurd hl LL.irr
 ·exact absurd (hl.trans (fD.mp h j i B G q)) LL.irr
theorem Od.snoc {j:Nat}{M:List (List Nat×Rw)}{z:List Nat×Rw}(h:Od f r0 ls j M)(hj:j<=M.length)(hz:∀ d∈M,LL d.1 z.1):Od f r0 ls j (M++[z]):=by
 refine⟨bu _ h.hd,?_,λ i d B hd x hx=>?_⟩
 ·rw[eW]
  refine⟨h.srt,gi _ _,λ a ha b hb=>?_⟩
  rw[ay.mp hb];exact hz a ha
 ·rw[aP (by omega)]at hd
  obtain⟨c,hc,q⟩:=h.cls i d B hd x hx
  exact⟨c,bu _ hc,q⟩
theorem Od.cover {j:Nat}{M:List (List Nat×Rw)}{e:List Nat×Rw}{x:Nat}(h:Od f r0 ls j M)(he:M[j]?=some e)(G:e.2=e.1.foldl f r0)(hc:∀ y∈ls,y<x->∃ c∈M,c.2=f e.2 y/\LE c.1 (e.1++[y])) :
  ∀(n:Nat) (w:List Nat),w.length=n->(∀ c∈w,c∈ls)->LL w (e.1++[x])->∃ d∈M,d.2=w.foldl f r0/\LE d.1 w
 | 0,w,hl,_,_=>by
  rw[bQ.mp hl]
  exact⟨_,h.hd,rfl,.inl rfl⟩
 | n+1,w,hl,hw,hL=>by
  obtain⟨F,y,rfl⟩:=ax9 (l:=w) (by omega)
  have J:F.length=n:=by rw[ax]at hl;have hl:F.length+1=n+1:=hl;omega
  have hy:y∈ls:=hw y (aK _ (ay.mpr rfl))
  have Y:∀ c∈F,c∈ls:=λ c hc=>hw c (bu _ hc)
  rw[eB]
  rcases hL.split with g|⟨rfl,g⟩
  ·obtain⟨d,hd,d2,dl⟩:=Od.cover h he G hc n F J Y (.inl (by rw[ax];show F.length<e.1.length+1;rcases g with g|⟨g,_⟩<;>omega))
   obtain⟨i,hi⟩:=cO hd
   obtain⟨c,B,Z,cl⟩:=h.cls i d (bU6 h.srt hi he (dl.lt g)) hi y hy
   exact⟨c,B,by rw[Z,d2];rfl,cl.trans (dl.snoc y)⟩
  ·obtain⟨c,B,Z,cl⟩:=hc y hy g
   exact⟨c,B,by rw[Z,G];rfl,cl⟩
theorem Od.all {M:List (List Nat×Rw)}(h:Od f r0 ls M.length M):∀(n:Nat) (w:List Nat),w.length=n->(∀ c∈w,c∈ls)->∃ d∈M,d.2=w.foldl f r0
 | 0,w,hl,_=>by
  rw[bQ.mp hl]
  exact⟨_,h.hd,rfl⟩
 | n+1,w,hl,hw=>by
  obtain⟨F,y,rfl⟩:=ax9 (l:=w) (by omega)
  have G:F.length=n:=by rw[ax]at hl;have hl:F.length+1=n+1:=hl;omega
  obtain⟨d,hd,d2⟩:=Od.all h n F G λ c hc=>hw c (bu _ hc)
  obtain⟨i,J⟩:=cO hd
  obtain⟨c,B,Y,_⟩:=h.cls i d (ae.mp J).1 J y (hw y (aK _ (ay.mpr rfl)))
  rw[eB]
  exact⟨c,B,by rw[Y,d2];rfl⟩
noncomputable def bL9 (f:Rw->Nat->Rw)(ab:Rw->Bool)(r0:Rw)(ls:List Nat):Bres->Prop
 | .more _=>∀ w:List Nat,(∀ c∈w,c∈ls)->ab (w.foldl f r0)=false
 | .stop M=>∀ A z,M=A++[z]->(ab (z.1.foldl f r0)=true/\z.1.length<=300)/\∀ w:List Nat,(∀ c∈w,c∈ls)->LL w z.1->ab (w.foldl f r0)=false
 | .over=>True
noncomputable def bT9 (f:Rw->Nat->Rw)(ab:Rw->Bool)(r0:Rw)(ls:List Nat)(j:Nat)(e:List Nat×Rw):Bres->Prop
 | .more M=>Od f r0 ls (j+1) M/\M[j]?=some e/\∀ d∈M,∃ y,LE d.1 (e.1++[y])
 | .stop M=>bL9 f ab r0 ls (.stop M)
 | .over=>True
theorem aJ8 (hs:ls.Pairwise (· < ·)){j:Nat}{e:List Nat×Rw}(F:e.2=e.1.foldl f r0)(Z:e.1.length<300):∀(J G:List Nat) (M:List (List Nat×Rw)),G++J=ls->Od f r0 ls j M->M[j]?=some e->(∀ y∈G,∃ c∈M,c.2=f e.2 y/\LE c.1 (e.1++[y]))->(∀ d∈M,∀ x∈J,LL d.1 (e.1++[x]))->(∀ d∈M,∃ y,LE d.1 (e.1++[y]))->(∀ d∈M,ab d.2=false)->bT9 f ab r0 ls j e (inn f ab e J M)
 | [],G,M,hd,h,he,hc,_,hy,_=>by
  unfold inn
  rw[bv]at hd
  subst hd
  refine⟨⟨h.hd,h.srt,λ i d hi hd x hx=>?_⟩,he,hy⟩
  rcases Nat.lt_or_eq_of_le (Nat.le_of_lt_succ hi)with q|q
  ·exact h.cls i d q hd x hx
  ·subst q
   rw[he]at hd
   cases hd
   exact hc x hx
 | x::J,G,M,hd,h,he,hc,hu,hy,hn=>by
  have hj:=(ae.mp he).1
  have hp:∀ y∈ls,y<x->y∈G:=λ y hy hl=>by
   rw[<-hd]at hy
   rcases aS.mp hy with z|z
   ·exact z
   ·rw[<-hd,eW]at hs
    rcases aI.mp z with rfl|z
    ·exact absurd hl (bC _)
    ·have:=(ja.mp hs.2.1).1 y z
     omega
  have hx:∀ x'∈J,x<x':=by
   rw[<-hd,eW]at hs
   exact(ja.mp hs.2.1).1
  have a1:(G++[x])++J=ls:=by rw[bP];exact hd
  unfold inn
  by_cases h1:f e.2 x∈M.map (·.2)
  ·rw[if_pos h1]
   obtain⟨c,a0,c2⟩:=aW.mp h1
   refine aJ8 hs F Z J (G++[x]) M a1 h he (λ y Y=>?_) (λ d hd x' B=>hu d hd x' (ao _ B)) hy hn
   rcases aS.mp Y with z|z
   ·exact hc y z
   ·rw[ay.mp z]
    exact⟨c,a0,c2,.inr (hu c a0 x (aD ..))⟩
  ·rw[if_neg h1]
   by_cases h2:M.length=300
   ·rw[if_pos h2];trivial
   ·rw[if_neg h2]
    cases h3:ab (f e.2 x)with
    | true =>
     rw[if_pos rfl]
     show bL9 f ab r0 ls (.stop _)
     intro A z hz
     obtain⟨rfl,a3⟩:=List.append_inj' hz rfl
     cases a3
     refine⟨⟨?_,?_⟩,λ w hw hL=>?_⟩
     ·show ab ((e.1++[x]).foldl f r0)=true
      rw[eB,<-F];exact h3
     ·show(e.1++[x]).length<=300
      rw[ax];exact Z
     ·obtain⟨d,a2,d2,_⟩:=h.cover he F (λ y hy hl=>hc y (hp y hy hl)) _ w rfl hw hL
      rw[<-d2];exact hn d a2
    | false =>
     rw[if_neg (by nofun)]
     refine aJ8 hs F Z J (G++[x]) (M++[(e.1++[x],f e.2 x)]) a1 (h.snoc (dU hj) λ d hd=>hu d hd x (aD ..)) (by rw[aP hj];exact he) (λ y Y=>?_) (λ d hd x' B=>?_) (λ d hd=>?_) (λ d hd=>?_)
     ·rcases aS.mp Y with z|z
      ·obtain⟨c,q,q2⟩:=hc y z
       exact⟨c,bu _ q,q2⟩
      ·rw[ay.mp z]
       exact⟨_,aK _ (ay.mpr rfl),rfl,.inl rfl⟩
     ·rcases aS.mp hd with z|z
      ·exact hu d z x' (ao _ B)
      ·rw[ay.mp z];exact LL.last (hx x' B)
     ·rcases aS.mp hd with z|z
      ·exact hy d z
      ·rw[ay.mp z];exact⟨x,.inl rfl⟩
     ·rcases aS.mp hd with z|z
      ·exact hn d z
      ·rw[ay.mp z];exact h3
theorem bb2 (J:∀ r x,(f r x).length=R)(hs:ls.Pairwise (· < ·)):∀(B j:Nat) (M:List (List Nat×Rw)),301<=B+j->MOk f ab R r0 j M->(∀ e∈M,ab e.2=false)->Od f r0 ls j M->(∀ e,M[j]?=some e->∀ d∈M,∀ x,LL d.1 (e.1++[x]))->bL9 f ab r0 ls (bfs f ab ls B j M)
 | 0,j,M,hf',h,_,_,_=>by
  have:=h.hat
  have:=h.len
  omega
 | B+1,j,M,hf',h,hn,ho,hu=>by
  rw[aY7]
  cases he:M[j]? with
  | none =>
   have hj:M.length<=j:=List.getElem?_eq_none_iff.mp he
   have ej:j=M.length:=Nat.le_antisymm h.hat hj
   subst ej
   intro w hw
   obtain⟨d,hd,d2⟩:=ho.all _ w rfl hw
   rw[<-d2];exact hn d hd
  | some e =>
   have hj:j<M.length:=(ae.mp he).1
   have F:=aZ he
   have a0:=h.wl e F
   have hl:=h.len
   have h':MOk f ab R r0 (j+1) M:=⟨h.len,h.pos,hj,h.sh,h.fold,λ d hd=>fP (h.wl d hd)⟩
   have sp:=am3 (f:=f) (ab:=ab) J (k:=j+1) (e:=e) (by omega) ls M h' F hn
   have sq:=aJ8 (ab:=ab) hs (j:=j) (e:=e) (h.fold e F) (by omega) ls [] M rfl ho he (by nofun) (λ d hd x _=>hu e he d hd x) (λ d hd=>⟨0,.inr (hu e he d hd 0)⟩) hn
   show bL9 f ab r0 ls (match inn f ab e ls M with
     | .more M'=>bfs f ab ls B (j+1) M'
     | .stop M'=>.stop M'
     | .over=>.over)
   revert sp sq
   cases hB:inn f ab e ls M with
   | more M' =>
    rintro⟨s1,s2,s3⟩ ⟨Y,o2,Z⟩
    refine bb2 J hs B (j+1) M' (by omega) s1 s2 Y λ e' G d hd x=>?_
    obtain⟨y,hy⟩:=Z d hd
    refine hy.lt (LL.snoc ?_ y x)
    obtain⟨l1,rfl⟩:=ae.mp o2
    obtain⟨l2,rfl⟩:=ae.mp G
    exact fD.mp Y.srt j (j+1) l1 l2 (cU j)
   | stop M'=>exact λ _ q=>q
   | over=>exact λ _ _=>trivial
end
theorem bj2 (L:Nat):(an1 L).Pairwise (· < ·):=by
 unfold an1
 rw[List.pairwise_map]
 exact gH.imp λ h=>by omega
theorem bR3 (m:Mc){k:Int}(hk:0<=k):bL9 (zH m k) (zl m k) (zC m) (an1 m.L) (Bk m k):=by
 refine bb2 (qa m k) (bj2 _) 301 0 [([],zC m)] (by decide) (cd3 m k) (λ e he=>by rw[ay.mp he];exact az2 hk) ⟨ay.mpr rfl,gi _ _,λ i d h=>absurd h (jN _)⟩ λ e he d hd x=>?_
 rw[ay.mp hd]
 exact .inl (by rw[ax];show 0<e.1.length+1;omega)
def WL (B:Nat)(l:List D):Prop:=∀ d∈l,∃ w:List Nat,d=.str w/\w.length<=B
theorem WL.app {B:Nat}{l m:List D}(h:WL B l)(F:WL B m):WL B (l++m):=λ d hd=>(aS.mp hd).elim (h d) (F d)
theorem WL.mono {B C:Nat}{l:List D}(h:WL B l)(F:B<=C):WL C l:=λ d hd=>by obtain⟨w,e,hw⟩:=h d hd;exact⟨w,e,by omega⟩
theorem WL.bnd {B:Nat}{l:List D}(h:WL B l):∀ d∈l,∀ n,d.bnd n=true:=λ d hd n=>by obtain⟨w,rfl,_⟩:=h d hd;rfl
def bS0 (s:Sto)(r B:Nat)(x:R D):Prop:=∃(w:List Nat) (b:Nat×Nat),w.length<=B/\x=.ok (.str w) (s.set r (ag8 b))
theorem bl3 {P:Pr}[Has P aj0][Has P ao8](n:Nat){s:Sto}{r L:Nat}(Y:1<=L)(G:L<=3)(hs:∃ b,s[r]?=some (ag8 b))(B:Nat)(hB:B<=500):bS0 s r B ((aa0 P (n+2)).call "_law_word" [.ref r,.int L,.int B] s):=by
 have h:(aa0 P (n+2)).call "_law_word" [.ref r,.int L,.int B] s=_:=ze ao8 (n:=n+1) rfl
 have hr:=bh0 hs
 obtain⟨a,F,ha,e1⟩:=qr (P:=P) n hs ((B:Int)+1) (by omega) (an6 (by omega))
 rw[h]
 simp -implicitDefEqProofs [ao8,e1]
 rw[qG (by unfold W62;omega) (by unfold W62;omega)]
 simp only[R.bind_ok]
 refine qw (W:=bS0 s r B) (λ j ρ u=>∃(b:Nat×Nat) (w:List Nat) (x:Option D),w.length=j/\ρ=[some (.ref r),some (.int L),some (.int B),some (.str w),x]/\u=s.set r (ag8 b)) ⟨F,[],none,rfl,rfl,rfl⟩ (λ _ _ _ _ _=>rfl) ?_ ?_
 ·rintro j d ρ u hj ⟨b,w,x,hl,rfl,rfl⟩
  obtain⟨J,rfl⟩:=qq hj
  obtain⟨k,c,hk,f⟩:=qr (P:=P) n (as3 (b:=b) hr) L (by omega) (an6 (by omega))
  rw[bW]at f
  refine ap3 (ρ:=[some (.ref r),some (.int L),some (.int B),some (.str (w++[97+k])),some (.int j)]) (s:=s.set r (ag8 c)) ?_ ⟨c,_,_,by simp[hl],rfl,rfl⟩
  simp -implicitDefEqProofs [turn,f,bu7 (show k<3 by omega)]
  rw[ax8 (by unfold LIM;simp;omega)]
  rfl
 ·rintro ρ u ⟨b,w,x,hl,rfl,rfl⟩
  simp -implicitDefEqProofs
  refine⟨w,b,?_,qJ (λ _=>rfl) (by nofun) rfl⟩
  rw[hl];simp[qC];omega
theorem bP9 {L:Nat}(h3:L<=3)(s:Sto):slM (.str [97,98,99]) none (some (L:Int)) s=.ok (.str ([97,98,99].take L)) s:=by
 show R.ok (D.str (aG6 [97,98,99] none (some (L:Int)))) s=_
 unfold aG6
 simp only[loB,hiB,sbd,ed,Nat.sub_zero]
 rw[if_pos (by omega),bD]
 show R.ok (D.str (List.take (min L 3) [97,98,99])) s=_
 rw[Nat.min_eq_left h3]
theorem ai2.sub {A B:Int->Prop}{o:Option Int}(h:ai2 A o)(J:∀ c,A c->B c)(G:∀ c,B c->∃ F,A F/\F<=c):ai2 B o:=by
 cases o with
 | none=>intro c hc;obtain⟨F,h',_⟩:=G c hc;exact h F h'
 | some a=>exact⟨J a h.1,λ c hc=>by obtain⟨F,h',l⟩:=G c hc;have:=h.2 F h';omega⟩
def bJ4 (K:Int)(S:Int->Prop)(c:Int):Prop:=∃ c',S c'/\c=min c' K
theorem az4 {row:Rw}{a:Nat}(h:a<row.length):row[a]?=some (row.getD a none):=by
 rw[iA,aq h];rfl
theorem cj1 {m:Mc}(hm:m.Ok){k:Int}{u:List Nat}{x:Nat}{row:Rw}(hl:row.length=m.R)(h:qS (λ q=>bJ4 (k+1) (am2 m u q)) row):qS (λ q=>bJ4 (k+1) (am2 m (u++[x]) q)) (zH m k row x):=by
 intro q o F
 unfold zH br7 at F
 rw[cf,aN]at F
 by_cases hR:q<m.R
 ·rw[cB hR]at F
  cases F
  show ai2 _ (cutO k (bI9 m row x q))
  rw[bz4]
  refine(aC0 (aT3 m row x q) (k+1)).sub ?_ ?_
  ·rintro c ⟨Z,⟨d,hd,d1,d2,r,hr,rfl⟩,rfl⟩
   have hok:=hm.ds.1 d hd
   have hg:=az4 (row:=row) (a:=d.a) (by rw[hl];exact hok.a)
   have hr:row.getD d.a none=some r:=hr
   rw[hr]at hg
   obtain⟨B,h0,rfl⟩:=(h d.a _ hg).1
   exact⟨B+(d.t:Int),as4.mp ⟨d,hd,d1,d2,B,h0,rfl⟩,by have:(0:Int)<=(d.t:Int):=Int.natCast_nonneg _;omega⟩
  ·rintro c ⟨Y,J,rfl⟩
   obtain⟨d,hd,d1,d2,B,h0,rfl⟩:=as4.mpr J
   have hok:=hm.ds.1 d hd
   have hg:=az4 (row:=row) (a:=d.a) (by rw[hl];exact hok.a)
   have G:=h d.a _ hg
   cases hr:row.getD d.a none with
   | none=>rw[hr]at G;exact absurd ⟨B,h0,rfl⟩ (G (min B (k+1)))
   | some r =>
    rw[hr]at G
    have:=G.2 (min B (k+1)) ⟨B,h0,rfl⟩
    exact⟨min (r+(d.t:Int)) (k+1),⟨_,⟨d,hd,d1,d2,r,hr,rfl⟩,rfl⟩,by omega⟩
 ·rw[bM (by simp;omega)]at F;cases F
theorem aX7 {m:Mc}(hm:m.Ok){k:Int}:∀(w u:List Nat) (row:Rw),row.length=m.R->qS (λ q=>bJ4 (k+1) (am2 m u q)) row->(w.foldl (zH m k) row).length=m.R/\qS (λ q=>bJ4 (k+1) (am2 m (u++w) q)) (w.foldl (zH m k) row)
 | [],u,row,hl,h=>by rw[bv];exact⟨hl,h⟩
 | x::w,u,row,hl,h=>by
  have:=aX7 hm w (u++[x]) (zH m k row x) (qa ..) (cj1 hm hl h)
  rw[bP]at this
  exact this
theorem co5 {m:Mc}(hm:m.Ok){k:Int}(hk:0<=k)(w:List Nat):(w.foldl (zH m k) (zC m)).length=m.R/\qS (λ q=>bJ4 (k+1) (am2 m w q)) (w.foldl (zH m k) (zC m)):=by
 refine aX7 hm w [] (zC m) (by unfold zC;simp) λ q o h=>?_
 unfold zC at h
 rw[aN]at h
 by_cases hR:q<m.R
 ·rw[cB hR]at h
  cases h
  show ai2 _ (if q∈m.bg then some 0 else none)
  by_cases hb:q∈m.bg
  ·rw[if_pos hb]
   refine⟨⟨0,⟨q,hb,rfl,rfl⟩,by omega⟩,?_⟩
   rintro c ⟨B,⟨p,_,_,rfl⟩,rfl⟩
   omega
  ·rw[if_neg hb]
   rintro c ⟨B,⟨p,hp,rfl,_⟩,_⟩
   exact hb hp
 ·rw[bM (by simp;omega)]at h;cases h
theorem cl9 {m:Mc}(hm:m.Ok){k:Int}(hk:0<=k)(w:List Nat):ai2 (bJ4 (k+1) (m.Wk w)) (bq4 m (w.foldl (zH m k) (zC m))):=by
 obtain⟨hl,h⟩:=co5 hm hk w
 unfold bq4
 refine(qM _).sub ?_ ?_
 ·intro c hc
  obtain⟨q,F,e⟩:=bR.mp hc
  have hg:=az4 (row:=w.foldl (zH m k) (zC m)) (a:=q) (by rw[hl];exact hm.en.1 q F)
  rw[e]at hg
  obtain⟨B,⟨p,hp,h0⟩,rfl⟩:=(h q _ hg).1
  exact⟨B,⟨p,hp,q,F,h0⟩,rfl⟩
 ·rintro c ⟨B,⟨p,hp,q,F,h0⟩,rfl⟩
  have hg:=az4 (row:=w.foldl (zH m k) (zC m)) (a:=q) (by rw[hl];exact hm.en.1 q F)
  have G:=h q _ hg
  cases hr:(w.foldl (zH m k) (zC m)).getD q none with
  | none=>rw[hr]at G;exact absurd ⟨B,⟨p,hp,h0⟩,rfl⟩ (G (min B (k+1)))
  | some r =>
   rw[hr]at G
   exact⟨r,bR.mpr ⟨q,F,hr⟩,G.2 _ ⟨B,⟨p,hp,h0⟩,rfl⟩⟩
noncomputable def ap2 (m:Mc)(k:Int)(w:List Nat):Bool:=zl m k (w.foldl (zH m k) (zC m))
noncomputable def cd1 (k:Int):Option Int->Bool
 | none=>false
 | some p=>decide (k<p)
theorem bm4 {m:Mc}(hm:m.Ok){k:Int}(hk:0<=k){w:List Nat}{o:Option Int}(h:ai2 (m.Wk w) o):ap2 m k w=cd1 k o:=by
 have e:bq4 m (w.foldl (zH m k) (zC m))=o.map (min · (k+1)):=ai2.eq (cl9 hm hk w) (aC0 h (k+1)) λ _=>Iff.rfl
 unfold ap2 zl
 rw[e]
 cases o with
 | none=>rfl
 | some p =>
  show decide (some (min p (k+1))=some (k+1))=decide (k<p)
  by_cases hp:k<p
  ·rw[decide_eq_true hp,decide_eq_true (by congr 1;omega)]
  ·rw[decide_eq_false hp,decide_eq_false (by intro z;injection z;omega)]
theorem bs6 {B:List Dr}:∀ {w:List Nat} {p q:Nat} {c:Int},Wk B w p q c->∀ x∈w,∃ d∈B,d.l=x
 | [],_,_,_,_,x,hx=>by cases hx
 | y::w,p,q,c,h,x,hx=>by
  obtain⟨d,hd,G,F,Y,h3,J⟩:=h
  rcases aI.mp hx with rfl|hx
  ·exact⟨d,hd,by first|exact G|exact F⟩
  ·exact bs6 (by first|exact h3|exact J) x hx
theorem aO6 {m:Mc}(hm:m.Ok){k:Int}(hk:0<=k){w:List Nat}(h:ap2 m k w=true):∀ c∈w,c∈an1 m.L:=by
 have e:=of_decide_eq_true (show decide (bq4 m (w.foldl (zH m k) (zC m))=some (k+1))=true from h)
 have B:=cl9 hm hk w
 rw[e]at B
 obtain⟨F,⟨p,hp,q,G,h0⟩,_⟩:=B.1
 intro c hc
 obtain⟨d,hd,rfl⟩:=bs6 h0 c hc
 have:=(hm.ds.1 d hd).l
 exact aW.mpr ⟨d.l - 97,cr.mpr (by omega),by omega⟩
theorem bm0 {P:Pr}[Has P al0][Has P ah5](n:Nat){m:Mc}(hm:m.Ok){k:Int}(hk:0<=k){w:List Nat}(hw:w.length<=1000)(s:Sto):(aa0 P (n+2)).call "_law_costs_more" [m.d,.str w,.int k] s=.ok (.bl (ap2 m k w)) s:=by
 have B:Has P am0:=inferInstanceAs (Has P al0)
 obtain⟨o,ho,ep⟩:=bj1 (P:=P) n hm w hw s
 have h:(aa0 P (n+2)).call "_law_costs_more" [m.d,.str w,.int k] s=_:=ze ah5 (n:=n+1) rfl
 rw[h,show(dA some [m.d,D.str w,D.int k]++aC ah5.vs none)=[some m.d,some (.str w),some (.int k),none]from rfl,bm4 hm hk ho]
 simp -implicitDefEqProofs only[ah5]
 cases o with
 | none =>
  have ep:(aa0 P (n+1)).call "_law_price" [m.d,.str w] s=.ok .non s:=ep
  simp -implicitDefEqProofs only[zT,ab5,ad8,ae3,ae4,ag6,ae2,af3,ab2,ac7,ac5,af7,qz,ad3,ad4,af4,ad1,ae5,ag5,ae9,af6,ae1,ag0,ac1,ag1,ag2,af1,af0,ac9,ac8,af8,ab9,ab8,aa6,aa8,ac0,ab6,aa9,ac4,ag4,ad7,ae0,ae7,R.bind_ok,zX,aa3,aa4,aa1,ad5,ad0,ab4,ab0,qA,zS,ak,am,aa2,qe,ac2,ab1,ab7,ab3,ac3,ac6,ad6,ae8,ae6,af5,ad9,af2,aa7,ad2,if_true,if_false,ag,decide_true,decide_false,au,ar,ep,show(D.non=D.non)=True from eq_true rfl]
  show zo s (.bl false) s=.ok (.bl false) s
  exact zn (λ _=>rfl) (by nofun)
 | some p =>
  have ep:(aa0 P (n+1)).call "_law_price" [m.d,.str w] s=.ok (.int p) s:=ep
  simp -implicitDefEqProofs only[zT,ab5,ad8,ae3,ae4,ag6,ae2,af3,ab2,ac7,ac5,af7,qz,ad3,ad4,af4,ad1,ae5,ag5,ae9,af6,ae1,ag0,ac1,ag1,ag2,af1,af0,ac9,ac8,af8,ab9,ab8,aa6,aa8,ac0,ab6,aa9,ac4,ag4,ad7,ae0,ae7,R.bind_ok,zX,aa3,aa4,aa1,ad5,ad0,ab4,ab0,qA,zS,ak,am,aa2,qe,ac2,ab1,ab7,ab3,ac3,ac6,ad6,ae8,ae6,af5,ad9,af2,aa7,ad2,if_true,if_false,ag,decide_true,decide_false,au,ar,ep,show(D.int p=D.non)=False from eq_false (by nofun)]
  show zo s (.bl (decide (k<p))) s=.ok (.bl (decide (k<p))) s
  exact zn (λ _=>rfl) (by nofun)
def cm0 (s:Sto)(x:R D):Prop:=∃ ws:List D,WL 4 ws/\ws.length<=400/\x=.ok (.ref s.length) (s++[.lst ws])
theorem aR6 {s T:Sto}{k:Nat}{B:Nat}{ws:List D}(h:WL B ws)(hk:s.length<=k)(hT:(s++T)[k]?=some (.lst ws)):zo s (.ref k) (s++T)=.ok (.ref s.length) (s++[.lst ws]):=by
 unfold zo
 rw[as9,if_pos rfl]
 simp only
 rw[if_neg (by omega),hT]
 simp only
 rw[if_pos (show(O.lst ws).bnd s.length=true from zA h.bnd _),List.take_left']
 rfl
theorem aS9 {P:Pr}[Has P ak2](n:Nat)(s:Sto){L:Nat}(hL:1<=L)(c2:L<=3):cm0 s ((aa0 P (n+1)).call "_law_words" [.int L] s):=by
 have e0:(aa0 P (n+1)).call "_law_words" [.int L] s=_:=ze ak2 (n:=n) rfl
 rw[e0]
 simp -implicitDefEqProofs [ak2]
 rw[qG (by decide) (by decide)]
 simp only[R.bind_ok]
 refine qw (W:=cm0 s) (λ j ρ u=>j<=4/\∃(T:Sto) (k1 k2:Nat) (ws F:List D) (x3 x4 x5:Option D),u=s++T/\s.length<=k1/\u[k1]?=some (.lst ws)/\u[k2]?=some (.lst F)/\WL 4 ws/\ws.length<=1+81*j/\WL j F/\F.length<=3^j/\ρ=[some (.int L),some (.ref k1),some (.ref k2),x3,x4,x5])
  ⟨by omega,[.lst [.str []],.lst [.str []]],s.length,s.length+1,[.str []],[.str []],_,_,_,rfl,aw _,by simp,by rw[aR (by omega),show s.length+1 - s.length=1 by omega];rfl,λ d hd=>⟨[],by simpa using hd,by simp⟩,by simp,λ d hd=>⟨[],by simpa using hd,by simp⟩,by simp,rfl⟩ (λ _ _ _ _ _=>rfl) ?_ ?_
 ·rintro j d ρ u hj ⟨d3,T,k1,k2,ws,F,x3,x4,x5,rfl,a6,g1,g2,J,a2,a5,b6,rfl⟩
  obtain⟨e4,rfl⟩:=qq hj
  have d0:j<4:=by omega
  have d2:3^j<=27:=by
   rcases(show j=0\/j=1\/j=2\/j=3 by omega)with e|e|e|e<;>rw[e]<;>decide
  have sq:∀ o,aA8 (.ref k2) (s++(T++[o]))=.ok ⟨F,[k2]⟩ (s++(T++[o])):=λ o=>by
   have:(s++(T++[o]))[k2]?=some (.lst F):=by rw[<-bP];exact zD g2
   simp only[aA8,this]
  conv=>arg 2;simp -implicitDefEqProofs [turn,sq]
  rw[<-bP,<-ax]
  have b5:(s++T++[O.lst []])[(s++T).length]?=some (.lst []):=by simp
  have b0:(s++(T++[O.lst []]))[k2]?=some (.lst F):=by rw[<-bP];exact zD g2
  generalize e2:(s++T).length=k4 at *
  refine qw (W:=Nx _) (λ i ρ v=>∃(h:Sto) (k5:Nat) (B:List D) (y5:Option D),v=s++h/\v[k1]?=some (.lst ws)/\v[k2]?=some (.lst F)/\v[k5]?=some (.lst B)/\WL (j+1) B/\B.length<=3*i/\i<=F.length/\ρ=[some (.int L),some (.ref k1),some (.ref k2),some (.int (j:Int)),some (.ref k5),y5])
   ⟨T++[.lst []],k4,[],_,by simp,zD g1,zD g2,b5,λ d hd=>(by cases hd),by simp,by omega,rfl⟩ (λ i ρ v _ ⟨_,_,_,_,_,_,h2,_⟩=>by simp[chk,h2,b0]) ?_ ?_
  ·rintro i d ρ v hi ⟨h,k5,B,y5,rfl,a1,a3,Y,G,c1,a4,rfl⟩
   obtain⟨w,rfl,d1⟩:=a5 d (aZ hi)
   have c4:i<F.length:=(ae.mp hi).1
   have sS:aA8 (.str ([97,98,99].take L)) (s++h)=.ok ⟨([97,98,99].take L).map λ c=>.str [c],[]⟩ (s++h):=rfl
   obtain⟨ρ3,s3,e3,c0,_⟩:=zU (ok:=λ b4=>chk (s++h) b4 []) (g:=am5 (aa0 P n) (.one 0) (.bin .add (.var 1) (.var 0))) (λ ρ u=>u=s++h/\∃ x,ρ=[x,some (.str w)]) (λ d=>match d with|.str c=>some (.str (w++c))|_=>none) (([97,98,99].take L).map λ c=>.str [c]) (qb [some (.int L),some (.ref k1),some (.ref k2),some (.int (j:Int)),some (.ref k5),some (.str w)] [none,some 5]) (s++h) ⟨rfl,none,rfl⟩ (λ _ _ _=>rfl) (by
    rintro d hd ρ u ⟨rfl,x,rfl⟩
    obtain⟨c,_,rfl⟩:=aW.mp hd
    refine⟨[some (.str [c]),some (.str w)],s++h,?_,rfl,_,rfl⟩
    unfold am5
    simp -implicitDefEqProofs only[zX,ad0,ad4,qz,qA,zS,R.bind_ok]
    rw[ax8 (by simp;unfold LIM;omega)]
    rfl)
   subst c0
   have b3:(([97,98,99].take L).map λ c=>D.str [c]).filterMap (λ d=>match d with|.str c=>some (D.str (w++c))|_=>none)=([97,98,99].take L).map λ c=>D.str (w++[c]):=by
    rw[cj,<-eD]
    exact zN λ _ _=>rfl
   rw[b3]at e3
   have Z:([97,98,99].take L).length=L:=by rw[bZ];simp;omega
   have c3:(([97,98,99].take L).map λ c=>D.str [c]).length<=LIM:=by rw[aF,Z];unfold LIM;omega
   have a0:=cm6 (s:=s++h++[O.lst (([97,98,99].take L).map λ c=>D.str (w++[c]))]) (b:=(s++h).length) (zD Y) bO9 (by rw[aF,Z];unfold LIM;omega)
   refine ap3 (ρ:=[some (.int L),some (.ref k1),some (.ref k2),some (.int (j:Int)),some (.ref (s++h++[O.lst (([97,98,99].take L).map λ c=>D.str (w++[c]))]).length),some (.str w)]) (s:=s++h++[O.lst (([97,98,99].take L).map λ c=>D.str (w++[c]))]++[O.lst (B++([97,98,99].take L).map λ c=>D.str (w++[c]))]) ?_ ⟨h++[O.lst (([97,98,99].take L).map λ c=>D.str (w++[c]))]++[O.lst (B++([97,98,99].take L).map λ c=>D.str (w++[c]))],_,_,_,by simp,zD (zD a1),zD (zD a3),bO9,G.app λ d hd=>?_,?_,by omega,rfl⟩
   ·simp -implicitDefEqProofs only[turn,zX,ad5,ad0,ak,zT,ab5,ad8,ad4,ag2,qz,qA,zS,R.bind_ok,aq2,ab6,bM8,ad3,ae7,bP9 c2,sS,c3,if_true,e3,bh5,a0,aa2,qe]
   ·obtain⟨c,_,rfl⟩:=aW.mp hd
    exact⟨_,rfl,by simp;omega⟩
   ·rw[ax,aF,Z];omega
  ·rintro ρ v ⟨h,k5,B,y5,rfl,a1,a3,Y,G,c1,a4,rfl⟩
   have a0:=cm6 a1 Y (by unfold LIM;omega)
   have e1:3^(j+1)=3^j*3:=kJ ..
   have b1:WL 4 B:=G.mono (by omega)
   refine ap3 (ρ:=[some (.int L),some (.ref (s++h).length),some (.ref k5),some (.int (j:Int)),some (.ref k5),y5]) (s:=s++h++[O.lst (ws++B)]) ?_ ⟨by omega,h++[O.lst (ws++B)],_,k5,ws++B,B,_,_,_,by simp,by simp,bO9,zD Y,J.app b1,by rw[ax];omega,G,by omega,rfl⟩
   simp -implicitDefEqProofs only[qe,zT,ab5,ad8,ad4,qz,qA,zS,R.bind_ok,a0,zX,ad5,ad0,ak,aa2]
 ·rintro ρ u ⟨_,T,k1,k2,ws,F,x3,x4,x5,rfl,a6,g1,g2,J,a2,a5,b6,rfl⟩
  have b2:(qC 0 (4:Int)).length=4:=by decide
  rw[b2]at a2
  simp -implicitDefEqProofs
  exact⟨ws,J,by omega,aR6 J a6 g1⟩
theorem aL8 {P : Pr} [Has P aj0] [Has P aj6] [Has P ai4] (n : Nat) {s : Sto} {r : Nat} (hs : ∃ b, s[r]? = some (ag8 b)) : McR s r ((aa0 P (n + 3)).call "_law_machine" [.ref r] s) := by
  have e0 : (aa0 P (n + 3)).call "_law_machine" [.ref r] s = _ := ze ai4 (n := n + 2) rfl
  have hr := bh0 hs
  obtain⟨a, b1, ha, e1⟩ := qr (P := P) (n + 1) hs 3 (by decide) (by decide)
  obtain⟨c, b2, hc, e2⟩ := qr (P := P) (n + 1) (as3 (b := b1) hr) 5 (by decide) (by decide)
  rw[bW]at e2
  obtain⟨m1, b3, hm1, e3⟩ := qr (P := P) (n + 1) (as3 (b := b2) hr) 13 (by decide) (by decide)
  rw[bW]at e3
  obtain⟨m2, b4, hm2, e4⟩ := qr (P := P) (n + 1) (as3 (b := b3) hr) 8 (by decide) (by decide)
  rw[bW]at e4
  obtain⟨m3, b5, hm3, e5⟩ := qr (P := P) (n + 1) (as3 (b := b4) hr) 31 (by decide) (by decide)
  rw[bW]at e5
  rw[e0]
  simp -implicitDefEqProofs [ai4, e1, e2, e3, e4]
  obtain ⟨many, bb, hmany, hif⟩ : ∃ (many : Nat) (bb : Nat × Nat), many <= 75 /\ (if (m2 : Int) = 7 then
                      ((aa0 P (n + 2)).call "_law_take" [D.ref r, D.int 31] (List.set s r (ag8 b4))).bind λ d s =>
                        R.ok
                          (Ct.next [some (D.ref r), some (D.int (1 + ↑a)), some (D.int (1 + ↑c)), some d, none, none]) s
                    else
                      R.ok
                        (Ct.next
                          [some (D.ref r), some (D.int (1 + ↑a)), some (D.int (1 + ↑c)), some (D.int ↑m1), none, none])
                        (List.set s r (ag8 b4))) = .ok (.next [some (.ref r), some (.int (1 + a)), some (.int (1 + c)), some (.int many), none, none]) (s.set r (ag8 bb)) := by
    by_cases h7 : (m2 : Int) = 7
    · exact⟨m3, b5, by omega, by rw[if_pos h7, e5]; rfl⟩
    · exact⟨m1, b4, by omega, by rw[if_neg h7]⟩
  rw[hif]
  simp -implicitDefEqProofs
  rw[qG (by unfold W62; omega) (by unfold W62; omega)]
  simp only[R.bind_ok]
  refine qw (W := McR s r) (λ j ρ u => ∃(b : Nat × Nat) (l : List Dr) (x : Option D), (∀ d ∈ l, d.Ok ⟨a + 1, c + 1, [], [], []⟩) /\ l.length = j /\ ρ = [some (.ref r), some (.int (1 + a)), some (.int (1 + c)), some (.int many), some (.ref s.length), x] /\ u = s.set r (ag8 b) ++ [.lst (l.map Dr.d)]) ⟨bb, [], none, by simp, rfl, rfl, rfl⟩ (λ _ _ _ _ _ => rfl) ?_ ?_
  · rintro j d ρ u hj ⟨b, l, x, hl, hlen, rfl, rfl⟩
    obtain⟨hj2, rfl⟩ := qq hj
    obtain⟨k1, c1, hk1, f1⟩ := aA4 (P := P) (n + 1) (t := [.lst (l.map Dr.d)]) hr b (1 + c) (by omega) (an6 (by omega))
    obtain⟨k2, c2, hk2, f2⟩ := aA4 (P := P) (n + 1) (t := [.lst (l.map Dr.d)]) hr c1 (1 + a) (by omega) (an6 (by omega))
    obtain⟨k3, c3, hk3, f3⟩ := aA4 (P := P) (n + 1) (t := [.lst (l.map Dr.d)]) hr c2 (1 + c) (by omega) (an6 (by omega))
    obtain⟨k4, c4, hk4, f4⟩ := aA4 (P := P) (n + 1) (t := [.lst (l.map Dr.d)]) hr c3 4 (by decide) (by decide)
    refine ap3 (ρ := [some (.ref r), some (.int (1 + a)), some (.int (1 + c)), some (.int many), some (.ref s.length), some (.int j)]) (s := s.set r (ag8 c4) ++ [.lst ((l ++ [(⟨k1, 97 + k2, k3, k4⟩ : Dr)]).map Dr.d)]) ?_ ⟨c4, l ++ [(⟨k1, 97 + k2, k3, k4⟩ : Dr)], _, ?_, ?_, rfl, rfl⟩
    · simp -implicitDefEqProofs [turn, f1, f2, f3, f4, bu7 (show k2 < 3 by omega)]
      rw[bW3 (by unfold LIM; simp; omega)]
      rfl
    · intro d hd
      rcases aS.mp hd with h|h
      · exact hl d h
      · rw[ay.mp h]; constructor <;> simp only <;> omega
    · simp[hlen]
  · rintro ρ u ⟨b, l, x, hl, hlen, rfl, rfl⟩
    obtain⟨l1, c1, g1, f1⟩ := aN0 (P := P) n (s := s.set r (ag8 b) ++ [.lst (l.map Dr.d)]) (r := r) ⟨b, zD (z9 hr)⟩ (c + 1) (by omega)
    rw[ay4 (by rw[bK]; exact hr), bW]at f1
    obtain⟨l2, c2, g2, f2⟩ := aN0 (P := P) n (s := s.set r (ag8 c1) ++ [.lst (l.map Dr.d)]) (r := r) ⟨c1, zD (z9 hr)⟩ (c + 1) (by omega)
    rw[ay4 (by rw[bK]; exact hr), bW]at f2
    rw[show((c + 1 : Nat) : Int) = 1 + (c : Int)by omega]at f1 f2
    have hl3 : (s.set r (ag8 c2) ++ [O.lst (l.map Dr.d)])[s.length]? = some (.lst (l.map Dr.d)) := by rw[aR (by simp)]; simp
    have hll : l.length <= 75 := by
      rw[hlen]; simp[qC]; omega
    simp -implicitDefEqProofs [f1, f2, bJ5, hl3, mk]
    refine⟨⟨a + 1, c + 1, l1, l2, l⟩, c2, ⟨by simp, by simp; omega, by simp, by simp; omega, g1, g2, λ x hx => ?_, hll⟩, ?_⟩
    · have := hl x hx
      exact⟨this.a, this.l, this.b, this.t⟩
    · rw[show((1 : Int) + (a : Int)) = ((a + 1 : Nat) : Int)by omega, show((1 : Int) + (c : Int)) = ((c + 1 : Nat) : Int)by omega]
      exact at0 (bQ6 ⟨a + 1, c + 1, l1, l2, l⟩) (by nofun) rfl
noncomputable abbrev bY4:Ss:=(.cons (.ex (.meth .append (.var 5) (.cons (.call "_law_word" (.ex (.call "_law_bag" (.ex (.var 0) (.ex (.var 6) .nil))) (.ex (.ix (.var 2) (.cst (.int 0))) (.ex (.cst (.int 40)) .nil)))) .nil))) .nil)
noncomputable abbrev bL7:Ss:=(.cons (.ite (.call "_law_costs_more" (.ex (.var 2) (.ex (.var 7) (.ex (.var 3) .nil)))) (.cons (.ite (.or (.isN (.var 4)) (.cmp .lt (.tup (.cons (.bi .len (.cons (.var 7) .nil)) (.cons (.var 7) .nil))) (.tup (.cons (.bi .len (.cons (.var 4) .nil)) (.cons (.var 4) .nil))))) (.cons (.ret (.cst (.bl false))) .nil) .nil) .nil) .nil) .nil)
noncomputable abbrev ck4:Ss:=(.cons (.ite (.and (.notN (.var 4)) (.or (.not (.bi .isStr (.cons (.var 4) .nil))) (.not (.call "_law_costs_more" (.ex (.var 2) (.ex (.var 4) (.ex (.var 3) .nil))))))) (.cons (.ret (.cst (.bl false))) .nil) .nil) (.cons (.asg (.one 5) (.call "_law_words" (.ex (.ix (.var 2) (.cst (.int 0))) .nil))) (.cons (.for_ (.one 6) (.rng2 (.cst (.int 1)) (.bin .add (.bi .min2 (.cons (.bi .len (.cons (.var 0) .nil)) (.cons (.cst (.int 40)) .nil))) (.cst (.int 1)))) bY4) (.cons (.for_ (.one 7) (.seq (.var 5)) bL7) (.cons (.ret (.cst (.bl true))) .nil)))))
noncomputable def ah9:Tf:=⟨1,7,(.cons (.asg (.one 4) (.call "above" (.ex (.var 2) (.ex (.var 3) .nil)))) .nil),.call "above" (.ex (.var 2) (.ex (.var 3) .nil)), "TooMuch",0,.nob true,ck4,(.cons (.asg (.one 1) (.call "_law_bag" (.ex (.var 0) (.ex (.cst (.int 0)) .nil)))) (.cons (.asg (.one 2) (.call "_law_machine" (.ex (.var 1) .nil))) (.cons (.asg (.one 3) (.call "_law_bound" (.ex (.var 1) .nil))) (.cons (.asg (.one 4) (.cst .non)) .nil))))⟩
theorem bj9 (w:List Nat)(s:Sto):bi .isStr [.str w] s=.ok (.bl true) s:=rfl
theorem by6 (i j:Int)(x y:List Nat)(s:Sto):qB .lt (.tup [.int i,.str x]) (.tup [.int j,.str y]) s=.ok (.bl (ltP i x j y)) s:=rfl
theorem bN6 {w z:List Nat}(h:¬ LL w z):ltP (w.length:Int) w (z.length:Int) z=false:=by
 unfold ltP
 by_cases e:w.length=z.length
 ·rw[if_pos (by omega)]
  exact decide_eq_false λ g=>h (.inr ⟨e,g⟩)
 ·rw[if_neg (by omega)]
  exact decide_eq_false λ g=>h (.inl (by omega))
noncomputable def foD:Option (List Nat)->D
 | none=>.non
 | some z=>.str z
noncomputable def cl5 (m:Mc)(k:Int):Option (List Nat)->Prop
 | none=>∀ w,ap2 m k w=false
 | some z=>(ap2 m k z=true/\z.length<=300)/\∀ w,ap2 m k w=true->¬ LL w z
theorem bE2 {F:Fns}{a b:E}{ρ:Env}{s s1 s2:Sto}{i j:Int}(G:ev F a ρ s=.ok (.int i) s1)(B:ev F b ρ s1=.ok (.int j) s2)(h:-W62<=i/\i<W62)(w2:-W62<=j/\j<W62):evI F (.rng2 a b) ρ s=.ok ⟨qC i j,[]⟩ s2:=by
 have e:evI F (.rng2 a b) ρ s=(ev F a ρ s).bind λ x s=>(ev F b ρ s).bind λ y s=>(match x,y with|.int i,.int j=>if(-W62<=i/\i<W62)/\-W62<=j/\j<W62 then .ok (⟨qC i j,[]⟩:Sq) s else .bad|_,_=>.bad:R Sq):=rfl
 rw[e]
 rw[G,R.bind_ok,B,R.bind_ok]
 exact if_pos ⟨h,w2⟩
section
variable {P:Pr} [Has P ai1] [Has P ai9] [Has P ah3] [Has P ah4] [Has P ah8] [Has P ah6] [Has P an9] [Has P ah7] [Has P af9] [Has P ap4] [Has P ai0] [Has P ah1] [HasC P "LETTERS" (.tup aY9)] [HasC P "MOST_ROWS" (.int 300)] [Has P ag7] [Has P ag3] [HasX P "meet_behind" ah0] [HasE P "TooMuch" []] [Has P ai7] [HasX P "rows_met" ai5] [Has P ak1] [HasX P "above" ak4]
theorem bL1 [Has P az1][Has P aj0][Has P ao8][Has P al0][Has P ah5][Has P ak2](n:Nat){m:Mc}(hm:m.Ok){k:Nat}{F:Option (List Nat)}(a0:cl5 m k F){ns:List Int}(hl:ns.length<=63){b:Nat×Nat}{S0:Sto}{y5 J G:Option D} :
  Yes ((exs (aa0 P (n+7)) ck4 [some (.ref 0),some (.ref 1),some m.d,some (.int (k:Int)),some (foD F),y5,J,G] [O.ro (ns.map D.int),ag8 b]).bind (fin S0)):=by
 have hk:(0:Int)<=(k:Int):=by omega
 have hc:=λ(w:List Nat) (hw:w.length<=1000) s=>bm0 (P:=P) (n+5) hm hk hw s
 have hc:∀(w:List Nat),w.length<=1000->∀ s,(aa0 P (n+7)).call "_law_costs_more" [m.d,.str w,.int (k:Int)] s=.ok (.bl (ap2 m k w)) s:=hc
 have a1:ex (aa0 P (n+7)) (.ite (.and (.notN (.var 4)) (.or (.not (.bi .isStr (.cons (.var 4) .nil))) (.not (.call "_law_costs_more" (.ex (.var 2) (.ex (.var 4) (.ex (.var 3) .nil))))))) (.cons (.ret (.cst (.bl false))) .nil) .nil) [some (.ref 0),some (.ref 1),some m.d,some (.int (k:Int)),some (foD F),y5,J,G] [O.ro (ns.map D.int),ag8 b]=.ok (.next [some (.ref 0),some (.ref 1),some m.d,some (.int (k:Int)),some (foD F),y5,J,G]) [O.ro (ns.map D.int),ag8 b]:=by
  cases F with
  | none =>
   show ex (aa0 P (n+7)) _ [some (.ref 0),some (.ref 1),some m.d,some (.int (k:Int)),some .non,y5,J,G] _=_
   simp -implicitDefEqProofs only[zT,ab5,ad8,ae3,ae4,ag6,ae2,af3,ab2,ac7,ac5,af7,qz,ad3,ad4,af4,ad1,ae5,ag5,ae9,af6,ae1,ag0,ac1,ag1,ag2,af1,af0,ac9,ac8,af8,ab9,ab8,aa6,aa8,ac0,ab6,aa9,ac4,ag4,ad7,ae0,ae7,R.bind_ok,zX,aa3,aa4,aa1,ad5,ad0,ab4,ab0,qA,zS,ak,am,aa2,qe,ac2,ab1,ab7,ab3,ac3,ac6,ad6,ae8,ae6,af5,ad9,af2,aa7,ad2,if_true,if_false,ag,decide_true,decide_false,au,ar,show(D.non=D.non)=True from eq_true rfl]
   rfl
  | some z =>
   obtain⟨⟨h1,h2⟩,_⟩:=a0
   show ex (aa0 P (n+7)) _ [some (.ref 0),some (.ref 1),some m.d,some (.int (k:Int)),some (.str z),y5,J,G] _=_
   simp -implicitDefEqProofs only[zT,ab5,ad8,ae3,ae4,ag6,ae2,af3,ab2,ac7,ac5,af7,qz,ad3,ad4,af4,ad1,ae5,ag5,ae9,af6,ae1,ag0,ac1,ag1,ag2,af1,af0,ac9,ac8,af8,ab9,ab8,aa6,aa8,ac0,ab6,aa9,ac4,ag4,ad7,ae0,ae7,R.bind_ok,zX,aa3,aa4,aa1,ad5,ad0,ab4,ab0,qA,zS,ak,am,aa2,qe,ac2,ab1,ab7,ab3,ac3,ac6,ad6,ae8,ae6,af5,ad9,af2,aa7,ad2,if_true,if_false,ag,decide_true,decide_false,au,ar,show(D.str z=D.non)=False from eq_false (by nofun),bj9,hc z (by omega),h1]
   rfl
 obtain⟨ws,b2,a5,ew⟩:=aS9 (P:=P) (n+6) [O.ro (ns.map D.int),ag8 b] hm.L1 hm.L3
 have ew:(aa0 P (n+7)).call "_law_words" [.int (m.L:Int)] [O.ro (ns.map D.int),ag8 b]=.ok (.ref 2) [O.ro (ns.map D.int),ag8 b,.lst ws]:=ew
 have a2:ex (aa0 P (n+7)) (.asg (.one 5) (.call "_law_words" (.ex (.ix (.var 2) (.cst (.int 0))) .nil))) [some (.ref 0),some (.ref 1),some m.d,some (.int (k:Int)),some (foD F),y5,J,G] [O.ro (ns.map D.int),ag8 b]=.ok (.next [some (.ref 0),some (.ref 1),some m.d,some (.int (k:Int)),some (foD F),some (.ref 2),J,G]) [O.ro (ns.map D.int),ag8 b,.lst ws]:=by
  simp -implicitDefEqProofs only[zT,ab5,ad8,ae3,ae4,ag6,ae2,af3,ab2,ac7,ac5,af7,qz,ad3,ad4,af4,ad1,ae5,ag5,ae9,af6,ae1,ag0,ac1,ag1,ag2,af1,af0,ac9,ac8,af8,ab9,ab8,aa6,aa8,ac0,ab6,aa9,ac4,ag4,ad7,ae0,ae7,R.bind_ok,zX,aa3,aa4,aa1,ad5,ad0,ab4,ab0,qA,zS,ak,am,aa2,qe,ac2,ab1,ab7,ab3,ac3,ac6,ad6,ae8,ae6,af5,ad9,af2,aa7,ad2,if_true,if_false,ag,decide_true,decide_false,au,ar,ixL,ew]
 rw[zT,a1,R.bind_ok,qe,zT,a2,R.bind_ok,qe,zT]
 have a4:bi .len [.ref 0] [O.ro (ns.map D.int),ag8 b,.lst ws]=.ok (.int ns.length) [O.ro (ns.map D.int),ag8 b,.lst ws]:=by rw[br4 rfl,aF]
 have er:evI (aa0 P (n+7)) (.rng2 (.cst (.int 1)) (.bin .add (.bi .min2 (.cons (.bi .len (.cons (.var 0) .nil)) (.cons (.cst (.int 40)) .nil))) (.cst (.int 1)))) [some (.ref 0),some (.ref 1),some m.d,some (.int (k:Int)),some (foD F),some (.ref 2),J,G] [O.ro (ns.map D.int),ag8 b,.lst ws]=.ok ⟨qC 1 ((if(40:Int)<(ns.length:Int)then 40 else(ns.length:Int))+1),[]⟩ [O.ro (ns.map D.int),ag8 b,.lst ws]:=by
  refine bE2 (s1:=[O.ro (ns.map D.int),ag8 b,.lst ws]) (by simp -implicitDefEqProofs only[zT,ab5,ad8,ae3,ae4,ag6,ae2,af3,ab2,ac7,ac5,af7,qz,ad3,ad4,af4,ad1,ae5,ag5,ae9,af6,ae1,ag0,ac1,ag1,ag2,af1,af0,ac9,ac8,af8,ab9,ab8,aa6,aa8,ac0,ab6,aa9,ac4,ag4,ad7,ae0,ae7,R.bind_ok,zX,aa3,aa4,aa1,ad5,ad0,ab4,ab0,qA,zS,ak,am,aa2,qe,ac2,ab1,ab7,ab3,ac3,ac6,ad6,ae8,ae6,af5,ad9,af2,aa7,ad2,if_true,if_false,ag,decide_true,decide_false,au,ar]) (by simp -implicitDefEqProofs only[zT,ab5,ad8,ae3,ae4,ag6,ae2,af3,ab2,ac7,ac5,af7,qz,ad3,ad4,af4,ad1,ae5,ag5,ae9,af6,ae1,ag0,ac1,ag1,ag2,af1,af0,ac9,ac8,af8,ab9,ab8,aa6,aa8,ac0,ab6,aa9,ac4,ag4,ad7,ae0,ae7,R.bind_ok,zX,aa3,aa4,aa1,ad5,ad0,ab4,ab0,qA,zS,ak,am,aa2,qe,ac2,ab1,ab7,ab3,ac3,ac6,ad6,ae8,ae6,af5,ad9,af2,aa7,ad2,if_true,if_false,ag,decide_true,decide_false,au,ar,a4,bj6]) (by unfold W62;omega) ?_
  split<;>(unfold W62;omega)
 rw[ae2,er,R.bind_ok]
 have key:=ay5 (ok:=λ a3=>chk [O.ro (ns.map D.int),ag8 b,.lst ws] a3 []) (g:=turn (aa0 P (n+7)) (.one 6) bY4) (λ j ρ u=>∃(T:Sto) (B:List D) (Y:Option D),u=[O.ro (ns.map D.int),ag8 b,.lst B]++T/\WL 40 B/\B.length<=400+j/\ρ=[some (.ref 0),some (.ref 1),some m.d,some (.int (k:Int)),some (foD F),some (.ref 2),Y,G]) (qC 1 ((if(40:Int)<(ns.length:Int)then 40 else(ns.length:Int))+1)) 0 [some (.ref 0),some (.ref 1),some m.d,some (.int (k:Int)),some (foD F),some (.ref 2),J,G] [O.ro (ns.map D.int),ag8 b,.lst ws]
  ⟨[],ws,_,rfl,b2.mono (by omega),by omega,rfl⟩ (λ _ _ _ _ _=>rfl) (by
   rintro j d ρ u hj ⟨T,B,Y,rfl,Z,a6,rfl⟩
   obtain⟨b3,rfl⟩:=qq hj
   have b5:j<41:=by split at b3<;>omega
   have hb:=bs0 (P:=P) (n+6) ns (1+j) ([O.ro (ns.map D.int),ag8 b,.lst B]++T) 0 rfl hl
   generalize bE9 ns (1+j)=b0 at hb
   have hb:(aa0 P (n+7)).call "_law_bag" [.ref 0,.int (1+(j:Int))] ([O.ro (ns.map D.int),ag8 b,.lst B]++T)=.ok (.ref ([O.ro (ns.map D.int),ag8 b,.lst B]++T).length) ([O.ro (ns.map D.int),ag8 b,.lst B]++T++[ag8 b0]):=hb
   obtain⟨w,b1,hw,e⟩:=bl3 (P:=P) (n+5) (s:=[O.ro (ns.map D.int),ag8 b,.lst B]++T++[ag8 b0]) (r:=([O.ro (ns.map D.int),ag8 b,.lst B]++T).length) hm.L1 hm.L3 ⟨b0,bO9⟩ 40 (by decide)
   rw[cL,if_neg (by omega),gG]at e
   have e:(aa0 P (n+7)).call "_law_word" [.ref ([O.ro (ns.map D.int),ag8 b,.lst B]++T).length,.int (m.L:Int),.int 40] ([O.ro (ns.map D.int),ag8 b,.lst B]++T++[ag8 b0])=.ok (.str w) ([O.ro (ns.map D.int),ag8 b,.lst B]++T++[ag8 b1]):=e
   have ap:=an2 (s:=[O.ro (ns.map D.int),ag8 b,.lst B]++T++[ag8 b1]) (r:=2) (l:=B) (v:=.str w) rfl (by unfold LIM;omega)
   have ap:meth .append (.ref 2) [.str w] ([O.ro (ns.map D.int),ag8 b,.lst B]++T++[ag8 b1])=.ok .non ([O.ro (ns.map D.int),ag8 b,.lst (B++[.str w])]++(T++[ag8 b1])):=ap
   refine⟨[some (.ref 0),some (.ref 1),some m.d,some (.int (k:Int)),some (foD F),some (.ref 2),some (.int (1+(j:Int))),G],[O.ro (ns.map D.int),ag8 b,.lst (B++[.str w])]++(T++[ag8 b1]),.inl ?_,T++[ag8 b1],B++[.str w],_,rfl,Z.app (λ d hd=>⟨w,ay.mp hd,hw⟩),by rw[ax];show B.length+1<=_;omega,rfl⟩
   generalize hS:[O.ro (ns.map D.int),ag8 b,.lst B]++T=S at hb e ap
   generalize b4:[O.ro (ns.map D.int),ag8 b,.lst (B++[.str w])]++(T++[ag8 b1])=S2 at ap
   simp -implicitDefEqProofs only[zT,ab5,ad8,ae3,ae4,ag6,ae2,af3,ab2,ac7,ac5,af7,qz,ad3,ad4,af4,ad1,ae5,ag5,ae9,af6,ae1,ag0,ac1,ag1,ag2,af1,af0,ac9,ac8,af8,ab9,ab8,aa6,aa8,ac0,ab6,aa9,ac4,ag4,ad7,ae0,ae7,R.bind_ok,zX,aa3,aa4,aa1,ad5,ad0,ab4,ab0,qA,zS,ak,am,aa2,qe,ac2,ab1,ab7,ab3,ac3,ac6,ad6,ae8,ae6,af5,ad9,af2,aa7,ad2,if_true,if_false,ag,decide_true,decide_false,au,ar,turn,hb,ixL,e,ap])
 obtain⟨ρ1,s1,e1,T,B,Y,rfl,Z,a6,rfl⟩:=key
 rw[e1,R.bind_ok,qe,zT]
 have sq:aA8 (.ref 2) ([O.ro (ns.map D.int),ag8 b,.lst B]++T)=.ok ⟨B,[2]⟩ ([O.ro (ns.map D.int),ag8 b,.lst B]++T):=rfl
 have g2:([O.ro (ns.map D.int),ag8 b,.lst B]++T)[2]?=some (.lst B):=rfl
 generalize [O.ro (ns.map D.int),ag8 b,.lst B]++T=S at sq g2
 rw[ae2,ab6,qz,zS,zS,zS,zS,zS,qA,R.bind_ok,sq,R.bind_ok]
 have key:=ay5 (ok:=λ a3=>chk S a3 [2]) (g:=turn (aa0 P (n+7)) (.one 7) bL7) (λ j ρ u=>u=S/\∃ x7:Option D,ρ=[some (.ref 0),some (.ref 1),some m.d,some (.int (k:Int)),some (foD F),some (.ref 2),Y,x7]) B 0 [some (.ref 0),some (.ref 1),some m.d,some (.int (k:Int)),some (foD F),some (.ref 2),Y,G] S
  ⟨rfl,_,rfl⟩ (λ _ _ _ _ h=>by rw[h.1];simp[chk]) (by
   rintro j d ρ u hj ⟨rfl,x7,rfl⟩
   obtain⟨w,rfl,a5⟩:=Z d (aZ hj)
   refine⟨[some (.ref 0),some (.ref 1),some m.d,some (.int (k:Int)),some (foD F),some (.ref 2),Y,some (.str w)],u,.inl ?_,rfl,_,rfl⟩
   cases hd:ap2 m k w with
   | false=>simp -implicitDefEqProofs only[zT,ab5,ad8,ae3,ae4,ag6,ae2,af3,ab2,ac7,ac5,af7,qz,ad3,ad4,af4,ad1,ae5,ag5,ae9,af6,ae1,ag0,ac1,ag1,ag2,af1,af0,ac9,ac8,af8,ab9,ab8,aa6,aa8,ac0,ab6,aa9,ac4,ag4,ad7,ae0,ae7,R.bind_ok,zX,aa3,aa4,aa1,ad5,ad0,ab4,ab0,qA,zS,ak,am,aa2,qe,ac2,ab1,ab7,ab3,ac3,ac6,ad6,ae8,ae6,af5,ad9,af2,aa7,ad2,if_true,if_false,ag,decide_true,decide_false,au,ar,turn,hc w (by omega),hd]
   | true =>
    cases F with
    | none=>exact absurd hd (by rw[a0 w];nofun)
    | some z =>
     obtain⟨_,h2⟩:=a0
     show turn (aa0 P (n+7)) _ _ (.str w) [some (.ref 0),some (.ref 1),some m.d,some (.int (k:Int)),some (.str z),some (.ref 2),Y,x7] u=.ok (.next [some (.ref 0),some (.ref 1),some m.d,some (.int (k:Int)),some (.str z),some (.ref 2),Y,some (.str w)]) u
     simp -implicitDefEqProofs only[zT,ab5,ad8,ae3,ae4,ag6,ae2,af3,ab2,ac7,ac5,af7,qz,ad3,ad4,af4,ad1,ae5,ag5,ae9,af6,ae1,ag0,ac1,ag1,ag2,af1,af0,ac9,ac8,af8,ab9,ab8,aa6,aa8,ac0,ab6,aa9,ac4,ag4,ad7,ae0,ae7,R.bind_ok,zX,aa3,aa4,aa1,ad5,ad0,ab4,ab0,qA,zS,ak,am,aa2,qe,ac2,ab1,ab7,ab3,ac3,ac6,ad6,ae8,ae6,af5,ad9,af2,aa7,ad2,if_true,if_false,ag,decide_true,decide_false,au,ar,turn,hc w (by omega),hd,show(D.str z=D.non)=False from eq_false (by nofun),bf1,by6,bN6 (h2 w hd)])
 obtain⟨ρ2,s2,e2,rfl,x7,rfl⟩:=key
 rw[e2,R.bind_ok,qe]
 simp -implicitDefEqProofs only[zT,ab5,ad8,ae3,ae4,ag6,ae2,af3,ab2,ac7,ac5,af7,qz,ad3,ad4,af4,ad1,ae5,ag5,ae9,af6,ae1,ag0,ac1,ag1,ag2,af1,af0,ac9,ac8,af8,ab9,ab8,aa6,aa8,ac0,ab6,aa9,ac4,ag4,ad7,ae0,ae7,R.bind_ok,zX,aa3,aa4,aa1,ad5,ad0,ab4,ab0,qA,zS,ak,am,aa2,qe,ac2,ab1,ab7,ab3,ac3,ac6,ad6,ae8,ae6,af5,ad9,af2,aa7,ad2,if_true,if_false,ag,decide_true,decide_false,au,ar]
 exact aD6 _ _
theorem cj0 [HasT P "law" ah9][Has P az1][Has P aj0][Has P aj6][Has P ai4][Has P ak9][Has P ao8][Has P al0][Has P ah5][Has P ak2](n:Nat):ci2 P (n+8):=by
 intro ns hl
 have e0:(aa0 P (n+8)).call "law" [.ref 0] [.ro (ns.map D.int)]=_:=bG4 ah9 (n:=n+7) rfl
 rw[e0]
 have hb:=bs0 (P:=P) (n+6) ns 0 [O.ro (ns.map D.int)] 0 rfl hl
 generalize bE9 ns 0=b0 at hb
 have hb:(aa0 P (n+7)).call "_law_bag" [.ref 0,.int 0] [O.ro (ns.map D.int)]=.ok (.ref 1) [O.ro (ns.map D.int),ag8 b0]:=hb
 obtain⟨m,J,hm,em⟩:=aL8 (P:=P) (n+4) (s:=[O.ro (ns.map D.int),ag8 b0]) (r:=1) ⟨b0,rfl⟩
 have em:(aa0 P (n+7)).call "_law_machine" [.ref 1] [O.ro (ns.map D.int),ag8 b0]=.ok m.d [O.ro (ns.map D.int),ag8 J]:=em
 have ek:=bp6 (P:=P) (n+5) J [O.ro (ns.map D.int),ag8 J] 1 rfl
 generalize a1:bd J=kb at ek
 obtain⟨k,F⟩:=kb
 have ek:(aa0 P (n+7)).call "_law_bound" [.ref 1] [O.ro (ns.map D.int),ag8 J]=.ok (.int (k:Int)) [O.ro (ns.map D.int),ag8 F]:=ek
 have hk:(0:Int)<=(k:Int):=by omega
 have ep:exs (aa0 P (n+7)) ah9.pre ([D.ref 0].map some++aC ah9.vs none) [O.ro (ns.map D.int)]=.ok (.next [some (.ref 0),some (.ref 1),some m.d,some (.int (k:Int)),some .non,none,none,none]) [O.ro (ns.map D.int),ag8 F]:=by
  show exs (aa0 P (n+7)) (.cons (.asg (.one 1) (.call "_law_bag" (.ex (.var 0) (.ex (.cst (.int 0)) .nil)))) (.cons (.asg (.one 2) (.call "_law_machine" (.ex (.var 1) .nil))) (.cons (.asg (.one 3) (.call "_law_bound" (.ex (.var 1) .nil))) (.cons (.asg (.one 4) (.cst .non)) .nil)))) [some (D.ref 0),none,none,none,none,none,none,none] [O.ro (ns.map D.int)]=_
  simp -implicitDefEqProofs only[zT,ab5,ad8,ae3,ae4,ag6,ae2,af3,ab2,ac7,ac5,af7,qz,ad3,ad4,af4,ad1,ae5,ag5,ae9,af6,ae1,ag0,ac1,ag1,ag2,af1,af0,ac9,ac8,af8,ab9,ab8,aa6,aa8,ac0,ab6,aa9,ac4,ag4,ad7,ae0,ae7,R.bind_ok,zX,aa3,aa4,aa1,ad5,ad0,ab4,ab0,qA,zS,ak,am,aa2,qe,ac2,ab1,ab7,ab3,ac3,ac6,ad6,ae8,ae6,af5,ad9,af2,aa7,ad2,if_true,if_false,ag,decide_true,decide_false,au,ar,hb,em,ek]
 rw[bo4 ep]
 have ab:=bl1 (P:=P) (n+1) hm hk [O.ro (ns.map D.int),ag8 F]
 have G:=bR3 m hk
 have ea:am6 (aa0 P (n+7)) (.ex (.var 2) (.ex (.var 3) .nil)) [some (.ref 0),some (.ref 1),some m.d,some (.int (k:Int)),some .non,none,none,none] [O.ro (ns.map D.int),ag8 F]=.ok [m.d,.int (k:Int)] [O.ro (ns.map D.int),ag8 F]:=by simp -implicitDefEqProofs only[zT,ab5,ad8,ae3,ae4,ag6,ae2,af3,ab2,ac7,ac5,af7,qz,ad3,ad4,af4,ad1,ae5,ag5,ae9,af6,ae1,ag0,ac1,ag1,ag2,af1,af0,ac9,ac8,af8,ab9,ab8,aa6,aa8,ac0,ab6,aa9,ac4,ag4,ad7,ae0,ae7,R.bind_ok,zX,aa3,aa4,aa1,ad5,ad0,ab4,ab0,qA,zS,ak,am,aa2,qe,ac2,ab1,ab7,ab3,ac3,ac6,ad6,ae8,ae6,af5,ad9,af2,aa7,ad2,if_true,if_false,ag,decide_true,decide_false,au,ar]
 have xe:xB (aa0 P (n+7)) ah9.xb [some (.ref 0),some (.ref 1),some m.d,some (.int (k:Int)),some .non,none,none,none] [O.ro (ns.map D.int),ag8 F]=(aa0 P (n+7)).xcall "above" [m.d,.int (k:Int)] [O.ro (ns.map D.int),ag8 F]:=by
  show xB (aa0 P (n+7)) (.call "above" _) _ _=_
  rw[aI2 ea]
 have Y:∀ fo,cl5 m k fo->(aa0 P (n+7)).call "above" [m.d,.int (k:Int)] [O.ro (ns.map D.int),ag8 F]=.ok (foD fo) [O.ro (ns.map D.int),ag8 F]->(aa0 P (n+7)).xcall "above" [m.d,.int (k:Int)] [O.ro (ns.map D.int),ag8 F]=none->Yes (aB8 (aa0 P (n+7)) ah9 [O.ro (ns.map D.int)] [some (.ref 0),some (.ref 1),some m.d,some (.int (k:Int)),some .non,none,none,none] [O.ro (ns.map D.int),ag8 F]):=λ fo a0 h1 Z=>by
  unfold aB8
  rw[xe,Z]
  have eb:exs (aa0 P (n+7)) ah9.body [some (.ref 0),some (.ref 1),some m.d,some (.int (k:Int)),some .non,none,none,none] [O.ro (ns.map D.int),ag8 F]=.ok (.next [some (.ref 0),some (.ref 1),some m.d,some (.int (k:Int)),some (foD fo),none,none,none]) [O.ro (ns.map D.int),ag8 F]:=by
   show exs (aa0 P (n+7)) (.cons (.asg (.one 4) (.call "above" (.ex (.var 2) (.ex (.var 3) .nil)))) .nil) _ _=_
   simp -implicitDefEqProofs only[zT,ab5,ad8,ae3,ae4,ag6,ae2,af3,ab2,ac7,ac5,af7,qz,ad3,ad4,af4,ad1,ae5,ag5,ae9,af6,ae1,ag0,ac1,ag1,ag2,af1,af0,ac9,ac8,af8,ab9,ab8,aa6,aa8,ac0,ab6,aa9,ac4,ag4,ad7,ae0,ae7,R.bind_ok,zX,aa3,aa4,aa1,ad5,ad0,ab4,ab0,qA,zS,ak,am,aa2,qe,ac2,ab1,ab7,ab3,ac3,ac6,ad6,ae8,ae6,af5,ad9,af2,aa7,ad2,if_true,if_false,ag,decide_true,decide_false,au,ar,h1]
  show Yes ((exs (aa0 P (n+7)) ah9.body _ _).bind _)
  rw[eb,R.bind_ok]
  exact bL1 (P:=P) n hm a0 hl
 revert ab G
 generalize Bk m k=B
 cases B with
 | more M =>
  rintro⟨h1,Z⟩ G
  refine Y none (λ w=>?_) h1 Z
  cases hd:ap2 m k w with
  | false=>rfl
  | true=>exact absurd hd (by rw[show ap2 m k w=false from G w (aO6 hm hk hd)];nofun)
 | stop M =>
  rintro⟨⟨A,z,e,h1⟩,Z⟩ G
  obtain⟨⟨d1,d2⟩,d3⟩:=G A z e
  refine Y (some z.1) ⟨⟨d1,d2⟩,λ w hd hL=>?_⟩ h1 Z
  exact absurd hd (by rw[show ap2 m k w=false from d3 w (aO6 hm hk hd) hL];nofun)
 | over =>
  rintro⟨T,h⟩ _
  unfold aB8
  rw[xe,h]
  have hc:(aa0 P (n+7)).xc "TooMuch"=true:=by rw[(bP4 (P:=P)).1];exact HasE.at_ (ts:=[])
  show Yes (if "TooMuch"=ah9.c/\(aa0 P (n+7)).xc "TooMuch"=true/\ah9.h.ok (aa0 P (n+7)).xt=true then _ else _)
  rw[if_pos ⟨rfl,hc,rfl⟩]
  exact aD6 _ _
end
end DV
end
local macro_rules | `(tactic| walk_at "sc") => `(tactic| exact ⟨rfl, rfl, rfl, by decide +kernel, rfl, by decide +kernel, by decide +kernel⟩)
local macro_rules | `(tactic| walk_at "df") => `(tactic| (dsimp only; exact ⟨_, _, _, _, _, _, _, _, _, _, by k_is, by k_is, by k_is, by k_is⟩))
noncomputable section
namespace My
open PySem L2
noncomputable def top (i:Nat):Stmt:=PySem.Challenge.pw_leasttolls_k18_none_ahead_of_it.main.body.getD i (.Pass ⟨0,0,0,0⟩)
noncomputable def aj8:List Str:=[]
noncomputable abbrev s_letters_of:Stmt:=top 2
noncomputable abbrev aw0:Stmt:=top 3
noncomputable abbrev ar5:Stmt:=top 4
noncomputable abbrev aF4:Stmt:=top 5
noncomputable abbrev aw4:Stmt:=top 6
noncomputable abbrev bb5:Stmt:=top 8
noncomputable abbrev bb3:Stmt:=top 9
noncomputable abbrev bL4:Stmt:=top 11
noncomputable abbrev as1:Stmt:=top 12
noncomputable abbrev ao6:Stmt:=top 13
noncomputable abbrev bP3:Stmt:=top 14
noncomputable abbrev aQ3:Stmt:=top 15
noncomputable abbrev aj5:Stmt:=top 21
noncomputable abbrev ao7:Stmt:=top 22
noncomputable abbrev ai8:Stmt:=top 23
noncomputable abbrev as7:Stmt:=top 24
noncomputable abbrev au9:Stmt:=top 26
noncomputable abbrev ar3:Stmt:=top 27
noncomputable abbrev ap1:Stmt:=top 28
noncomputable abbrev ak8:Stmt:=top 29
noncomputable abbrev aq8:Stmt:=top 30
noncomputable abbrev ao4:Stmt:=top 31
noncomputable abbrev ao5:Stmt:=top 32
noncomputable abbrev aj4:Stmt:=top 33
noncomputable abbrev ao9:Stmt:=top 34
noncomputable abbrev az9:Stmt:=top 35
noncomputable def tb:List (String×my×Stmt):=[("letters_of",DV.ah1,s_letters_of),("rooms_of",DV.ah4,aw0),("begins_of",DV.ah8,ar5),("ends_of",DV.ah6,aF4),("doors_of",DV.ah3,aw4),("least",DV.ai1,bb5),("added",DV.ai9,bb3),("cut",DV.an9,bL4),("first_row",DV.ah7,as1),("least_into",DV.af9,ao6),("led",DV.ap4,bP3),("end_of",DV.ai0,aQ3),("rows_met",DV.ai7,aj5),("ends_above",DV.ag7,ao7),("meet_behind",DV.ag3,ai8),("above",DV.ak1,as7),("_law_bag",DV.az1,au9),("_law_take",DV.aj0,ar3),("_law_rooms",DV.aj6,ap1),("_law_machine",DV.ai4,ak8),("_law_word",DV.ao8,aq8),("_law_bound",DV.ak9,ao4),("_law_price",DV.al0,ao5),("_law_costs_more",DV.ah5,aj4),("_law_words",DV.ak2,ao9)]
noncomputable def cj5:List (String×kZ):=[("LETTERS",.tup [.str [97],.str [98],.str [99]]),("MOST_ROWS",.int (300))]
noncomputable def co7:List (String×mw):=[]
noncomputable def tbl:List (String×my):=tb.map λ p=>(p.1,p.2.1)
noncomputable def xtb:List (String×DV.Xf):=[("meet_behind",DV.ah0),("rows_met",DV.ai5),("above",DV.ak4)]
noncomputable def ttb:List (String×nr):=[("law",DV.ah9)]
noncomputable def dl:List (String×Stmt):=[("meet_behind",ai8),("rows_met",aj5),("above",as7),("law",az9)]
noncomputable def xcs:List String:=["TooMuch"]
noncomputable def xts:List String:=[]
noncomputable def P:lv:=⟨λ f=>tbl.lookup f,λ f=>co7.lookup f,λ x=>cj5.lookup x,λ f=>xtb.lookup f,λ f=>ttb.lookup f,λ c=>xcs.contains c,λ c=>xts.contains c,λ _=>none⟩
instance:DV.HasX P "meet_behind" DV.ah0:=⟨rfl⟩
instance:DV.HasX P "rows_met" DV.ai5:=⟨rfl⟩
instance:DV.HasX P "above" DV.ak4:=⟨rfl⟩
instance:DV.HasT P "law" DV.ah9:=⟨rfl,rfl⟩
instance:DV.HasE P "TooMuch" []:=⟨rfl,by decide⟩
instance:DV.HasC P "LETTERS" (.tup [.str [97],.str [98],.str [99]]):=⟨rfl⟩
instance:DV.HasC P "MOST_ROWS" (.int (300)):=⟨rfl⟩
instance:DV.Has P DV.ah1:=⟨rfl⟩
instance:DV.Has P DV.ah4:=⟨rfl⟩
instance:DV.Has P DV.ah8:=⟨rfl⟩
instance:DV.Has P DV.ah6:=⟨rfl⟩
instance:DV.Has P DV.ah3:=⟨rfl⟩
instance:DV.Has P DV.ai1:=⟨rfl⟩
instance:DV.Has P DV.ai9:=⟨rfl⟩
instance:DV.Has P DV.an9:=⟨rfl⟩
instance:DV.Has P DV.ah7:=⟨rfl⟩
instance:DV.Has P DV.af9:=⟨rfl⟩
instance:DV.Has P DV.ap4:=⟨rfl⟩
instance:DV.Has P DV.ai0:=⟨rfl⟩
instance:DV.Has P DV.ai7:=⟨rfl⟩
instance:DV.Has P DV.ag7:=⟨rfl⟩
instance:DV.Has P DV.ag3:=⟨rfl⟩
instance:DV.Has P DV.ak1:=⟨rfl⟩
instance:DV.Has P DV.az1:=⟨rfl⟩
instance:DV.Has P DV.aj0:=⟨rfl⟩
instance:DV.Has P DV.aj6:=⟨rfl⟩
instance:DV.Has P DV.ai4:=⟨rfl⟩
instance:DV.Has P DV.ao8:=⟨rfl⟩
instance:DV.Has P DV.ak9:=⟨rfl⟩
instance:DV.Has P DV.al0:=⟨rfl⟩
instance:DV.Has P DV.ah5:=⟨rfl⟩
instance:DV.Has P DV.ak2:=⟨rfl⟩
theorem aB9:DT aj8 P "letters_of" DV.ah1 s_letters_of:=⟨["machine"],["machine"],by walk_at "sc",rfl,rfl,λ _ _ _ _ _ _=>bd1 (λ _=>rfl),.inl (by decide +kernel)⟩
theorem aU3:DT aj8 P "rooms_of" DV.ah4 aw0:=⟨["machine"],["machine"],by walk_at "sc",rfl,rfl,λ _ _ _ _ _ _=>bd1 (λ _=>rfl),.inl (by decide +kernel)⟩
theorem aJ5:DT aj8 P "begins_of" DV.ah8 ar5:=⟨["machine"],["machine"],by walk_at "sc",rfl,rfl,λ _ _ _ _ _ _=>bd1 (λ _=>rfl),.inl (by decide +kernel)⟩
theorem be7:DT aj8 P "ends_of" DV.ah6 aF4:=⟨["machine"],["machine"],by walk_at "sc",rfl,rfl,λ _ _ _ _ _ _=>bd1 (λ _=>rfl),.inl (by decide +kernel)⟩
theorem aT9:DT aj8 P "doors_of" DV.ah3 aw4:=⟨["machine"],["machine"],by walk_at "sc",rfl,rfl,λ _ _ _ _ _ _=>bd1 (λ _=>rfl),.inl (by decide +kernel)⟩
theorem bv7:DT aj8 P "least" DV.ai1 bb5:=⟨["prices"],["prices"],by walk_at "sc",rfl,rfl,λ _ _ _ _ _ _=>bd1 (λ _=>rfl),.inl (by decide +kernel)⟩
theorem bE7:DT aj8 P "added" DV.ai9 bb3:=⟨["one", "other"],["one", "other"],by walk_at "sc",rfl,rfl,λ _ _ _ _ _ _=>bd2 (λ _ _=>rfl),.inl (by decide +kernel)⟩
theorem ci6:DT aj8 P "cut" DV.an9 bL4:=⟨["price", "k"],["price", "k"],by walk_at "sc",rfl,rfl,λ _ _ _ _ _ _=>bd2 (λ _ _=>rfl),.inl (by decide +kernel)⟩
theorem aK1:DT aj8 P "first_row" DV.ah7 as1:=⟨["machine", "begins"],["machine"],by walk_at "sc",rfl,rfl,λ _ _ _ _ _ _=>bd1 (λ _=>rfl),.inl (by decide +kernel)⟩
theorem aE4:DT aj8 P "least_into" DV.af9 ao6:=⟨["machine", "row", "letter", "room"],["machine", "row", "letter", "room"],by walk_at "sc",rfl,rfl,λ _ _ _ _ _ _=>bd4 (λ _ _ _ _=>rfl),.inl (by decide +kernel)⟩
theorem cg3:DT aj8 P "led" DV.ap4 bP3:=⟨["machine", "k", "row", "letter"],["machine", "k", "row", "letter"],by walk_at "sc",rfl,rfl,λ _ _ _ _ _ _=>bd4 (λ _ _ _ _=>rfl),.inl (by decide +kernel)⟩
theorem bi7:DT aj8 P "end_of" DV.ai0 aQ3:=⟨["machine", "row"],["machine", "row"],by walk_at "sc",rfl,rfl,λ _ _ _ _ _ _=>bd2 (λ _ _=>rfl),.inl (by decide +kernel)⟩
theorem aV0:DT aj8 P "rows_met" DV.ai7 aj5:=⟨["machine", "k", "first", "met", "seen", "at"],["machine", "k"],by walk_at "sc",rfl,rfl,λ _ _ _ _ _ _=>bd2 (λ _ _=>rfl),.inl (by decide +kernel)⟩
theorem aE2:DT aj8 P "ends_above" DV.ag7 ao7:=⟨["machine", "k", "row"],["machine", "k", "row"],by walk_at "sc",rfl,rfl,λ _ _ _ _ _ _=>bd3 (λ _ _ _=>rfl),.inl (by decide +kernel)⟩
theorem aw8:DT aj8 P "meet_behind" DV.ag3 ai8:=⟨["machine", "k", "entry", "met", "seen", "letter", "row"],["machine", "k", "entry", "met", "seen"],by walk_at "sc",rfl,rfl,λ _ _ _ _ _ _=>bd5 (λ _ _ _ _ _=>rfl),.inl (by decide +kernel)⟩
theorem bG3:DT aj8 P "above" DV.ak1 as7:=⟨["machine", "k", "last"],["machine", "k"],by walk_at "sc",rfl,rfl,λ _ _ _ _ _ _=>bd2 (λ _ _=>rfl),.inl (by decide +kernel)⟩
theorem aT0:DT aj8 P "_law_bag" DV.az1 au9:=⟨["_law_script", "_law_at", "_law_cell", "_law_mix", "_law_k"],["_law_script", "_law_at"],by walk_at "sc",rfl,rfl,λ _ _ _ _ _ _=>bd2 (λ _ _=>rfl),.inl (by decide +kernel)⟩
theorem aJ2:DT aj8 P "_law_take" DV.aj0 ar3:=⟨["_law_bag_here", "_law_many", "_law_digit", "_law_number", "_law_room"],["_law_bag_here", "_law_many"],by walk_at "sc",rfl,rfl,λ _ _ _ _ _ _=>bd2 (λ _ _=>rfl),.inl (by decide +kernel)⟩
theorem aD7:DT aj8 P "_law_rooms" DV.aj6 ap1:=⟨["_law_bag_here", "_law_many", "_law_bits"],["_law_bag_here", "_law_many"],by walk_at "sc",rfl,rfl,λ _ _ _ _ _ _=>bd2 (λ _ _=>rfl),.inl (by decide +kernel)⟩
theorem au3:DT aj8 P "_law_machine" DV.ai4 ak8:=⟨["_law_bag_here", "_law_letters", "_law_rooms_here", "_law_many", "_law_doors", "_law_k"],["_law_bag_here"],by walk_at "sc",rfl,rfl,λ _ _ _ _ _ _=>bd1 (λ _=>rfl),.inl (by decide +kernel)⟩
theorem aK6:DT aj8 P "_law_word" DV.ao8 aq8:=⟨["_law_bag_here", "_law_letters", "_law_most", "_law_word_here", "_law_k"],["_law_bag_here", "_law_letters", "_law_most"],by walk_at "sc",rfl,rfl,λ _ _ _ _ _ _=>bd3 (λ _ _ _=>rfl),.inl (by decide +kernel)⟩
theorem aD9:DT aj8 P "_law_bound" DV.ak9 ao4:=⟨["_law_bag_here"],["_law_bag_here"],by walk_at "sc",rfl,rfl,λ _ _ _ _ _ _=>bd1 (λ _=>rfl),.inl (by decide +kernel)⟩
theorem aB0:DT aj8 P "_law_price" DV.al0 ao5:=⟨["_law_machine_here", "_law_word_here", "_law_here", "_law_letter", "_law_there", "_law_start", "_law_sign", "_law_goal", "_law_cost"],["_law_machine_here", "_law_word_here"],by walk_at "sc",rfl,rfl,λ _ _ _ _ _ _=>bd2 (λ _ _=>rfl),.inl (by decide +kernel)⟩
theorem ao0:DT aj8 P "_law_costs_more" DV.ah5 aj4:=⟨["_law_machine_here", "_law_word_here", "_law_k", "_law_amount"],["_law_machine_here", "_law_word_here", "_law_k"],by walk_at "sc",rfl,rfl,λ _ _ _ _ _ _=>bd3 (λ _ _ _=>rfl),.inl (by decide +kernel)⟩
theorem aD3:DT aj8 P "_law_words" DV.ak2 ao9:=⟨["_law_letters", "_law_words_here", "_law_some", "_law_turn", "_law_longer", "_law_word_here"],["_law_letters"],by walk_at "sc",rfl,rfl,λ _ _ _ _ _ _=>bd1 (λ _=>rfl),.inl (by decide +kernel)⟩
theorem ay0:DTB aj8 P "meet_behind" DV.ah0.ps DV.ah0.vs (λ h S=>mX h DV.ah0.body S) ai8:=⟨["machine", "k", "entry", "met", "seen", "letter", "row"],["machine", "k", "entry", "met", "seen"],by walk_at "sc",rfl,rfl,λ _ _ _ _ _ _=>bd5 (λ _ _ _ _ _=>rfl),.inl (by decide +kernel)⟩
theorem aR8:DTB aj8 P "rows_met" DV.ai5.ps DV.ai5.vs (λ h S=>mX h DV.ai5.body S) aj5:=⟨["machine", "k", "first", "met", "seen", "at"],["machine", "k"],by walk_at "sc",rfl,rfl,λ _ _ _ _ _ _=>bd2 (λ _ _=>rfl),.inl (by decide +kernel)⟩
theorem bz0:DTB aj8 P "above" DV.ak4.ps DV.ak4.vs (λ h S=>mX h DV.ak4.body S) as7:=⟨["machine", "k", "last"],["machine", "k"],by walk_at "sc",rfl,rfl,λ _ _ _ _ _ _=>bd2 (λ _ _=>rfl),.inl (by decide +kernel)⟩
theorem bq6:FnScope ["_law_script", "_law_bag_here", "_law_machine_here", "_law_k", "_law_found", "_law_words_here", "_law_at", "_law_word_here"] ["_law_script"] (defScope az9):=by walk_at "sc"
theorem bT4:mT ⟨["_law_script", "_law_bag_here", "_law_machine_here", "_law_k", "_law_found", "_law_words_here", "_law_at", "_law_word_here"],defScope az9,λ _ _ _=>false⟩ DV.ah9 (zq az9)=true:=by decide +kernel
theorem bZ9:cl7 "law" az9 ["_law_script"]:=λ _ _ _ _ _ _=>bd1 λ _=>rfl
theorem cj8:DTB aj8 P "law" DV.ah9.ps DV.ah9.vs (λ h S=>mT h DV.ah9 S) az9:=⟨_,_,bq6,rfl,rfl,bZ9,.inl bT4⟩
theorem cf4:∀ p∈tb,DT aj8 P p.1 p.2.1 p.2.2:=by
 intro p hp
 unfold tb at hp
 simp only[aI,b7,or_false]at hp
 rcases hp with rfl|rfl|rfl|rfl|rfl|rfl|rfl|rfl|rfl|rfl|rfl|rfl|rfl|rfl|rfl|rfl|rfl|rfl|rfl|rfl|rfl|rfl|rfl|rfl|rfl
 ·exact aB9
 ·exact aU3
 ·exact aJ5
 ·exact be7
 ·exact aT9
 ·exact bv7
 ·exact bE7
 ·exact ci6
 ·exact aK1
 ·exact aE4
 ·exact cg3
 ·exact bi7
 ·exact aV0
 ·exact aE2
 ·exact aw8
 ·exact bG3
 ·exact aT0
 ·exact aJ2
 ·exact aD7
 ·exact au3
 ·exact aK6
 ·exact aD9
 ·exact aB0
 ·exact ao0
 ·exact aD3
theorem bV7 {l:cY}{w:World}{K:ac}{h:Heap}{mg:Str->Option Value}{fa:Addr}(X:K.In h)(G:h.Ns bn mg)(a4:mg "law"=some (.ref fa))(hD:∀ p∈tb,cb4 K p.1 p.2.2)(hz:∀ x∈bNames,cq K bn x=some none)
  {B:Addr} {a1:Option Addr} {a3:Nat} {a2:Array (Option Value)} {Y Z a0:Tok} (gc_LETTERS:cq K bn "LETTERS"=some (some (.ref B))) (gl_LETTERS:K.lookup B=some ⟨.type "tuple",a1,.seq #[.str ⟨#[97]⟩ Y,.str ⟨#[98]⟩ Z,.str ⟨#[99]⟩ a0] a3,a2⟩)
  {J:Tok} (gc_MOST_ROWS:cq K bn "MOST_ROWS"=some (some (.int (300) J)))
  (hT:∀ x∈aj8,(bj K x).isSome=true) (tnd:decide (((bA1 aj8 K).map (·.1)).Nodup)=true) (hDx:∀ p∈dl,cb4 K p.1 p.2) (hcl:bA5 K xcs xts=true)
  : ∃ fd:bO,(∀(s:af) (v:Value),jU s fd ⟨[v],[]⟩ [("_law_script",v)])/\∀ base:Heap,K.In base->base.Ns bn mg->BM mg base->bE0 K aj8 base->FnOk l.prog w K mg base CX0 40 fa fd ["_law_script"] (spB aj8 K):=by
 have hP:PrOk (bh6 aj8 P K) (bD1 aj8 K) P mg w:=by
  refine⟨λ f d h=>aM0 (tbl:=tbl) (λ p hp=>?_) f d h,λ x d h=>bg4 (tbl:=cj5) ?_ x d h,λ x hx=>i9 X G (hz x hx),cc7 X G,cj7,of_decide_eq_true tnd,aI9 (tbl:=xtb) (λ p hp=>?_),aI9 (tbl:=ttb) (λ p hp=>?_),(at4 X G hcl).1,(at4 X G hcl).2.1,(at4 X G hcl).2.2.1,(at4 X G hcl).2.2.2.1,(at4 X G hcl).2.2.2.2.1,(at4 X G hcl).2.2.2.2.2.1,(at4 X G hcl).2.2.2.2.2.2,λ _ _ h=>(by cases h)⟩
  ·obtain⟨r,hr,rfl⟩:=aW.mp hp
   exact good_of X G hT (hD r hr) (cf4 r hr)
  ·intro p hp
   unfold cj5 at hp
   simp only[aI,b7,or_false]at hp
   rcases hp with rfl|rfl
   ·exact bD2 (b8 X G gc_LETTERS) gl_LETTERS rfl rfl (show 3<=1000 by decide) (.cons (.str _ _ (by decide)) (.cons (.str _ _ (by decide)) (.cons (.str _ _ (by decide)) (.nil))))
   ·exact bE5 (b8 X G gc_MOST_ROWS)
  ·unfold xtb at hp
   simp only[aI,b7,or_false]at hp
   rcases hp with rfl|rfl|rfl
   ·exact al3 X G hT (hDx ("meet_behind",ai8) (by unfold dl;simp)) ay0
   ·exact al3 X G hT (hDx ("rows_met",aj5) (by unfold dl;simp)) aR8
   ·exact al3 X G hT (hDx ("above",as7) (by unfold dl;simp)) bz0
  ·unfold ttb at hp
   simp only[aI,b7,or_false]at hp
   subst hp
   ·exact al3 X G hT (hDx ("law",az9) (by unfold dl;simp)) cj8
 obtain⟨f,od,an,sl,oc,kV,dc,pm,cd,ct,a,l0,c,k⟩:=hDx ("law",az9) (by unfold dl;simp)
 have e:=a4.symm.trans (b8 X G a)
 cases e
 have F:=br1 (st:=az9) l0 c k
 refine⟨_,λ s v=>.of_eq rfl,λ base _ _ bm hk=>(bt0 hP (be9 hT bm hk) 8 (ay7 hP (be9 hT bm hk) 8).1 (ay7 hP (be9 hT bm hk) 8).2 (d:=DV.ah9) (f := "law") rfl rfl ⟨F,b8 X G a,F.binds bZ9⟩ bq6 rfl rfl bT4 be4).imp (λ vs H Q E q=>bR5 (λ ns h=>DV.cj0 (P:=P) 1 ns h) vs H Q E (bl2 hT q))⟩
end My
end
open PySem PySem.W PyProof.Rows
set_option maxRecDepth 100000 in
set_option maxHeartbeats 0 in
theorem PySem.Challenge.cw_leasttolls_k18_none_ahead_of_it_holds : PySem.Challenge.rw_leasttolls_k18_none_ahead_of_it.Holds := by
 refine My.GT.2 ?_
 delta My.GT
 dsimp only
 k_fill
 refine L2.bh4 (l:=PySem.Challenge.rw_leasttolls_k18_none_ahead_of_it) (n:=63) (k:=40) (x := "_law_script") (sp:=L2.spB My.aj8) My.aj8 rfl (by decide) rfl ⟨rfl,by decide,by decide⟩ (ts:=[]) (λ w h Y=>⟨PySem.W.kIn_of Y,λ _ hP=>absurd hP (b7)⟩) (λ w=>?R) (λ w=>?NT) ?F (λ K H a ns hl hB hS hF=>L2.bZ6 hl hB hS hF)
 case R=>kernel_rfl
 case NT=>kernel_rfl
 case F =>
  intro w mg fa h KX G hmg
  refine' My.bV7 KX G hmg ?hD ?hz ?gc_LETTERS ?gl_LETTERS ?gc_MOST_ROWS ?hT ?tnd ?hDx ?hcl
  case hD =>
   intro p hp
   unfold My.tb at hp
   simp only[aI,b7,or_false]at hp
   rcases hp with rfl|rfl|rfl|rfl|rfl|rfl|rfl|rfl|rfl|rfl|rfl|rfl|rfl|rfl|rfl|rfl|rfl|rfl|rfl|rfl|rfl|rfl|rfl|rfl|rfl
   all_goals walk_at "df"
  case hz =>
   intro x hx
   unfold L2.bNames at hx
   simp only[aI,b7,or_false]at hx
   rcases hx with rfl|rfl|rfl|rfl|rfl|rfl|rfl|rfl|rfl|rfl|rfl|rfl|rfl|rfl|rfl|rfl|rfl|rfl<;>k_is
  (case gc_LETTERS=>k_is)
  (case gl_LETTERS=>k_is)
  (case gc_MOST_ROWS=>k_is)
  case hT =>
   intro x hx;cases hx
  (case tnd=>kernel_rfl)
  case hDx =>
   intro p hp
   unfold My.dl at hp
   simp only[aI,b7,or_false]at hp
   rcases hp with rfl|rfl|rfl|rfl
   all_goals walk_at "df"
  (case hcl=>kernel_rfl)
