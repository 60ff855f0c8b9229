import PyProof.Rows.All
import Wide.All
import OpenK.AllK
import Wide.FinOn
import PyProof.EqAt
import PyProof.EqKinds
import PyProof.TupleCall
import PyProof.MinMaxWalk
import PyProof.WalkInts
import PyProof.NeKinds
import PyProof.SliceStr2
import PyProof.StrBlockI
import PyProof.MaxThree
import PyProof.ZipIter
import PyProof.Draws
import PyProof.EnumMake
import PyProof.ListMulRoad
import PyProof.Rows.StrRev
import PyProof.DictItems
import PyProof.ListRange
import PyProof.AutoIntG2
import PyProof.FactsAll.int_6
import KE.KMinKey
import PyProof.Rows.TupDisplay
import PyProof.Rows.CatchBare
import KE.KTryMore
import PyProof.RulesAs
import PyProof.StrOps
import KE.KDictList
import KE.IntBitsLaws
import KE.KIntText
import PyProof.CallStr
import PyProof.StrBlockL
import PyProof.StrLawsChain
import PyProof.StrLawsTight
import PyProof.Rows.StrItems
import PySem.Challenge.RW_leasttolls_k60_words_held
set_option bootstrap.genMatcherCode false
set_option genSizeOf false
set_option compiler.extract_closed false
set_option Elab.async false
set_option linter.all false
set_option maxRecDepth 100000
set_option maxHeartbeats 4000000
open List renaming getElem?_eq_some_iff->ac,getElem?_eq_getElem->ah,getElem?_set_ne->am,replicate->aq,length_append->ar,mem_cons_of_mem->au,size_toArray->aw,getElem?_append_left->ax,mem_cons_self->aA,getElem?_map->aC,length_map->aD,mem_cons->aH,getElem?_append_right->aJ,all_eq_true->aL,getD_eq_getElem?_getD->aM,append_nil->aN,mem_append->aO,length_cons->aP,mem_singleton->aR,range->aS,lookup_cons->aV,length_set->aW,mem_of_getElem?->aY,mem_append_right->aZ,getElem?_set_self->a8,map_cons->a9,mem_map->bf,append_assoc->bo,mem_map_of_mem->bw,map->bD,replicate_succ->bE,mem_range->bG,all_cons->bI,map_append->bJ,length_take->bK,getElem?_eq_none->bW,not_mem_nil->bZ,mem_append_left->b8,length_range->ci,getElem?_range->cu,pairwise_cons->cG,flatten_cons->cK,mem_iff_getElem->cL,set_set->cN,length_drop->cT,length_eq_zero_iff->cV,lookup->cW,map_nil->cX,drop_eq_nil_of_le->cZ,find?_cons->c8,length_singleton->db,any_eq_true->dr,take_length->dt,drop_eq_getElem_cons->dv,map_congr_left->dw,nodup_cons->dF,of_mem_zip->dG,foldl_cons->dH,take_of_length_le->d6,map_map->ee,getElem?_toArray->eg,set_getElem_self->eC,mem_iff_getElem?->eD,cons_append->eF,getElem_mem->eK,take_append_of_le_length->eT,nil_append->eV,length_nil->eY,filterMap_cons->eZ,mem_filterMap->fq,getElem?_take->fD,nodup_append->fQ,any_cons->fZ,getElem?_replicate->f7,getElem?_cons_succ->gd,range_succ_eq_map->gg,mem_filter->gK,forIn_nil->ie,filterMap->ig,drop_zero->io,set_append_left->iq,length_pos_iff->iJ,take_add_one->jy,ext_getElem?->jB,forIn_cons->jU,foldl->kh,nodup_nil->kr,all_map->kF,all_nil->kM,length->kX
open PySem.W renaming Frag->ae,tabIn->bj,findIn->bq,keepIn->bz,kia_one->bC,emptyDict->bN,kitOne->bT,CodeHd->bU,instObj->cq,fnOf->cx,nsIn->cy,envX->cY,OpenLaw->c4,makesIn->c6,kla_fn->dj,plainGet->dq,mg_of->dD,hasDictIn->dY,codeIn->dZ,plainGet_of->e6,callWith_K0->e7,lookIn->fu,callWith_K->fv,methodObj->fI,plainOver->fK,fnX->fR,isFn->gr,cellsFrom_some->gv,takerIn->gM,methodCall_KW->gX,tabObj->ip,kitx_tuple->i8,specialIn->jl,kitx_list->jm,kitx_dict->jn,handedIn->jF,codeHdIn->jK,takesIn->jS,exmOne->km,TabsAt->ko,noTabs->kq,WalkO->kx,mroIn->kA
open PySem renaming Shared->af,wpAny_bind->aj,wpAny_pure->ay,Program->aB,mem_of_lookup->aF,sizeLine->aG,cellsFrom->aK,Around->aQ,starEach->a7,bootBuiltins->bn,mainGlobals->bp,wpAny_newObj_type->bF,FuncData->bH,wpAny_mono->bP,binaryOp->bQ,Arguments->bV,NameKind->cf,wpAny_call_entry->cA,assignEach->cC,wpAny_Call_Name_kw->cE,wpAny_passesOwn->cI,wpAny_truthy_bool->cJ,Paired->cQ,backTo->cR,wpAny_callSpecial?_slot->cU,wpAny_specialOf->c5,pushCells_keeps->c7,wpAny_callSpecialIfBoundUnlessNone?_slot->c9,foldedSetIterable->de,sysModules->dh,keywordEach->di,attributeBase->dz,bindArgs->dA,IsTupleKey->dI,isTrue->dJ,compareOp->dM,sizeLine_eq->dN,wpAny_field->dQ,sliceBounds->dR,wpAny_pyIter_list->dX,swapsWith->eG,pushCells->eJ,wpAny_holding->eN,relabel->eO,callSpecialIfBoundUnlessNone?->eQ,letOwnedTupleGo->eU,wpAny_seqItems->fj,backToKw->fw,typeIs_int->fA,newFunctionEnv->fB,wpAny_binaryOp_repeat_ref->fF,codeAny->fL,Keyword->fM,InCallC->fN,IsPart->fX,wpAny_comprehension_free->fY,wpAny_forIn_list->f6,noFill_tuple_add->f8,builtinsNs->gh,holding->gi,assign->gj,wpAny_pyNext_range_end->gm,wpAny_pyIter_rangeiter->gq,codeAny_mono->gu,name_of_addr->gz,getItem->gA,wpAny_typeOf->gB,codeAny_compStart_list->gH,wpAny_execs_nil->gL,isSubtype_tuple_tuple->gT,wpAny_storeName_local->gW,codeAny_call_function->gY,wpAny_storeName_cell->hW,IsRangeIter->hZ,strIterType->ii,storeName->iw,getMethod->iy,callerA->iz,valueAt->iA,wpAny_standAt->iO,swappedStores->iP,behindInMarks->iQ,seq_tuple_add->iR,wpAny_rule->iX,wpAny_pyIter_tuple->iZ,wpAny_pyIter_range->i7,call_meets->ja,eqIsQuiet_byValue->jg,Within->jh,standAt->ji,wpAny_assign_Name->jk,concat_meets->jq,wpAny_sequenceKey->jr,seqIndex_neg->ju,slot_list_getitem->jv,notedBy->jw,beq_builtin_none->jC,eqIsQuiet->jD,wpAny_isInstance->jE,Result->jG,seqSlot_of->jL,seqIndex_of->jM,BindsTo->jZ,argBest->j0,call->j3,reduceHash->j4,wpAny_Name->j7,typeIs_str->ke,PlainAttrs->kg,KeyKind->kz,pyIter->kG
open Bool renaming and_eq_true->ag,false_ne_true->aU,or_eq_true->bh,false_eq_true->bu,not_true->eM,true_and->eP,or_eq_false_iff->eR,not_eq_true'->fT,not_eq_true->gf,eq_iff_iff->gN,and_eq_true_iff->g8,and_true->iU,false_and->j8,or_false->kB,false_or->kC
open Nat renaming le_refl->ai,le_trans->ak,lt_of_lt_of_le->az,ne_of_lt->aE,zero_add->be,lt_irrefl->bA,lt_succ_self->bR,zero_le->b9,le_succ->cb,add_sub_cancel_left->cj,add_assoc->cO,le_of_lt->dW,lt_trichotomy->d7,add_zero->d9,testBit_eq_decide_div_mod_eq->ef,testBit_two_pow->fc,le_of_succ_le->fO,lt_succ_of_lt->fP,ne_of_gt->gk,add_comm->gG,lt_trans->gI,testBit_or->iu,lt_of_le_of_lt->je,sub_self->jz,pow_succ->jA,le_of_not_lt->jJ,mul_add->jP,one_mul->jQ,strongRecOn->jW,zero_lt_one->jX,two_pow_pos->jY,le_of_eq->kH,mul_comm->kJ,lt_or_ge->kO
open PySem.Heap renaming get?_push_of_some->ao,lt_size->aI,get?_push_size->aX,size_push->bO,SameBut->dm,get?_update_other->gE,get?_update_self->gZ,ExtBut->jO
open Option.some renaming inj->av
open PyProof.Rows renaming slot_tuple_getitem->br,callWith_type1->cw,kindOf->eI,envOfC->fx,AllBare->fJ,subscriptTail_builtinR->gC,entry_tuple_getitem->iG,tupleItemsOf_->iT,args_tuple_getitem->i9,IntsAre->jt,boot_range->j9,tail_any->ka
open Option renaming map_eq_some_iff->bt,isSome_iff_exists->b7,isSome_map->fS,map_some->gP,isSome_some->jc,getD_none->jI
open PySem.Builtin.Str renaming strSliceIndices->bv,tooLong->ku
open PySem.Builtin.Tuple renaming tupleHashOf->bB,tupleItemsOf->cB,tupleExact->cP,tupleTooMany->fC,tupleIsExact->ki
open PySem.Builtin.SmallTypes renaming nextOf->bL
open False renaming elim->bM
open Ne renaming symm->bS
open PySem.Str renaming ofString->bX
open Array renaming length_toList->cr,forIn_toList->fh,getElem?_toList->g7,toArray_toList->ik,append_assoc->iY,toList->jj
open PySem.Paired renaming length->cz,mono->kS,snoc->kZ
open Int renaming natCast_nonneg->cD,toNat_natCast->cM,mul_le_mul_of_nonneg_left->eS,toNat_of_nonneg->e8,fdiv_eq_ediv_of_nonneg->ft,ofNat_lt->jx,le_refl->jN,natCast_mul->jV,ediv_one->kI,sub_zero->kN,le_trans->kP,zero_add->kQ
open PySem.F renaming slot_tuple_iterator_next->cF,slot_NoneType_hash->dg,args_tuple_add_2->dB,slot_int_rmul->dL,entry_tuple_add->dP,slot_tuple_hash->dU,slot_tuple_add->d4,slot_tuple_mul->d5,args_tuple_iterator_next_1->eX,entry_tuple_iterator_next->fe,slot_int_bit_length->fg,slot_dict_getitem->fG,slot_tuple_rmul->f9,plainAttrs_list->ga,slot_list_append->g6,args_int_rmul_2->ic,slot_int_index->iH,entry_int_rmul->iI,fills_int_mul->jb,slot_tuple_eq->jR
open PySem.Builtin.Slice renaming slicePlaces->cH,sliceAdjust->du,sliceApplied->fy,slicePartIndex->jT,sliceFields->kt
open PySem.Builtin.Range renaming rangeSize->cS,small->iM,rangeFitsLong->j2
open PySem.Builtin.List renaming listTooLong->dC
open PySem.SeqAt.EqAt renaming same->dE,of_refs->fi,none_tuple->gQ,tuple_none->gS,int_tuple->g9,str_tuple->hC,tuple_int->hJ,tuple_str->hV,none_int->iB,none_str->iC,int_none->iD,str_none->iE,int_str->iV,str_int->iW
open Classical renaming propDecidable->dS
open PySem.Builtin renaming bitNot->d8,bitOr->fW,bitAnd->kj
open PySem.Txt renaming slice->eW
open PySem.Builtin.Int renaming intBits->e9
open PySem.Calls renaming Name_function_global->fm,callWith_builtin->gF
open PySem.W.OpenLaw renaming wellSaid->fU
open PySem.Obj renaming mapSeq->gD,data_mapFields->jd
open PySem.SeqAt renaming EqAt->gJ,RcNeAt->kL,RcAt->k9
open PySem.PassesOwn renaming never->gO
open PySem.Around renaming frames_deeper->h9,under->jo
open PySem.Heap.SameBut renaming update->iK
open PySem.AutoIntG2 renaming int_bit_length_int_0->iL
open PySem.SeqAt.RcAt renaming tuples->jf
open PySem.Code renaming isFrame->jp,frames->kW
open PyProof.Rows.IsTup renaming new->jH
open PySem.Value renaming isStrOf->ky,isInt->kR
open PySem.StrLaws renaming found_one->kD
open PySem.W.OpenRow renaming toRowW->kE
open Nat.succ renaming inj->kK
open PySem.Walks renaming range->kT,list->k8
open PySem.IsRange renaming new->kU
open PySem.Heap.Ns renaming new->kY
open PySem.W.Looks renaming here->k6
open PySem.Heap.IsSliceOf renaming new->k7
abbrev yA:=List (PySem.Addr×PySem.Obj)
abbrev yB:=PySem.Value->PySem.Shared->Prop
abbrev yC:=List (PySem.Str×PySem.Addr)
abbrev yD:=PySem.Str->Option PySem.Value
abbrev yE:=List (Option Nat)
abbrev yF:=Array (Option PySem.Value)
abbrev yG:=List (PySem.Addr×PySem.Addr)
abbrev yH:=List PySem.Value
abbrev yI:=List PySem.Str
abbrev yJ:=Option PySem.Addr
abbrev yK:=Array PySem.Value
abbrev yL:=List PySem.Expr
abbrev yM:=List PySem.Stmt
noncomputable section
namespace L2
open PySem PySem.Spec PyProof.Rows
theorem head_of {l:c4}{q:aB}{loose:yI}{H:PySem.W.Hook}{N:Nat}{d:DefRec}{h:List (Str×Expr)}
  (left:PySem.W.LeftO l.row.prog q loose (λ s=>PySem.W.xlAt q [] s&&PySem.W.recOk (PySem.W.RowW.records (kE l.row)) s) H.obs H.val N)
  (p:PySem.W.defOf q l.row.name=some (d,h)) (F:l.row.prog.theDef l.row.name=some (d.params,d.body,d.scope)) (hk:PySem.W.kwWritten? d.params.kwonlyargs d.params.kw_defaults=some h) (z:(!l.row.writes||l.row.records.isEmpty)=true)
  (k1:l.row.wellSaid=true) (ok:(PySem.W.chainsOk q&&PySem.W.opensWell l.row.prog&&(PySem.W.frees l.row.toRowW&&l.row.within.isEmpty))=true) (hb:l.row.prog.bare) (hw:l.row.toRowW.promised)
  (call:kx q loose (PySem.W.XL q []) H.says l.row.toRowW d h λ f vs=>j3 f vs):l.row.Holds :=
 PySem.W.holds_open left H.of H.keeps (λ s e=>PySem.W.xl_of s (g8.mp e).1) PySem.W.XL.keeps p F hk (λ s e=>PySem.W.recFacts_of (g8.mp e).2) z k1 ok hb hw call
end L2
end
noncomputable section
namespace My
open PySem L2
noncomputable def nmS:Stmt->Bool
 | .Assign [.Name x _] _ _=>decide (x=("__name__":Str))
 | _=>false
noncomputable def vq:aB:={ PySem.Challenge.pw_leasttolls_k60_words_held with main:={ (PySem.Challenge.pw_leasttolls_k60_words_held).main with body:=(PySem.Challenge.pw_leasttolls_k60_words_held).main.body.filter λ s=>!nmS s } }
inductive IsL:c4->Prop|mk:IsL PySem.Challenge.rw_leasttolls_k60_words_held
theorem bM2 {l:c4}(h:IsL l):PySem.Challenge.rw_leasttolls_k60_words_held=l:=by cases h;rfl
noncomputable def lwp:{ l:c4 // IsL l }:=by
 refine⟨?p,?h⟩
 case h =>
  have e:PySem.Challenge.rw_leasttolls_k60_words_held=?p:=by
   conv=>lhs;reduce
  exact e▸IsL.mk
theorem ws1:fU lwp.1=true:=by k_qdec
theorem ws:fU PySem.Challenge.rw_leasttolls_k60_words_held=true:=by
 rw[bM2 lwp.2];exact ws1
end My
end
section
open PySem PySem.W PyProof.Rows
local macro_rules | `(tactic| o_head $H) => `(tactic| refine L2.head_of (q := My.vq) (loose := ["Rooms"]) (H := $H) (N := 4000) (λ w => by kernel_rfl) (by rfl) (by rfl) (by rfl) rfl (by assumption) (by decide +kernel) ⟨rfl, rfl, rfl, rfl, rfl, by decide +kernel⟩ ?_ ?_)
set_option maxRecDepth 100000 in
set_option maxHeartbeats 0 in
noncomputable def My.GT:{ G:Prop // G->PySem.Challenge.rw_leasttolls_k60_words_held.Holds }:=by
 refine⟨?G,?h⟩
 case h =>
  intro g
  w_on;refine holds_law My.ws λ said=>?_;k_head;(focus w_witness2)
  exact g
end
noncomputable section
namespace L2
open PySem PySem.Spec PyProof.Rows
noncomputable abbrev Key:=Sum Int Str
noncomputable def aw6:Key->Value->Bool
 | .inl k,v=>kR k v
 | .inr x,v=>ky x v
noncomputable def ca3 (w:World):Key->Int
 | .inl k=>hashInt k
 | .inr x=>hashStr w x
theorem zd:∀ {k:Key} {v:Value},aw6 k v=true->(∃ i t,k=Sum.inl i/\v=Value.int i t)\/(∃ x t,k=Sum.inr x/\v=Value.str x t)
 | .inl i,v,h=>by
  obtain⟨t,e⟩:=Value.isInt_shape (k:=i) (v:=v) h
  exact .inl ⟨i,t,rfl,e⟩
 | .inr x,v,h=>by
  obtain⟨t,e⟩:=Value.isStrOf_shape (x:=x) (v:=v) h
  exact .inr ⟨x,t,rfl,e⟩
theorem aP6 (i:Int)(t:Tok):aw6 (.inl i) (.int i t)=true:=by simp[aw6,kR]
theorem aU6 (x:Str)(t:Tok):aw6 (.inr x) (.str x t)=true:=by simp[aw6,ky]
theorem bH2 (a b:Int):decide ((Sum.inl a:Key)=Sum.inl b)=(a==b):=by
 by_cases e:a=b
 .subst e;simp
 .have h:¬(Sum.inl a:Key)=Sum.inl b:=λ q=>e (Sum.inl.inj q)
  rw[decide_eq_false h]
  exact(beq_eq_false_iff_ne.mpr e).symm
theorem bJ5 (a b:Str):decide ((Sum.inr a:Key)=Sum.inr b)=decide (a=b):=by
 by_cases e:a=b
 .subst e;simp
 .have h:¬(Sum.inr a:Key)=Sum.inr b:=λ q=>e (Sum.inr.inj q)
  rw[decide_eq_false h,decide_eq_false e]
theorem bE7 (a:Int)(b:Str):decide ((Sum.inl a:Key)=Sum.inr b)=false:=decide_eq_false (λ q=>nomatch q)
theorem bM1 (a:Str)(b:Int):decide ((Sum.inr a:Key)=Sum.inl b)=false:=decide_eq_false (λ q=>nomatch q)
noncomputable def zv (prog:aB)(w:World):kz prog w Key where
 is:=aw6
 hash:=ca3 w
 inj:=λ v a b ha hb=>by
  rcases zd ha with⟨i,t,rfl,rfl⟩|⟨x,t,rfl,rfl⟩
  .rcases zd hb with⟨j,u,rfl,e⟩|⟨y,u,rfl,e⟩
   .injection e with e1 _;rw[e1]
   .exact nomatch e
  .rcases zd hb with⟨j,u,rfl,e⟩|⟨y,u,rfl,e⟩
   .exact nomatch e
   .injection e with e1 _;rw[e1]
 byValue:=λ k v h=>by
  rcases zd h with⟨i,t,rfl,rfl⟩|⟨x,t,rfl,rfl⟩<;>rfl
 pyHash:=λ hv h=>by
  rcases zd hv with⟨i,t,rfl,rfl⟩|⟨x,t,rfl,rfl⟩
  .exact wpAny_pyHash_int h
  .exact wpAny_pyHash_str h
 eqBool:=λ hu hv h=>by
  rcases zd hu with⟨i,t,rfl,rfl⟩|⟨x,t,rfl,rfl⟩
  .rcases zd hv with⟨j,u,rfl,rfl⟩|⟨y,u,rfl,rfl⟩
   .rw[bH2]at h;exact wpAny_eqBool_int h
   .rw[bE7]at h;exact iV i t y u _ _ _ _ h
  .rcases zd hv with⟨j,u,rfl,rfl⟩|⟨y,u,rfl,rfl⟩
   .rw[bM1]at h;exact iW x t j u _ _ _ _ h
   .rw[bJ5]at h;exact wpAny_eqBool_str h
 «strs»:=λ k x t v h=>by
  rcases zd h with⟨i,u,rfl,e⟩|⟨y,u,rfl,e⟩
  .exact nomatch e
  .injection e with e1 _
   subst e1
   cases v<;>rfl
theorem aA6 (prog:aB)(w:World)(i:Int)(t:Tok):(zv prog w).is (.inl i) (.int i t)=true:=aP6 i t
theorem ay5 (prog:aB)(w:World)(x:Str)(t:Tok):(zv prog w).is (.inr x) (.str x t)=true:=aU6 x t
noncomputable abbrev FK:=Option Key
noncomputable def fIs:FK->Value->Bool
 | none,v=>match v with|.none=>true|_=>false
 | some k,v=>aw6 k v
noncomputable def fH (w:World):FK->Int
 | none=>0xFCA86420
 | some k=>ca3 w k
theorem zL {v:Value}(h:fIs none v=true):v=.none:=by
 cases v with
 | none=>rfl
 | _=>exact nomatch h
theorem aR5 {P:aB}{w:World}{A:aQ}{E:yB}{s:af}{Q:Int->af->Prop}(h:Q 0xFCA86420 { s with toks:=s.toks+1 }):wpAny (model P w) A (PySem.pyHash .none) Q E s:=by
 have hT:s.TypeIs .none "NoneType":=rfl
 unfold PySem.pyHash pyHashByItsType
 refine aj (wpAny_cRoomFor_byValue rfl ?_)
 refine aj (c5 hT dg.lookup ?_)
 show wpAny _ _ (if(some (Value.builtin "NoneType.__hash__")==some Value.none)=true then _ else _) Q E s
 rw[if_neg (by rw[jC];exact aU)]
 refine aj (c5 hT dg.lookup ?_)
 show wpAny _ _ (eQ .none "__hash__" _ >>= _) Q E s
 refine aj (c9 hT dg (cA dg hT F.entry_NoneType_hash
   (show wpAny _ _ (retInt 0xFCA86420) _ _ s from wpAny_ret_mkInt ?_) (F.args_NoneType_hash_1 _)))
 show wpAny _ _ (if _ then _ else _) Q E _
 rw[if_pos (by decide)]
 exact ay h
noncomputable def qg (prog:aB)(w:World):kz prog w FK where
 is:=fIs
 hash:=fH w
 inj:=λ v a b ha hb=>by
  cases a with
  | none =>
   cases zL ha
   cases b with
   | none=>rfl
   | some k=>rcases zd hb with⟨_,_,_,e⟩|⟨_,_,_,e⟩<;>exact nomatch e
  | some k =>
   cases b with
   | none=>cases zL hb;rcases zd ha with⟨_,_,_,e⟩|⟨_,_,_,e⟩<;>exact nomatch e
   | some j=>exact congrArg some ((zv prog w).inj v k j ha hb)
 byValue:=λ k v h=>by
  cases k with
  | none=>cases zL h;rfl
  | some k=>exact(zv prog w).byValue k v h
 pyHash:=λ {A E s k v Q} hv h=>by
  cases k with
  | none=>cases zL hv;exact aR5 h
  | some k=>exact(zv prog w).pyHash (k:=k) hv h
 eqBool:=λ {A E s a b u v Q} hu hv h=>by
  cases a with
  | none =>
   cases zL hu
   cases b with
   | none=>cases zL hv;exact dE _ prog w E Q h
   | some k =>
    rcases zd hv with⟨i,t,rfl,rfl⟩|⟨x,t,rfl,rfl⟩
    .exact iB i t _ _ _ _ h
    .exact iC x t _ _ _ _ h
  | some k =>
   cases b with
   | none =>
    cases zL hv
    rcases zd hu with⟨i,t,rfl,rfl⟩|⟨x,t,rfl,rfl⟩
    .exact iD i t _ _ _ _ h
    .exact iE x t _ _ _ _ h
   | some j =>
    refine(zv prog w).eqBool (a:=k) (b:=j) hu hv ?_
    have e:decide (k=j)=decide (some k=some j):=by simp
    rw[e];exact h
 «strs»:=λ k x t v h=>by
  cases k with
  | none=>exact nomatch zL h
  | some k=>exact(zv prog w).strs k x t v h
noncomputable abbrev NI:=Sum FK (List FK)
section
variable (P:aB) (w:World)
noncomputable def NIs (h:Heap):NI->Value->Prop
 | .inl f,v=>fIs f v=true
 | .inr l,v=>∃ b,v=.ref b/\dI (qg P w) h l b
def bk0 (h:Heap)(ks:List NI)(a:Addr):Prop:=∃ o its n,h.get? a=some o/\o.cls=.type "tuple"/\o.data=.seq its n/\cQ (NIs P w h) ks its.toList
noncomputable def az0:NI->Int
 | .inl f=>fH w f
 | .inr l=>tupleKeyHash (qg P w) l
noncomputable def aH6:NI->Nat
 | .inl f=>1
 | .inr l=>l.length+1
noncomputable def qw:List NI->Nat
 | []=>0
 | k::ks=>aH6 k+qw ks
end
section
variable {P:aB} {w:World} {h h':Heap}
theorem NIs.inj {x y:NI}{v:Value}(hx:NIs P w h x v)(hy:NIs P w h y v):x=y:=by
 cases x with
 | inl f =>
  cases y with
  | inl g=>exact congrArg Sum.inl ((qg P w).inj v f g hx hy)
  | inr l =>
   obtain⟨b,rfl,_⟩:=hy
   exact absurd ((qg P w).byValue f _ hx) (by nofun)
 | inr l =>
  obtain⟨b,rfl,hb⟩:=hx
  cases y with
  | inl g=>exact absurd ((qg P w).byValue g _ hy) (by nofun)
  | inr m =>
   obtain⟨c,e,hc⟩:=hy
   cases e
   exact congrArg Sum.inr (hb.inj hc)
theorem NIs.all_inj:∀ {x y:List NI} {vs:yH},cQ (NIs P w h) x vs->cQ (NIs P w h) y vs->x=y
 | _,_,_,.nil,.nil=>rfl
 | _,_,_,.cons a p,.cons b q=>by rw[a.inj b,NIs.all_inj p q]
theorem bk0.inj {a:Addr}{x y:List NI}(hx:bk0 P w h x a)(hy:bk0 P w h y a):x=y:=by
 obtain⟨o,i,n,e,_,d,p⟩:=hx
 obtain⟨G,F,z,e',_,d',p'⟩:=hy
 rw[e]at e';cases e'
 rw[d]at d';cases d'
 exact NIs.all_inj p p'
theorem NIs.keep {x:NI}{v:Value}(k:∀ b l,dI (qg P w) h l b->dI (qg P w) h' l b)(hx:NIs P w h x v):NIs P w h' x v:=by
 cases x with
 | inl f=>exact hx
 | inr l=>obtain⟨b,e,p⟩:=hx;exact⟨b,e,k _ _ p⟩
theorem bw4 {A:aQ}{E:yB}{s:af}{k:List NI}{a:Addr}{Q:Int->af->Prop}(hu:A.units+1<cLine)(hk:bk0 P w s.heap k a)
  (h:Q (j4 (bB (k.map (az0 P w)))) { s with toks:=s.toks+(qw k+1) }):wpAny (model P w) A (PySem.pyHash (.ref a)) Q E s:=by
 obtain⟨o,its,n,e,c,d,p⟩:=hk
 have hT:s.TypeIs (.ref a) "tuple":=⟨o,e,c⟩
 unfold PySem.pyHash pyHashByItsType
 refine aj (wpAny_cRoomFor (by omega) ?_)
 refine aj (c5 hT dU.lookup ?_)
 show wpAny _ _ (if(some (Value.builtin "tuple.__hash__")==some Value.none)=true then _ else _) Q E s
 rw[if_neg (by rw[jC];nofun)]
 refine aj (c5 hT dU.lookup ?_)
 show wpAny _ _ (eQ (.ref a) "__hash__" _ >>= _) Q E s
 refine aj (c9 hT dU (cA dU hT F.entry_tuple_hash ?_ (F.args_tuple_hash_1 _)))
 show wpAny _ _ (cB (.ref a) >>= _) _ _ s
 refine aj (wpAny_tupleItemsOf e d (aj ?_))
 rw[<-fh]
 refine f6 _
  (λ rest (b:Array Int) s'=>∃ q r,k=q++r/\cQ (NIs P w s.heap) r rest/\b.toList=q.map (az0 P w)/\s'={ s with toks:=s.toks+qw q }) _ ?_ ?_ _ _ ⟨[],k,rfl,p,rfl,rfl⟩
 .rintro x rest b s' ⟨q,r,rfl,pr,hb,rfl⟩
  cases pr with
  | @cons u _ r' _ h1 t =>
   have z:∀ q:List NI,qw (q++[u])=qw q+aH6 u:=λ q=>by
    induction q with
    | nil=>simp[qw]
    | cons c q ih=>rw[eF,qw,qw,ih];omega
   refine aj ?_
   cases u with
   | inl f =>
    refine(qg P w).pyHash (k:=f) h1 ?_
    first
     | exact ay ⟨q++[.inl f],r',by simp,t,by simp[hb];rfl,by rw[z];simp[aH6,cO]⟩
     | exact aj (ay (ay ⟨q++[.inl f],r',by simp,t,by simp[hb];rfl,by rw[z];simp[aH6,cO]⟩))
   | inr l =>
    obtain⟨J,rfl,G⟩:=h1
    refine wpAny_pyHash_tuple (knd:=qg P w) (ks:=l) (s:={ s with toks:=s.toks+qw q }) (show A.units+1<cLine from hu) G ?_
    first
     | exact ay ⟨q++[.inr l],r',by simp,t,by simp[hb];rfl,by rw[z];simp[aH6,cO]⟩
     | exact aj (ay (ay ⟨q++[.inr l],r',by simp,t,by simp[hb];rfl,by rw[z];simp[aH6,cO]⟩))
 .rintro b s' ⟨q,r,rfl,pr,hb,rfl⟩
  cases pr
  rw[aN]at h
  show wpAny _ _ (retInt (bB b.toList)) _ _ _
  rw[hb]
  refine wpAny_ret_mkInt ?_
  show wpAny _ _ (if(decide (-(2:Int)^63<=bB (q.map (az0 P w)))&&decide (bB (q.map (az0 P w))<2^63))=true then _ else _) Q E _
  unfold j4 at h
  by_cases hr:(decide (-(2:Int)^63<=bB (q.map (az0 P w)))&&decide (bB (q.map (az0 P w))<2^63))=true
  .rw[if_pos hr]at h ⊢
   exact ay (by simpa [cO]using h)
  .rw[if_neg hr]at h ⊢
   exact aj (iX (ay (by simpa [cO]using h)))
theorem aF8 {l:List FK}{b:Addr}(x:dI (qg P w) h l b):∃ its,h.IsTuple b its:=let⟨o,its,n,e,c,d,_⟩:=x;⟨its,o,e,c,n,d⟩
theorem ItemsAre.cg {z:aB}{p:World}:∀ {l:List FK} {vs:yH},ItemsAre (qg P w) l vs->ItemsAre (qg z p) l vs
 | _,_,.nil=>.nil
 | _,_,.cons h t=>.cons (show fIs _ _=true from h) (ItemsAre.cg t)
theorem dI.cg {F:aB}{z:World}{l:List FK}{b:Addr}:dI (qg P w) h l b->dI (qg F z) h l b:=λ⟨o,i,n,e,c,d,p⟩=>⟨o,i,n,e,c,d,ItemsAre.cg p⟩
theorem NIs.cg {F:aB}{z:World}{x:NI}{v:Value}(hx:NIs P w h x v):NIs F z h x v:=by
 cases x with
 | inl f=>exact hx
 | inr l=>obtain⟨b,e,p⟩:=hx;exact⟨b,e,dI.cg p⟩
theorem bX7 {A:aQ}{s:af}{x y:NI}{u v:Value}(hu:A.units<cLine)(hx:NIs P w s.heap x u)(hy:NIs P w s.heap y v){E:yB}{Q:Bool->af->Prop}(h:Q (decide (x=y)) s):wpAny (model P w) A (PySem.eqBool u v) Q E s:=by
 cases x with
 | inl f =>
  cases y with
  | inl g =>
   refine(qg P w).eqBool (a:=f) (b:=g) hx hy ?_
   have e:decide (f=g)=decide ((Sum.inl f:NI)=Sum.inl g):=by simp
   rw[e];exact h
  | inr l =>
   obtain⟨b,rfl,hb⟩:=hy
   obtain⟨its,ht⟩:=aF8 hb
   cases f with
   | none=>cases zL hx;exact gQ ht hu _ _ _ _ h
   | some k =>
    rcases zd hx with⟨i,t,rfl,rfl⟩|⟨z,t,rfl,rfl⟩
    .exact g9 i t ht hu _ _ _ _ h
    .exact hC z t ht hu _ _ _ _ h
 | inr l =>
  obtain⟨b,rfl,hb⟩:=hx
  cases y with
  | inl f =>
   obtain⟨its,ht⟩:=aF8 hb
   cases f with
   | none=>cases zL hy;exact gS ht hu _ _ _ _ h
   | some k =>
    rcases zd hy with⟨i,t,rfl,rfl⟩|⟨z,t,rfl,rfl⟩
    .exact hJ i t ht hu _ _ _ _ h
    .exact hV z t ht hu _ _ _ _ h
  | inr m =>
   obtain⟨c,rfl,hc⟩:=hy
   refine wpAny_eqBool_tuple hu hb hc ?_
   have e:decide (l=m)=decide ((Sum.inr l:NI)=Sum.inr m):=by simp
   rw[e];exact h
theorem aO5:∀(x y:List NI),((aS (min x.length y.length)).all (λ j=>decide (x[j]?=y[j]?))&&x.length==y.length)=decide (x=y)
 | [],[]=>rfl
 | [],_::_=>by simp
 | _::_,[]=>by simp
 | a::x,b::y=>by
  have h:=aO5 x y
  have p:min (a::x).length (b::y).length=min x.length y.length+1:=by simp only[aP];omega
  rw[p,gg,bI,kF]
  by_cases e:a=b
  .subst e
   have:decide (a::x=a::y)=decide (x=y):=by simp
   rw[this,<-h]
   simp[Function.comp_def]
  .have:decide ((a::x)[0]?=(b::y)[0]?)=false:=by simp[e]
   rw[this];simp[e]
theorem bt7 {α β:Type}{F:α->β->Prop}:∀ {z:List α} {p:List β},cQ F z p->∀(j:Nat) (h:j<p.length),∃ a,z[j]?=some a/\F a p[j]
 | _,_,.nil,j,h=>absurd h (Nat.not_lt_zero _)
 | _,_,.cons r t,0,h=>⟨_,rfl,r⟩
 | _,_,.cons r t,j+1,h=>bt7 t j (Nat.lt_of_succ_lt_succ h)
theorem bY5 {A:aQ}{E:yB}{s:af}{x y:List NI}{a b:Addr}{Q:Bool->af->Prop}(hu:A.units+1<cLine)(hx:bk0 P w s.heap x a)(hy:bk0 P w s.heap y b)(h:Q (decide (x=y)) s) :
  wpAny (model P w) A (PySem.eqBool (.ref a) (.ref b)) Q E s:=by
 by_cases hab:a=b
 .subst hab
  cases hx.inj hy
  rw[decide_eq_true rfl]at h
  exact dE _ _ _ _ _ h
 .obtain⟨o,i,n,e,c,d,p⟩:=hx
  obtain⟨o',J,n',e',Z,d',p'⟩:=hy
  have l1:x.length=i.size:=cz p
  have z:y.length=J.size:=cz p'
  have key:=jf (A:=A) (s:=s) (e:=λ j=>decide (x[j]?=y[j]?)) ⟨o,e,c,n,d⟩ ⟨o',e',Z,n',d'⟩ (by omega) λ j Y h2 prog F E' Q' hq=>by
   obtain⟨u,q1,q2⟩:=bt7 p j (by rw[cr];exact Y)
   obtain⟨v,r1,G⟩:=bt7 p' j (by rw[cr];exact h2)
   refine bX7 (P:=prog) (w:=F) (x:=u) (y:=v) (show A.units+1<cLine from hu) (NIs.cg (by simpa using q2)) (NIs.cg (by simpa using G)) ?_
   rw[q1,r1]at hq
   have e:decide (u=v)=decide (some u=some v):=by simp
   rw[e];exact hq
  rw[<-l1,<-z,aO5]at key
  exact fi hab key P w E Q h
theorem aI1 {A:aQ}{E:yB}{s:af}{x:NI}{v:Value}{Q:Bool->af->Prop}(hx:NIs P w s.heap x v)(h:Q true s):wpAny (model P w) A (jD 7 v) Q E s:=by
 cases x with
 | inl f=>rw[jg _ ((qg P w).byValue f _ hx)];exact ay h
 | inr l =>
  obtain⟨b,rfl,o,its,n,e,c,d,p⟩:=hx
  have hT:s.TypeIs (.ref b) "tuple":=⟨o,e,c⟩
  unfold jD
  refine aj (c5 hT jR.lookup ?_)
  show wpAny _ _ (isInstance (.ref b) (.type "tuple") >>= _) _ _ s
  refine aj (jE hT gT ?_)
  simp only[eM,bu,if_false]
  refine aj (fj e d (aj ?_))
  show wpAny _ _ (forIn its _ _) _ _ s
  rw[<-fh]
  refine f6 _ (λ rest r s'=>r.1=none/\s'=s/\∀ v∈rest,carriedByValue v=true) _ ?_ ?_ _ _ ⟨rfl,rfl,p.byValue⟩
  .rintro v rest r s' ⟨hr,rfl,al⟩
   rw[jg _ (al v aA)]
   refine aj (ay ?_)
   simp only[eM,bu,if_false]
   exact ay ⟨rfl,rfl,λ u q=>al u (au _ q)⟩
  .rintro⟨r1,z⟩ s' ⟨hr,rfl,_⟩
   simp only at hr
   subst hr
   exact ay h
theorem aY3 {A:aQ}{E:yB}{s:af}{k:List NI}{a:Addr}{Q:Bool->af->Prop}(hk:bk0 P w s.heap k a)(h:Q true s):wpAny (model P w) A (jD 8 (.ref a)) Q E s:=by
 obtain⟨o,its,n,e,c,d,p⟩:=hk
 have hT:s.TypeIs (.ref a) "tuple":=⟨o,e,c⟩
 unfold jD
 refine aj (c5 hT jR.lookup ?_)
 show wpAny _ _ (isInstance (.ref a) (.type "tuple") >>= _) _ _ s
 refine aj (jE hT gT ?_)
 simp only[eM,bu,if_false]
 refine aj (fj e d (aj ?_))
 show wpAny _ _ (forIn its _ _) _ _ s
 rw[<-fh]
 refine f6 _ (λ rest r s'=>r.1=none/\s'=s/\∃ ks,cQ (NIs P w s.heap) ks rest) _ ?_ ?_ _ _ ⟨rfl,rfl,k,p⟩
 .rintro v rest r s' ⟨hr,rfl,ks,al⟩
  cases al with
  | cons h1 t =>
   refine aj (aI1 h1 ?_)
   simp only[eM,bu,if_false]
   exact ay ⟨rfl,rfl,_,t⟩
 .rintro⟨r1,z⟩ s' ⟨hr,rfl,_⟩
  simp only at hr
  subst hr
  exact ay h
end
noncomputable def ar7 (P:aB)(w:World):HeapKind P w (List NI) where
 is:=bk0 P w
 hash:=λ k=>j4 (bB (k.map (az0 P w)))
 draws:=λ k=>qw k+1
 room:=λ A=>A.units+1<cLine
 inj:=λ hx hy=>hx.inj hy
 keeps:=λ {h h' k a d o es ep} x ho hd hs=>by
  obtain⟨o',i,n,e,c,q,p⟩:=x
  have ne:a≠d:=by
   rintro rfl
   rw[e]at ho;cases ho
   rw[hd]at q;cases q
  exact⟨o',i,n,(hs.2 a ne).trans e,c,q,kS (λ x v z=>NIs.keep (λ b l t=>t.keeps ho hd hs) z) p⟩
 pyHash:=λ hu hk h=>bw4 hu hk h
 eqBool:=λ hu hx hy h=>bY5 hu hx hy h
 quiet:=λ hk h=>aY3 hk h
inductive V where
 | non|bl (b:Bool)|int (i:Int)|str (x:Str)|byt (b:Array UInt8)|flt (b:UInt64)|ref (a:Addr)|ty (n:String)
 deriving DecidableEq
noncomputable def RelV:V->Value->Prop
 | .non,u=>u=Value.none
 | .bl b,u=>u=Value.bool b
 | .int i,u=>∃ t,u=Value.int i t
 | .str x,u=>∃ t,u=Value.str x t
 | .byt b,u=>∃ t,u=Value.bytes b t
 | .flt b,u=>∃ t,u=Value.float b t
 | .ref a,u=>u=Value.ref a
 | .ty n,u=>u=Value.type n
abbrev Vals:List V->List Value->Prop:=cQ RelV
theorem Vals.length {h:List V}{us:yH}(r:Vals h us):h.length=us.length:=cz r
theorem Vals.get:∀ {h:List V} {us:yH} {i:Nat} {x:V},Vals h us->h[i]?=some x->∃ u,us[i]?=some u/\RelV x u
 | _,_,_,_,.nil,e=>by simp at e
 | _,_,0,_,.cons r _,e=>by simp at e;subst e;exact⟨_,rfl,r⟩
 | _,_,i+1,x,.cons _ t,e=>by
  obtain⟨u,p,z⟩:=Vals.get (i:=i) (x:=x) t (by simpa using e)
  exact⟨u,by simpa using p,z⟩
theorem Vals.set {x:V}{u:Value}(r:RelV x u):∀ {h:List V} {us:yH} (i:Nat),Vals h us->Vals (h.set i x) (us.set i u)
 | _,_,_,.nil=>.nil
 | _,_,0,.cons _ t=>.cons r t
 | _,_,i+1,.cons q t=>.cons q (Vals.set r i t)
theorem Vals.append:∀ {h ys:List V} {us ws:yH},Vals h us->Vals ys ws->Vals (h++ys) (us++ws)
 | _,_,_,_,.nil,s=>s
 | _,_,_,_,.cons r t,s=>.cons r (Vals.append t s)
theorem Vals.take:∀ {h:List V} {us:yH} (n:Nat),Vals h us->Vals (h.take n) (us.take n)
 | _,_,0,_=>.nil
 | _,_,_+1,.nil=>.nil
 | _,_,n+1,.cons r t=>.cons r (Vals.take n t)
theorem Vals.drop:∀ {h:List V} {us:yH} (n:Nat),Vals h us->Vals (h.drop n) (us.drop n)
 | _,_,0,r=>r
 | _,_,_+1,.nil=>.nil
 | _,_,n+1,.cons _ t=>Vals.drop n t
noncomputable def aq6:Option V->Option Value->Prop
 | some v,some u=>RelV v u
 | none,none=>True
 | _,_=>False
def KV {κ:Type}:List (κ×V)->List (κ×Value)->Prop:=cQ λ(p:κ×V) (q:κ×Value)=>p.1=q.1/\RelV p.2 q.2
noncomputable def kV:Key->V
 | .inl i=>.int i
 | .inr x=>.str x
inductive HO where
 | lst (xs:List V)
 | tup (xs:List V)
 | dK (kvs:List (Key×V))|dT (kvs:List (List NI×V))
 | set (S:Int->Bool) (n:Nat)
 | ins (Cc dx:Addr) (fs:List (Str×V))
 | own (x:Addr)
 | xd (fs:List (Str×V))
 | met (f x:Addr)
 | rng (lo hi:Int)
 | frz (o:Obj) (u:HO)
 | tbl (ps:yK)
 | ext (C:Heap->Prop)
noncomputable abbrev Hp:=Addr->Option HO
noncomputable def fV:FK->V
 | none=>.non
 | some k=>kV k
noncomputable def NAt (H:Hp):NI->V->Prop
 | .inl f,v=>v=fV f
 | .inr l,v=>∃ c,v=.ref c/\H c=some (.tup (l.map fV))
def NK (H:Hp)(k:List NI)(b:Addr):Prop:=∃ xs,H b=some (.tup xs)/\cQ (NAt H) k xs
theorem NAt.mono {H H':Hp}{k:NI}{v:V}(ht:∀ b p,H b=some (.tup p)->H' b=some (.tup p))(h:NAt H k v):NAt H' k v:=by
 cases k with
 | inl f=>exact h
 | inr l=>obtain⟨c,e,q⟩:=h;exact⟨c,e,ht _ _ q⟩
theorem NK.mono {H H':Hp}{k:List NI}{b:Addr}(ht:∀ b F,H b=some (.tup F)->H' b=some (.tup F))(h:NK H k b):NK H' k b:=let⟨F,e,p⟩:=h;⟨F,ht _ _ e,kS (λ _ _ z=>z.mono ht) p⟩
noncomputable def upd (H:Hp)(a:Addr)(o:HO):Hp:=λ b=>if b=a then some o else H b
theorem zq {H:Hp}{a:Addr}{o:HO}:upd H a o a=some o:=by unfold upd;rw[if_pos rfl]
theorem zc {H:Hp}{a b:Addr}{o:HO}(h:b≠a):upd H a o b=H b:=by unfold upd;rw[if_neg h]
theorem bS9 {H:Hp}{a b:Addr}{o u:HO}(h:H a=some o)(h':H b=some u)(d:o≠u):a≠b:=by
 intro e;subst e;rw[h]at h';exact d (av h')
theorem zt {H:Hp}{a b:Addr}{o:HO}(h:H a=some o)(h':H b=none):a≠b:=by
 intro e;subst e;rw[h]at h';cases h'
section
variable (P:aB) (w:World)
noncomputable def aa4 (H:Hp)(h:Heap)(a:Addr):HO->Prop
 | .lst xs=>xs.length<=aG/\∃(its:yH) (n:Nat),Vals xs its/\h.get? a=some { cls:=.type "list",data:=.seq its.toArray n }
 | .tup xs=>xs.length<=aG/\∃ its:List Value,Vals xs its/\IsTup h a its.toArray
 | .dK kvs=>kvs.length<=aG/\(a==dh)=false/\∃ vs,KV kvs vs/\h.DictOf (zv P w) a vs
 | .dT kvs=>kvs.length<=aG/\(a==dh)=false/\∃ xs:List (List NI×Addr×Value),
   cQ (λ(p:List NI×V) (q:List NI×Addr×Value)=>p.1=q.1/\NK H p.1 q.2.1/\RelV p.2 q.2.2) kvs xs /\
   ∃ o es ep,h.get? a=some o/\o.ExactDict/\o.data=.dict es ep/\es.toList=xs.map (entryOfKey (ar7 P w))/\(xs.map (·.1)).Nodup
 | .set S n=>h.SetOf (intKind P w) a S n
 | .ins Cc dx fs=>H dx=some (.own a)/\fs.length<=1000/\dx≠a/\h.get? a=some (cq Cc dx) /\
   ∃ mA,h.Ns1 dx mA/\(∀ f,aq6 (fs.lookup f) (mA f))/\jh mA (fs.map (·.1))
 | .own _=>∃ o,h.get? a=some o
 | .xd fs=>∃ mA,h.Ns1 a mA/\∀ f,aq6 (fs.lookup f) (mA f)
 | .rng lo hi=>∃ t u v,h.get? a=some { cls:=.type "range",data:=.fields #[.int lo t,.int hi u,.int 1 v] }
 | .frz o u=>h.get? a=some o/\aa4 H h a u
 | .tbl ps=>h.get? a=some { cls:=.none,data:=.fields ps }
 | .met f x=>h.get? a=some (fI (.ref f) (.ref x))
 | .ext C=>C h/\(∃ o,h.get? a=some o)/\∀ h1 h2:Heap,C h1->(∀ o,h1.get? a=some o->h2.get? a=some o)->C h2
def HOk (H:Hp)(h:Heap):Prop:=∀ a o,H a=some o->aa4 P w H h a o
end
section
variable {P:aB} {w:World} {H H':Hp} {h h':Heap} {a:Addr} {o:HO}
theorem aa4.lt (x:aa4 P w H h a o):a<h.objs.size:=by
 cases o with
 | lst xs=>obtain⟨_,_,_,_,e⟩:=x;exact aI e
 | tup xs=>obtain⟨_,_,_,p⟩:=x;exact p.lt
 | dK kvs=>obtain⟨_,_,_,_,o,_,_,e,_⟩:=x;exact aI e
 | dT kvs=>obtain⟨_,_,_,_,o,_,_,e,_⟩:=x;exact aI e
 | set S n=>obtain⟨o,_,_,_,e,_⟩:=x;exact aI e
 | ins Cc dx fs=>obtain⟨_,_,_,e,_⟩:=x;exact aI e
 | own y=>obtain⟨_,e⟩:=x;exact aI e
 | xd fs=>obtain⟨_,⟨_,_,_,e,_⟩,_⟩:=x;exact aI e
 | rng lo hi=>obtain⟨_,_,_,e⟩:=x;exact aI e
 | frz ob u=>obtain⟨e,_⟩:=x;exact aI e
 | tbl ps=>exact aI (show h.get? a=some _ from x)
 | met f y=>exact aI (show h.get? a=some _ from x)
 | ext C=>obtain⟨_,⟨_,e⟩,_⟩:=x;exact aI e
theorem cQ.mapP {α β:Type}{F G:α->β->Prop}:∀ {p:List α} {h:List β},cQ F p h->(∀ a b,F a b->G a b)->cQ G p h
 | _,_,.nil,_=>.nil
 | _,_,.cons r t,f=>.cons (f _ _ r) (cQ.mapP t f)
theorem aa4.stay (x:aa4 P w H h a o)(k:∀ b u,(b=a\/H b=some (.own a))->h.get? b=some u->h'.get? b=some u)
  (ho:∀ b,H b=some (.own a)->H' b=some (.own a)) (ht:∀ b F,H b=some (.tup F)->H' b=some (.tup F)):aa4 P w H' h' a o:=by
 induction o with
 | lst F=>obtain⟨z,its,n,r,e⟩:=x;exact⟨z,its,n,r,k _ _ (.inl rfl) e⟩
 | tup F=>obtain⟨z,its,r,ob,e,c⟩:=x;exact⟨z,its,r,ob,k _ _ (.inl rfl) e,c⟩
 | dK kvs=>obtain⟨z,y,vs,r,ob,es,ep,e,c⟩:=x;exact⟨z,y,vs,r,ob,es,ep,k _ _ (.inl rfl) e,c⟩
 | dT kvs =>
  obtain⟨z,y,F,r,ob,es,ep,e,c⟩:=x
  exact⟨z,y,F,cQ.mapP r λ p q z=>⟨z.1,z.2.1.mono ht,z.2.2⟩,ob,es,ep,k _ _ (.inl rfl) e,c⟩
 | set S n=>obtain⟨ob,es,ep,t,e,c⟩:=x;exact⟨ob,es,ep,t,k _ _ (.inl rfl) e,c⟩
 | ins Cc dx fs =>
  obtain⟨d,z,ne,e,G,⟨od,es,ep,e2,c⟩,r⟩:=x
  exact⟨ho _ d,z,ne,k _ _ (.inl rfl) e,G,⟨od,es,ep,k _ _ (.inr d) e2,c⟩,r⟩
 | own y=>obtain⟨ob,e⟩:=x;exact⟨ob,k _ _ (.inl rfl) e⟩
 | xd fs=>obtain⟨G,⟨od,es,ep,e,c⟩,r⟩:=x;exact⟨G,⟨od,es,ep,k _ _ (.inl rfl) e,c⟩,r⟩
 | rng lo hi=>obtain⟨t,u,v,e⟩:=x;exact⟨t,u,v,k _ _ (.inl rfl) e⟩
 | frz ob u ih=>obtain⟨e,q⟩:=x;exact⟨k _ _ (.inl rfl) e,ih q⟩
 | tbl ps =>
  have e:h.get? a=some { cls:=.none,data:=.fields ps }:=x
  show h'.get? a=some { cls:=.none,data:=.fields ps }
  exact k a _ (.inl rfl) e
 | met f y =>
  have e:h.get? a=some (fI (.ref f) (.ref y)):=x
  show h'.get? a=some (fI (.ref f) (.ref y))
  exact k a _ (.inl rfl) e
 | ext C=>obtain⟨p,⟨o,e⟩,st⟩:=x;exact⟨st _ _ p λ o q=>k _ _ (.inl rfl) q,⟨o,k _ _ (.inl rfl) e⟩,st⟩
theorem HOk.lt (x:HOk P w H h)(e:H a=some o):a<h.objs.size:=(x a o e).lt
theorem HOk.fresh (x:HOk P w H h)(e:h.objs.size<=a):H a=none:=by
 cases q:H a with
 | none=>rfl
 | some u=>exact absurd (az (x.lt q) e) (bA _)
theorem HOk.kept (x:HOk P w H h)(k:∀ b u,h.get? b=some u->h'.get? b=some u):HOk P w H h':=λ a o e =>
 (x a o e).stay (λ b u _ q=>k b u q) (λ _ q=>q) λ _ _ q=>q
theorem HOk.laid (x:HOk P w H h)(k:∀ b u,h.get? b=some u->h'.get? b=some u)(p:h.objs.size<=a)(new:aa4 P w (upd H a o) h' a o):HOk P w (upd H a o) h':=λ b u e=>by
 have hn:=x.fresh p
 by_cases hb:b=a
 .subst hb;rw[zq]at e;cases e;exact new
 .rw[zc hb]at e
  exact(x b u e).stay (λ c v _ q=>k c v q) (λ c q=>by rw[zc (zt q hn)];exact q) λ c z q=>by rw[zc (zt q hn)];exact q
end
def Rd (H:Hp)(a:Addr)(u:HO):Prop:=H a=some u\/∃ o,H a=some (.frz o u)
theorem Rd.ok {P:aB}{w:World}{H:Hp}{h:Heap}{a:Addr}{u:HO}(r:Rd H a u)(x:HOk P w H h):aa4 P w H h a u:=by
 rcases r with r|⟨o,r⟩
 .exact x a u r
 .obtain⟨_,q⟩:=x a _ r
  exact q
noncomputable def Mut:Option HO->Prop
 | some (.lst _)=>True
 | some (.dK _)=>True
 | some (.dT _)=>True
 | some (.set _ _)=>True
 | some (.ins _ _ _)=>True
 | some (.ext _)=>True
 | _=>False
section
variable {P:aB} {w:World} {H:Hp} {h h':Heap} {x e:Addr} {o':HO}
theorem HOk.write (ok:HOk P w H h)(mu:Mut (H x))(Y:e=x\/H e=some (.own x))(k:∀ b u,b≠e->h.get? b=some u->h'.get? b=some u)(J:∃ u,h'.get? e=some u)
  (new:aa4 P w (upd H x o') h' x o'):HOk P w (upd H x o') h':=λ b u q=>by
 have p:∀ c y,H c=some (.own y)->c≠x:=λ c y r z=>by subst z;rw[r]at mu;exact mu
 have F:∀ c G,H c=some (.tup G)->c≠x:=λ c G r z=>by subst z;rw[r]at mu;exact mu
 by_cases hb:b=x
 .subst hb;rw[zq]at q;cases q;exact new
 .rw[zc hb]at q
  by_cases hbe:b=e
  .have q':H b=some (.own x):=by
    rcases Y with z|z
    .exact absurd (hbe.trans z) hb
    .rw[hbe];exact z
   rw[q]at q';cases q'
   obtain⟨v,hv⟩:=J
   exact⟨v,by rw[hbe];exact hv⟩
  .refine(ok b u q).stay (λ c v hc r=>k c v ?_ r) (λ c r=>by rw[zc (p c b r)];exact r) λ c G r=>by rw[zc (F c G r)];exact r
   rcases hc with rfl|hc
   .exact hbe
   .rintro rfl
    rcases Y with z|z
    .exact p c b hc z
    .rw[hc]at z;cases z;exact hb rfl
end
structure Un (fs ex:List Addr)(H H':Hp)(h h':Heap):Prop where
 keep:∀ b o,h.get? b=some o->H b=none->b ∉ fs->b ∉ ex->h'.get? b=some o
 slot:∀ b o,h.get? b=some o->H b=none->b∈fs->b ∉ ex->∃ sl,h'.get? b=some { o with slots:=sl }
 free:∀ b o,h.get? b=some o->H b=none->b ∉ ex->H' b=none
 there:∀ b o,h.get? b=some o->b ∉ ex->∃ o',h'.get? b=some o'
 tups:∀ b xs,H b=some (.tup xs)->H' b=some (.tup xs)
 frzs:∀ b o u,H b=some (.frz o u)->H' b=some (.frz o u)
 tbls:∀ b ps,H b=some (.tbl ps)->∃ more,H' b=some (.tbl (ps++more))
section
variable {fs fs' ex ex':List Addr} {H H1 H2:Hp} {h h1 h2 h':Heap} {a x e:Addr} {o:HO}
theorem Un.any (u:Un fs ex H H1 h h1){b:Addr}{ob:Obj}(q:h.get? b=some ob)(n:H b=none)(hx:b ∉ ex):∃ sl,h1.get? b=some { ob with slots:=sl }:=by
 by_cases hb:b∈fs
 .exact u.slot b ob q n hb hx
 .exact⟨ob.slots,u.keep b ob q n hb hx⟩
theorem Un.kept (k:∀ b u,h.get? b=some u->h'.get? b=some u):Un fs ex H H h h' :=
 ⟨λ b ob q _ _ _=>k b ob q,λ b ob q _ _ _=>⟨ob.slots,k b ob q⟩,λ _ _ _ n _=>n,λ b ob q _=>⟨ob,k b ob q⟩,λ _ _ q=>q,λ _ _ _ q=>q,λ _ ps q=>⟨#[],by rw[q];simp⟩⟩
theorem Un.refl:Un fs ex H H h h:=Un.kept λ _ _ q=>q
theorem Un.laid (k:∀ b u,h.get? b=some u->h'.get? b=some u)(z:h.objs.size<=a)(hn:H a=none):Un fs ex H (upd H a o) h h' where
 keep:=λ b u q _ _ _=>k b u q
 slot:=λ b u q _ _ _=>⟨u.slots,k b u q⟩
 free:=λ b u q n _=>by rw[zc (aE (az (aI q) z))];exact n
 there:=λ b u q _=>⟨u,k b u q⟩
 tups:=λ b p q=>by rw[zc (zt q hn)];exact q
 frzs:=λ b u p q=>by rw[zc (zt q hn)];exact q
 tbls:=λ b ps q=>⟨#[],by rw[zc (zt q hn),q];simp⟩
theorem Un.write (mu:Mut (H x))(Y:e=x\/H e=some (.own x))(k:∀ b u,b≠e->h.get? b=some u->h'.get? b=some u)(p:∃ u,h'.get? e=some u):Un fs ex H (upd H x o) h h':=by
 have hx:∀ b,H b=none->b≠x:=λ b n z=>by subst z;rw[n]at mu;exact mu
 have hb:∀ b,H b=none->b≠e:=λ b n z=>by
  subst z
  rcases Y with r|r
  .exact hx b n r
  .rw[n]at r;cases r
 have F:∀ b u,H b=some u->¬ Mut (some u)->b≠x:=λ b u q J z=>by subst z;rw[q]at mu;exact J mu
 refine⟨λ b u q n _ _=>k b u (hb b n) q,λ b u q n _ _=>⟨u.slots,k b u (hb b n) q⟩,λ b u q n _=>by rw[zc (hx b n)];exact n,λ b u q _=>?_,
  λ b G q=>by rw[zc (F b _ q λ z=>z)];exact q,λ b u G q=>by rw[zc (F b _ q λ z=>z)];exact q,λ b ps q=>⟨#[],by rw[zc (F b _ q λ z=>z),q];simp⟩⟩
 by_cases hbe:b=e
 .subst hbe;exact p
 .exact⟨u,k b u hbe q⟩
end
noncomputable def trk (h:Heap)(H:Hp):List Addr:=(aS h.objs.size).filter λ a=>(H a).isSome
noncomputable def aX7 (h:Heap)(H:Hp):Heap:=PySem.W.hideAll h (trk h H)
theorem aS8 (h:Heap)(H:Hp):(aX7 h H).objs.size=h.objs.size:=PySem.W.hideAll_size _ _
theorem af8 {h:Heap}{H:Hp}{b:Addr}{o:Obj}(e:h.get? b=some o)(n:H b=none):(aX7 h H).get? b=some o :=
 PySem.W.hideAll_get _ e λ p=>by
  have q:(H b).isSome=true:=(gK.mp p).2
  rw[n]at q;simp at q
theorem bq5 {h:Heap}{H:Hp}{b:Addr}{o:Obj}(e:(aX7 h H).get? b=some o):h.get? b=some o/\H b=none:=by
 have e':h.get? b=some o:=PySem.W.of_hideAll (trk h H) e
 refine⟨e',?_⟩
 cases q:H b with
 | none=>rfl
 | some x =>
  have p:b∈trk h H:=gK.mpr ⟨bG.mpr (aI e'),by simp[q]⟩
  have z:(aX7 h H).get? b=none:=PySem.W.hideAll_none (trk h H) p
  rw[z]at e;cases e
noncomputable def bs7 (g h:Heap)(L:Addr):List (Addr×Obj):=(aS h.objs.size).filterMap λ a=>if a=L\/(g.get? a).isSome=true then none else(h.get? a).map λ o=>(a,o)
noncomputable def rest (g h:Heap)(L d:Addr):List (Addr×Obj):=(bs7 g h L).filter λ p=>decide (p.1≠d)
structure Mod (K:ae)(mg:yD)(base:Heap):Prop where
 kin:K.In base
 glob:base.Ns bp mg
 blt:∃ mb,base.Ns gh mb/\∀ x:Str,x ≠ "__name__"->mb x=bn x
 nolimit:base.NoLimit
structure Cx where
 prog:aB
 w:World
 K:ae
 mg:Str->Option Value
 base:Heap
 A:aQ
 N:List Str
 s₀:af
 H₀:Hp
 env:Env
 outer:List Env
 stack:List Env
 ex:List Addr
 fn:Str->Bool
 calm:Bool
 pn:List (Addr×Obj)
 xe:Value->af->Prop
noncomputable def frs (l:List Env):List Addr:=l.filterMap (·.frame)
noncomputable abbrev Cx.fs (X:Cx):List Addr:=frs X.outer
def Vis (sc:Scope)(x:Str):Prop:=sc.names.lookup x=some .local\/sc.names.lookup x=some .cell\/sc.names.lookup x=some .free
def Loc (sc:Scope)(x:Str):Prop:=sc.names.lookup x=some .local\/sc.names.lookup x=some .cell
def Look (env:Env)(h:Heap)(m:yD)(x:Str)(u:Value):Prop :=
 (env.kindOf x=some .local/\m x=some u)\/((env.kindOf x=some .cell\/env.kindOf x=some .free)/\∃ c,env.cells.lookup x=some c/\h.IsCell c (some u))
structure Cx.Ok (X:Cx):Prop where
 mod:Mod X.K X.mg X.base
 kind:X.env.scope.kind=.function
 glob:X.env.globals=bp
 blt:X.env.builtins=gh
 above:X.s₀.heap.objs.size<=X.env.locals
 inj:∀ x y c,X.env.cells.lookup x=some c->X.env.cells.lookup y=some c->x=y
 has:∀ x,(X.env.kindOf x=some .cell\/X.env.kindOf x=some .free)->∃ c,X.env.cells.lookup x=some c
 cab:∀ x c,X.fn x=true->X.env.cells.lookup x=some c->X.s₀.heap.objs.size<=c
 hd:X.calm=true->X.A.handled=none
 frames:X.A.frames=some X.stack
 stk:X.stack=X.outer\/(X.stack=X.env::X.outer/\X.env.frame=some X.env.locals)
 exf:∀ b∈X.ex,b≠X.env.locals/\∀ x c,X.env.cells.lookup x=some c->c≠b
 bs:∀ b o,X.base.get? b=some o->X.s₀.heap.get? b=some o/\X.H₀ b=none
 bsz:X.base.objs.size<=X.s₀.heap.objs.size
 noex:∀ b o,X.base.get? b=some o->b ∉ X.ex
 exfs:∀ b∈X.ex,b ∉ X.fs
 funs:X.s₀.heap.FunFrames X.base X.outer
 frf:∀ b∈X.fs,X.H₀ b=none
structure Inv (X:Cx)(pins:yA)(W:List (Option V))(H:Hp)(s:af):Prop where
 ok:X.Ok
 os:s.os=X.s₀.os
 bare:fJ s.gens
 base:Un X.fs X.ex X.H₀ H X.s₀.heap s.heap
 loc:∃ m,s.heap.Ns X.env.locals m/\∀(i:Nat) (x:Str) (v:V),X.N[i]?=some x->W[i]?=some (some v)->Vis X.env.scope x->∃ u,RelV v u/\Look X.env s.heap m x u
 cell:∀ x c,X.env.cells.lookup x=some c->∃ v,s.heap.IsCell c v
 free:H X.env.locals=none
 freeC:∀ x c,X.env.cells.lookup x=some c->H c=none
 pin:∀ p∈X.pn++pins,s.heap.get? p.1=some p.2/\H p.1=none/\p.1≠X.env.locals/\p.1 ∉ X.fs/\∀ v,p.2.data≠.cell v
 hok:HOk X.prog X.w H s.heap
 len:W.length=X.N.length
section
variable {X:Cx} {pins:yA} {W:List (Option V)} {H H':Hp} {s:af} {h':Heap}
theorem Cx.Ok.nofr (ok:X.Ok){b:Addr}{o:Obj}(e:X.base.get? b=some o):b ∉ X.fs:=λ hb=>by
 have:=(ok.funs.mem hb).1
 rw[e]at this;cases this
theorem Inv.bs (I:Inv X pins W H s):∀ b o,X.base.get? b=some o->s.heap.get? b=some o/\H b=none:=λ b o e =>
 ⟨I.base.keep b o (I.ok.bs b o e).1 (I.ok.bs b o e).2 (I.ok.nofr e) (I.ok.noex b o e),I.base.free b o (I.ok.bs b o e).1 (I.ok.bs b o e).2 (I.ok.noex b o e)⟩
theorem Inv.bk (I:Inv X pins W H s):∀ b o,X.base.get? b=some o->s.heap.get? b=some o:=λ b o e=>(I.bs b o e).1
theorem Inv.mod (I:Inv X pins W H s):Mod X.K X.mg X.base:=I.ok.mod
theorem Inv.kIn (I:Inv X pins W H s):X.K.In s.heap:=I.ok.mod.kin.keeps I.bk
theorem Inv.nolimit (I:Inv X pins W H s):s.heap.NoLimit:=I.ok.mod.nolimit.keeps I.bk
theorem Inv.lt (I:Inv X pins W H s):X.env.locals<s.heap.objs.size:=let⟨_,hn,_⟩:=I.loc;hn.lt
theorem Inv.sz (I:Inv X pins W H s):X.s₀.heap.objs.size<=s.heap.objs.size:=ak I.ok.above (dW I.lt)
theorem Inv.nofs (I:Inv X pins W H s){a:Addr}(h:s.heap.objs.size<=a):a ∉ X.fs:=λ hb=>by
 obtain⟨_,o,ho,_⟩:=I.ok.funs.mem hb
 exact absurd (az (aI ho) (ak I.sz h)) (bA _)
theorem Inv.cne (I:Inv X pins W H s):∀ x c,X.env.cells.lookup x=some c->c≠X.env.locals:=λ x c e z=>by
 obtain⟨v,o,ho,hd⟩:=I.cell x c e
 obtain⟨m,⟨F,es,ep,p,h,_⟩,_⟩:=I.loc
 rw[z,p]at ho;cases ho;rw[h]at hd;cases hd
theorem Inv.funs (I:Inv X pins W H s):s.heap.FunFrames X.base X.outer:=by
 have all:∀(l:List Env),(∀ b∈frs l,b∈X.fs)->X.s₀.heap.FunFrames X.base l->s.heap.FunFrames X.base l:=by
  intro l
  induction l with
  | nil=>intro _ _;trivial
  | cons env r ih =>
   intro hs hl
   obtain⟨hk,⟨L,o,h,hn,ho,hd⟩,hr⟩:=hl
   have p:L∈X.fs:=hs L (by unfold frs;rw[eZ,h];exact aA)
   obtain⟨sl,e⟩:=I.base.slot L o ho (I.ok.frf L p) p λ z=>I.ok.exfs L z p
   exact⟨hk,⟨L,_,h,hn,e,hd⟩,ih (λ b hb=>hs b (by unfold frs;rw[eZ,h];exact au _ hb)) hr⟩
 exact all X.outer (λ _ hb=>hb) I.ok.funs
theorem Inv.stack (I:Inv X pins W H s):s.heap.FunFrames X.base X.stack:=by
 rcases I.ok.stk with e|⟨e,h⟩
 .rw[e];exact I.funs
 .rw[e]
  obtain⟨m,hn,_⟩:=I.loc
  refine .cons (by rw[I.ok.kind];decide) h hn ?_ I.funs
  exact Heap.get?_none_of_le (ak I.ok.bsz I.ok.above)
theorem Inv.stkSub (I:Inv X pins W H s):∀ b∈frs X.stack,b∈X.env.locals::X.fs:=λ b hb=>by
 rcases I.ok.stk with e|⟨e,h⟩
 .rw[e]at hb;exact au _ hb
 .rw[e]at hb
  unfold frs at hb
  rw[eZ,h]at hb
  exact hb
theorem Inv.stkFree (I:Inv X pins W H s):∀ b∈frs X.stack,H b=none:=λ b hb=>by
 rcases aH.mp (I.stkSub b hb)with e|hb
 .rw[e];exact I.free
 .obtain⟨_,o,ho,_⟩:=I.ok.funs.mem hb
  exact I.base.free b o ho (I.ok.frf b hb) λ z=>I.ok.exfs b z hb
theorem Inv.step {g':Array GenState}{t':Nat}{d':Drawn}{ch:List Addr}(I:Inv X pins W H s)
  (F:∀ b∈ch,(b∈X.ex\/X.s₀.heap.objs.size<=b)/\b≠X.env.locals/\(∀ x c,X.env.cells.lookup x=some c->c≠b)/\∀ p∈X.pn++pins,p.1≠b)
  (keep:∀ b o,b≠X.env.locals->b ∉ X.fs->b ∉ ch->s.heap.get? b=some o->H b=none->h'.get? b=some o)
  (slot:∀ b o,b≠X.env.locals->b∈X.fs->b ∉ ch->s.heap.get? b=some o->H b=none->∃ sl,h'.get? b=some { o with slots:=sl }) (free:∀ b o,b ∉ ch->s.heap.get? b=some o->H b=none->H' b=none)
  (there:∀ b o,b ∉ ch->s.heap.get? b=some o->∃ o',h'.get? b=some o')
  (tups:∀ b Y,H b=some (.tup Y)->H' b=some (.tup Y)) (frzs:∀ b o u,H b=some (.frz o u)->H' b=some (.frz o u)) (tbls:∀ b ps,H b=some (.tbl ps)->∃ a0,H' b=some (.tbl (ps++a0)))
  (ns:∀ m,s.heap.Ns X.env.locals m->h'.Ns X.env.locals m) (hok:HOk X.prog X.w H' h') (hg:fJ g') :
  Inv X pins W H' { s with heap:=h',gens:=g',drawn:=d',toks:=t' }:=by
 have Z:∀ b o,X.s₀.heap.get? b=some o->b≠X.env.locals:=λ b o e=>aE (az (aI e) I.ok.above)
 have J:∀ b o,X.s₀.heap.get? b=some o->b ∉ X.ex->b ∉ ch:=λ b o e hx hb=>by
  rcases(F b hb).1 with z|z
  .exact hx z
  .exact absurd (az (aI e) z) (bA _)
 have G:∀ x c,X.env.cells.lookup x=some c->∀ v,s.heap.IsCell c v->h'.IsCell c v:=λ x c e v ⟨o,ho,hd⟩=>by
  have h:c ∉ ch:=λ z=>(F c z).2.2.1 x c e rfl
  by_cases hc:c∈X.fs
  .obtain⟨sl,q⟩:=slot c o (I.cne x c e) hc h ho (I.freeC x c e)
   exact⟨_,q,hd⟩
  .exact⟨o,keep c o (I.cne x c e) hc h ho (I.freeC x c e),hd⟩
 refine⟨I.ok,I.os,hg,⟨λ b o e n hb hx=>?_,λ b o e n hb hx=>?_,λ b o e n hx=>?_,λ b o e hx=>?_,λ b Y e=>tups b Y (I.base.tups b Y e),λ b o Y e=>frzs b o Y (I.base.frzs b o Y e),λ b ps e=>?_⟩,?_,λ x c e=>?_,?_,λ x c e=>?_,λ p hp=>?_,hok,I.len⟩
 .exact keep b o (Z b o e) hb (J b o e hx) (I.base.keep b o e n hb hx) (I.base.free b o e n hx)
 .obtain⟨sl,e1⟩:=I.base.slot b o e n hb hx
  obtain⟨a1,e2⟩:=slot b _ (Z b o e) hb (J b o e hx) e1 (I.base.free b o e n hx)
  exact⟨a1,e2⟩
 .obtain⟨o',e1⟩:=I.base.there b o e hx
  exact free b o' (J b o e hx) e1 (I.base.free b o e n hx)
 .obtain⟨o',e1⟩:=I.base.there b o e hx
  exact there b o' (J b o e hx) e1
 .obtain⟨m1,e1⟩:=I.base.tbls b ps e
  obtain⟨m2,e2⟩:=tbls b _ e1
  exact⟨m1++m2,by rw[e2,iY]⟩
 .obtain⟨m,hn,hl⟩:=I.loc
  refine⟨m,ns m hn,λ i x v e1 e2 e3=>?_⟩
  obtain⟨u,r,l⟩:=hl i x v e1 e2 e3
  refine⟨u,r,?_⟩
  rcases l with l|⟨k,c,e,z⟩
  .exact .inl l
  .exact .inr ⟨k,c,e,G x c e _ z⟩
 .obtain⟨v,z⟩:=I.cell x c e
  exact⟨v,G x c e v z⟩
 .obtain⟨m,⟨o,_,_,ho,_⟩,_⟩:=I.loc
  exact free _ o (λ z=>(F _ z).2.1 rfl) ho I.free
 .obtain⟨v,o,ho,hd⟩:=I.cell x c e
  exact free c o (λ z=>(F c z).2.2.1 x c e rfl) ho (I.freeC x c e)
 .obtain⟨e,n,ne,nf,d⟩:=I.pin p hp
  have h:p.1 ∉ ch:=λ z=>(F p.1 z).2.2.2 p hp rfl
  exact⟨keep p.1 p.2 ne nf h e n,free p.1 p.2 h e n,ne,nf,d⟩
theorem Inv.un {t':Nat}(I:Inv X pins W H s)(u:Un X.fs [] H H' s.heap h')(hok:HOk X.prog X.w H' h'):Inv X pins W H' { s with heap:=h',toks:=t' }:=by
 obtain⟨m,⟨o,es,ep,ho,r⟩,_⟩:=id I.loc
 obtain⟨sl,J⟩:=u.any ho I.free (by simp)
 exact I.step (g':=s.gens) (d':=s.drawn) (ch:=[]) (λ _ z=>nomatch z) (λ b o _ hb _ e n=>u.keep b o e n hb (by simp)) (λ b o _ hb _ e n=>u.slot b o e n hb (by simp)) (λ b o _ e n=>u.free b o e n (by simp)) (λ b o _ e=>u.there b o e (by simp)) u.tups u.frzs u.tbls (λ m' G=>by
  obtain⟨Y,p,F,h,r'⟩:=G
  rw[ho]at h;cases h
  exact⟨_,p,F,J,r'⟩) hok I.bare
theorem Inv.call {g':Array GenState}{t':Nat}{d':Drawn}{ch:List Addr}(I:Inv X pins W H s)(u:Un (frs X.stack) ch H H' s.heap h')(hok:HOk X.prog X.w H' h')(hg:fJ g')
  (F:∀ b∈ch,(b∈X.ex\/X.s₀.heap.objs.size<=b)/\b≠X.env.locals/\(∀ x c,X.env.cells.lookup x=some c->c≠b)/\∀ p∈X.pn++pins,p.1≠b) :
  Inv X pins W H' { s with heap:=h',gens:=g',drawn:=d',toks:=t' }:=by
 obtain⟨m,⟨o,es,ep,ho,r⟩,_⟩:=id I.loc
 obtain⟨sl,Y⟩:=u.any ho I.free λ z=>(F _ z).2.1 rfl
 exact I.step (ch:=ch) F (λ b o Y hb hc e n=>u.keep b o e n (λ z=>(aH.mp (I.stkSub b z)).elim Y hb) hc) (λ b o _ _ hc e n=>u.any e n hc) (λ b o hc e n=>u.free b o e n hc) (λ b o hc e=>u.there b o e hc) u.tups u.frzs u.tbls (λ m' Z=>by
  obtain⟨o',G,J,h,r'⟩:=Z
  rw[ho]at h;cases h
  exact⟨_,G,J,Y,r'⟩) hok hg
theorem Inv.turned {t':Nat}{it:Addr}(I:Inv X pins W H s)(k:∀ b o,b≠it->s.heap.get? b=some o->h'.get? b=some o)(hn:H it=none)(F:it≠X.env.locals)
  (J:it∈X.ex\/X.s₀.heap.objs.size<=it) (Y:∀ x c,X.env.cells.lookup x=some c->c≠it) (h3:∀ p∈X.pn++pins,p.1≠it):Inv X pins W H { s with heap:=h',toks:=t' }:=by
 have h:∀ b u,H b=some u->b≠it:=λ b u e z=>by rw[z,hn]at e;cases e
 refine I.step (g':=s.gens) (d':=s.drawn) (ch:=[it]) (λ b hb=>?_) (λ b o _ _ hc e _=>k b o (λ z=>hc (by simp[z])) e) (λ b o _ _ hc e _=>⟨o.slots,k b o (λ z=>hc (by simp[z])) e⟩) (λ _ _ _ _ n=>n)
  (λ b o hc e=>⟨o,k b o (λ z=>hc (by simp[z])) e⟩) (λ _ _ e=>e) (λ _ _ _ e=>e) (λ b ps e=>⟨#[],by rw[e];simp⟩) (λ m G=>?_) (λ b u e=>?_) I.bare
 .have e:b=it:=by simpa using hb
  subst e
  exact⟨J,F,Y,h3⟩
 .obtain⟨o,es,ep,ho,r⟩:=G
  exact⟨o,es,ep,k _ o (bS F) ho,r⟩
 .refine(I.hok b u e).stay (λ c v hc q=>k c v ?_ q) (λ _ q=>q) λ _ _ q=>q
  rcases hc with z|z
  .rw[z];exact h b u e
  .exact h c _ z
theorem Inv.tok (I:Inv X pins W H s)(t:Nat):Inv X pins W H { s with toks:=t }:=I.un (h':=s.heap) (t':=t) Un.refl I.hok
theorem Inv.kept {t':Nat}(I:Inv X pins W H s)(k:∀ b u,s.heap.get? b=some u->h'.get? b=some u):Inv X pins W H { s with heap:=h',toks:=t' }:=I.un (Un.kept k) (I.hok.kept k)
theorem Inv.laid {a:Addr}{o:HO}{t':Nat}(I:Inv X pins W H s)(k:∀ b u,s.heap.get? b=some u->h'.get? b=some u)(h:s.heap.objs.size<=a)(new:aa4 X.prog X.w (upd H a o) h' a o) :
  Inv X pins W (upd H a o) { s with heap:=h',toks:=t' }:=I.un (Un.laid k h (I.hok.fresh h)) (I.hok.laid k h new)
theorem Inv.write {x e:Addr}{o:HO}{t':Nat}(I:Inv X pins W H s)(mu:Mut (H x))(p:e=x\/H e=some (.own x))(k:∀ b u,b≠e->s.heap.get? b=some u->h'.get? b=some u)(h:∃ u,h'.get? e=some u)
  (new:aa4 X.prog X.w (upd H x o) h' x o):Inv X pins W (upd H x o) { s with heap:=h',toks:=t' }:=I.un (Un.write mu p k h) (I.hok.write mu p k h new)
theorem Inv.pins_of {F:yA}(I:Inv X pins W H s)(h:∀ p∈F,s.heap.get? p.1=some p.2/\H p.1=none/\p.1≠X.env.locals/\p.1 ∉ X.fs/\∀ v,p.2.data≠.cell v):Inv X F W H s :=
 ⟨I.ok,I.os,I.bare,I.base,I.loc,I.cell,I.free,I.freeC,λ p G=>(aO.mp G).elim (λ z=>I.pin p (b8 _ z)) (h p),I.hok,I.len⟩
theorem aB6 {N:yI}(hN:N.Nodup){i j:Nat}{x:Str}(a:N[i]?=some x)(b:N[j]?=some x):i=j:=by
 obtain⟨h,e1⟩:=ac.mp a
 obtain⟨p,e2⟩:=ac.mp b
 exact(List.getElem_inj hN).mp (e1.trans e2.symm)
theorem as4 {M:Model}{A:aQ}{E:yB}{i:Nat}{x:Str}{v:V}{u:Value}{Q:Unit->af->Prop}(I:Inv X pins W H s)(hN:X.N.Nodup)(Y:X.N[i]?=some x)(hx:Loc X.env.scope x)(r:RelV v u)
  (h:∀ s',Inv X pins (W.set i (some v)) H s'->(∃ a,dm a s.heap s'.heap/\(a=X.env.locals\/X.env.cells.lookup x=some a))->Q () s') (hf:X.fn x=true\/X.env.scope.names.lookup x=some .local:=by first|exact .inl rfl|exact .inr rfl|assumption):wpAny M A (iw X.env x u) Q E s:=by
 obtain⟨m,hn,hl⟩:=id I.loc
 have a3:(X.env.scope.kind==.class||(X.env.scope.kind==.module&&X.env.locals != X.env.globals))=false:=by rw[I.ok.kind];rfl
 have a0:i < W.length:=by rw[I.len];exact(ac.mp Y).1
 have cne:=I.cne
 have F:∀ {a:Addr} {h':Heap},(∃ o,s.heap.get? a=some o/\H a=none)->dm a s.heap h'->HOk X.prog X.w H h':=λ {a h'} ha hs b ob e=>by
  obtain⟨_,_,G⟩:=ha
  refine(I.hok b ob e).stay (λ c w' hc q=>(hs.2 c ?_).trans q) (λ _ q=>q) λ _ _ q=>q
  rintro rfl
  rcases hc with rfl|hc
  .rw[G]at e;cases e
  .rw[G]at hc;cases hc
 rcases hx with hk|hk
 .refine gW hk hn (λ h' a5 hs=>?_) a3
  obtain⟨oL,_,_,a4,_⟩:=id hn
  refine h _ ⟨I.ok,I.os,I.bare,⟨λ b o e n hb hx=>?_,λ b o e n hb hx=>?_,I.base.free,λ b o e hx=>?_,I.base.tups,I.base.frzs,I.base.tbls⟩,⟨_,a5,λ j y v' e1 e2 e3=>?_⟩,λ y c e=>?_,I.free,I.freeC,λ p hp=>?_,F ⟨oL,a4,I.free⟩ hs,by simpa using I.len⟩ ⟨_,hs,.inl rfl⟩
  .exact(hs.2 b (aE (az (aI e) I.ok.above))).trans (I.base.keep b o e n hb hx)
  .obtain⟨sl,e1⟩:=I.base.slot b o e n hb hx
   exact⟨sl,(hs.2 b (aE (az (aI e) I.ok.above))).trans e1⟩
  .obtain⟨o',e1⟩:=I.base.there b o e hx
   exact⟨o',(hs.2 b (aE (az (aI e) I.ok.above))).trans e1⟩
  .by_cases hj:j=i
   .subst hj
    rw[Y]at e1;cases e1
    rw[a8 a0]at e2
    cases e2
    exact⟨u,r,.inl ⟨hk,by simp⟩⟩
   .rw[am (bS hj)]at e2
    obtain⟨u',r',q⟩:=hl j y v' e1 e2 e3
    refine⟨u',r',?_⟩
    rcases q with⟨k,e⟩|⟨k,c,e,z⟩
    .refine .inl ⟨k,?_⟩
     have:y≠x:=λ e=>hj (aB6 hN e1 (e▸Y))
     simp[this,e]
    .exact .inr ⟨k,c,e,z.sameBut hs (cne y c e)⟩
  .obtain⟨w',z⟩:=I.cell y c e
   exact⟨w',z.sameBut hs (cne y c e)⟩
  .obtain⟨e,n,ne,nf,d⟩:=I.pin p hp
   exact⟨(hs.2 p.1 ne).trans e,n,ne,nf,d⟩
 .have J:X.fn x=true:=by
   rcases hf with z|z
   .exact z
   .rw[z]at hk;cases hk
  obtain⟨c,hc⟩:=I.ok.has x (.inl hk)
  obtain⟨w',z⟩:=I.cell x c hc
  refine hW I.ok.kind hk hc z (λ h' Z hs=>?_)
  obtain⟨oc,a2,a1⟩:=id z
  refine h { s with heap:=h' } ⟨I.ok,I.os,I.bare,⟨λ b o e n hb hx=>?_,λ b o e n hb hx=>?_,I.base.free,λ b o e hx=>?_,I.base.tups,I.base.frzs,I.base.tbls⟩,⟨m,hn.sameBut hs (bS (cne x c hc)),λ j y v' e1 e2 e3=>?_⟩,λ y c' e=>?_,I.free,I.freeC,λ p hp=>?_,F ⟨oc,a2,I.freeC x c hc⟩ hs,by simpa using I.len⟩ ⟨c,hs,.inr hc⟩
  .exact(hs.2 b (aE (az (aI e) (I.ok.cab x c J hc)))).trans (I.base.keep b o e n hb hx)
  .obtain⟨sl,e1⟩:=I.base.slot b o e n hb hx
   exact⟨sl,(hs.2 b (aE (az (aI e) (I.ok.cab x c J hc)))).trans e1⟩
  .obtain⟨o',e1⟩:=I.base.there b o e hx
   exact⟨o',(hs.2 b (aE (az (aI e) (I.ok.cab x c J hc)))).trans e1⟩
  .by_cases hj:j=i
   .subst hj
    rw[Y]at e1;cases e1
    rw[a8 a0]at e2
    cases e2
    exact⟨u,r,.inr ⟨.inl hk,c,hc,Z⟩⟩
   .rw[am (bS hj)]at e2
    obtain⟨u',r',q⟩:=hl j y v' e1 e2 e3
    refine⟨u',r',?_⟩
    rcases q with q|⟨k,c',e,z'⟩
    .exact .inl q
    .refine .inr ⟨k,c',e,z'.sameBut hs ?_⟩
     rintro rfl
     exact hj (aB6 hN e1 (I.ok.inj _ _ _ e hc▸Y))
  .by_cases hcc:c'=c
   .subst hcc;exact⟨_,Z⟩
   .obtain⟨w2,z2⟩:=I.cell y c' e
    exact⟨w2,z2.sameBut hs hcc⟩
  .obtain⟨e,n,ne,nf,d⟩:=I.pin p hp
   refine⟨(hs.2 p.1 ?_).trans e,n,ne,nf,d⟩
   intro q
   rw[q,a2]at e
   have q':oc=p.2:=av e
   exact d w' (by rw[<-q'];exact a1)
theorem aC7 {M:Model}{A:aQ}{E:yB}{i:Nat}{x:Str}{v:V}{u:Value}{Q:Unit->af->Prop}(I:Inv X pins W H s)(hN:X.N.Nodup)(F:X.N[i]?=some x)(hx:Loc X.env.scope x)(r:RelV v u)
  (h:∀ s',Inv X pins (W.set i (some v)) H s'->Q () s') (p:X.fn x=true\/X.env.scope.names.lookup x=some .local:=by first|exact .inl rfl|exact .inr rfl|assumption):wpAny M A (iw X.env x u) Q E s :=
 as4 I hN F hx r (λ s' z _=>h s' z) p
theorem Inv.call' {s':af}{ch:List Addr}(I:Inv X pins W H s)(ho:s'.os=s.os)(u:Un (frs X.stack) ch H H' s.heap s'.heap)(hok:HOk X.prog X.w H' s'.heap)(hg:fJ s'.gens)
  (h:∀ b∈ch,(b∈X.ex\/X.s₀.heap.objs.size<=b)/\b≠X.env.locals/\(∀ x c,X.env.cells.lookup x=some c->c≠b)/\∀ p∈X.pn++pins,p.1≠b):Inv X pins W H' s':=by
 obtain⟨h',g',d',t',z⟩:=s'
 have e:z=s.os:=ho
 subst e
 exact I.call (g':=g') (t':=t') (d':=d') u hok hg h
end
abbrev XK:=Value->Option Addr->Hp->Prop
noncomputable abbrev St:=List (Option V)
abbrev VK:=V->Hp->Prop
abbrev TE:=St->Hp->VK->Prop
abbrev TT:=St->Hp->(Bool->Hp->Prop)->Prop
abbrev TA:=St->Hp->(List V->Hp->Prop)->Prop
structure Ends where
 nx:St->Hp->Prop
 rt:VK
 bk:St->Hp->Prop:=λ _ _=>False
 ct:St->Hp->Prop:=λ _ _=>False
abbrev TS:=Ends->St->Hp->Prop
def EP (X:Cx)(pins:yA)(W:St)(Q:VK)(u:Value)(s':af):Prop:=∃ v H',Inv X pins W H' s'/\RelV v u/\Q v H'
def TP (X:Cx)(pins:yA)(W:St)(Q:Bool->Hp->Prop)(b:Bool)(s':af):Prop:=∃ H',Inv X pins W H' s'/\Q b H'
def AP (X:Cx)(pins:yA)(W:St)(Q:List V->Hp->Prop)(us:yH)(s':af):Prop:=∃ vs H',Inv X pins W H' s'/\Vals vs us/\Q vs H'
def SP (X:Cx)(pins:yA)(D:Ends)(f:Flow)(s':af):Prop :=
 match f with
 | .next=>∃ W' H',Inv X pins W' H' s'/\D.nx W' H'
 | .brk=>∃ W' H',Inv X pins W' H' s'/\D.bk W' H'
 | .cont=>∃ W' H',Inv X pins W' H' s'/\D.ct W' H'
 | .ret u=>∃ v W' H',Inv X pins W' H' s'/\RelV v u/\D.rt v H'
def PE (X:Cx)(e:Expr)(t:TE):Prop :=
 ∀(pins:yA) (s:af) (W:St) (H:Hp) (Q:VK),Inv X pins W H s->t W H Q->wpAny (model X.prog X.w) X.A (eval e X.env) (EP X pins W Q) X.xe s
def PT (X:Cx)(e:Expr)(t:TT):Prop :=
 ∀(pins:yA) (s:af) (W:St) (H:Hp) (Q:Bool->Hp->Prop),Inv X pins W H s->t W H Q->wpAny (model X.prog X.w) X.A (dJ e X.env (eval e X.env)) (TP X pins W Q) X.xe s
def PW (X:Cx)(e:Expr)(t:TT):Prop :=
 ∀(whole:Sem Value) (pins:yA) (s:af) (W:St) (H:Hp) (Q:Bool->Hp->Prop),Inv X pins W H s->t W H Q->wpAny (model X.prog X.w) X.A (dJ e X.env whole) (TP X pins W Q) X.xe s
theorem PW.pt {X:Cx}{e:Expr}{t:TT}(h:PW X e t):PT X e t:=h _
def PA (X:Cx)(es:yL)(t:TA):Prop :=
 ∀(pos:Pos) (pins:yA) (s:af) (W:St) (H:Hp) (Q:List V->Hp->Prop),Inv X pins W H s->t W H Q->wpAny (model X.prog X.w) X.A (spliced (cR pos (a7 es X.env))) (AP X pins W Q) X.xe s
def PS (X:Cx)(st:Stmt)(t:TS):Prop :=
 ∀(pins:yA) (s:af) (W:St) (H:Hp) (D:Ends),Inv X pins W H s->t D W H->wpAny (model X.prog X.w) X.A (exec st X.env) (SP X pins D) X.xe s
def PSs (X:Cx)(st:yM)(t:TS):Prop :=
 ∀(pins:yA) (s:af) (W:St) (H:Hp) (D:Ends),Inv X pins W H s->t D W H->wpAny (model X.prog X.w) X.A (execs st X.env) (SP X pins D) X.xe s
theorem thn {α:Type}{t:Sem α}{Q p:α->af->Prop}{M:Model}{A:aQ}{E:yB}{s:af}(h:wpAny M A t Q E s)(z:∀ a s,Q a s->p a s):wpAny M A t p E s:=bP h z λ _ _ x=>x
section
variable {X:Cx}
theorem bin {a b:Expr}{G tb:TE}(ha:PE X a G)(hb:PE X b tb){p:yA}{s:af}{W:St}{H:Hp}{R:V->V->Hp->Prop}(I:Inv X p W H s)(h:G W H λ x F=>tb W F λ y z=>R x y z)
  {α:Type} {Q:α->af->Prop} {f:Value->Value->Sem α}
  (hf:∀ v u s2 x y z,Inv X p W z s2->RelV x v->RelV y u->R x y z->wpAny (model X.prog X.w) X.A (f v u) Q X.xe s2) :
  wpAny (model X.prog X.w) X.A (eval a X.env) (λ v s₁=>wpAny (model X.prog X.w) X.A (eval b X.env) (λ u s₂=>wpAny (model X.prog X.w) X.A (f v u) Q X.xe s₂) X.xe s₁) X.xe s:=by
 refine thn (ha p s W H _ I h) λ v s1 ⟨x,F,Y,r1,q1⟩=>?_
 refine thn (hb p s1 W F _ Y q1) λ u s2 ⟨y,z,Z,J,q2⟩=>?_
 exact hf v u s2 x y z Z r1 J q2
def cb4 (i:Nat):TE:=λ W H Q=>∃ v,W[i]?=some (some v)/\Q v H
def tC (v:V):TE:=λ _ H Q=>Q v H
theorem bD3 {i:Nat}{x:Str}{pos:Pos}(hN:X.N[i]?=some x)(hv:Vis X.env.scope x)(hd:(x==("__debug__":Str))=false:=by decide)(z:(x==("__classdict__":Str))=false:=by decide):PE X (.Name x pos) (cb4 i):=by
 intro p s W H Q I h
 obtain⟨v,e,h⟩:=h
 obtain⟨m,hn,hl⟩:=I.loc
 obtain⟨u,r,l⟩:=hl i x v hN e hv
 have fin:EP X p W Q u s:=⟨v,H,I,r,h⟩
 rcases l with⟨hk,F⟩|⟨hk,c,hc,hcell⟩
 .exact j7 (wpAny_loadName_local I.ok.kind hk hn F fin) hd
 .rcases hk with hk|hk
  .exact j7 (wpAny_loadName_cell I.ok.kind hk hc hcell fin) hd
  .exact j7 (wpAny_loadName_free I.ok.kind hk hc hcell fin z) hd
theorem bi2 {i j pos}:PE X (.Constant (.int i) j pos) (tC (.int i)):=λ _ _ _ H _ I h=>wpAny_Constant_int ⟨.int i,H,I.tok _,⟨_,rfl⟩,h⟩
theorem bV1 {b j pos}:PE X (.Constant (.bool b) j pos) (tC (.bl b)):=λ _ _ _ H _ I h=>Constant_bool ⟨.bl b,H,I,rfl,h⟩
theorem bG3 {j pos}:PE X (.Constant .none j pos) (tC .non):=λ _ _ _ H _ I h=>Constant_none ⟨.non,H,I,rfl,h⟩
theorem bK5 {x j pos}:PE X (.Constant (.str x) j pos) (tC (.str x)):=λ _ _ _ H _ I h=>Calls.Constant_str ⟨.str x,H,I.tok _,⟨_,rfl⟩,h⟩
def Gl (X:Cx)(x:Str):Prop:=X.env.kindOf x=some .globalImplicit
theorem ah7 {E:yB}{p:yA}{s:af}{W:St}{H:Hp}{x:Str}{u:Value}{pos:Pos}{Q:yB}(I:Inv X p W H s)(hg:Gl X x)(z:X.mg x=some u)(h:Q u s)
  (hd:(x==("__debug__":Str))=false:=by decide):wpAny (model X.prog X.w) X.A (eval (.Name x pos) X.env) Q E s :=
 fm I.ok.kind hg (Calls.loadGlobal_global (by rw[I.ok.glob];exact I.mod.glob.keeps I.bk) z h) hd
theorem al5 {E:yB}{p:yA}{s:af}{W:St}{H:Hp}{x:Str}{u:Value}{pos:Pos}{Q:yB}(I:Inv X p W H s)(hg:Gl X x)(F:X.mg x=none)(hv:bn x=some u)(h:Q u s)
  (hn:x ≠ "__name__":=by decide) (hd:(x==("__debug__":Str))=false:=by decide):wpAny (model X.prog X.w) X.A (eval (.Name x pos) X.env) Q E s:=by
 obtain⟨J,z,G⟩:=I.mod.blt
 exact fm I.ok.kind hg (Calls.loadGlobal_builtin (by rw[I.ok.glob];exact I.mod.glob.keeps I.bk) F (by rw[I.ok.blt];exact z.keeps I.bk) ((G x hn).trans hv) h) hd
theorem bA0 {x:Str}{v:V}{u:Value}{pos:Pos}(hg:Gl X x)(p:X.mg x=some u)(r:RelV v u)(hd:(x==("__debug__":Str))=false:=by decide):PE X (.Name x pos) (tC v) :=
 λ _ _ _ H _ I h=>ah7 I hg p ⟨v,H,I,r,h⟩ hd
theorem bu3 {x:Str}{v:V}{u:Value}{pos:Pos}(hg:Gl X x)(p:X.mg x=none)(hv:bn x=some u)(r:RelV v u)(hn:x ≠ "__name__":=by decide)(hd:(x==("__debug__":Str))=false:=by decide):PE X (.Name x pos) (tC v) :=
 λ _ _ _ H _ I h=>al5 I hg p hv ⟨v,H,I,r,h⟩ hn hd
variable {a b:Expr} {ta tb:TE} {pos:Pos}
def tB (t:TE):TT:=λ W H Q=>t W H λ x H1=>∃ c,x=.bl c/\Q c H1
theorem bE1 {e:Expr}{t:TE}(h:PE X e t)(Y:∀ p,dJ e X.env p=(do let v <- p;ji e.pos;gi [v] (truthy v)):=by intro _;rfl):PT X e (tB t):=by
 intro z s W H Q I hw
 refine isTrue_plain (thn (h z s W H _ I hw) λ v s1 ⟨x,F,J,r1,G⟩=>?_) (Y _)
 obtain⟨d,rfl,q⟩:=G
 cases r1
 exact cJ ⟨F,J,q⟩
variable {tA tB':TT} {rest:yL}
def ca6 (t u:TT):TT:=λ W H Q=>t W H λ c H1=>if c=true then u W H1 Q else Q false H1
def tOr (t u:TT):TT:=λ W H Q=>t W H λ c H1=>if c=true then Q true H1 else u W H1 Q
def cb5 (t:TT):TT:=λ W H Q=>t W H λ c H1=>Q (!c) H1
theorem bn4 (ha:PT X a tA):PW X (.BoolOp .And [a] pos) tA:=by
 intro z p s W H Q I h
 refine isTrue_and (thn (ha p s W H Q I h) λ c s1 e=>?_)
 cases c with
 | true=>exact isTrue_and_nil e
 | false=>exact e
theorem bI1 (ha:PT X a tA):PW X (.BoolOp .Or [a] pos) tA:=by
 intro z p s W H Q I h
 refine isTrue_or (thn (ha p s W H Q I h) λ c s1 e=>?_)
 cases c with
 | false=>exact isTrue_or_nil e
 | true=>exact e
theorem bk6 (ha:PT X a tA)(hb:PW X (.BoolOp .And (b::rest) pos) tB'):PW X (.BoolOp .And (a::b::rest) pos) (ca6 tA tB'):=by
 intro J p s W H Q I h
 refine isTrue_and (thn (ha p s W H _ I h) λ c s1 ⟨z,F,G⟩=>?_)
 cases c with
 | true=>exact hb J p s1 W z Q F G
 | false=>exact⟨z,F,G⟩
theorem bH3 (ha:PT X a tA)(hb:PW X (.BoolOp .Or (b::rest) pos) tB'):PW X (.BoolOp .Or (a::b::rest) pos) (tOr tA tB'):=by
 intro J p s W H Q I h
 refine isTrue_or (thn (ha p s W H _ I h) λ c s1 ⟨z,F,G⟩=>?_)
 cases c with
 | true=>exact⟨z,F,G⟩
 | false=>exact hb J p s1 W z Q F G
theorem bI4 (ha:PT X a tA):PT X (.UnaryOp .Not a pos) (cb5 tA):=by
 intro p s W H Q I h
 exact isTrue_not (ha p s W H (λ c z=>Q (!c) z) I h)
def bK7 (ta tb:TE):TE:=λ W H Q=>ta W H λ x H1=>∃ c,x=.bl c/\if c=true then tb W H1 Q else Q (.bl false) H1
def cc0 (ta tb:TE):TE:=λ W H Q=>ta W H λ x H1=>∃ c,x=.bl c/\if c=true then Q (.bl true) H1 else tb W H1 Q
def bP1 (ta:TE):TE:=λ W H Q=>ta W H λ x H1=>∃ c,x=.bl c/\Q (.bl (!c)) H1
theorem bj4 {op}{t:TE}(h:PE X a t):PE X (.BoolOp op [a] pos) t:=λ p s W H Q I hw=>BoolOp_one (h p s W H Q I hw)
theorem bm1 (ha:PE X a ta)(hb:PE X (.BoolOp .And (b::rest) pos) tb):PE X (.BoolOp .And (a::b::rest) pos) (bK7 ta tb):=by
 intro p s W H Q I h
 refine BoolOp_and (thn (ha p s W H _ I h) λ v s1 ⟨x,F,G,r1,z⟩=>?_)
 obtain⟨c,rfl,z⟩:=z
 cases r1
 refine cJ ?_
 cases c with
 | true=>exact hb p s1 W F Q G z
 | false=>exact⟨.bl false,F,G,rfl,z⟩
theorem bO5 (ha:PE X a ta)(hb:PE X (.BoolOp .Or (b::rest) pos) tb):PE X (.BoolOp .Or (a::b::rest) pos) (cc0 ta tb):=by
 intro p s W H Q I h
 refine BoolOp_or (thn (ha p s W H _ I h) λ v s1 ⟨x,F,G,r1,z⟩=>?_)
 obtain⟨c,rfl,z⟩:=z
 cases r1
 refine cJ ?_
 cases c with
 | false=>exact hb p s1 W F Q G z
 | true=>exact⟨.bl true,F,G,rfl,z⟩
theorem bK4 (ha:PE X a ta):PE X (.UnaryOp .Not a pos) (bP1 ta):=by
 intro p s W H Q I h
 refine UnaryOp_ (thn (ha p s W H _ I h) λ v s1 ⟨x,F,G,r1,z⟩=>?_)
 obtain⟨c,rfl,z⟩:=z
 cases r1
 exact not_of (cJ ⟨.bl (!c),F,G,rfl,z⟩)
def tIf (t:TT)(ta tb:TE):TE:=λ W H Q=>t W H λ c H1=>if c=true then ta W H1 Q else tb W H1 Q
theorem ba2 {c:Expr}(hc:PT X c tA)(ha:PE X a ta)(hb:PE X b tb):PE X (.IfExp c a b pos) (tIf tA ta tb):=by
 intro p s W H Q I h
 refine wpAny_IfExp (thn (hc p s W H _ I h) λ d s1 ⟨z,F,G⟩=>?_)
 cases d with
 | true=>exact ha p s1 W z Q F G
 | false=>exact hb p s1 W z Q F G
end
def SqL (K:ae)(H:Hp)(a:Addr)(xs:List V):Prop :=
 Rd H a (.lst xs) \/
  ∃(o:Obj) (its:yK) (n:Nat),K.lookup a=some o/\o.cls=.type "list"/\o.dict=none/\o.data=.seq its n/\its.size<=aG/\Vals xs its.toList
def SqT (K:ae)(H:Hp)(a:Addr)(xs:List V):Prop :=
 Rd H a (.tup xs) \/
  ∃(o:Obj) (its:yK) (n:Nat),K.lookup a=some o/\o.cls=.type "tuple"/\o.data=.seq its n/\its.size<=aG/\Vals xs its.toList
noncomputable def cd7:Value->Option V
 | .none=>some .non
 | .bool b=>some (.bl b)
 | .int i _=>some (.int i)
 | .str x _=>some (.str x)
 | .bytes b _=>some (.byt b)
 | .float b _=>some (.flt b)
 | .ref a=>some (.ref a)
 | .type n=>some (.ty n)
 | _=>none
theorem RelV.abs {x:V}{u:Value}(r:RelV x u):cd7 u=some x:=by
 cases x with
 | non=>cases r;rfl
 | bl _=>cases r;rfl
 | int _=>obtain⟨t,rfl⟩:=r;rfl
 | str _=>obtain⟨t,rfl⟩:=r;rfl
 | byt _=>obtain⟨t,rfl⟩:=r;rfl
 | flt _=>obtain⟨t,rfl⟩:=r;rfl
 | ref _=>cases r;rfl
 | ty _=>cases r;rfl
theorem RelV.inj {x y:V}{u:Value}(r:RelV x u)(q:RelV y u):x=y:=av (r.abs.symm.trans q.abs)
theorem Vals.inj:∀ {h ys:List V} {us:yH},Vals h us->Vals ys us->h=ys
 | _,_,_,.nil,.nil=>rfl
 | _,_,_,.cons r t,.cons r' t'=>by rw[r.inj r',Vals.inj t t']
section
variable {X:Cx} {pins:yA} {W:St} {H:Hp} {s:af} {a:Addr} {xs ys:List V}
theorem SqL.of {K:ae}(h:H a=some (.lst xs)):SqL K H a xs:=.inl (.inl h)
theorem SqT.of {K:ae}(h:H a=some (.tup xs)):SqT K H a xs:=.inl (.inl h)
theorem Inv.list (I:Inv X pins W H s)(h:SqL X.K H a xs):∃ its:List Value,Vals xs its/\PlainL s.heap a its.toArray/\xs.length<=aG:=by
 rcases h with h|⟨o,its,n,hk,hc,hd,hs,hz,r⟩
 .obtain⟨z,its,n,r,e⟩:=h.ok I.hok
  exact⟨its,r,⟨_,n,e,rfl,rfl,rfl⟩,z⟩
 .refine⟨its.toList,r,⟨o,n,I.kIn a o hk,hc,hd,by simpa using hs⟩,?_⟩
  have e:=r.length
  simp only[cr]at e
  omega
theorem Inv.tuple (I:Inv X pins W H s)(h:SqT X.K H a xs):∃ its:List Value,Vals xs its/\IsTup s.heap a its.toArray/\xs.length<=aG:=by
 rcases h with h|⟨o,its,n,hk,hc,hs,hz,r⟩
 .obtain⟨z,its,r,p⟩:=h.ok I.hok
  exact⟨its,r,p,z⟩
 .refine⟨its.toList,r,⟨o,I.kIn a o hk,hc,n,by simpa using hs⟩,?_⟩
  have e:=r.length
  simp only[cr]at e
  omega
theorem Inv.list_inj (I:Inv X pins W H s)(h:SqL X.K H a xs)(h':SqL X.K H a ys):xs=ys:=by
 obtain⟨its,r,⟨o,n,e,_,_,d⟩,_⟩:=I.list h
 obtain⟨its',r',⟨z,p,e',_,_,d'⟩,_⟩:=I.list h'
 rw[e]at e';cases e'
 rw[d]at d'
 injection d' with d1 _
 have:its=its':=by simpa using congrArg jj d1
 subst this
 exact r.inj r'
theorem Inv.tuple_inj (I:Inv X pins W H s)(h:SqT X.K H a xs)(h':SqT X.K H a ys):xs=ys:=by
 obtain⟨its,r,⟨o,e,_,n,d⟩,_⟩:=I.tuple h
 obtain⟨its',r',⟨z,e',_,p,d'⟩,_⟩:=I.tuple h'
 rw[e]at e';cases e'
 rw[d]at d'
 injection d' with d1 _
 have:its=its':=by simpa using congrArg jj d1
 subst this
 exact r.inj r'
end
noncomputable abbrev Cx.wish (X:Cx)(E:yB):Cx:={ X with xe:=E }
noncomputable abbrev Cx.nox (X:Cx):Cx:=X.wish λ _ _=>False
theorem Cx.Ok.wish {X:Cx}(ok:X.Ok)(E:yB):(X.wish E).Ok :=
 ⟨ok.mod,ok.kind,ok.glob,ok.blt,ok.above,ok.inj,ok.has,ok.cab,ok.hd,ok.frames,ok.stk,ok.exf,ok.bs,ok.bsz,ok.noex,ok.exfs,ok.funs,ok.frf⟩
theorem Cx.Ok.unwish {X:Cx}{E:yB}(ok:(X.wish E).Ok):X.Ok :=
 ⟨ok.mod,ok.kind,ok.glob,ok.blt,ok.above,ok.inj,ok.has,ok.cab,ok.hd,ok.frames,ok.stk,ok.exf,ok.bs,ok.bsz,ok.noex,ok.exfs,ok.funs,ok.frf⟩
section
variable {X:Cx} {pins:yA} {W:St} {H:Hp} {s:af} {E:yB}
theorem Inv.wish (I:Inv X pins W H s)(E:yB):Inv (X.wish E) pins W H s:=⟨I.ok.wish E,I.os,I.bare,I.base,I.loc,I.cell,I.free,I.freeC,I.pin,I.hok,I.len⟩
theorem Inv.unwish (I:Inv (X.wish E) pins W H s):Inv X pins W H s:=⟨I.ok.unwish,I.os,I.bare,I.base,I.loc,I.cell,I.free,I.freeC,I.pin,I.hok,I.len⟩
theorem SP.unwish {D:Ends}{f:Flow}{s':af}(h:SP (X.wish E) pins D f s'):SP X pins D f s':=by
 cases f with
 | next=>obtain⟨W',H',I,q⟩:=h;exact⟨W',H',I.unwish,q⟩
 | brk=>obtain⟨W',H',I,q⟩:=h;exact⟨W',H',I.unwish,q⟩
 | cont=>obtain⟨W',H',I,q⟩:=h;exact⟨W',H',I.unwish,q⟩
 | ret u=>obtain⟨v,W',H',I,r,q⟩:=h;exact⟨v,W',H',I.unwish,r,q⟩
theorem PSs.nox {st:yM}{t:TS}(h:PSs X.nox st t):PSs X st t:=λ p s W H D I hw =>
 bP (h p s W H D (I.wish _) hw) (λ _ _ q=>q.unwish) λ _ _ z=>bM z
end
section
variable {X:Cx} {st:Stmt} {rest:yM} {t u:TS} {e:Expr} {te:TE} {pos:Pos}
def bI8:TS:=λ D W H=>D.nx W H
noncomputable def ca2 (t u:TS):TS:=λ D W H=>t { D with nx:=u D } W H
theorem aP9:PSs X [] bI8:=λ _ _ W H _ I h=>gL ⟨W,H,I,h⟩
theorem aC0 (z:PS X st t)(G:PSs X rest u):PSs X (st::rest) (ca2 t u):=by
 intro p s W H D I h
 refine wpAny_execs_cons (thn (z p s W H { D with nx:=u D } I h) λ f s1 q=>?_)
 cases f with
 | next =>
  obtain⟨W',H',F,q⟩:=q
  exact G p s1 W' H' D F q
 | ret v=>exact q
 | brk=>exact q
 | cont=>exact q
theorem Inv.quiet {h:yA}{W:St}{H:Hp}{s:af}(I:Inv X h W H s):interactive X.env=false:=by simp[interactive,I.ok.kind]
def bP9 (te:TE):TS:=λ D W H=>te W H λ _ H1=>D.nx W H1
theorem bx3 (J:PE X e te)(hs:eG e none pos.line X.env=pure false:=by rfl):PS X (.Expr e pos) (bP9 te):=by
 intro p s W H D I h
 exact wpAny_Expr_any (thn (J p s W H _ I h) λ v s1 ⟨x,z,F,r1,G⟩=>⟨W,z,F,G⟩) I.quiet hs
def ca8 (te:TE):TS:=λ D W H=>te W H D.rt
theorem bl0 (J:PE X e te):PS X (.Return (some e) pos) (ca8 te):=by
 intro p s W H D I h
 exact wpAny_Return_some (thn (J p s W H _ I h) λ v s1 ⟨x,z,F,r1,G⟩=>⟨x,W,z,F,r1,G⟩)
def bZ1 (c:TT)(t u:TS):TS:=λ D W H=>c W H λ b H1=>if b=true then t D W H1 else u D W H1
theorem bS1 {c:Expr}{a b:yM}{F:TT}(hc:PT X c F)(ha:PSs X a t)(hb:PSs X b u):PS X (.If c a b pos) (bZ1 F t u):=by
 intro p s W H D I h
 refine wpAny_If (thn (hc p s W H _ I h) λ d s1 ⟨z,G,J⟩=>?_)
 cases d with
 | true=>exact ha p s1 W z D G J
 | false=>exact hb p s1 W z D G J
end
abbrev TG:=V->St->Hp->(St->Hp->Prop)->Prop
abbrev TGs:=List V->St->Hp->(St->Hp->Prop)->Prop
def PG (X:Cx)(target:Expr)(t:TG):Prop :=
 ∀(pins:yA) (s:af) (W:St) (H:Hp) (v:V) (u:Value) (Q:St->Hp->Prop),Inv X pins W H s->RelV v u->t v W H Q ->
  wpAny (model X.prog X.w) X.A (gj target X.env u) (λ _ s'=>∃ W' H',Inv X pins W' H' s'/\Q W' H') X.xe s
def PGs (X:Cx)(ts:yL)(t:TGs):Prop :=
 ∀(pins:yA) (s:af) (W:St) (H:Hp) (vs:List V) (us:yH) (Q:St->Hp->Prop),Inv X pins W H s->Vals vs us->t vs W H Q ->
  wpAny (model X.prog X.w) X.A (assignInOrder ((cC ts X.env).map (·.2)) us) (λ _ s'=>∃ W' H',Inv X pins W' H' s'/\Q W' H') X.xe s
abbrev bR1:=V->V->V->Hp->(Hp->Prop)->Prop
def bW6 (X:Cx)(t:bR1):Prop :=
 ∀(pins:yA) (s:af) (W:St) (H:Hp) (o i v:V) (ov iv u:Value) (Q:Hp->Prop),Inv X pins W H s->RelV o ov->RelV i iv->RelV v u->t o i v H Q ->
  wpAny (model X.prog X.w) X.A (setItem ov iv u) (λ _ s'=>∃ H',Inv X pins W H' s'/\Q H') X.xe s
section
variable {X:Cx} {pos:Pos}
def av0 (i:Nat):TG:=λ v W H Q=>Q (W.set i (some v)) H
theorem aR8 {i:Nat}{x:Str}(hN:X.N.Nodup)(G:X.N[i]?=some x)(hx:Loc X.env.scope x)(z:X.fn x=true\/X.env.scope.names.lookup x=some .local:=by first|exact .inl rfl|exact .inr rfl|assumption):PG X (.Name x pos) (av0 i):=by
 intro p s W H v u Q I r h
 exact jk (aC7 I hN G hx r (λ s' F=>⟨_,H,F,h⟩) z)
def bZ7:TGs:=λ vs W H Q=>vs=[]/\Q W H
def bJ4 (t:TG)(u:TGs):TGs:=λ vs W H Q=>∃ v r,vs=v::r/\t v W H λ W' H'=>u r W' H' Q
theorem bt9:PGs X [] bZ7:=by
 intro p s W H vs us Q I r h
 obtain⟨e,h⟩:=h
 subst e
 cases r
 exact assignInOrder_nil ⟨W,H,I,h⟩
theorem bh3 {e:Expr}{es:yL}{t:TG}{u:TGs}(G:PG X e t)(Y:PGs X es u)
  (hs:(cC (e::es) X.env).map (·.2)=gj e X.env::(cC es X.env).map (·.2):=by rfl):PGs X (e::es) (bJ4 t u):=by
 intro p s W H vs us Q I r h
 obtain⟨v,Z,e1,h⟩:=h
 subst e1
 cases r with
 | cons r rr =>
  rw[hs]
  refine assignInOrder_cons (thn (G p s W H _ _ _ I r h) λ _ s1 ⟨W1,F,z,J⟩=>?_)
  exact Y p s1 W1 F _ _ Q z rr J
def bX3 (K:ae)(n:Nat)(t:TGs):TG:=λ v W H Q=>∃ a xs,v=.ref a/\SqT K H a xs/\xs.length=n/\t xs W H Q
theorem bD8 {es:yL}{k:Nat}{t:TGs}{n:Nat}(hc:X.calm=true)(h:PGs X es t)
  (hn:(cC es X.env).length=n:=by rfl) (z:(cC es X.env).findIdx? (·.1)=none:=by rfl):PG X (.Tuple es k pos) (bX3 X.K n t):=by
 intro p s W H v u Q I r hw
 obtain⟨a,J,e1,hq,hl,hw⟩:=hw
 subst e1
 cases r
 obtain⟨its,F,ht,hz⟩:=I.tuple hq
 refine assign_Tuple_tuple (I.ok.hd hc) ht (by simp[hn,<-hl,F.length]) z λ h' hx=>?_
 have G:Inv X p W H { s with heap:=h' }:=I.kept (t':=s.toks) λ b o e=>hx b o (aE (aI e)) e
 exact h p _ W H J _ Q G (by simpa using F) hw
def bZ8 (to ti:TE)(t:bR1):TG:=λ v W H Q=>to W H λ o H1=>ti W H1 λ i H2=>t o i v H2 λ H3=>Q W H3
theorem bM4 {o i:Expr}{F G:TE}{t:bR1}(ho:PE X o F)(J:PE X i G)(hs:bW6 X t)
  (ha:∀ v,gj (.Subscript o i pos) X.env v=(do
   let ov <- gi [v] (eval o X.env)
   let z <- gi [v,ov] (eval i X.env)
   ji pos
   gi [v,ov,z] (setItem ov z v)
   release [v,ov,z] []):=by intro _;rfl):PG X (.Subscript o i pos) (bZ8 F G t):=by
 intro p s W H v u Q I r h
 rw[ha]
 refine aj (eN (thn (ho p s W H _ I h) λ ov s1 ⟨x,H1,I1,r1,q1⟩=>?_))
 refine aj (eN (thn (J p s1 W H1 _ I1 q1) λ z s2 ⟨y,H2,I2,Y,q2⟩=>?_))
 refine aj (iO (aj (eN (thn (hs p s2 W H2 x y v ov z u _ I2 r1 Y r q2) λ _ s3 ⟨H3,Z,q3⟩=>?_))))
 exact wpAny_release ⟨W,H3,Z,q3⟩
def bf2 (te:TE)(g:TG):TS:=λ D W H=>te W H λ x H1=>g x W H1 D.nx
theorem bm2 {tg e:Expr}{z:TE}{g:TG}(Z:PE X e z)(hg:PG X tg g)(hs:swapsWithSole [tg] e pos.line X.env=pure false:=by rfl)(hw:iP [tg] e X.env=pure none:=by rfl)
  (G:(cC [tg] X.env).map (·.2)=[gj tg X.env]:=by rfl):PS X (.Assign [tg] e pos) (bf2 z g):=by
 intro p s W H D I h
 refine wpAny_Assign_stores (thn (Z p s W H _ I h) λ v s1 ⟨x,F,Y,r1,J⟩=>?_) hs hw
 rw[G]
 exact thn (hg p s1 W F x v _ Y r1 J) λ _ s2 q=>q
theorem bk2 {i:Nat}{x:Str}{e:Expr}{F:TE}{p:Pos}(hN:X.N.Nodup)(G:X.N[i]?=some x)(hx:Loc X.env.scope x)(he:PE X e F)(hs:eG e (some (.Name x p)) pos.line X.env=pure false:=by rfl)(hf:X.fn x=true\/X.env.scope.names.lookup x=some .local:=by first|exact .inl rfl|exact .inr rfl|assumption) :
  PS X (.Assign [.Name x p] e pos) (bf2 F (av0 i)):=by
 intro z s W H D I h
 refine wpAny_Assign_Name (thn (he z s W H _ I h) λ v s1 ⟨y,Z,J,r1,q1⟩=>?_) hs
 exact aC7 J hN G hx r1 (λ s2 Y=>⟨_,Z,Y,q1⟩) hf
end
section
variable {X:Cx} {pos:Pos}
def bj1 (c:TT)(tb:TS):TS:=λ D W H=>∃ Ww:Nat->St->Hp->Prop,(∃ m,Ww m W H)/\∀ m W H,Ww m W H ->
 c W H λ b H1=>if b=true then ∃ N:St->Hp->Prop,(∀ W' H',N W' H'->∃ m',m'<m/\Ww m' W' H')/\tb { D with nx:=N,ct:=N,bk:=D.nx } W H1 else D.nx W H1
theorem bh2 {c:Expr}{body:yM}{tc:TT}{tb:TS}(hp:PassesOwn (model X.prog X.w) X.A X.env X.xe)(hc:PT X c tc)(hb:PSs X body tb):PS X (.While c body [] pos) (bj1 tc tb):=by
 intro p s W H D I h
 obtain⟨Ww,⟨m0,w0⟩,turn⟩:=h
 refine wpAny_While (codeAny_whileLoop (λ n s'=>∃ W' H',Inv X p W' H' s'/\Ww n W' H') ?_ m0 ⟨W,H,I,w0⟩)
 rintro n s1 ⟨W1,H1,I1,w1⟩
 refine cI hp (thn (hc p s1 W1 H1 _ I1 (turn n W1 H1 w1)) λ b s2 ⟨H2,Z,q2⟩=>?_)
 cases b with
 | true =>
  obtain⟨N,hN,q2⟩:=q2
  rw[if_pos rfl]
  refine cI hp (thn (hb p s2 W1 H2 _ Z q2) λ f s3 q3=>?_)
  cases f with
  | next =>
   obtain⟨W3,z,F,J⟩:=q3
   obtain⟨m',G,Y⟩:=hN W3 z J
   exact⟨m',G,W3,z,F,Y⟩
  | cont =>
   obtain⟨W3,z,F,J⟩:=q3
   obtain⟨m',G,Y⟩:=hN W3 z J
   exact⟨m',G,W3,z,F,Y⟩
  | brk=>exact q3
  | ret v=>exact q3
 | false =>
  rw[if_neg aU]
  exact gL ⟨W1,H2,Z,q2⟩
end
structure It where
 go:Nat->Hp->Prop
 yld:Nat->Hp->V->Hp->Prop
 stop:Nat->Hp->Prop
def FpOk (X:Cx)(pins:yA)(H:Hp)(b:Addr):Prop :=
 H b=none/\b≠X.env.locals/\b ∉ X.fs/\(b∈X.ex\/X.s₀.heap.objs.size<=b)/\(∀ x c,X.env.cells.lookup x=some c->c≠b)/\∀ p∈X.pn++pins,p.1≠b
theorem Inv.fpOk {X:Cx}{h:yA}{W:St}{H H':Hp}{s:af}{b:Addr}(I:Inv X h W H s)(hb:s.heap.objs.size<=b)(hn:H' b=none):FpOk X h H' b:=by
 refine⟨hn,gk (az I.lt hb),I.nofs hb,.inr (ak I.sz hb),λ x c e z=>?_,λ p F z=>?_⟩
 .obtain⟨v,q⟩:=I.cell x c e
  exact absurd (az q.lt (by rw[z];exact hb)) (bA _)
 .exact absurd (az (aI (I.pin p F).1) (by rw[z];exact hb)) (bA _)
structure Turn (P:aB)(w:World)(K:ae)(tg:Expr)(J:It)(fp:List Addr)(it:Addr)(tn:Nat->Heap->Prop):Prop where
 mem:it∈fp
 obj:∀ i h,tn i h->∀ b∈fp,∃ o,h.get? b=some o/\∀ v,o.data≠.cell v
 keep:∀ i h h',tn i h->(∀ b∈fp,∀ o,h.get? b=some o->h'.get? b=some o)->tn i h'
 item:∀(X:Cx),X.prog=P->X.w=w->X.K=K->X.calm=true->∀(i:Nat) (pins:yA) (s:af) (W:St) (H:Hp) (E:yB),Inv X pins W H s->(∀ b∈fp,FpOk X pins H b)->tn i s.heap->J.go i H ->
  wpAny (model P w) X.A (pyNext (.ref it)) (λ r s1=>∃ u,r=some u /\
   wpAny (model P w) X.A (eU tg (.ref it) u) (λ _ s2=>∃ x H',Inv X pins W H' s2/\RelV x u/\J.yld i H x H'/\tn (i+1) s2.heap/\∀ b∈fp,H' b=none) E s1) E s
 done:∀(X:Cx),X.prog=P->X.w=w->X.K=K->X.calm=true->∀(i:Nat) (pins:yA) (s:af) (W:St) (H:Hp) (E:yB),Inv X pins W H s->(∀ b∈fp,FpOk X pins H b)->tn i s.heap->J.stop i H ->
  wpAny (model P w) X.A (pyNext (.ref it)) (λ r s1=>r=none/\Inv X pins W H s1) E s
 self:∀(A:aQ) (i:Nat) (s:af) (Q:yB) (E:yB),tn i s.heap->Q (.ref it) s->wpAny (model P w) A (kG (.ref it)) Q E s
abbrev TI:=St->Hp->(It->Hp->Prop)->Prop
def PIE (X:Cx)(pins:yA)(W:St)(tg:Expr)(R:It->Hp->Prop)(itv:Value)(s2:af):Prop :=
 ∃(it:Addr) (fp:List Addr) (tn:Nat->Heap->Prop) (J:It) (H':Hp),itv=.ref it/\Inv X pins W H' s2/\Turn X.prog X.w X.K tg J fp it tn/\tn 0 s2.heap/\(∀ b∈fp,FpOk X pins H' b)/\R J H'
def PI (X:Cx)(tg iter:Expr)(wi:TI):Prop :=
 ∀(pins:yA) (s:af) (W:St) (H:Hp) (R:It->Hp->Prop),Inv X pins W H s->wi W H R ->
  wpAny (model X.prog X.w) X.A (eval iter X.env) (λ v s1=>wpAny (model X.prog X.w) X.A (kG v) (PIE X pins W tg R) X.xe s1) X.xe s
theorem aH9 {M : Model} {A : Around} {E : Value -> Shared -> Prop} {s : Shared} {tg : Expr} {it : Addr} {u : Value} {o : Obj} {n : String} {vs : Array Value} {Q : Unit -> Shared -> Prop} (ho : s.heap.get? it = some o) (hc : o.cls = .type n) (hd : o.data = .fields vs)
    (hn : ["enumerate", "zip", "dict_itemiterator", "dict_reverseitemiterator", "odict_iterator", "itertools.zip_longest", "itertools.pairwise"].contains n = false) (hQ : Q () s) : wpAny M A (eU tg (.ref it) u) Q E s := by
  unfold eU
  cases tg <;> first
    | exact ay hQ
    | (cases u <;> first
        | exact ay hQ
        | (refine aj (wpAny_load ho ?_)
           rw[hc, hd]
           show wpAny M A (if(["enumerate", "zip", "dict_itemiterator", "dict_reverseitemiterator", "odict_iterator", "itertools.zip_longest", "itertools.pairwise"].contains n && vs[0]? == some (rawInt _)) = true then _ else _) Q E s
           rw[if_neg (by intro h; rw[hn, j8]at h; cases h)]
           exact ay hQ))
noncomputable def Itl (K:ae)(a:Addr):It :=
 ⟨λ i H=>∃ xs x,SqL K H a xs/\xs[i]?=some x,λ i H x H'=>H'=H/\∀ xs,SqL K H a xs->xs[i]?=some x,λ i H=>∃ xs,SqL K H a xs/\xs.length<=i⟩
noncomputable def Itt (K:ae)(a:Addr):It :=
 ⟨λ i H=>∃ xs x,SqT K H a xs/\xs[i]?=some x,λ i H x H'=>H'=H/\∀ xs,SqT K H a xs->xs[i]?=some x,λ i H=>∃ xs,SqT K H a xs/\xs.length<=i⟩
noncomputable def Itr (lo:Int)(n:Nat):It:=⟨λ i _=>i<n,λ i H x H'=>H'=H/\x=.int (lo+i),λ i _=>n<=i⟩
theorem aN6 {P:aB}{w:World}{K:ae}{tg:Expr}(a it:Addr):Turn P w K tg (Itl K a) [it] it (λ i h=>h.IsListIter it a i) where
 mem:=by simp
 obj:=λ i h st b hb=>by
  have e:b=it:=by simpa using hb
  subst e
  obtain⟨o,e,c,d⟩:=st
  exact⟨o,e,λ v z=>by rw[d]at z;cases z⟩
 keep:=λ i h h' st k=>st.at λ o e=>k it (by simp) o e
 item:=by
  intro X hP hw hK hc i F s W H E I J st hg
  subst hP hw hK
  obtain⟨xs,x,hq,hx⟩:=hg
  obtain⟨its,rv,p,hz⟩:=I.list hq
  obtain⟨u,hu,ru⟩:=rv.get hx
  obtain⟨Y,f1,f2,f3,f4,Z⟩:=J it (by simp)
  refine wpAny_pyNext_list_item st p.isList (x:=u) (by simpa using hu) λ h' G sb=>?_
  have I1:Inv X F W H { s with heap:=h' }:=I.turned (t':=s.toks) (λ b o hb e=>(sb.2 b hb).trans e) Y f1 f3 f4 Z
  obtain⟨o,e,c,d⟩:=id G
  exact⟨u,rfl,aH9 (s:={ s with heap:=h' }) e c d (by decide) ⟨x,H,I1,ru,⟨rfl,λ ys hy=>by rw[I.list_inj hy hq];exact hx⟩,G,λ b hb=>(J b hb).1⟩⟩
 done:=by
  intro X hP hw hK hc i F s W H E I J st hg
  subst hP hw hK
  obtain⟨xs,hq,hx⟩:=hg
  obtain⟨its,rv,p,hz⟩:=I.list hq
  obtain⟨Y,f1,f2,f3,f4,Z⟩:=J it (by simp)
  have hl:=rv.length
  exact wpAny_pyNext_list_end (I.ok.hd hc) st p.isList (by simp;omega) λ h' eb=>⟨rfl,I.turned (t':=s.toks) (λ b o hb e=>eb b o hb e) Y f1 f3 f4 Z⟩
 self:=λ _ _ _ _ _ st h=>wpAny_pyIter_listiter st h
theorem aI9 {P:aB}{w:World}{K:ae}{tg:Expr}(a it:Addr):Turn P w K tg (Itt K a) [it] it (λ i h=>h.IsTupleIter it a i) where
 mem:=by simp
 obj:=λ i h st b hb=>by
  have e:b=it:=by simpa using hb
  subst e
  obtain⟨o,e,c,d⟩:=st
  exact⟨o,e,λ v z=>by rw[d]at z;cases z⟩
 keep:=λ i h h' st k=>st.at λ o e=>k it (by simp) o e
 item:=by
  intro X hP hw hK hc i F s W H E I J st hg
  subst hP hw hK
  obtain⟨xs,x,hq,hx⟩:=hg
  obtain⟨its,rv,p,hz⟩:=I.tuple hq
  obtain⟨u,hu,ru⟩:=rv.get hx
  obtain⟨Y,f1,f2,f3,f4,Z⟩:=J it (by simp)
  refine wpAny_pyNext_tuple_item st (show s.heap.IsTuple a its.toArray from p) (x:=u) (by simpa using hu) λ h' G sb=>?_
  have I1:Inv X F W H { s with heap:=h' }:=I.turned (t':=s.toks) (λ b o hb e=>(sb.2 b hb).trans e) Y f1 f3 f4 Z
  obtain⟨o,e,c,d⟩:=id G
  exact⟨u,rfl,aH9 (s:={ s with heap:=h' }) e c d (by decide) ⟨x,H,I1,ru,⟨rfl,λ ys hy=>by rw[I.tuple_inj hy hq];exact hx⟩,G,λ b hb=>(J b hb).1⟩⟩
 done:=by
  intro X hP hw hK hc i F s W H E I J st hg
  subst hP hw hK
  obtain⟨xs,hq,hx⟩:=hg
  obtain⟨its,rv,p,hz⟩:=I.tuple hq
  obtain⟨Y,f1,f2,f3,f4,Z⟩:=J it (by simp)
  have hl:=rv.length
  exact wpAny_pyNext_tuple_end (I.ok.hd hc) st (show s.heap.IsTuple a its.toArray from p) (by simp;omega) λ h' eb=>⟨rfl,I.turned (t':=s.toks) (λ b o hb e=>eb b o hb e) Y f1 f3 f4 Z⟩
 self:=λ _ _ _ _ _ st h=>wpAny_pyIter_tupleiter st h
theorem aH8 {P:aB}{w:World}{K:ae}{tg:Expr}(it:Addr)(J:Int)(n:Nat):Turn P w K tg (Itr J n) [it] it (λ i h=>hZ h it (J+(i:Nat)*1) ((n:Int) - (i:Nat)) 1) where
 mem:=by simp
 obj:=λ i h st b hb=>by
  have e:b=it:=by simpa using hb
  subst e
  exact⟨_,st,λ v z=>by
   have z':Data.fields _=Data.cell v:=z
   cases z'⟩
 keep:=λ i h h' st k=>k it (by simp) _ st
 item:=by
  intro X hP hw hK hc i p s W H E I G st hg
  subst hP hw hK
  obtain⟨Y,f1,f2,f3,f4,Z⟩:=G it (by simp)
  have Ww:=kT (prog:=X.prog) (w:=X.w) (I.ok.hd hc) it J 1 n
  refine Ww.item i s _ _ hg st λ v h' tk hv F kk=>?_
  obtain⟨t,rfl⟩:=hv
  have I1:Inv X p W H { s with heap:=h',toks:=tk }:=I.turned (λ b o hb e=>kk b o (by simpa using hb) e) Y f1 f3 f4 Z
  refine⟨_,rfl,aH9 (s:={ s with heap:=h',toks:=tk }) (n := "range_iterator") F rfl rfl (by decide) ⟨.int (J+i),H,I1,⟨t,?_⟩,⟨rfl,rfl⟩,F,λ b hb=>(G b hb).1⟩⟩
  rw[Int.mul_one]
 done:=by
  intro X hP hw hK hc i p s W H E I G st hg
  subst hP hw hK
  obtain⟨Y,f1,f2,f3,f4,Z⟩:=G it (by simp)
  exact gm (I.ok.hd hc) st (by have:n<=i:=hg;omega) λ h' eb=>⟨rfl,I.turned (t':=s.toks) (λ b o hb e=>eb b o hb e) Y f1 f3 f4 Z⟩
 self:=λ _ _ _ _ _ st h=>gq st h
section
variable {X:Cx} {tg:Expr}
def bt6 (K:ae)(tl:TE):TI:=λ W H R=>tl W H λ x H1=>∃ a,x=.ref a/\(∃ xs,SqL K H1 a xs)/\R (Itl K a) H1
def bS4 (K:ae)(tl:TE):TI:=λ W H R=>tl W H λ x H1=>∃ a,x=.ref a/\(∃ xs,SqT K H1 a xs)/\R (Itt K a) H1
theorem bu9 {l:Expr}{G:TE}(hl:PE X l G):PI X tg l (bt6 X.K G):=by
 intro z s W H R I h
 refine thn (hl z s W H _ I h) λ v s1 ⟨x,J,F,r1,Y⟩=>?_
 obtain⟨a,e,⟨xs,hq⟩,q⟩:=Y
 subst e
 cases r1
 obtain⟨its,Z,p,hz⟩:=F.list hq
 refine dX p.isList ?_
 refine⟨s1.heap.objs.size,[s1.heap.objs.size],_,_,J,rfl,F.kept (t':=s1.toks) λ b o e=>ao _ e,aN6 a _,⟨_,aX _ rfl,rfl,rfl⟩,λ b hb=>?_,q⟩
 have e:b=s1.heap.objs.size:=by simpa using hb
 subst e
 exact F.fpOk (ai _) (F.hok.fresh (ai _))
theorem bQ3 {l:Expr}{G:TE}(hl:PE X l G):PI X tg l (bS4 X.K G):=by
 intro z s W H R I h
 refine thn (hl z s W H _ I h) λ v s1 ⟨x,J,F,r1,Y⟩=>?_
 obtain⟨a,e,⟨xs,hq⟩,q⟩:=Y
 subst e
 cases r1
 obtain⟨its,Z,p,hz⟩:=F.tuple hq
 refine iZ (show s1.heap.IsTuple a its.toArray from p) ?_
 refine⟨s1.heap.objs.size,[s1.heap.objs.size],_,_,J,rfl,F.kept (t':=s1.toks) λ b o e=>ao _ e,aI9 a _,⟨_,aX _ rfl,rfl,rfl⟩,λ b hb=>?_,q⟩
 have e:b=s1.heap.objs.size:=by simpa using hb
 subst e
 exact F.fpOk (ai _) (F.hok.fresh (ai _))
theorem aF4 {z:yA}{W:St}{H:Hp}{s:af}{R:It->Hp->Prop}{E:yB}{h p:Int}{t u v:Tok}{tk:Nat}(I:Inv X z W H s)(J:-(2^62)<=h)(Y:h<2^62)(h3:-(2^62)<=p)(G:p<2^62)
  (q:R (Itr h (p - h).toNat) H):wpAny (model X.prog X.w) X.A (kG (.ref s.heap.objs.size)) (PIE X z W tg R) E { s with heap:=s.heap.push { cls:=.type "range",data:=.fields #[.int h t,.int p u,.int 1 v] },toks:=tk }:=by
 refine i7 (kU ..) (small_one J Y h3 G) ?_
 have F:Inv X z W H { s with heap:=s.heap.push { cls:=.type "range",data:=.fields #[.int h t,.int p u,.int 1 v] },toks:=tk }:=I.kept λ b o e=>ao _ e
 refine⟨(s.heap.push { cls:=.type "range",data:=.fields #[.int h t,.int p u,.int 1 v] }).objs.size,[(s.heap.push { cls:=.type "range",data:=.fields #[.int h t,.int p u,.int 1 v] }).objs.size],_,_,H,rfl,
  F.kept (t':=tk) λ b o e=>ao _ e,aH8 _ h (p - h).toNat,?_,λ b hb=>?_,q⟩
 .have e1:h+((0:Nat):Int)*1=h:=by simp
  have e2:(((p - h).toNat:Nat):Int) - ((0:Nat):Int)=cS h p 1:=by rw[rangeSize_one];split<;>omega
  show hZ _ _ (h+((0:Nat):Int)*1) ((((p - h).toNat:Nat):Int) - ((0:Nat):Int)) 1
  rw[e1,e2]
  exact aX _ rfl
 .have e:b=(s.heap.push { cls:=.type "range",data:=.fields #[.int h t,.int p u,.int 1 v] }).objs.size:=by simpa using hb
  subst e
  exact F.fpOk (ai _) (F.hok.fresh (ai _))
def bD0 (ta:TA):TI:=λ W H R=>ta W H λ vs H1=>∃ j:Int,vs=[.int j]/\-(2^62)<=j/\j<2^62/\R (Itr 0 j.toNat) H1
def bL0 (ta:TA):TI:=λ W H R=>ta W H λ vs H1=>∃ i j:Int,vs=[.int i,.int j]/\(-(2^62)<=i/\i<2^62/\-(2^62)<=j/\j<2^62)/\R (Itr i (j - i).toNat) H1
theorem aQ2 {a:Expr}{G:TA}{p pos:Pos}(hg:Gl X "range")(J:X.mg "range"=none)(ha:PA X [a] G)(hs:a7 [a] X.env=[(false,eval a X.env)]:=by rfl):PI X tg (.Call (.Name "range" p) [a] [] pos) (bD0 G):=by
 intro z s W H R I h
 refine Call_ (al5 I hg J j9 (cw (thn (ha pos z s W H _ I h) λ us s1 ⟨vs,Z,Y,r1,F⟩=>?_) hs rfl))
 obtain⟨j,e,F,q2,q⟩:=F
 subst e
 cases r1 with
 | cons r rr =>
  cases rr
  obtain⟨t,rfl⟩:=r
  exact call_range_1 (aF4 Y (by omega) (by omega) F q2 (by simpa using q))
theorem aR4 {a b:Expr}{J:TA}{p pos:Pos}(hg:Gl X "range")(Y:X.mg "range"=none)(ha:PA X [a,b] J)(hs:a7 [a,b] X.env=[(false,eval a X.env),(false,eval b X.env)]:=by rfl)(F:a7 [b] X.env=[(false,eval b X.env)]:=by rfl) :
  PI X tg (.Call (.Name "range" p) [a,b] [] pos) (bL0 J):=by
 intro z s W H R I h
 refine Call_ (al5 I hg Y j9 (cw (thn (ha pos z s W H _ I h) λ us s1 ⟨vs,H1,Z,r1,G⟩=>?_) (by rw[hs,F]) (by rw[F];rfl)))
 obtain⟨i,j,e,⟨G,q2,q3,q4⟩,q⟩:=G
 subst e
 cases r1 with
 | cons r rr =>
  cases rr with
  | cons r' rr =>
   cases rr
   obtain⟨t,rfl⟩:=r
   obtain⟨t',rfl⟩:=r'
   exact call_range_2 (aF4 Z G q2 q3 q4 q)
def bV3 (wi:TI)(g:TG)(tb:TS):TS:=λ D W H=>wi W H λ J H1=>∃ Ww:Nat->Nat->St->Hp->Prop,(∃ m,Ww 0 m W H1)/\∀ i m W H,Ww i m W H ->
 (J.stop i H/\D.nx W H)\/(J.go i H/\∃ N:St->Hp->Prop,(∀ W' H',N W' H'->∃ m',m'<m/\Ww (i+1) m' W' H')/\∀ x H',J.yld i H x H'->g x W H' λ W2 H2=>tb { D with nx:=N,ct:=N,bk:=D.nx } W2 H2)
noncomputable def av3 (fp:List Addr)(h:Heap):List (Addr×Obj):=fp.filterMap λ b=>(h.get? b).map λ o=>(b,o)
theorem qr {p:List Addr}{h:Heap}{b:Addr}{o:Obj}(hb:b∈p)(e:h.get? b=some o):(b,o)∈av3 p h:=fq.mpr ⟨b,hb,by rw[e];rfl⟩
theorem aP1 {z:List Addr}{h:Heap}{p:Addr×Obj}(F:p∈av3 z h):p.1∈z/\h.get? p.1=some p.2:=by
 obtain⟨b,hb,e⟩:=fq.mp F
 cases q:h.get? b with
 | none=>rw[q]at e;cases e
 | some o =>
  rw[q]at e
  have e':(b,o)=p:=av e
  subst e'
  exact⟨hb,q⟩
theorem Inv.pinned {h:yA}{W:St}{H:Hp}{s:af}{F:List Addr}(I:Inv X h W H s)(J:∀ b∈F,FpOk X h H b)(ho:∀ b∈F,∃ o,s.heap.get? b=some o/\∀ v,o.data≠.cell v):Inv X (h++av3 F s.heap) W H s :=
 I.pins_of λ p Y=>(aO.mp Y).elim (λ z=>I.pin p (aZ _ z)) λ z=>by
  obtain⟨hb,e⟩:=aP1 z
  obtain⟨f0,Z,G,_⟩:=J p.1 hb
  obtain⟨o,e',d⟩:=ho p.1 hb
  rw[e]at e';cases e'
  exact⟨e,f0,Z,G,d⟩
theorem Inv.unpinned {h pl:yA}{W:St}{H:Hp}{s:af}(I:Inv X (h++pl) W H s):Inv X h W H s:=I.pins_of λ p z=>I.pin p (aZ _ (b8 _ z))
theorem bk5 {iter:Expr}{body:yM}{wi:TI}{g:TG}{tb:TS}{pos:Pos}(hp:PassesOwn (model X.prog X.w) X.A X.env X.xe)(hc:X.calm=true)(hi:PI X tg iter wi)(hg:PG X tg g)(hb:PSs X body tb)
  (hs:∀ x,de iter X.env x=pure x:=by intro _;rfl):PS X (.For tg iter body [] pos) (bV3 wi g tb):=by
 intro p s W H D I h
 refine wpAny_For (thn (hi p s W H _ I h) λ v s1 h1=>thn h1 λ a6 s2 h2=>?_) hs
 obtain⟨it,fp,tn,J,H2,e,I2,T,a5,f2,Ww,⟨m0,w0⟩,turn⟩:=h2
 subst e
 have F:∀ {H':Hp},(∀ b∈fp,H' b=none)->∀ b∈fp,FpOk X p H' b:=λ hn b hb=>⟨hn b hb,(f2 b hb).2⟩
 refine codeAny_forLoop_any (λ n s'=>∃ i W' H',Inv X p W' H' s'/\tn i s'.heap/\(∀ b∈fp,H' b=none)/\Ww i n W' H') ?_ m0 ⟨0,W,H2,I2,a5,λ b hb=>(f2 b hb).1,w0⟩
 rintro n s3 ⟨i,W3,H3,I3,a2,a1,w3⟩
 rcases turn i n W3 H3 w3 with⟨stop,qn⟩|⟨go,N,hN,step⟩
 .refine cI hp (thn (T.done X rfl rfl rfl hc i p s3 W3 H3 X.xe I3 (F a1) a2 stop) λ r s4 ⟨hr,I4⟩=>?_)
  subst hr
  exact gL ⟨W3,H3,I4,qn⟩
 .refine cI hp (thn (T.item X rfl rfl rfl hc i p s3 W3 H3 X.xe I3 (F a1) a2 go) λ r s4 ⟨u,hr,h4⟩=>?_)
  subst hr
  refine cI hp (thn h4 λ _ s5 ⟨x,H5,I5,r5,y5,a0,a3⟩=>?_)
  have a4:=I5.pinned (F a3) (T.obj _ _ a0)
  refine cI hp (thn (hg _ s5 W3 H5 x u _ a4 r5 (step x H5 y5)) λ _ s6 ⟨W6,H6,I6,q6⟩=>?_)
  refine cI hp (thn (hb _ s6 W6 H6 _ I6 q6) λ f s7 Z=>?_)
  have G:∀ {W7:St} {Y:Hp},Inv X (p++av3 fp s5.heap) W7 Y s7->N W7 Y->∃ m,m<n/\∃ i W' H',Inv X p W' H' s7/\tn i s7.heap/\(∀ b∈fp,H' b=none)/\Ww i m W' H':=λ {W7 Y} z n7=>by
   obtain⟨m',hm,w7⟩:=hN W7 Y n7
   refine⟨m',hm,i+1,W7,Y,z.unpinned,T.keep _ _ _ a0 λ b hb o e=>(z.pin (b,o) (aZ _ (aZ _ (qr hb e)))).1,λ b hb=>?_,w7⟩
   obtain⟨o,e,d⟩:=T.obj _ _ a0 b hb
   exact(z.pin (b,o) (aZ _ (aZ _ (qr hb e)))).2.1
  cases f with
  | next=>obtain⟨W7,Y,z,n7⟩:=Z;exact G z n7
  | cont=>obtain⟨W7,Y,z,n7⟩:=Z;exact G z n7
  | brk=>obtain⟨W7,Y,z,Z⟩:=Z;exact⟨W7,Y,z.unpinned,Z⟩
  | ret v=>obtain⟨x7,W7,Y,z,r7,Z⟩:=Z;exact⟨x7,W7,Y,z.unpinned,r7,Z⟩
end
abbrev R2:=V->V->Hp->VK->Prop
def OpR (X:Cx)(f:Value->Value->Sem Value)(r:R2):Prop :=
 ∀(pins:yA) (s:af) (W:St) (H:Hp) (x y:V) (v u:Value) (Q:VK),Inv X pins W H s->RelV x v->RelV y u->r x y H Q ->
  wpAny (model X.prog X.w) X.A (f v u) (EP X pins W Q) X.xe s
def UnR (X:Cx)(f:Value->Sem Value)(r:V->Hp->VK->Prop):Prop :=
 ∀(pins:yA) (s:af) (W:St) (H:Hp) (x:V) (v:Value) (Q:VK),Inv X pins W H s->RelV x v->r x H Q ->
  wpAny (model X.prog X.w) X.A (f v) (EP X pins W Q) X.xe s
def aa6 (X:Cx)(f:Value)(r:List V->Hp->VK->Prop):Prop :=
 ∀(pins:yA) (s:af) (W:St) (H:Hp) (xs:List V) (us:yH) (Q:VK),Inv X pins W H s->Vals xs us->r xs H Q ->
  wpAny (model X.prog X.w) X.A (call f us) (EP X pins W Q) X.xe s
def tOp (r:R2)(ta tb:TE):TE:=λ W H Q=>ta W H λ x H1=>tb W H1 λ y H2=>r x y H2 Q
def tUn (r:V->Hp->VK->Prop)(ta:TE):TE:=λ W H Q=>ta W H λ x H1=>r x H1 Q
def rI (Cc:Int->Int->Prop)(g:Int->Int->V):R2:=λ x y H Q=>∃ i j,x=.int i/\y=.int j/\Cc i j/\Q (g i j) H
def rI0 (g:Int->Int->V):R2:=λ x y H Q=>∃ i j,x=.int i/\y=.int j/\Q (g i j) H
def rU (g:Int->V):V->Hp->VK->Prop:=λ x H Q=>∃ i,x=.int i/\Q (g i) H
section
variable {X:Cx} {a b c:Expr} {ta tb tc:TE} {pos:Pos}
theorem bX9 (ha:PE X a ta)(hb:PE X b tb){p:yA}{s:af}{W:St}{H:Hp}{R:V->V->Hp->Prop}(I:Inv X p W H s)
  (h:ta W H λ x F=>tb W F λ y z=>R x y z) {Q:yB} {f:Value->Value->Sem Value}
  (Z:∀ v u s2 x y z,Inv X p W z s2->RelV x v->RelV y u->R x y z->wpAny (model X.prog X.w) X.A (f v u) Q X.xe s2) :
  wpAny (model X.prog X.w) X.A (eval a X.env) (λ v s₁=>wpAny (model X.prog X.w) X.A (eval b X.env) (λ u s₂=>wpAny (model X.prog X.w) X.A (f v u) Q X.xe s₂) X.xe s₁) X.xe s:=by
 refine thn (ha p s W H _ I h) λ v s1 ⟨x,F,J,r1,q1⟩=>?_
 refine thn (hb p s1 W F _ J q1) λ u s2 ⟨y,z,Y,G,q2⟩=>?_
 exact Z v u s2 x y z Y r1 G q2
theorem bW5 {op:Operator}{r:R2}(ho:OpR X (bQ op) r)(ha:PE X a ta)(hb:PE X b tb):PE X (.BinOp a op b pos) (tOp r ta tb):=by
 intro p s W H Q I h
 exact wpAny_BinOp (bX9 ha hb I h λ v u s2 x y F G J z q=>ho p s2 W F x y v u Q G J z q)
theorem bV8 {op:UnaryOp}{r:V->Hp->VK->Prop}(ho:UnR X (unaryOp op) r)(ha:PE X a ta):PE X (.UnaryOp op a pos) (tUn r ta):=by
 intro p s W H Q I h
 exact UnaryOp_ (thn (ha p s W H _ I h) λ v s1 ⟨x,z,F,r1,G⟩=>ho p s1 W z x v Q F r1 G)
theorem opI {f:Value->Value->Sem Value}{Cc:Int->Int->Prop}{g:Int->Int->Int}
  (p:∀(i j:Int) (t u:Tok) (s:af) (Q:yB) (E:yB),Cc i j->Q (.int (g i j) s.toks) { s with toks:=s.toks+1 }->wpAny (model X.prog X.w) X.A (f (.int i t) (.int j u)) Q E s) :
  OpR X f (rI Cc λ i j=>.int (g i j)):=by
 intro z s W H x y v u Q I F G h
 obtain⟨i,j,rfl,rfl,hc,q⟩:=h
 obtain⟨t,rfl⟩:=F
 obtain⟨t',rfl⟩:=G
 exact p i j t t' s _ _ hc ⟨.int (g i j),H,I.tok _,⟨_,rfl⟩,q⟩
theorem bV2 {f:Value->Value->Sem Value}{g:Int->Int->Int}
  (p:∀(i j:Int) (t u:Tok) (s:af) (Q:yB) (E:yB),Q (.int (g i j) s.toks) { s with toks:=s.toks+1 }->wpAny (model X.prog X.w) X.A (f (.int i t) (.int j u)) Q E s) :
  OpR X f (rI0 λ i j=>.int (g i j)):=by
 intro z s W H x y v u Q I F G h
 obtain⟨i,j,rfl,rfl,q⟩:=h
 obtain⟨t,rfl⟩:=F
 obtain⟨t',rfl⟩:=G
 exact p i j t t' s _ _ ⟨.int (g i j),H,I.tok _,⟨_,rfl⟩,q⟩
theorem bV5 {f:Value->Value->Sem Value}{g:Int->Int->Bool}
  (p:∀(i j:Int) (t u:Tok) (s:af) (Q:yB) (E:yB),Q (.bool (g i j)) s->wpAny (model X.prog X.w) X.A (f (.int i t) (.int j u)) Q E s) :
  OpR X f (rI0 λ i j=>.bl (g i j)):=by
 intro z s W H x y v u Q I F G h
 obtain⟨i,j,rfl,rfl,q⟩:=h
 obtain⟨t,rfl⟩:=F
 obtain⟨t',rfl⟩:=G
 exact p i j t t' s _ _ ⟨.bl (g i j),H,I,rfl,q⟩
def bZ5 (i j:Int):Prop:=0<=j/\j<=1000000/\i.natAbs<2^64
def bQ7 (i j:Int):Prop:=(-(2^64)<i/\i<2^64)\/(-(2^64)<j/\j<2^64)
theorem bQ7.ok {i j:Int}(h:bQ7 i j):IntMulOk i j:=by
 rcases h with⟨p,z⟩|⟨p,z⟩
 .exact .of_left (intBits_le_64 p z)
 .exact .of_right (intBits_le_64 p z)
theorem aL0 (k:Nat):(0:Int)<=2^k:=by
 rw[two_pow_cast]
 exact cD _
theorem bQ0:OpR X (bQ .Add) (rI0 λ i j=>.int (i+j)):=bV2 λ _ _ _ _ _ _ _ q=>add_int q
theorem bH8:OpR X (bQ .Sub) (rI0 λ i j=>.int (i - j)):=bV2 λ _ _ _ _ _ _ _ q=>sub_int q
theorem bG6:OpR X (bQ .Mod) (rI (λ _ j=>0<j) λ i j=>.int (i % j)):=opI λ i j _ _ _ _ _ hc q=>by
 have h:(0:Int)<j:=hc
 exact mod_int' (by omega) (by rw[Int.fmod_eq_emod_of_nonneg i (by omega)];exact q)
theorem bC4:OpR X (bQ .Pow) (rI bZ5 λ i j=>.int (i^j.toNat)):=opI λ _ _ _ _ _ _ _ hc q=>pow_int_small hc.1 hc.2.1 hc.2.2 q
theorem bH1:OpR X (bQ .LShift) (rI bZ5 λ i j=>.int (i*2^j.toNat)):=opI λ _ _ _ _ _ _ _ hc q=>lshift_int_small hc.1 hc.2.1 hc.2.2 q
theorem bN0:OpR X (bQ .RShift) (rI (λ _ j=>0<=j) λ i j=>.int (i / 2^j.toNat)):=opI λ i j _ _ _ _ _ hc q =>
 rshift_int hc (by rw[ft i (aL0 _)];exact q)
theorem bT4:OpR X (bQ .BitOr) (rI0 λ i j=>.int (fW i j)):=bV2 λ _ _ _ _ _ _ _ q=>or_int q
theorem unI {f:Value->Sem Value}{g:Int->Int}
  (p:∀(i:Int) (t:Tok) (s:af) (Q:yB) (E:yB),Q (.int (g i) s.toks) { s with toks:=s.toks+1 }->wpAny (model X.prog X.w) X.A (f (.int i t)) Q E s) :
  UnR X f (rU λ i=>.int (g i)):=by
 intro z s W H x v Q I F h
 obtain⟨i,rfl,q⟩:=h
 obtain⟨t,rfl⟩:=F
 exact p i t s _ _ ⟨.int (g i),H,I.tok _,⟨_,rfl⟩,q⟩
theorem bE8:UnR X (unaryOp .USub) (rU λ i=>.int (-i)):=unI λ _ _ _ _ _ q=>neg_int q
end
section
variable {X:Cx} {a b c:Expr} {ta tb tc:TE} {pos:Pos}
theorem bT6:OpR X (dM .Lt) (rI0 λ i j=>.bl (decide (i<j))):=bV5 λ _ _ _ _ _ _ _ q=>lt_int q
theorem bY8:OpR X (dM .LtE) (rI0 λ i j=>.bl (decide (i<=j))):=bV5 λ _ _ _ _ _ _ _ q=>le_int q
theorem bS6:OpR X (dM .Gt) (rI0 λ i j=>.bl (decide (j<i))):=bV5 λ _ _ _ _ _ _ _ q=>gt_int q
theorem bw6 {op:CmpOp}{r:R2}(ho:OpR X (dM op) r)(ha:PE X a ta)(hb:PE X b tb)(F:iQ op b=false):PE X (.Compare a [op] [b] pos) (tOp r ta tb):=by
 intro p s W H Q I h
 exact wpAny_Compare1 (bX9 ha hb I h λ v u s2 x y G J Y z q=>ho p s2 W G x y v u Q J Y z q) F
def bN2 (t:TE):TT:=λ W H Q=>t W H λ x H'=>∃ k,x=.bl k/\Q k H'
theorem bx7 {op:CmpOp}{r:R2}(ho:OpR X (dM op) r)(ha:PE X a ta)(hb:PE X b tb)(Y:iQ op b=false):PT X (.Compare a [op] [b] pos) (bN2 (tOp r ta tb)):=by
 intro p s W H Q I h
 refine wpAny_isTrue_Compare1 (thn (ha p s W H _ I h) λ v s1 ⟨x,H1,Z,r1,q1⟩=>thn (hb p s1 W H1 _ Z q1) λ u s2 ⟨y,H2,I2,F,q2⟩ =>
  thn (ho p s2 W H2 x y v u _ I2 r1 F q2) λ c s3 ⟨z,H3,J,G,k,e,q3⟩=>?_) Y
 subst e
 cases G
 exact cJ ⟨H3,J,q3⟩
theorem ak0:(aG:Nat)<2^63:=by rw[dN];decide
theorem aL4:OpR X (bQ .Add) (λ x y H Q=>∃ i j,x=.str i/\y=.str j/\i.length+j.length<=aG/\Q (.str (i++j)) H):=by
 intro p s W H x y v u Q I F z h
 obtain⟨i,j,rfl,rfl,hz,q⟩:=h
 obtain⟨t,rfl⟩:=F
 obtain⟨t',rfl⟩:=z
 exact add_str (λ t' tk=>⟨.str (i++j),H,I.tok _,⟨_,rfl⟩,q⟩) hz
theorem qv {x:V}{us:yH}(r:Vals [x] us):∃ u,us=[u]/\RelV x u:=by
 cases r with
 | cons r1 r2=>cases r2;exact⟨_,rfl,r1⟩
theorem bx6 {x y:V}{us:yH}(r:Vals [x,y] us):∃ u h,us=[u,h]/\RelV x u/\RelV y h:=by
 cases r with
 | cons r1 r2 =>
  cases r2 with
  | cons r3 r4=>cases r4;exact⟨_,_,rfl,r1,r3⟩
theorem bb6:aa6 X (.builtin "abs") (λ p H Q=>∃ i,p=[.int i]/\Q (.int (if i<0 then -i else i)) H):=by
 intro z s W H p us Q I r h
 obtain⟨i,rfl,q⟩:=h
 obtain⟨u,rfl,t,rfl⟩:=qv r
 exact call_abs_int λ u tk=>⟨.int (if i<0 then -i else i),H,I.tok _,⟨_,rfl⟩,q⟩
theorem aR9 (hc:X.calm=true):aa6 X (.builtin "max") (λ p H Q=>∃ i j,p=[.int i,.int j]/\Q (.int (if j > i then j else i)) H):=by
 intro z s W H p us Q I r h
 obtain⟨i,j,rfl,q⟩:=h
 obtain⟨u,F,rfl,⟨t,rfl⟩,⟨t',rfl⟩⟩:=bx6 r
 refine max_two_ints (I.ok.hd hc) λ h' tk k=>⟨_,H,I.kept k,?_,q⟩
 by_cases hj:j > i
 .rw[if_pos hj,if_pos hj];exact⟨_,rfl⟩
 .rw[if_neg hj,if_neg hj];exact⟨_,rfl⟩
theorem aO9 (hc:X.calm=true):aa6 X (.builtin "min") (λ p H Q=>∃ i j,p=[.int i,.int j]/\Q (.int (if j<i then j else i)) H):=by
 intro z s W H p us Q I r h
 obtain⟨i,j,rfl,q⟩:=h
 obtain⟨u,F,rfl,⟨t,rfl⟩,⟨t',rfl⟩⟩:=bx6 r
 refine min_two_ints (I.ok.hd hc) λ h' tk k=>⟨_,H,I.kept k,?_,q⟩
 by_cases hj:j<i
 .rw[if_pos hj,if_pos hj];exact⟨_,rfl⟩
 .rw[if_neg hj,if_neg hj];exact⟨_,rfl⟩
theorem aQ4:aa6 X (.type "int") (λ p H Q=>(∃ i,p=[.int i]/\Q (.int i) H)\/∃ k,p=[.bl k]/\Q (.int (if k then 1 else 0)) H):=by
 intro z s W H p us Q I r h
 rcases h with⟨i,rfl,q⟩|⟨k,rfl,q⟩
 .obtain⟨u,rfl,t,rfl⟩:=qv r
  exact call_int_int ⟨.int i,H,I,⟨_,rfl⟩,q⟩
 .obtain⟨u,rfl,r1⟩:=qv r
  cases r1
  exact call_int_bool ⟨.int (if k then 1 else 0),H,I.tok _,⟨_,rfl⟩,q⟩
end
structure ObjM (h:Heap)(x dx Cc:Addr)(mA:yD):Prop where
 obj:h.get? x=some (cq Cc dx)
 ns:h.Ns1 dx mA
 ne:dx≠x
theorem aW3 {h:Heap}{G:Addr}{F:yD}(n:h.Ns1 G F):∃ od,h.get? G=some od/\∀ name,fu name od=some (F name):=by
 obtain⟨o,es,ep,ho,hd,hk,_,Y⟩:=n
 refine⟨o,ho,λ name=>?_⟩
 have e:=Y name
 unfold nsFind findBy at e
 rw[<-Array.find?_toList]at e
 unfold fu
 rw[hd]
 dsimp only
 split
 .rename_i y q
  rw[q]at e
  exact congrArg some e
 .rename_i q
  rw[q]at e
  have a:es.toList.any (·.refKey)=false:=by
   rw[List.any_eq_false]
   intro y hy
   obtain⟨z,t,p⟩:=hk y (Array.mem_toList_iff.mp hy)
   simp[DictEntry.refKey,p]
  have J:¬ es.toList.any (·.refKey)=true:=by rw[a];exact aU
  rw[if_neg J]
  exact congrArg some e
theorem ObjM.look {h:Heap}{x z Cc:Addr}{p:yD}(I:ObjM h x z Cc p):∃ od,PySem.W.InstAt h x (cq Cc z) Cc (some od)/\∀ name,fu name od=some (p name) :=
 let⟨od,ho,hl⟩:=aW3 I.ns
 ⟨od,⟨I.obj,rfl,rfl,ho⟩,hl⟩
section
variable {prog:aB} {w:World} {A:aQ} {E:yB} {s:af} {K:ae} {x dx Cc f:Addr} {mA:yD} {name:Str} {v:Value}
theorem bz3 {p:Bool}{Q:yB}(X:K.In s.heap)(I:ObjM s.heap x dx Cc mA)(hg:dq K Cc name=true)(F:dY K Cc=true)
  (ha:bq K (.ref Cc) name=some none) (hv:mA name=some v) (z:jF v=true) (h:Q v { s with toks:=s.toks+1 }) :
  wpAny (model prog w) A (getAttr (.ref x) name p) Q E s:=by
 obtain⟨od,J,hl⟩:=I.look
 exact PySem.W.get_value X J (e6 hg).1 (PySem.W.findObj_own F ha rfl (by rw[hl,hv])) z h
theorem ba9 {pl:Sem Bool}{Q:Value×List Value->af->Prop}(X:K.In s.heap)(I:ObjM s.heap x dx Cc mA)(hg:dq K Cc name=true)
  (p:bq K (.ref Cc) name=some (some (.ref f))) (ht:gr K (.ref f)=true) (hv:mA name=none) (h:Q (.ref f,[.ref x]) s) :
  wpAny (model prog w) A (iy (.ref x) name pl) Q E s:=by
 obtain⟨od,J,hl⟩:=I.look
 exact PySem.W.method_fn X J (e6 hg).1 (e6 hg).2 p (beq_iff_eq.mp ht) (by show(fu name od).map (·.isSome)=some false;rw[hl,hv];rfl) h
theorem bu2 {ns:yI}{Q:Unit->af->Prop}(X:K.In s.heap)(I:ObjM s.heap x dx Cc mA)
  (hs:bq K (.ref Cc) "__setattr__"=some (some (.builtin "object.__setattr__"))) (hp:fK K Cc=true) (ht:gM K Cc name=some none) (hh:dY K Cc=true)
  (hw:jh mA ns) (hsz:ns.length<=aG)
  (h:∀ h',ObjM h' x dx Cc (λ y=>if y=name then some v else mA y)->dm dx s.heap h'->Q () { s with heap:=h',toks:=s.toks+2 }) :
  wpAny (model prog w) A (setAttr (.ref x) name v) Q E s:=by
 obtain⟨od,J,hl⟩:=I.look
 refine PySem.W.set_plain X J hs (PySem.W.osa_open (s:={ s with toks:=s.toks+1 }) (r:=none) X J hp ht λ b=>?_)
 obtain⟨cd,hc,G⟩:=PySem.W.any_some hh
 have hx:s.heap.get? x=some ⟨.ref Cc,some dx,.plain,#[]⟩:=I.obj
 refine aj (ay (aj (aj (wpAny_loadPart hx (aj (k6 (s:={ s with toks:=s.toks+1 }) (PySem.W.looks_clsIn X hc) ?_))))))
 rw[G]
 refine ay (a:=some dx) (aj (ay (aj ?_)))
 refine wpAny_nsSet1 (s:={ s with toks:=s.toks+1 }) I.ns λ h' z p=>?_
 obtain⟨oD,a1,a0,Z,F,Y⟩:=z.count (PySem.Within.cons name v hw)
 refine aj (wpAny_lookBehind Z (by rw[F];exact pastItsLine_dict (ak Y (by rw[aP];omega))) ?_)
 exact ay (h _ ⟨(p.2 _ (bS I.ne)).trans I.obj,z,I.ne⟩ p)
theorem be3 {R:jG->af->Prop}{vs:yH}{p:List (Str×Value)}(X:K.In s.heap)(F:c6 K Cc=true)
  (G:bq K (.ref Cc) "__init__"=some (some (.ref f))) (z:PySem.W.typeIn K (.ref f)=some (.type "function"))
  (h:fL (model prog w) (A.under (.builtin "type.__call__" ⟨.ref Cc::vs,p⟩)) (.call (.ref f) ⟨.ref (s.heap.objs.size+1)::vs,p⟩) (PySem.W.InitBack (s.heap.objs.size+1) R)
   { s with heap:=(s.heap.push bN).push (cq Cc s.heap.objs.size) }) :
  fL (model prog w) A (.call (.ref Cc) ⟨vs,p⟩) R s:=by
 obtain⟨J,g,d,t,os⟩:=s
 exact PySem.W.make_core (PySem.W.makes_of X F) (PySem.W.looks_findIn X G) (λ self=>PySem.W.bind_fn X self z) (.inl rfl) h
end
noncomputable def aj1 (f:Str)(v:V):List (Str×V)->List (Str×V)
 | []=>[(f,v)]
 | (g,x)::r=>if g=f then(g,v)::r else(g,x)::aj1 f v r
theorem ai5 (f g:Str)(v:V):∀ fs:List (Str×V),(aj1 f v fs).lookup g=if g=f then some v else fs.lookup g
 | []=>by
  show cW g [(f,v)]=_
  by_cases h:g=f
  .have hb:(g==f)=true:=beq_iff_eq.mpr h
   simp only[cW,hb,if_pos h]
  .have hb:(g==f)=false:=beq_eq_false_iff_ne.mpr h
   simp only[cW,hb,if_neg h]
 | (k,x)::r=>by
  have p:=ai5 f g v r
  rw[show aj1 f v ((k,x)::r)=(if k=f then(k,v)::r else(k,x)::aj1 f v r)from rfl]
  by_cases hk:k=f
  .rw[if_pos hk]
   by_cases h:g=k
   .have hb:(g==k)=true:=beq_iff_eq.mpr h
    simp only[cW,hb,if_pos (h.trans hk)]
   .have hb:(g==k)=false:=beq_eq_false_iff_ne.mpr h
    simp only[cW,hb,if_neg (λ e:g=f=>h (e.trans hk.symm))]
  .rw[if_neg hk]
   by_cases h:g=k
   .have hb:(g==k)=true:=beq_iff_eq.mpr h
    simp only[cW,hb,if_neg (λ e:g=f=>hk (h.symm.trans e))]
   .have hb:(g==k)=false:=beq_eq_false_iff_ne.mpr h
    simp only[cW,hb]
    exact p
theorem ah5 (f:Str)(v:V):∀ fs:List (Str×V),f∈(aj1 f v fs).map (·.1)/\∀ g,g∈fs.map (·.1)->g∈(aj1 f v fs).map (·.1)
 | []=>⟨by simp[aj1],λ g h=>by simp at h⟩
 | (k,x)::r=>by
  obtain⟨p,z⟩:=ah5 f v r
  rw[show aj1 f v ((k,x)::r)=(if k=f then(k,v)::r else(k,x)::aj1 f v r)from rfl]
  by_cases hk:k=f
  .rw[if_pos hk]
   subst hk
   exact⟨by simp,λ g h=>by simpa using h⟩
  .rw[if_neg hk]
   refine⟨?_,λ g h=>?_⟩
   .rw[a9]
    exact au _ p
   .rw[a9]at h ⊢
    rcases aH.mp h with e|e
    .exact aH.mpr (.inl e)
    .exact au _ (z g e)
theorem ah8 (f:Str)(v:V):∀ fs:List (Str×V),(aj1 f v fs).length<=fs.length+1
 | []=>by simp[aj1]
 | (k,x)::r=>by
  have h:=ah8 f v r
  rw[show aj1 f v ((k,x)::r)=(if k=f then(k,v)::r else(k,x)::aj1 f v r)from rfl]
  by_cases hk:k=f
  .rw[if_pos hk,aP,aP];omega
  .rw[if_neg hk,aP,aP];omega
theorem aq6.some_of {v:V}{o:Option Value}(r:aq6 (some v) o):∃ u,o=some u/\RelV v u:=by
 cases o with
 | none=>exact(show False from r).elim
 | some u=>exact⟨u,rfl,r⟩
theorem aq6.none_of {o:Option Value}(r:aq6 none o):o=none:=by
 cases o with
 | none=>rfl
 | some u=>exact(show False from r).elim
theorem aN3 {v:V}{u:Value}(r:RelV v u):jF u=true:=by
 cases v with
 | non=>cases(show u=Value.none from r);rfl
 | bl b=>cases(show u=Value.bool b from r);rfl
 | int i=>obtain⟨t,e⟩:=(show ∃ t,u=Value.int i t from r);cases e;rfl
 | str x=>obtain⟨t,e⟩:=(show ∃ t,u=Value.str x t from r);cases e;rfl
 | byt b=>obtain⟨t,e⟩:=(show ∃ t,u=Value.bytes b t from r);cases e;rfl
 | flt b=>obtain⟨t,e⟩:=(show ∃ t,u=Value.float b t from r);cases e;rfl
 | ref a=>cases(show u=Value.ref a from r);rfl
 | ty n=>cases(show u=Value.type n from r);rfl
section
variable {P:aB} {w:World} {H H':Hp} {h h':Heap} {a Cc dx:Addr} {fs fs':List (Str×V)}
theorem an0 (hok:HOk P w H h)(e:H a=some (.ins Cc dx fs)):∃ p,ObjM h a dx Cc p/\(∀ f,aq6 (fs.lookup f) (p f))/\jh p (fs.map (·.1))/\fs.length<=1000/\H dx=some (.own a):=by
 obtain⟨d,z,ne,ob,p,n,r,q⟩:=(show aa4 P w H h a (.ins Cc dx fs)from hok a _ e)
 exact⟨p,⟨ob,n,ne⟩,r,q,z,d⟩
end
structure Cls (K:ae)(Cc:Addr):Prop where
 pg:dq K Cc Str.empty=true
 hd:dY K Cc=true
 po:fK K Cc=true
 sa:bq K (.ref Cc) "__setattr__"=some (some (.builtin "object.__setattr__"))
theorem Cls.get {K:ae}{Cc:Addr}(c:Cls K Cc)(f:Str):dq K Cc f=true:=c.pg
def NoAttr (K:ae)(Cc:Addr)(f:Str):Prop:=bq K (.ref Cc) f=some none
theorem NoAttr.taker {K:ae}{Cc:Addr}{f:Str}(n:NoAttr K Cc f):gM K Cc f=some none:=by
 unfold gM
 rw[show bq K (.ref Cc) f=some none from n]
 rfl
structure Meth (K:ae)(Cc:Addr)(m:Str)(f:Addr):Prop where
 at_:bq K (.ref Cc) m=some (some (.ref f))
 fn:gr K (.ref f)=true
 kp:bz K (.ref f)=true
section
variable {X:Cx} {pins:yA} {W:St} {H:Hp} {s:af} {a Cc dx:Addr} {fs:List (Str×V)} {f:Str} {v:V} {A:aQ} {E:yB}
theorem aJ6 {b:Bool}{Q:yB}(I:Inv X pins W H s)(e:H a=some (.ins Cc dx fs))(c:Cls X.K Cc)(n:NoAttr X.K Cc f)(l:fs.lookup f=some v)
  (h:∀ u s',Inv X pins W H s'->RelV v u->Q u s'):wpAny (model X.prog X.w) A (getAttr (.ref a) f b) Q E s:=by
 obtain⟨z,O,r,_,_,_⟩:=an0 I.hok e
 obtain⟨u,hu,p⟩:=aq6.some_of (v:=v) (o:=z f) (by rw[<-l];exact r f)
 exact bz3 I.kIn O (c.get f) c.hd n hu (aN3 p) (h u _ (I.tok _) p)
theorem am6 {m:Str}{g:Addr}{pl:Sem Bool}{Q:Value×List Value->af->Prop}(I:Inv X pins W H s)(e:H a=some (.ins Cc dx fs))(c:Cls X.K Cc)(k:Meth X.K Cc m g)(l:fs.lookup m=none)
  (h:Q (.ref g,[.ref a]) s):wpAny (model X.prog X.w) A (iy (.ref a) m pl) Q E s:=by
 obtain⟨p,O,r,_,_,_⟩:=an0 I.hok e
 have hn:p m=none:=aq6.none_of (by rw[<-l];exact r m)
 exact ba9 I.kIn O (c.get m) k.at_ k.fn hn h
theorem aL2 {y:V}{u:Value}{Q:Unit->af->Prop}(I:Inv X pins W H s)(e:H a=some (.ins Cc dx fs))(c:Cls X.K Cc)(n:NoAttr X.K Cc f)(hl:fs.length<1000)(Y:RelV y u)
  (h:∀ s',Inv X pins W (upd H a (.ins Cc dx (aj1 f y fs))) s'->Q () s'):wpAny (model X.prog X.w) A (setAttr (.ref a) f u) Q E s:=by
 obtain⟨G,O,r,F,_,ho⟩:=an0 I.hok e
 have hz:(fs.map (·.1)).length<=aG:=by rw[aD,dN];omega
 refine bu2 I.kIn O c.sa c.po n.taker c.hd F hz λ h' p J=>h _ ?_
 have hd:∃ o,h'.get? dx=some o:=let⟨o,_,_,e',_⟩:=p.ns;⟨o,e'⟩
 refine I.write (x:=a) (e:=dx) (by rw[e];exact True.intro) (.inr ho) (λ b q hb z=>(J.2 b hb).trans z) hd ?_
 refine⟨by rw[zc O.ne];exact ho,?_,O.ne,p.obj,_,p.ns,λ g=>?_,λ g hg=>?_⟩
 .have:=ah8 f y fs;omega
 .show aq6 ((aj1 f y fs).lookup g) (if g=f then some u else G g)
  rw[ai5]
  by_cases q:g=f
  .rw[if_pos q,if_pos q];exact Y
  .rw[if_neg q,if_neg q];exact r g
 .by_cases q:g=f
  .rw[q];exact(ah5 f y fs).1
  .refine(ah5 f y fs).2 g (F g λ z=>hg ?_)
   show(if g=f then some u else G g)=none
   rw[if_neg q];exact z
theorem Inv.made (I:Inv X pins W H s):Inv X pins W (upd (upd H s.heap.objs.size (.own (s.heap.objs.size+1))) (s.heap.objs.size+1) (.ins Cc s.heap.objs.size []))
  { s with heap:=(s.heap.push bN).push (cq Cc s.heap.objs.size) }:=by
 have e1:(s.heap.push bN).get? s.heap.objs.size=some bN:=aX s.heap rfl
 have e2:((s.heap.push bN).push (cq Cc s.heap.objs.size)).get? (s.heap.objs.size+1)=some (cq Cc s.heap.objs.size):=by
  have:=aX (s.heap.push bN) (o:=cq Cc s.heap.objs.size) rfl
  rwa [bO]at this
 have h:(s.heap.push bN).Ns s.heap.objs.size (λ _=>none):=⟨bN,#[],_,e1,rfl,(λ e z=>absurd z (by simp)),λ _=>rfl⟩
 have p:=I.laid (a:=s.heap.objs.size) (o:=.own (s.heap.objs.size+1)) (h':=s.heap.push bN) (t':=s.toks) (λ b u q=>ao _ q) (ai _) ⟨_,e1⟩
 refine p.laid (a:=s.heap.objs.size+1) (o:=.ins Cc s.heap.objs.size []) (t':=s.toks) (λ b u q=>ao _ q) (kH (bO _ _)) ?_
 have ne:s.heap.objs.size≠s.heap.objs.size+1:=aE (bR _)
 refine⟨by rw[zc ne,zq],b9 _,ne,e2,λ _=>none,(Heap.Ns1.of_empty h).at λ o q=>ao _ q,λ _=>True.intro,λ y hy=>absurd rfl hy⟩
theorem bt3 {prog:aB}{w:World}{env:Env}{e:Expr}{f:Str}{pos:Pos}{s:af}{Q:yB}(hb:dz e f env (eval e env)=eval e env)
  (h:wpAny (model prog w) A (eval e env) (λ o p=>wpAny (model prog w) A (getAttr o f true) Q E p) E s):wpAny (model prog w) A (eval (.Attribute e f pos) env) Q E s :=
 Attribute_any_ h (by rw[arm_eval_Attribute,hb])
end
def cc1 (K:ae)(ta:TE)(f:Str):TE:=λ W H Q=>ta W H λ x H1=>∃ a Cc dx fs v,x=.ref a/\H1 a=some (.ins Cc dx fs)/\Cls K Cc/\NoAttr K Cc f/\fs.lookup f=some v/\Q v H1
def cc7 (K:ae)(ta tv:TE)(f:Str):TS:=λ D W H=>tv W H λ y H1=>ta W H1 λ x H2=>∃ a Cc dx fs,x=.ref a/\H2 a=some (.ins Cc dx fs)/\Cls K Cc/\NoAttr K Cc f/\fs.length<1000 /\
 D.nx W (upd H2 a (.ins Cc dx (aj1 f y fs)))
section
variable {X:Cx} {o e value:Expr} {f:Str} {pos pos' tpos:Pos} {ta tv:TE}
theorem bL5 (he:PE X e ta)(hb:dz e f X.env (eval e X.env)=eval e X.env):PE X (.Attribute e f pos) (cc1 X.K ta f):=by
 intro p s W H Q I h
 refine bt3 hb (thn (he p s W H _ I h) λ u s1 ⟨x,J,z,G,a,Cc,dx,fs,v,ex,Z,c,n,l,q⟩=>?_)
 subst ex
 obtain rfl:u=Value.ref a:=G
 exact aJ6 z Z c n l λ u' s2 F Y=>⟨v,J,F,Y,q⟩
theorem bH7 (ha:PE X o ta)(hv:PE X value tv)(hs:eG value (some (.Attribute o f pos')) pos.line X.env=pure false):PS X (.Assign [.Attribute o f pos'] value pos) (cc7 X.K ta tv f):=by
 intro p s W H D I h
 refine plainObj_wpAny_Assign_Attribute (thn (hv p s W H _ I h) λ u s1 ⟨y,Y,F,Z,q⟩=>thn (ha p s1 W Y _ F q) λ ov s2 ⟨x,H2,G,J,a,Cc,dx,fs,ex,ea,c,n,l,q2⟩=>?_) hs
 subst ex
 obtain rfl:ov=Value.ref a:=J
 exact aL2 G ea c n l Z λ s3 z=>⟨W,_,z,q2⟩
end
section
variable {X:Cx} {pins:yA} {W:St} {H:Hp} {s:af} {A:aQ} {E:yB} {Q:yB} {c:Value} {b:Bool}
inductive TyOf (K:ae)(H:Hp):V->Value->Prop where
 | non:TyOf K H .non (.type "NoneType")
 | bl (x:Bool):TyOf K H (.bl x) (.type "bool")
 | int (i:Int):TyOf K H (.int i) (.type "int")
 | str (x:Str):TyOf K H (.str x) (.type "str")
 | flt (x:UInt64):TyOf K H (.flt x) (.type "float")
 | lst {a:Addr} {xs:List V} (e:H a=some (.lst xs)):TyOf K H (.ref a) (.type "list")
 | frz {a:Addr} {o:Obj} {xs:List V} (e:H a=some (.frz o (.lst xs))):TyOf K H (.ref a) (.type "list")
 | tup {a:Addr} {xs:List V} (e:H a=some (.tup xs)):TyOf K H (.ref a) (.type "tuple")
 | dK {a:Addr} {kvs:List (Key×V)} (e:H a=some (.dK kvs)):TyOf K H (.ref a) (.type "dict")
 | dT {a:Addr} {kvs:List (List NI×V)} (e:H a=some (.dT kvs)):TyOf K H (.ref a) (.type "dict")
 | ins {a Cc dx:Addr} {fs:List (Str×V)} (e:H a=some (.ins Cc dx fs)) (cl:Cls K Cc) (ha:bq K (.ref Cc) "__class__"=some (some (.builtin "object.__class__")))
   (hn:jl K (.builtin "object.__class__") "__get__"=some (some (.builtin "getset_descriptor.__get__"))) (htk:jS K (.builtin "object.__class__")=some true)
   (hm:kA K Cc (.type "object")=some true):TyOf K H (.ref a) (.ref Cc)
theorem qi {x:V}{u t:Value}(I:Inv X pins W H s)(F:RelV x u)(ty:TyOf X.K H x t)(e:bT X.K t c=some b)(h:∀ tk,Q (.bool b) { s with toks:=tk }) :
  wpAny (model X.prog X.w) A (call (.builtin "isinstance") [u,c]) Q E s:=by
 cases ty with
 | non=>cases(show u=Value.none from F);exact bC PySem.W.kitx_none I.kIn True.intro e (λ z=>nomatch z) h
 | bl y=>cases(show u=Value.bool y from F);exact bC PySem.W.kitx_bool I.kIn True.intro e (λ z=>nomatch z) h
 | int i=>obtain⟨t,q⟩:=(show ∃ t,u=Value.int i t from F);cases q;exact bC PySem.W.kitx_int I.kIn True.intro e (λ z=>nomatch z) h
 | str y=>obtain⟨t,q⟩:=(show ∃ t,u=Value.str y t from F);cases q;exact bC PySem.W.kitx_str I.kIn True.intro e (λ z=>nomatch z) h
 | flt y=>obtain⟨t,q⟩:=(show ∃ t,u=Value.float y t from F);cases q;exact bC PySem.W.kitx_float I.kIn True.intro e (λ z=>nomatch z) h
 | @lst a Y ea =>
  cases(show u=Value.ref a from F)
  obtain⟨_,_,n,_,G⟩:=(show aa4 X.prog X.w H s.heap a (.lst Y)from I.hok a _ ea)
  exact bC jm I.kIn ⟨_,G,rfl⟩ e (λ z=>nomatch z) h
 | @frz a ob Y ea =>
  cases(show u=Value.ref a from F)
  obtain⟨_,_,_,n,_,G⟩:=(show aa4 X.prog X.w H s.heap a (.frz ob (.lst Y))from I.hok a _ ea)
  exact bC jm I.kIn ⟨_,G,rfl⟩ e (λ z=>nomatch z) h
 | @tup a Y ea =>
  cases(show u=Value.ref a from F)
  obtain⟨_,_,_,p⟩:=(show aa4 X.prog X.w H s.heap a (.tup Y)from I.hok a _ ea)
  obtain⟨o,G,Z,_⟩:=p
  exact bC i8 I.kIn ⟨o,G,Z⟩ e (λ z=>nomatch z) h
 | @dK a kvs ea =>
  cases(show u=Value.ref a from F)
  obtain⟨_,_,vs,_,p⟩:=(show aa4 X.prog X.w H s.heap a (.dK kvs)from I.hok a _ ea)
  obtain⟨o,es,ep,G,Z,_⟩:=p
  exact bC jn I.kIn ⟨o,G,Z.1⟩ e (λ z=>nomatch z) h
 | @dT a kvs ea =>
  cases(show u=Value.ref a from F)
  obtain⟨_,_,Y,_,o,es,ep,G,Z,_⟩:=(show aa4 X.prog X.w H s.heap a (.dT kvs)from I.hok a _ ea)
  exact bC jn I.kIn ⟨o,G,Z.1⟩ e (λ z=>nomatch z) h
 | @ins a Cc dx fs ea cl ha hn htk hm =>
  cases(show u=Value.ref a from F)
  obtain⟨mA,O,_⟩:=an0 I.hok ea
  obtain⟨od,J,_⟩:=O.look
  exact bC (PySem.W.kitx_own (cl.get _) cl.hd ha hn htk hm) I.kIn J e (λ z=>nomatch z) h
end
structure Room (k:Nat)(A:aQ):Prop where
 hd:A.handled=none
 dp:A.depth+3*k+5<recursionLimit
 un:A.units+16*k+200<cLine
theorem Room.mono {j k:Nat}{A:aQ}(r:Room k A)(h:j<=k):Room j A:=⟨r.hd,by have:=r.dp;omega,by have:=r.un;omega⟩
theorem Room.deeper {k:Nat}{A:aQ}(r:Room (k+1) A)(env:Env):Room k (A.deeper env) :=
 ⟨r.hd,by have:=r.dp;show A.depth+1+3*k+5<_;omega,by have:=r.un;show A.units+3+16*k+200<_;omega⟩
theorem Room.in1 {k:Nat}{A:aQ}(r:Room (k+1) A):Room k A.in1 :=
 ⟨r.hd,by have:=r.dp;show A.depth+3*k+5<_;omega,by have:=r.un;show A.units+1+16*k+200<_;omega⟩
theorem aK2 {A:aQ}{Cc:Addr}{us:yH}{h:List (Str×Value)}:(A.under (.builtin "type.__call__" ⟨.ref Cc::us,h⟩)).depth=A.depth+1:=by
 first|rfl|simp[jo,Code.weight,Code.isCreation,Code.isGuard,Code.isCaller,kW,jp,guardIds]
theorem aH5 {A:aQ}{Cc:Addr}{us:yH}{h:List (Str×Value)}:(A.under (.builtin "type.__call__" ⟨.ref Cc::us,h⟩)).units=A.units+1:=by
 first|rfl|simp[jo,Code.cUnits,kW,jp]
theorem Room.make {k:Nat}{A:aQ}(r:Room (k+1) A)(Cc:Addr)(us:yH)(h:List (Str×Value)):Room k (A.under (.builtin "type.__call__" ⟨.ref Cc::us,h⟩)) :=
 ⟨r.hd,by have:=r.dp;rw[aK2];omega,by have:=r.un;rw[aH5];omega⟩
theorem Room.depth {k:Nat}{A:aQ}(r:Room k A):A.depth<recursionLimit:=by have:=r.dp;omega
theorem Room.units {k:Nat}{A:aQ}(r:Room k A):A.units+64<cLine:=by have:=r.un;omega
theorem Room.units0 {k:Nat}{A:aQ}(r:Room k A):A.units<cLine:=by have:=r.un;omega
def aI0:TA:=λ _ H Q=>Q [] H
def ak2 (ta:TE)(tr:TA):TA:=λ W H Q=>ta W H λ x H1=>tr W H1 λ xs H2=>Q (x::xs) H2
section
variable {X:Cx} {e:Expr} {es:yL} {te:TE} {t:TA} {pos:Pos}
theorem ab0:PA X [] aI0:=λ _ _ _ _ H Q I h=>Calls.spliced_nil ⟨[],H,I,.nil,h⟩
theorem zD (ha:PE X e te)(hr:PA X es t)(hs:a7 (e::es) X.env=(false,eval e X.env)::a7 es X.env:=by rfl):PA X (e::es) (ak2 te t):=by
 intro pos p s W H Q I h
 rw[hs]
 show wpAny _ _ (spliced ((false,eval e X.env)::cR pos (a7 es X.env))) _ _ s
 refine Calls.spliced_cons (thn (ha p s W H _ I h) λ u s1 ⟨x,z,G,r1,F⟩=>?_)
 exact thn (hr pos p s1 W z _ G F) λ us s2 ⟨J,Y,I2,Z,q2⟩=>⟨x::J,Y,I2,.cons r1 Z,q2⟩
def ca0 (t:TA):TE:=λ W H Q=>t W H λ xs H1=>xs.length<=aG/\∀ p,H1 p=none->Q (.ref p) (upd H1 p (.tup xs))
def cd0 (t:TA):TE:=λ W H Q=>t W H λ xs H1=>xs.length<=aG/\∀ p,H1 p=none->Q (.ref p) (upd H1 p (.lst xs))
theorem bB5 {x1}(h:PA X es t):PE X (.Tuple es x1 pos) (ca0 t):=by
 intro p s W H Q I hq
 refine wpAny_Tuple_spliced (thn (h pos p s W H _ I hq) λ us s1 ⟨Y,F,G,r,z,q⟩=>⟨by rw[<-r.length];exact z,?_⟩)
 have J:F s1.heap.objs.size=none:=G.hok.fresh (ai _)
 refine⟨.ref s1.heap.objs.size,upd F s1.heap.objs.size (.tup Y),G.laid (t':=s1.toks) (λ b u e=>ao _ e) (ai _) ?_,rfl,q _ J⟩
 exact⟨z,us,r,⟨_,aX _ rfl,rfl,_,rfl⟩⟩
theorem bl9 (h:PA X es t):PE X (.List es pos) (cd0 t):=by
 intro p s W H Q I hq
 refine wpAny_List_spliced (thn (h pos p s W H _ I hq) λ us s1 ⟨Y,F,G,r,z,q⟩=>⟨by rw[<-r.length];exact z,?_⟩)
 have J:F s1.heap.objs.size=none:=G.hok.fresh (ai _)
 refine⟨.ref s1.heap.objs.size,upd F s1.heap.objs.size (.lst Y),G.laid (t':=s1.toks) (λ b u e=>ao _ e) (ai _) ?_,rfl,q _ J⟩
 exact⟨z,us,0,r,aX _ rfl⟩
end
abbrev Sp:=List V->Hp->VK->XK->Prop
abbrev CXT:=List Env->Hp->af->XK->Value->af->Prop
structure Env0 (P:aB)(w:World)(K:ae)(mg:yD)(base:Heap)(A:aQ)(outer:List Env)(s:af)(H:Hp):Prop where
 frames:A.frames=some outer
 mod:Mod K mg base
 bs:∀ b o,base.get? b=some o->s.heap.get? b=some o/\H b=none
 bsz:base.objs.size<=s.heap.objs.size
 funs:s.heap.FunFrames base outer
 frf:∀ b∈frs outer,H b=none
 hok:HOk P w H s.heap
 bare:fJ s.gens
def CE (outer:List Env)(P:aB)(w:World)(H:Hp)(s:af)(Q:VK)(u:Value)(s':af):Prop :=
 ∃ v H',s'.os=s.os/\fJ s'.gens/\Un (frs outer) [] H H' s.heap s'.heap/\HOk P w H' s'.heap/\RelV v u/\Q v H'
def CR (CX:CXT)(outer:List Env)(P:aB)(w:World)(H:Hp)(s:af)(Q:VK)(E:XK)(r:jG)(s':af):Prop :=
 match r with
 | .ok (.ret u)=>CE outer P w H s Q u s'
 | .ok _=>False
 | .error e=>CX outer H s E e s'
structure FnOk (P:aB)(w:World)(K:ae)(mg:yD)(base:Heap)(CX:CXT)(k:Nat)(f:Addr)(fd:bH)(ps:yI)(sp:Sp):Prop where
 len:∀ vs H Q E,sp vs H Q E->vs.length=ps.length
 run:∀(A:aQ) (outer:List Env) (s:af) (H:Hp) (args:Args) (us:yH) (vs:List V) (Q:VK) (E:XK),Room k A->Env0 P w K mg base A outer s H->jZ s fd args (ps.zip us)->Vals vs us->sp vs H Q E ->
  fL (model P w) A (.call (.ref f) args) (CR CX outer P w H s Q E) s
theorem FnOk.imp {P:aB}{w:World}{K:ae}{G:yD}{base:Heap}{J:CXT}{k:Nat}{f:Addr}{Y:bH}{ps:yI}{sp z:Sp}(F:FnOk P w K G base J k f Y ps sp)
  (h:∀ vs H Q E,z vs H Q E->sp vs H Q E):FnOk P w K G base J k f Y ps z :=
 ⟨λ vs H Q E q=>F.len vs H Q E (h _ _ _ _ q),λ A p s H args us vs Q E hr Z hb hv hs=>F.run A p s H args us vs Q E hr Z hb hv (h _ _ _ _ hs)⟩
theorem Env0.make {P:aB}{w:World}{K:ae}{p:yD}{base:Heap}{A:aQ}{h:List Env}{s:af}{H:Hp}(e:Env0 P w K p base A h s H)(Cc:Addr)(us:yH)(z:List (Str×Value)) :
  Env0 P w K p base (A.under (.builtin "type.__call__" ⟨.ref Cc::us,z⟩)) h s H:=⟨by first|exact e.frames|(simpa [jo,Code.envs,jp,pushEnvs]using e.frames),e.mod,e.bs,e.bsz,e.funs,e.frf,e.hok,e.bare⟩
section
variable {X:Cx} {pins:yA} {W:St} {H:Hp} {s s':af}
theorem Inv.env0 (I:Inv X pins W H s):Env0 X.prog X.w X.K X.mg X.base X.A X.stack s H :=
 ⟨I.ok.frames,I.ok.mod,I.bs,ak I.ok.bsz I.sz,I.stack,I.stkFree,I.hok,I.bare⟩
theorem Inv.after {Q:VK}{u:Value}(I:Inv X pins W H s)(h:CE X.stack X.prog X.w H s Q u s'):EP X pins W Q u s':=by
 obtain⟨v,H',os,bare,un,hok,r,q⟩:=h
 obtain⟨F,g,d,t,p⟩:=s'
 obtain rfl:p=s.os:=os
 exact⟨v,H',I.call (h':=F) (g':=g) (d':=d) (t':=t) (ch:=[]) un hok bare (λ b z=>absurd z (by simp)),r,q⟩
end
def aJ9 (sp:Sp)(dvs:List V)(E:XK)(t:TA):TE:=λ W H Q=>t W H λ vs H1=>sp (vs++dvs) H1 Q E
def aY8 (Cc:Addr)(m:Str)(sp:Sp)(dvs:List V)(E:XK)(ta:TE)(t:TA):TE:=λ W H Q=>ta W H λ x H1=>∃ a dx fs,x=.ref a/\H1 a=some (.ins Cc dx fs)/\fs.lookup m=none /\
 t W H1 λ vs H2=>sp (x::(vs++dvs)) H2 Q E
def aU9 (Cc:Addr)(sp:Sp)(dvs:List V)(E:XK)(t:TA):TE:=λ W H Q=>t W H λ vs H1=>∀ x dx,H1 x=none->H1 dx=none->dx≠x ->
 sp (.ref x::(vs++dvs)) (upd (upd H1 dx (.own x)) x (.ins Cc dx [])) (λ v H2=>v=.non/\Q (.ref x) H2) E
def Binds (K:ae)(fd:bH)(ps:yI)(ds:yH):Prop :=
 ∀(s:af) (us:yH),K.In s.heap->(us++ds).length=ps.length->jZ s fd ⟨us,[]⟩ (ps.zip (us++ds))
theorem Binds.all {K:ae}{p:bH}{ps:yI}(h:∀ us:List Value,us.length=ps.length->dA p ⟨us,[]⟩=pure (ps.zip us)):Binds K p ps []:=λ s us _ hl=>by
 rw[aN]at hl ⊢
 exact .of_eq (h us hl)
def ac8 (CX:CXT)(X:Cx)(E:XK):Prop:=∀(pins:yA) (W:St) (H:Hp) (s:af) (e:Value) (s':af),Inv X pins W H s->CX X.stack H s E e s'->X.xe e s'
section
variable {X:Cx} {CX:CXT} {k:Nat} {f Cc:Addr} {fd:bH} {ps:yI} {sp:Sp} {dvs:List V} {ds:yH} {E:XK} {x m:Str} {p pos apos:Pos} {e o:Expr} {es:yL} {ta:TE} {t:TA}
theorem aD5 {p:yA}{W:St}{H:Hp}{s:af}{Q:VK}{us:yH}{vs:List V}(F:FnOk X.prog X.w X.K X.mg X.base CX k f fd ps sp)(hr:Room k X.A)(hb:Binds X.K fd ps ds)(hd:Vals dvs ds)(hx:ac8 CX X E)
  (I:Inv X p W H s) (r:Vals vs us) (h:sp (vs++dvs) H Q E):wpAny (model X.prog X.w) X.A (call (.ref f) us) (EP X p W Q) X.xe s:=by
 have z:Vals (vs++dvs) (us++ds):=r.append hd
 have hl:(us++ds).length=ps.length:=by rw[<-z.length];exact F.len _ _ _ _ h
 refine wpAny_call (gu (F.run X.A X.stack s H ⟨us,[]⟩ (us++ds) (vs++dvs) Q E hr I.env0 (hb s us I.kIn hl) z h) λ r s' hq=>?_)
 cases r with
 | error e=>exact hx p W H s e s' I hq
 | ok fl =>
  cases fl with
  | ret u=>exact I.after hq
  | next=>exact bM hq
  | brk=>exact bM hq
  | cont=>exact bM hq
theorem by0 (F:FnOk X.prog X.w X.K X.mg X.base CX k f fd ps sp)(hr:Room k X.A)(hg:Gl X x)(hm:X.mg x=some (.ref f))(hk:bz X.K (.ref f)=true)(hb:Binds X.K fd ps ds)(hd:Vals dvs ds)(hx:ac8 CX X E)
  (ha:PA X (e::es) t) (J:(x==("__debug__":Str))=false:=by decide) (Z:a7 (e::es) X.env=(false,eval e X.env)::a7 es X.env:=by rfl) (G:(cR pos (a7 es X.env)).any (·.1)=false:=by rfl) :
  PE X (.Call (.Name x p) (e::es) [] pos) (aJ9 sp dvs E t):=by
 intro z s W H Q I h
 refine cE (ah7 I hg hm ?_ J)
 refine fv (h₀:=X.base) I.ok.mod.kin hk (thn (ha pos z s W H _ I h) λ us s1 ⟨vs,H1,Y,r,q⟩=>⟨Y.kIn,?_⟩) Z G
 exact aD5 F hr hb hd hx Y r q
theorem bg9 (F:FnOk X.prog X.w X.K X.mg X.base CX k f fd ps sp)(hr:Room k X.A)(hg:Gl X x)(J:X.mg x=some (.ref f))(hk:bz X.K (.ref f)=true)(hb:Binds X.K fd ps ds)(hd:Vals dvs ds)(hx:ac8 CX X E)
  (z:(x==("__debug__":Str))=false:=by decide):PE X (.Call (.Name x p) [] [] pos) (aJ9 sp dvs E aI0):=by
 intro G s W H Q I h
 refine cE (ah7 I hg J ?_ z)
 exact e7 I.kIn hk (aD5 (us:=[]) F hr hb hd hx I .nil h)
theorem bo3 {pl:Sem Bool}(he:PE X o ta)(c:Cls X.K Cc)(J:Meth X.K Cc m f)(F:FnOk X.prog X.w X.K X.mg X.base CX k f fd ps sp)(hr:Room k X.A)(hb:Binds X.K fd ps ds)(hd:Vals dvs ds)(hx:ac8 CX X E)(ha:PA X (e::es) t)
  (G:a7 (e::es) X.env=(false,eval e X.env)::a7 es X.env:=by rfl) (z:(cR pos (a7 es X.env)).any (·.1)=false:=by rfl)
  (ht:eval (.Call (.Attribute o m apos) (e::es) [] pos) X.env=(do
   let ov <- eval o X.env
   ji apos.atName
   let(f,first) <- gi [ov] (iy ov m pl)
   callWith pos f first (cR pos (a7 (e::es) X.env)) (fw pos (di [] X.env))):=by rfl) :
  PE X (.Call (.Attribute o m apos) (e::es) [] pos) (aY8 Cc m sp dvs E ta t):=by
 intro p s W H Q I h
 refine gX (pl:=pl) (thn (he p s W H _ I h) λ u s1 ⟨x,H1,Y,rx,a,dx,fs,ex,ea,l,q⟩=>?_) ht
 subst ex
 obtain rfl:u=Value.ref a:=rx
 refine am6 Y ea c J l ?_
 refine fv (first:=[.ref a]) (h₀:=X.base) I.ok.mod.kin J.kp (thn (ha pos p s1 W H1 _ Y q) λ us s2 ⟨vs,H2,Z,r,q2⟩=>⟨Z.kIn,?_⟩) G z
 exact aD5 (us:=.ref a::us) (vs:=.ref a::vs) F hr hb hd hx Z (.cons rfl r) q2
theorem bg4 {pl:Sem Bool}(Z:PE X o ta)(c:Cls X.K Cc)(G:Meth X.K Cc m f)(F:FnOk X.prog X.w X.K X.mg X.base CX k f fd ps sp)(hr:Room k X.A)(hb:Binds X.K fd ps ds)(hd:Vals dvs ds)(hx:ac8 CX X E)
  (ht:eval (.Call (.Attribute o m apos) [] [] pos) X.env=(do
   let ov <- eval o X.env
   ji apos.atName
   let(f,first) <- gi [ov] (iy ov m pl)
   callWith pos f first (cR pos (a7 [] X.env)) (fw pos (di [] X.env))):=by rfl) :
  PE X (.Call (.Attribute o m apos) [] [] pos) (aY8 Cc m sp dvs E ta aI0):=by
 intro p s W H Q I h
 refine gX (pl:=pl) (thn (Z p s W H _ I h) λ u s1 ⟨x,H1,z,J,a,dx,fs,ex,Y,l,q⟩=>?_) ht
 subst ex
 obtain rfl:u=Value.ref a:=J
 refine am6 z Y c G l ?_
 exact e7 (first:=[.ref a]) z.kIn G.kp (aD5 (us:=[.ref a]) (vs:=[.ref a]) F hr hb hd hx z (.cons rfl .nil) q)
structure Mk (K:ae)(Cc f:Addr):Prop where
 makes:c6 K Cc=true
 init:bq K (.ref Cc) "__init__"=some (some (.ref f))
 fn:gr K (.ref f)=true
 kp:bz K (.ref Cc)=true
theorem aB7 {p:yA}{W:St}{H:Hp}{s:af}{Q:VK}{us:yH}{vs:List V}(M:Mk X.K Cc f)(F:FnOk X.prog X.w X.K X.mg X.base CX k f fd ps sp)(hr:Room (k+1) X.A)(hb:Binds X.K fd ps ds)(hd:Vals dvs ds)
  (hx:ac8 CX X E) (I:Inv X p W H s) (r:Vals vs us)
  (h:∀ x G,H x=none->H G=none->G≠x->sp (.ref x::(vs++dvs)) (upd (upd H G (.own x)) x (.ins Cc G [])) (λ v H2=>v=.non/\Q (.ref x) H2) E) :
  wpAny (model X.prog X.w) X.A (call (.ref Cc) us) (EP X p W Q) X.xe s:=by
 have hq:=h (s.heap.objs.size+1) s.heap.objs.size (I.hok.fresh (cb _)) (I.hok.fresh (ai _)) (aE (bR _))
 have z:=Inv.made (Cc:=Cc) I
 have J:Vals (V.ref (s.heap.objs.size+1)::(vs++dvs)) (Value.ref (s.heap.objs.size+1)::(us++ds)):=.cons rfl (r.append hd)
 have hl:(Value.ref (s.heap.objs.size+1)::us++ds).length=ps.length:=by
  have e:=J.length
  rw[F.len _ _ _ _ hq]at e
  exact e.symm
 refine wpAny_call (be3 (f:=f) I.kIn M.makes M.init (beq_iff_eq.mp M.fn) (gu (F.run _ X.stack _ _ ⟨Value.ref (s.heap.objs.size+1)::us,[]⟩ (Value.ref (s.heap.objs.size+1)::(us++ds)) _ _ E (hr.make Cc us [])
  (z.env0.make Cc us []) (hb _ (Value.ref (s.heap.objs.size+1)::us) z.kIn hl) J hq) λ r s' hq'=>?_))
 cases r with
 | error e=>exact hx p W _ _ e s' z hq'
 | ok fl =>
  cases fl with
  | ret u =>
   obtain⟨v,H',Y,Z,ev,q3⟩:=z.after hq'
   subst ev
   exact⟨Z,⟨V.ref (s.heap.objs.size+1),H',Y,rfl,q3⟩⟩
  | next=>exact bM hq'
  | brk=>exact bM hq'
  | cont=>exact bM hq'
theorem br6 (M:Mk X.K Cc f)(F:FnOk X.prog X.w X.K X.mg X.base CX k f fd ps sp)(hr:Room (k+1) X.A)(hg:Gl X x)(Z:X.mg x=some (.ref Cc))(hb:Binds X.K fd ps ds)(hd:Vals dvs ds)(hx:ac8 CX X E)
  (ha:PA X (e::es) t) (J:(x==("__debug__":Str))=false:=by decide) (he:a7 (e::es) X.env=(false,eval e X.env)::a7 es X.env:=by rfl) (G:(cR pos (a7 es X.env)).any (·.1)=false:=by rfl) :
  PE X (.Call (.Name x p) (e::es) [] pos) (aU9 Cc sp dvs E t):=by
 intro z s W H Q I h
 refine cE (ah7 I hg Z ?_ J)
 refine fv (h₀:=X.base) I.ok.mod.kin M.kp (thn (ha pos z s W H _ I h) λ us s1 ⟨vs,H1,Y,r,q⟩=>⟨Y.kIn,?_⟩) he G
 exact aB7 M F hr hb hd hx Y r q
theorem bg3 (M:Mk X.K Cc f)(F:FnOk X.prog X.w X.K X.mg X.base CX k f fd ps sp)(hr:Room (k+1) X.A)(hg:Gl X x)(J:X.mg x=some (.ref Cc))(hb:Binds X.K fd ps ds)(hd:Vals dvs ds)(hx:ac8 CX X E)
  (z:(x==("__debug__":Str))=false:=by decide):PE X (.Call (.Name x p) [] [] pos) (aU9 Cc sp dvs E aI0):=by
 intro G s W H Q I h
 refine cE (ah7 I hg J ?_ z)
 exact e7 I.kIn M.kp (aB7 (us:=[]) M F hr hb hd hx I .nil h)
end
section
variable {X:Cx} {CX:CXT} {k:Nat} {f Cc:Addr} {fd:bH} {ps ks:yI} {sp:Sp} {E:XK} {x m:Str} {p pos apos kpos:Pos} {e o:Expr} {es:yL} {kws:List fM} {te ta:TE} {t tk:TA} {nm:Option Str}
variable {g:List Value->List Value->List Value} {gV:List V->List V->List V}
end
structure FnScope (N P:yI)(sc:Scope):Prop where
 kind:sc.kind=.function
 co:sc.isCoroutine=false
 gen:sc.isGenerator=false
 nd:N.Nodup
 pre:N.take P.length=P
 par:∀ x∈P,sc.names.lookup x=some .local\/sc.names.lookup x=some .cell
 nofree:∀ y∈sc.names,y.2≠.free
theorem av2 {eI:Str->Option cf}{x:Str}:∀ {binds:List (Str×Value)} {m:yD},(∀ v,(x,v) ∉ binds)->bindL eI binds m x=m x
 | [],_,_=>rfl
 | (n,v)::r,m,h=>by
  unfold bindL
  rw[av2 λ w hw=>h w (au _ hw)]
  split
  .have:x≠n:=by rintro rfl;exact h v aA
   simp[this]
  .rfl
theorem at8 {eI:Str->Option cf}{x:Str}:∀ {binds:List (Str×Value)} {m:yD},(∀ v,(x,v) ∉ binds)->bindC eI binds m x=m x
 | [],_,_=>rfl
 | (n,v)::r,m,h=>by
  unfold bindC
  rw[at8 λ w hw=>h w (au _ hw)]
  split
  .rfl
  .have:x≠n:=by rintro rfl;exact h v aA
   simp[this]
theorem ai4 {eI:Str->Option cf}{x:Str}{v:Value}:∀ {P:yI} {vs:yH} {i:Nat} {m:yD},P.Nodup->P[i]?=some x->vs[i]?=some v->eI x=some .local ->
  bindL eI (P.zip vs) m x=some v
 | [],_,_,_,_,h,_,_=>by simp at h
 | _::_,[],_,_,_,_,h,_=>by simp at h
 | p::P,w::vs,0,m,nd,h1,h2,hk=>by
  simp at h1 h2;subst h1;subst h2
  show bindL eI ((p,w)::P.zip vs) m p=_
  unfold bindL
  rw[av2 λ v hv=>(dF.mp nd).1 (dG hv).1,if_pos hk]
  simp
 | p::P,w::vs,i+1,m,nd,h1,h2,hk=>by
  show bindL eI ((p,w)::P.zip vs) m x=_
  unfold bindL
  exact ai4 (i:=i) (dF.mp nd).2 (by simpa using h1) (by simpa using h2) hk
theorem aj7 {eI:Str->Option cf}{x:Str}{v:Value}:∀ {P:yI} {vs:yH} {i:Nat} {m:yD},P.Nodup->P[i]?=some x->vs[i]?=some v->eI x≠some .local ->
  bindC eI (P.zip vs) m x=some v
 | [],_,_,_,_,h,_,_=>by simp at h
 | _::_,[],_,_,_,_,h,_=>by simp at h
 | p::P,w::vs,0,m,nd,h1,h2,hk=>by
  simp at h1 h2;subst h1;subst h2
  show bindC eI ((p,w)::P.zip vs) m p=_
  unfold bindC
  rw[at8 λ v hv=>(dF.mp nd).1 (dG hv).1,if_neg hk]
  simp
 | p::P,w::vs,i+1,m,nd,h1,h2,hk=>by
  show bindC eI ((p,w)::P.zip vs) m x=_
  unfold bindC
  exact aj7 (i:=i) (dF.mp nd).2 (by simpa using h1) (by simpa using h2) hk
noncomputable def ae7 (N:yI)(vs:List V):St:=vs.map some++aq (N.length - vs.length) none
noncomputable def aZ0 (CX:CXT)(P:aB)(w:World)(K:ae)(mg:yD)(base:Heap)(N:yI)(qual:Str)(scope:Scope)(f:Addr)(cd:Value)(A:aQ)(outer:List Env)(s:af)(H:Hp)(E:XK):Cx where
 prog:=P
 w:=w
 K:=K
 mg:=mg
 base:=base
 A:=A.deeper (fx qual scope s.heap.objs.size f cd)
 N:=N
 s₀:=s
 H₀:=H
 env:=fx qual scope s.heap.objs.size f cd
 outer:=outer
 stack:=fx qual scope s.heap.objs.size f cd::outer
 ex:=[]
 calm:=true
 fn:=λ _=>true
 pn:=[]
 xe:=λ e s'=>wpAny (model P w) (A.deeper (fx qual scope s.heap.objs.size f cd)) (leaving (fx qual scope s.heap.objs.size f cd) e) (λ _ s''=>CX outer H s E e s'') (λ e' s''=>CX outer H s E e' s'') s'
theorem zM {sc:Scope}{n:Nat}{x:Str}(h:sc.names.lookup x=some .cell):∃ c,(aK n sc.names []).lookup x=some c:=by
 have q:=gv sc.names n [] (.inl h)
 exact b7.mp q
theorem aU2 {CX:CXT}{P:aB}{w:World}{K:ae}{mg:yD}{base:Heap}{N ps:yI}{qual:Str}{scope:Scope}{f:Addr}{cd:Value}{A:aQ}{F:List Env}{s s1:af}{H:Hp}{E:XK}{us:yH}{vs:List V}
  (S:FnScope N ps scope) (hd:A.handled=none) (J:Env0 P w K mg base A F s H) (hl:vs.length=ps.length) (r:Vals vs us)
  (x:fN s s.heap.objs.size (bindL (fx qual scope s.heap.objs.size f cd).kindOf (ps.zip us) λ _=>none) (aK (s.heap.objs.size+1) scope.names []) (bindC (fx qual scope s.heap.objs.size f cd).kindOf (ps.zip us) λ _=>none) s1) :
  Inv (aZ0 CX P w K mg base N qual scope f cd A F s H E) [] (ae7 N vs) H s1:=by
 have a1:ps.length<=N.length:=by have:=congrArg kX S.pre;rw[bK]at this;omega
 obtain⟨h1,tk,rfl,hk⟩:=x.done
 have Y:∀ b:Addr,b ∉ (aZ0 CX P w K mg base N qual scope f cd A F s H E).ex:=λ b z=>absurd (show b∈([]:List Addr)from z) (by simp)
 refine⟨⟨J.mod,S.kind,rfl,rfl,ai _,λ y z c h1 G=>?_,λ y hy=>?_,λ y c _ h=>?_,λ _=>hd,h9 J.frames,.inr ⟨rfl,rfl⟩,λ b z=>absurd z (Y b),J.bs,J.bsz,λ b _ _=>Y b,λ b z=>absurd z (Y b),J.funs,J.frf⟩,
  rfl,J.bare,Un.kept hk,⟨_,x.toInCall.ns,λ i y v h1 G h3=>?_⟩,λ y c h=>⟨_,x.cell y c h⟩,J.hok.fresh (ai _),λ y c h=>?_,λ p Z=>absurd (show p∈([]:yA)from Z) (by simp),J.hok.kept hk,?_⟩
 .exact gz x.apart (aF h1) (aF G)
 .have hy:scope.names.lookup y=some .cell\/scope.names.lookup y=some .free:=hy
  rcases hy with hy|hy
  .exact zM hy
  .exact absurd rfl (S.nofree _ (aF hy))
 .exact dW (x.above y c (aF h))
 .have hi:i<vs.length:=by
   unfold ae7 at G
   by_cases hi:i<vs.length
   .exact hi
   .rw[aJ (by simpa using hi)]at G
    rw[f7]at G
    split at G<;>cases G
  have ha:vs[i]?=some v:=by
   unfold ae7 at G
   rw[ax (by simpa using hi),aC]at G
   cases e:vs[i]? with
   | none=>rw[e]at G;cases G
   | some a=>rw[e]at G;cases G;rfl
  obtain⟨u,hu,rv⟩:=r.get ha
  have Z:ps[i]?=some y:=by
   rw[<-S.pre,List.getElem?_take_of_lt (by omega)];exact h1
  have a0:ps.Nodup:=by rw[<-S.pre];exact S.nd.sublist (List.take_sublist _ _)
  refine⟨u,rv,?_⟩
  rcases S.par y (aY Z)with k|k
  .exact .inl ⟨k,ai4 a0 Z hu k⟩
  .obtain⟨c,e⟩:=zM (n:=s.heap.objs.size+1) k
   refine .inr ⟨.inl k,c,e,?_⟩
   have q:=x.cell y c e
   rw[aj7 a0 Z hu (by show scope.names.lookup y≠_;rw[k];decide)]at q
   exact q
 .exact J.hok.fresh (dW (x.above y c (aF h)))
 .unfold ae7
  show _=N.length
  rw[ar,aD,List.length_replicate]
  omega
theorem bD2 {CX:CXT}{P:aB}{w:World}{K:ae}{mg:yD}{base:Heap}{k:Nat}{f:Addr}{name qual:Str}{params:bV}{body:yM}{scope:Scope}{dV kV Y pm p ct oc:Value}{an od:yJ}
  {a0:yF} {N ps:yI} {sp:Sp} (lk:K.lookup f=some ⟨oc,od,.func (cx name qual params body scope dV kV Y pm an p ct),a0⟩) (a1:dZ K p qual=true) (S:FnScope N ps scope)
  (len:∀ vs H Q E,sp vs H Q E->vs.length=ps.length)
  (z:∀(A:aQ) (h:List Env) (s:af) (H:Hp) (vs:List V) (Q:VK) (E:XK),Room k (A.deeper (fx qual scope s.heap.objs.size f p))->sp vs H Q E ->
   ∃ t,PSs (aZ0 CX P w K mg base N qual scope f p A h s H E) body t/\t { nx:=λ _ H'=>Q .non H',rt:=Q } (ae7 N vs) H) :
  FnOk P w K mg base CX (k+1) f (cx name qual params body scope dV kV Y pm an p ct) ps sp:=by
 refine⟨len,λ A h s H args us vs Q E hr G hb r Z=>?_⟩
 have hl:=len _ _ _ _ Z
 have KX:K.In s.heap:=G.mod.kin.keeps λ b o e=>(G.bs b o e).1
 have a2:s.heap.NoLimit:=G.mod.nolimit.keeps λ b o e=>(G.bs b o e).1
 have F:∀ y∈ps.zip us,scope.names.lookup y.1=some .local\/(scope.names.lookup y.1=some .cell/\((aK (s.heap.objs.size+1) scope.names []).lookup y.1).isSome=true):=λ⟨n,v⟩ hy=>by
  rcases S.par n (dG hy).1 with q|q
  .exact .inl q
  .exact .inr ⟨q,gv _ _ _ (.inl q)⟩
 refine gY hr.depth (KX _ _ lk) rfl S.co S.gen rfl (PySem.W.codeRec_of KX a1) (hb _ _ _ _ ?_)
 refine wpAny_newFunctionEnv_cells S.kind F λ env he s1 x=>?_
 subst he
 refine⟨a2.keeps x.toInCall.keep,codeAny_func ?_⟩
 obtain⟨t,ht,hq⟩:=z A h s H vs Q E (hr.deeper _) Z
 have I:Inv (aZ0 CX P w K mg base N qual scope f p A h s H E) [] (ae7 N vs) H s1:=aU2 S hr.hd G hl r x
 refine bP (ht [] s1 (ae7 N vs) H _ I hq) (λ fl s' hs=>?_) λ e s' hs=>hs
 have fin:∀ {W':St} {H':Hp} {v:V} {u:Value},Inv (aZ0 CX P w K mg base N qual scope f p A h s H E) [] W' H' s'->RelV v u->Q v H'->CE h P w H s Q u s' :=
  λ {W' H' v u} J rv q=>⟨v,H',J.os,J.bare,J.base,J.hok,rv,q⟩
 cases fl with
 | ret u =>
  obtain⟨v,W',H',J,rv,q⟩:=hs
  exact fin J rv q
 | next =>
  obtain⟨W',H',J,q⟩:=hs
  exact fin (v:=V.non) (u:=Value.none) J rfl q
 | brk =>
  obtain⟨_,_,_,q⟩:=hs
  exact bM q
 | cont =>
  obtain⟨_,_,_,q⟩:=hs
  exact bM q
section
variable {X:Cx} {x:Str} {p pos:Pos} {e:Expr} {es:yL} {t:TA} {id T:String} {r:List V->Hp->VK->Prop}
def tCB (r:List V->Hp->VK->Prop)(t:TA):TE:=λ W H Q=>t W H λ vs H1=>r vs H1 Q
theorem ag3 (hc:aa6 X (.builtin id) r)(hg:Gl X x)(Z:X.mg x=none)(hv:bn x=some (.builtin id))(ha:PA X (e::es) t)(hn:x ≠ "__name__":=by decide)(G:(x==("__debug__":Str))=false:=by decide)
  (he:a7 (e::es) X.env=(false,eval e X.env)::a7 es X.env:=by rfl) (F:(cR pos (a7 es X.env)).any (·.1)=false:=by rfl):PE X (.Call (.Name x p) (e::es) [] pos) (tCB r t):=by
 intro z s W H Q I h
 refine cE (al5 I hg Z hv ?_ hn G)
 exact PyProof.Rows.callWith_builtin1 (thn (ha pos z s W H _ I h) λ us s1 ⟨vs,J,I1,r1,Y⟩=>hc z s1 W J vs us Q I1 r1 Y) he F
theorem ac1 (hc:aa6 X (.type T) r)(hg:Gl X x)(Z:X.mg x=none)(hv:bn x=some (.type T))(ha:PA X (e::es) t)(hn:x ≠ "__name__":=by decide)(G:(x==("__debug__":Str))=false:=by decide)
  (he:a7 (e::es) X.env=(false,eval e X.env)::a7 es X.env:=by rfl) (F:(cR pos (a7 es X.env)).any (·.1)=false:=by rfl):PE X (.Call (.Name x p) (e::es) [] pos) (tCB r t):=by
 intro z s W H Q I h
 refine cE (al5 I hg Z hv ?_ hn G)
 exact cw (thn (ha pos z s W H _ I h) λ us s1 ⟨vs,J,I1,r1,Y⟩=>hc z s1 W J vs us Q I1 r1 Y) he F
end
end L2
end
noncomputable section
namespace HT
open PySem PyProof.Rows
section
open PySem.SeqAt
open PySem.AutoSeq1 (wpAny_loadPart')
open PySem.MeetsSeq PySem.MeetsSeq2 PySem.MeetsSeq3
end
section
variable {prog:aB} {w:World} {A:aQ} {E:yB} {s:af}
theorem cat_tup {t b:Addr}{vs ws:yH}{Q:yB}(ht:IsTup s.heap t vs.toArray)(hb:IsTup s.heap b ws.toArray)(hv:vs≠[])
  (h1:ws=[]->Q (.ref t) s) (h2:ws≠[]->Q (.ref s.heap.objs.size) { s with heap:=s.heap.push { cls:=.type "tuple",data:=.seq (vs++ws).toArray } })
  (hsz:vs.length+ws.length<=aG):wpAny (model prog w) A (bQ .Add (.ref t) (.ref b)) Q E s:=by
 obtain⟨⟨cls,dd,data,sl⟩,ho,hc,n,hd⟩:=id ht
 obtain⟨⟨Z,p,J,z⟩,h,G,Y,F⟩:=id hb
 simp only at hc hd G F
 subst hc hd G F
 have e:vs.toArray++ws.toArray=(vs++ws).toArray:=by simp
 by_cases hw:ws=[]
 .exact jq ⟨_,ho,rfl⟩ ⟨_,h,rfl⟩ f8 iR d4 dP (dB _ _)
   (tuple_addW1 t b vs.toArray ws.toArray n Y dd p sl z (by simpa using hv) (by simp[hw])) ⟨ho,h,h1 hw⟩
 .refine jq ⟨_,ho,rfl⟩ ⟨_,h,rfl⟩ f8 iR d4 dP (dB _ _)
   (tuple_addW2 t b vs.toArray ws.toArray n Y dd p sl z (by simpa using hv) (by simpa using hw) (by rw[aw,aw];exact hsz)) ⟨ho,h,?_⟩
  rw[e]
  exact h2 hw
noncomputable def sIx (n d:Nat):Option Int->Nat
 | none=>d
 | some v=>if v<0 then(v+(n:Int)).toNat else min v.toNat n
theorem sIx_le (n d:Nat)(hd:d<=n)(o:Option Int):sIx n d o<=n:=by
 cases o with
 | none=>exact hd
 | some v =>
  show(if v<0 then(v+(n:Int)).toNat else min v.toNat n)<=n
  by_cases hv:v<0
  .rw[if_pos hv];omega
  .rw[if_neg hv];exact Nat.min_le_right _ _
theorem clip_eq (v:Int)(n d:Nat):(if v<0 then max (v+(n:Int)) 0 else min v (n:Int))=((sIx n d (some v):Nat):Int):=by
 show(if v<0 then max (v+(n:Int)) 0 else min v (n:Int))=(((if v<0 then(v+(n:Int)).toNat else min v.toNat n):Nat):Int)
 by_cases hv:v<0
 .simp only[if_pos hv];omega
 .simp only[if_neg hv];omega
theorem adjust_gen (p h:Option Int)(n:Nat):du p h 1 (n:Int)=(((sIx n 0 p:Nat):Int),((sIx n n h:Nat):Int)):=by
 have z:¬((1:Int)<0):=by omega
 unfold du
 simp only[z,if_false]
 refine Prod.ext ?_ ?_
 .cases p with
  | none=>rfl
  | some v=>exact clip_eq v n 0
 .cases h with
  | none=>rfl
  | some v=>exact clip_eq v n n
theorem places_gen (i j:Nat):cH (i:Int) (j:Int) 1=j - i:=by
 unfold cH
 have h:(1:Int) > 0:=by omega
 simp only[h,if_true,kI]
 split<;>omega
theorem slicePart_ {v:Value}{o:Option Int}{Q:Option Int->af->Prop}(p:fX v o)(h:Q o s):wpAny (model prog w) A (jT v) Q E s:=by
 cases p with
 | none=>exact slicePart_none h
 | int i t=>exact slicePart_int h
theorem sliceApplied_gen {sl:Addr}{vl vu:Value}{p G:Option Int}{n:Nat}{Q:Int×Int×Nat->af->Prop}(hs:s.heap.IsSliceOf sl vl vu .none)(pl:fX vl p)(pu:fX vu G)
  (h:Q (((sIx n 0 p:Nat):Int),1,sIx n n G - sIx n 0 p) s):wpAny (model prog w) A (fy (.ref sl) (pure (n:Int))) Q E s:=by
 obtain⟨os,z,J,F⟩:=id hs
 unfold fy kt
 refine aj (aj (dQ z F (x:=vl) rfl (aj (dQ z F (x:=vu) rfl (aj (dQ z F (x:=.none) rfl (ay ?_)))))))
 refine aj (slicePart_none ?_)
 show wpAny _ _ (if((1:Int)==0)=true then _ else _) _ _ s
 rw[if_neg (by decide)]
 refine aj (slicePart_ pl (aj (slicePart_ pu (aj (ay ?_)))))
 show wpAny _ _ (match du p G 1 (n:Int)with|(p,G)=>pure (p,(1:Int),cH p G 1)) _ _ s
 rw[adjust_gen p G n]
 show wpAny _ _ (pure (((sIx n 0 p:Nat):Int),(1:Int),cH ((sIx n 0 p:Nat):Int) ((sIx n n G:Nat):Int) 1)) _ _ s
 rw[places_gen]
 exact ay h
theorem pick_gen (h:yK)(i k:Nat):((aS k).filterMap λ(m:Nat)=>h[((i:Int)+(m:Int)*1).toNat]?).toArray=((h.toList.drop i).take k).toArray:=by
 have e:(λ(m:Nat)=>h[((i:Int)+(m:Int)*1).toNat]?)=λ m=>h[i+m]?:=by
  funext m
  have:((i:Int)+(m:Int)*1).toNat=i+m:=by omega
  rw[this]
 rw[e]
 have:=pick_run h i k
 rw[List.filterMap_map]at this
 have e2:((λ x=>h[x]?) ∘ λ x=>i+x)=λ m=>h[i+m]?:=rfl
 rw[e2]at this
 rw[this]
theorem getItem_tuple_cut {t sl:Addr}{p:yK}{vl vu:Value}{F G:Option Int}{Q:yB}(ht:IsTup s.heap t p)(hs:s.heap.IsSliceOf sl vl vu .none)(pl:fX vl F)(pu:fX vu G)
  (hw:¬(sIx p.size 0 F=0/\sIx p.size p.size G=p.size))
  (h:Q (.ref s.heap.objs.size) { s with heap:=s.heap.push { cls:=.type "tuple",data:=.seq ((p.toList.drop (sIx p.size 0 F)).take (sIx p.size p.size G - sIx p.size 0 F)).toArray } })
  (hsz:p.size<=aG):wpAny (model prog w) A (gA (.ref t) (.ref sl)) Q E s:=by
 have z:sizeOk (.seq ((p.toList.drop (sIx p.size 0 F)).take (sIx p.size p.size G - sIx p.size 0 F)).toArray):=by
  show((p.toList.drop (sIx p.size 0 F)).take (sIx p.size p.size G - sIx p.size 0 F)).toArray.size<=aG
  rw[aw,bK,cT,cr]
  omega
 have hj:sIx p.size p.size G<=p.size:=sIx_le _ _ (ai _) G
 obtain⟨os,J,Z,a1⟩:=id hs
 have a0:s.TypeIs (.ref sl) "slice":=⟨os,J,Z⟩
 unfold gA
 try with_reducible refine eN ?_
 first|refine aj (ay ?_)|skip
 refine aj (jr ht.typeIs (by decide) ?_)
 refine aj (cU (name:=bX "__getitem__") ht.typeIs br
  (cA br ht.typeIs iG ?_ (i9 _ _)))
 show wpAny _ _ (cB (.ref t) >>= _) _ _ s
 refine aj (iT ht ?_)
 refine aj (gB a0 ?_)
 rw[if_pos (by decide)]
 refine aj (sliceApplied_gen hs pl pu ?_)
 have Y:¬((((sIx p.size 0 F:Nat):Int)==0&&(1:Int)==1&&(sIx p.size p.size G - sIx p.size 0 F)==p.size)=true):=by
  intro q
  rw[ag,ag]at q
  have q1:((sIx p.size 0 F:Nat):Int)=0:=eq_of_beq q.1.1
  have q2:sIx p.size p.size G - sIx p.size 0 F=p.size:=eq_of_beq q.2
  exact hw ⟨by omega,by omega⟩
 show wpAny _ _ (if(((sIx p.size 0 F:Nat):Int)==0&&(1:Int)==1&&(sIx p.size p.size G - sIx p.size 0 F)==p.size)=true then _ else _) _ _ s
 rw[if_neg Y,pick_gen]
 first
  | exact aj (m:=cP _) (bF (ay ⟨_,rfl,ay h⟩) z)
  | exact aj (m:=cP _) (bF (aj (ay (ay ⟨_,rfl,ay h⟩))) z)
  | exact aj (aj (m:=cP _) (bF (ay (ay ⟨_,rfl,ay h⟩)) z))
  | exact aj (aj (m:=cP _) (bF (ay ⟨_,rfl,ay h⟩) z))
end
end HT
noncomputable section
namespace L2
open PySem PySem.Spec PyProof.Rows
abbrev TO:=St->Hp->(Option Int->Hp->Prop)->Prop
def PO (X:Cx)(e:Option Expr)(t:TO):Prop :=
 ∀(pins:yA) (s:af) (W:St) (H:Hp) (Q:Option Int->Hp->Prop),Inv X pins W H s->t W H Q ->
  wpAny (model X.prog X.w) X.A (evalPart e X.env) (λ u s'=>∃ o H',Inv X pins W H' s'/\fX u o/\Q o H') X.xe s
noncomputable def aA7:TO:=λ _ H Q=>Q none H
noncomputable def aN2 (t:TE):TO:=λ W H Q=>t W H λ x H1=>∃ i,x=.int i/\Q (some i) H1
theorem aK5 {ns:List Int}:∀ {us:yH},Vals (ns.map V.int) us->jt us ns:=by
 induction ns with
 | nil=>intro us r;rw[cX]at r;cases r;exact .nil
 | cons n ns ih =>
  intro us r
  rw[a9]at r
  cases r with
  | cons r1 r2 =>
   obtain⟨t,e⟩:=r1
   subst e
   exact .cons n t (ih r2)
section
variable {X:Cx} {e:Expr} {te:TE} {lo hi:Option Expr} {tl th:TO} {pos p2:Pos}
theorem aV4:PO X none aA7:=by
 intro p s W H Q I h
 rw[evalPart_none]
 exact ay ⟨none,H,I,.none,h⟩
theorem ao8 (h:PE X e te):PO X (some e) (aN2 te):=by
 intro p s W H Q I hw
 rw[evalPart_some]
 refine thn (h p s W H _ I hw) λ u s1 ⟨x,z,F,r1,G⟩=>?_
 obtain⟨i,rfl,q⟩:=G
 obtain⟨t,rfl⟩:=r1
 exact⟨some i,z,F,.int i t,q⟩
def SlR (X:Cx)(r:V->Option Int->Option Int->Hp->VK->Prop):Prop :=
 ∀(pins:yA) (s:af) (W:St) (H:Hp) (x:V) (v vl vu:Value) (lo hi:Option Int) (sl:Addr) (Q:VK),Inv X pins W H s->RelV x v->s.heap.IsSliceOf sl vl vu .none->fX vl lo->fX vu hi->r x lo hi H Q ->
  ∃ T id,typeLookup (.type T) "__getitem__"=pure (some (.builtin id))/\s.TypeIs v T/\wpAny (model X.prog X.w) X.A (gA v (.ref sl)) (EP X pins W Q) X.xe s
def tSl (r:V->Option Int->Option Int->Hp->VK->Prop)(te:TE)(tl th:TO):TE:=λ W H Q=>te W H λ x H1=>tl W H1 λ l H2=>th W H2 λ u H3=>r x l u H3 Q
theorem an9 {r:V->Option Int->Option Int->Hp->VK->Prop}(hr:SlR X r)(he:PE X e te)(hl:PO X lo tl)(hu:PO X hi th):PE X (.Subscript e (.Slice lo hi none p2) pos) (tSl r te tl th):=by
 intro p s W H Q I h
 refine Subscript_ (thn (he p s W H _ I h) λ v s1 ⟨x,Z,J,r1,q1⟩=>?_)
 refine wpAny_Slice (thn (hl p s1 W Z _ J q1) λ vl s2 ⟨l,H2,Y,pl,q2⟩=>thn (hu p s2 W H2 _ Y q2) λ vu s3 ⟨u,z,G,pu,q3⟩=>?_)
 rw[evalPart_none]
 refine ay ?_
 have F:Inv X p W z { s3 with heap:=s3.heap.push { cls:=.type "slice",data:=.fields #[vl,vu,.none] } }:=G.kept (t':=s3.toks) λ b ob q=>ao _ q
 obtain⟨T,id,hT,ht,hg⟩:=hr p { s3 with heap:=s3.heap.push { cls:=.type "slice",data:=.fields #[vl,vu,.none] } } W z x v vl vu l u s3.heap.objs.size Q F r1 (k7 ..) pl pu q3
 show wpAny (model X.prog X.w) X.A (subscriptTail e (.Slice lo hi none p2) v (.ref s3.heap.objs.size)) (EP X p W Q) X.xe { s3 with heap:=s3.heap.push { cls:=.type "slice",data:=.fields #[vl,vu,.none] } }
 exact ka (ops:=[.ref s3.heap.objs.size,v]) ht hT hg (by with_unfolding_all rfl)
noncomputable def aI6 (xs:List V)(lo hi:Option Int):List V:=(xs.drop (HT.sIx xs.length 0 lo)).take (HT.sIx xs.length xs.length hi - HT.sIx xs.length 0 lo)
theorem aj9 (h:List V)(z p:Option Int):(aI6 h z p).length<=h.length:=by
 unfold aI6
 rw[bK,cT]
 omega
def cc5 (K:ae):V->Option Int->Option Int->Hp->VK->Prop:=λ x lo hi H Q=>∃ a xs,x=.ref a/\SqT K H a xs /\
 ¬(HT.sIx xs.length 0 lo=0/\HT.sIx xs.length xs.length hi=xs.length)/\∀ p,H p=none->Q (.ref p) (upd H p (.tup (aI6 xs lo hi)))
theorem bI0:SlR X (cc5 X.K):=by
 intro J s W H x v vl vu F G sl Q I Y hs pl pu h
 obtain⟨a,z,rfl,hx,hw,q⟩:=h
 cases Y
 obtain⟨its,r,ht,hz⟩:=I.tuple hx
 have p:its.toArray.size=z.length:=by rw[aw];exact r.length.symm
 refine⟨"tuple",_,br.lookup,ht.typeIs,?_⟩
 refine HT.getItem_tuple_cut ht hs pl pu (by rw[p];exact hw) ?_ (by rw[p];exact hz)
 rw[p]
 refine⟨.ref s.heap.objs.size,_,I.laid (t':=s.toks) (o:=.tup (aI6 z F G)) (λ b ob q=>ao _ q) (ai _) ?_,rfl,q _ (I.hok.fresh (ai _))⟩
 exact⟨ak (aj9 z F G) hz,_,(r.drop (HT.sIx z.length 0 F)).take (HT.sIx z.length z.length G - HT.sIx z.length 0 F),jH _ _⟩
def bT9 (K:ae):R2:=λ x y H Q=>∃ a b xs ys,x=.ref a/\y=.ref b/\SqT K H a xs/\SqT K H b ys/\xs≠[]/\xs.length+ys.length<=aG /\
 (ys=[]->Q (.ref a) H)/\(ys≠[]->∀ p,H p=none->Q (.ref p) (upd H p (.tup (xs++ys))))
theorem Vals.nil_iff {h:List V}{us:yH}(r:Vals h us):us=[]↔h=[]:=by
 cases r with
 | nil=>simp
 | cons _ _=>simp
theorem bq6:OpR X (bQ .Add) (bT9 X.K):=by
 intro G s W H x y v u Q I Y ry h
 obtain⟨a,b,xs,ys,rfl,rfl,ha,hb,hx,hz,Z,q2⟩:=h
 cases Y
 cases ry
 obtain⟨its,r1,p1,_⟩:=I.tuple ha
 obtain⟨F,p,J,_⟩:=I.tuple hb
 refine HT.cat_tup p1 J (λ z=>hx (r1.nil_iff.mp z)) (λ z=>⟨.ref a,H,I,rfl,Z (p.nil_iff.mp z)⟩) (λ z=>?_) (by rw[<-r1.length,<-p.length];exact hz)
 refine⟨.ref s.heap.objs.size,_,I.laid (t':=s.toks) (o:=.tup (xs++ys)) (λ b ob q=>ao _ q) (ai _) ?_,rfl,q2 (λ w=>z (p.nil_iff.mpr w)) _ (I.hok.fresh (ai _))⟩
 exact⟨by rw[ar];exact hz,_,r1.append p,jH _ _⟩
end
noncomputable def ixN (n:Nat)(i:Int):Option Nat:=if 0<=i then(if i<n then some i.toNat else none)else if -(n:Int)<=i then some (i+n).toNat else none
noncomputable def atI {α:Type}(xs:List α)(i:Int):Option α:=(ixN xs.length i).bind λ j=>xs[j]?
theorem aV1 {n:Nat}{i:Int}{j:Nat}(h:ixN n i=some j):seqIndex? i n=some j/\j<n/\-(n:Int)<=i/\i<n:=by
 unfold ixN at h
 by_cases h0:0<=i
 .rw[if_pos h0]at h
  by_cases h1:i<n
  .rw[if_pos h1]at h
   have e:i.toNat=j:=av h
   exact⟨by rw[jM h0 h1,e],by omega,by omega,h1⟩
  .rw[if_neg h1]at h;cases h
 .rw[if_neg h0]at h
  by_cases h1:-(n:Int)<=i
  .rw[if_pos h1]at h
   have e:(i+n).toNat=j:=av h
   exact⟨by rw[ju (by omega) h1,e],by omega,h1,by omega⟩
  .rw[if_neg h1]at h;cases h
theorem az6 {α:Type}{p:List α}{i:Int}{v:α}(h:atI p i=some v):∃ j,seqIndex? i p.length=some j/\p[j]?=some v/\j<p.length/\-(p.length:Int)<=i/\i<p.length:=by
 unfold atI at h
 cases e:ixN p.length i with
 | none=>rw[e]at h;cases h
 | some j =>
  rw[e]at h
  obtain⟨z,G,h3,F⟩:=aV1 e
  exact⟨j,z,h,G,h3,F⟩
def aM2 (b:Expr):Prop:=∀ o i,subscripted b false o i=operate [o,i] (gA o i)
def IxR (X:Cx)(r:R2):Prop :=
 ∀(value slice:Expr) (pins:yA) (s:af) (W:St) (H:Hp) (x y:V) (v u:Value) (Q:VK),Inv X pins W H s->RelV x v->RelV y u->r x y H Q ->
  subscripted slice false v u=operate [v,u] (gA v u)->wpAny (model X.prog X.w) X.A (subscriptTail value slice v u) (EP X pins W Q) X.xe s
def MtR (X:Cx)(id:String)(r:V->List V->Hp->VK->Prop):Prop :=
 ∀(pins:yA) (s:af) (W:St) (H:Hp) (x:V) (xs:List V) (v:Value) (us:yH) (Q:VK),Inv X pins W H s->RelV x v->Vals xs us->r x xs H Q ->
  wpAny (model X.prog X.w) X.A (call (.builtin id) (v::us)) (EP X pins W Q) X.xe s
section
variable {X:Cx} {a b:Expr} {ta tb:TE} {pos:Pos}
theorem bX2 {r:R2}(hr:IxR X r)(ha:PE X a ta)(hb:PE X b tb)(hs:aM2 b):PE X (.Subscript a b pos) (tOp r ta tb):=by
 intro p s W H Q I h
 exact Subscript_ (bX9 ha hb I h λ v u s2 x y F G J z q=>hr a b p s2 W F x y v u Q G J z q (hs _ _))
def cb8 (K:ae):R2:=λ x y H Q=>∃ p xs i v,x=.ref p/\y=.int i/\SqL K H p xs/\atI xs i=some v/\Q v H
def cb7 (K:ae):R2:=λ x y H Q=>∃ p xs i v,x=.ref p/\y=.int i/\SqT K H p xs/\atI xs i=some v/\Q v H
def cd9:R2:=λ x y H Q=>∃ z i c,x=.str z/\y=.int i/\z.length<=aG/\atI z.cps.toList i=some c/\Q (.str ⟨#[c]⟩) H
theorem bz9:IxR X (cb8 X.K):=by
 intro J Y F s W H x y v u Q I rx ry h hs
 obtain⟨p,xs,i,z,rfl,rfl,hq,he,q⟩:=h
 cases rx
 obtain⟨t,rfl⟩:=ry
 obtain⟨its,r,pl,hz⟩:=I.list hq
 obtain⟨j,G,h2,h3,h4,h5⟩:=az6 he
 obtain⟨w,ew,Z⟩:=r.get h2
 have hl:=r.length
 have hn:=ak0
 have fin:EP X F W Q w s:=⟨z,H,I,Z,q⟩
 by_cases h0:0<=i
 .have hj:i.toNat=j:=by
   rw[jM h0 h5]at G
   exact av G
  exact item_listR pl.isList h0 (by omega) (by rw[hj];simpa using ew) fin hs
 .have hj:(i+(its.toArray.size:Int)).toNat=j:=by
   rw[ju (by omega) h4]at G
   rw[aw,<-hl]
   exact av G
  exact gC (x:=w) pl.isList.typeIs jv.lookup
   (wpAny_getItem_list_neg (Q:=λ r s'=>r=w/\EP X F W Q r s') pl.isList (by omega) (by rw[aw]<;>omega) (by omega) (by rw[hj];simpa using ew) ⟨rfl,fin⟩) hs
theorem ix_tup:IxR X (cb7 X.K):=by
 intro G J F s W H x y v u Q I rx ry h hs
 obtain⟨p,xs,i,z,rfl,rfl,hq,he,q⟩:=h
 cases rx
 obtain⟨t,rfl⟩:=ry
 obtain⟨its,r,pl,hz⟩:=I.tuple hq
 obtain⟨j,h1,h2,h3,h4,h5⟩:=az6 he
 obtain⟨w,Z,Y⟩:=r.get h2
 have hl:=r.length
 have hn:=ak0
 have fin:EP X F W Q w s:=⟨z,H,I,Y,q⟩
 exact gC (x:=w) pl.typeIs br.lookup
  (getItem_tuple (j:=j) (Q:=λ r s'=>r=w/\EP X F W Q r s') pl (by omega) (by omega) (by rw[aw,<-hl];exact h1) (by simpa using Z) ⟨rfl,fin⟩) hs
theorem ix_str:IxR X cd9:=by
 intro p F G s W H x y v u Q I Z ry h hs
 obtain⟨z,i,c,rfl,rfl,hz,he,q⟩:=h
 obtain⟨t,rfl⟩:=Z
 obtain⟨t',rfl⟩:=ry
 obtain⟨j,J,h2,h3,Y,h5⟩:=az6 he
 have hl:z.cps.toList.length=z.length:=by simp[Str.length]
 rw[hl]at J Y h5
 have hn:=ak0
 exact ka (ke s z t) slot_str_getitem.lookup (getItem_str (c:=c) (by
  have e1:decide (i < -(2^63:Int))=false:=decide_eq_false (by omega)
  have e2:decide (i ≥ 2^63)=false:=decide_eq_false (by omega)
  rw[e1,e2,kB]) (by rw[J];simpa using h2) ⟨.str ⟨#[c]⟩,H,I.tok _,⟨_,rfl⟩,q⟩) hs
theorem aI7 (its:yH)(n j:Nat)(u:Value):gD (·.setIfInBounds j u) { cls:=.type "list",data:=.seq its.toArray n }={ cls:=.type "list",data:=.seq (its.set j u).toArray n }:=by
 simp[gD]
theorem Inv.lst {F:yA}{W:St}{H:Hp}{s:af}{p:Addr}{G:List V}(I:Inv X F W H s)(h:H p=some (.lst G)) :
  ∃(its:yH) (n:Nat),Vals G its/\s.heap.get? p=some { cls:=.type "list",data:=.seq its.toArray n }/\G.length<=aG:=by
 obtain⟨z,its,n,r,e⟩:=I.hok p _ h
 exact⟨its,n,r,e,z⟩
theorem Inv.lstUpd {z:yA}{W:St}{H:Hp}{s:af}{p:Addr}{J ys:List V}{its its':yH}{n F:Nat}{f:Obj->Obj}(I:Inv X z W H s)(h:H p=some (.lst J))
  (ho:s.heap.get? p=some { cls:=.type "list",data:=.seq its.toArray n }) (G:f { cls:=.type "list",data:=.seq its.toArray n }={ cls:=.type "list",data:=.seq its'.toArray F }) (r:Vals ys its') (hz:ys.length<=aG) (t:Nat) :
  Inv X z W (upd H p (.lst ys)) { s with heap:=s.heap.update p f,toks:=t }:=by
 have e:(s.heap.update p f).get? p=some { cls:=.type "list",data:=.seq its'.toArray F }:=by
  rw[gZ f ho (by rw[G]<;>rfl),G]
 refine I.write (x:=p) (e:=p) (by rw[h];trivial) (.inl rfl) (λ b u hb q=>(gE _ _ (bS hb)).trans q) ⟨_,e⟩ ?_
 exact⟨hz,its',F,r,e⟩
def bT8:V->V->V->Hp->(Hp->Prop)->Prop:=λ o i v H Q=>∃ p xs k j,o=.ref p/\i=.int k/\H p=some (.lst xs)/\ixN xs.length k=some j/\Q (upd H p (.lst (xs.set j v)))
theorem be9:bW6 X bT8:=by
 intro z s W H o i v ov iv u Q I ro Z rv h
 obtain⟨p,xs,k,j,rfl,rfl,Y,hj,q⟩:=h
 cases ro
 obtain⟨t,rfl⟩:=Z
 obtain⟨its,n,r,ho,hz⟩:=I.lst Y
 obtain⟨F,h2,h3,G⟩:=aV1 hj
 have hl:=r.length
 have hn:=ak0
 have J:Inv X z W (upd H p (.lst (xs.set j v))) { s with heap:=s.heap.update p (gD (·.setIfInBounds j u)) } :=
  I.lstUpd Y ho (aI7 its n j u) (r.set rv j) (by rw[aW];exact hz) s.toks
 by_cases h0:0<=k
 .have hk:k.toNat=j:=by
   rw[jM h0 G]at F
   exact av F
  exact PySem.W.ki_setAt ho h0 (by omega) (by rw[aw,<-hl];exact G) (by rw[hk];exact⟨_,J,q⟩)
 .have hk:(k+(its.toArray.size:Int)).toNat=j:=by
   rw[ju (by omega) h3]at F
   rw[aw,<-hl]
   exact av F
  exact PySem.W.ki_setBack ho (by omega) (by rw[aw,<-hl];exact h3) (by omega) (by rw[hk];exact⟨_,J,q⟩)
theorem at9 (z p:Option Int)(n:Nat):(dR z p none n).1=((HT.sIx n 0 z:Nat):Int)/\(dR z p none n).2.1=((HT.sIx n n p:Nat):Int)/\(dR z p none n).2.2=1:=by
 refine⟨?_,?_,rfl⟩
 .cases z with
  | none=>simp[dR,HT.sIx]
  | some i =>
   simp only[dR,HT.sIx,jI,show(1:Int) > 0 by decide,if_true]
   by_cases h:i<0
   .simp only[h,if_true]<;>omega
   .simp only[h,if_false]<;>omega
 .cases p with
  | none=>simp[dR,HT.sIx]
  | some i =>
   simp only[dR,HT.sIx,jI,show(1:Int) > 0 by decide,if_true]
   by_cases h:i<0
   .simp only[h,if_true]<;>omega
   .simp only[h,if_false]<;>omega
theorem ao4 (its:yH)(h p:Option Int):slicePick its.toArray h p none=((its.drop (HT.sIx its.length 0 h)).take (HT.sIx its.length its.length p - HT.sIx its.length 0 h)).toArray:=by
 obtain⟨z,F,h3⟩:=at9 h p its.toArray.size
 unfold slicePick
 rw[z,F,h3]
 simp only[sliceRange_one,pick_run,aw]<;>rfl
def ca1 (K:ae):V->Option Int->Option Int->Hp->VK->Prop:=λ x lo hi H Q=>∃ a xs,x=.ref a/\SqL K H a xs/\∀ p,H p=none->Q (.ref p) (upd H p (.lst (aI6 xs lo hi)))
theorem bo6:SlR X (ca1 X.K):=by
 intro J s W H x v vl vu F G sl Q I Y hs pl pu h
 obtain⟨a,p,rfl,hx,q⟩:=h
 cases Y
 obtain⟨its,r,ht,hz⟩:=I.list hx
 have z:=r.length
 refine⟨"list",_,jv.lookup,ht.isList.typeIs,?_⟩
 refine wpAny_getItem_list_slice ht.isList hs pl pu .none (by simp) ?_ (by rw[aw]<;>omega)
 rw[ao4,<-z]
 refine⟨.ref s.heap.objs.size,_,I.laid (t':=s.toks) (o:=.lst (aI6 p F G)) (λ b ob q=>ao _ q) (ai _) ?_,rfl,q _ (I.hok.fresh (ai _))⟩
 exact⟨ak (aj9 p F G) hz,_,0,(r.drop (HT.sIx p.length 0 F)).take (HT.sIx p.length p.length G - HT.sIx p.length 0 F),aX _ rfl⟩
theorem aq9:aa6 X (.builtin "len") (λ F H Q=>∃ p ys,F=[.ref p]/\(SqL X.K H p ys\/SqT X.K H p ys)/\Q (.int ys.length) H):=by
 intro G s W H F us Q I r h
 obtain⟨p,ys,rfl,hq,q⟩:=h
 obtain⟨u,rfl,J⟩:=qv r
 cases J
 have hn:=ak0
 rcases hq with hq|hq
 .obtain⟨its,r',pl,hz⟩:=I.list hq
  have z:=r'.length
  exact Calls.call_len_list pl.isList (by simp only[aw]<;>omega) ⟨.int ys.length,H,I.tok _,⟨s.toks+1,by rw[aw,z]⟩,q⟩
 .obtain⟨its,r',pl,hz⟩:=I.tuple hq
  have z:=r'.length
  exact len_tuple pl (by simp only[aw]<;>omega) ⟨.int ys.length,H,I.tok _,⟨s.toks+1,by rw[aw,z]⟩,q⟩
theorem as7:aa6 X (.builtin "len") (λ p H Q=>∃ z,p=[.str z]/\z.length<=aG/\Q (.int z.length) H):=by
 intro F s W H p us Q I r h
 obtain⟨z,rfl,hz,q⟩:=h
 obtain⟨u,rfl,t,rfl⟩:=qv r
 have hn:=ak0
 exact len_str (by omega) ⟨.int z.length,H,I.tok _,⟨_,rfl⟩,q⟩
theorem aa6.or {f:Value}{r r':List V->Hp->VK->Prop}(h:aa6 X f r)(h':aa6 X f r'):aa6 X f (λ z H Q=>r z H Q\/r' z H Q):=by
 intro p s W H z us Q I F q
 rcases q with q|q
 .exact h p s W H z us Q I F q
 .exact h' p s W H z us Q I F q
theorem au4:aa6 X (.type "list") (λ Y H Q=>∃ p ys,Y=[.ref p]/\(SqL X.K H p ys\/SqT X.K H p ys)/\∀ l,H l=none->Q (.ref l) (upd H l (.lst ys))):=by
 intro G s W H Y us Q I r h
 obtain⟨p,ys,rfl,hq,q⟩:=h
 obtain⟨u,rfl,Z⟩:=qv r
 cases Z
 have fin:∀(its:yH),Vals ys its->ys.length<=aG->∀(h':Heap) (z:Nat),(∀ b J,s.heap.get? b=some J->h'.get? b=some J) ->
   h'.get? s.heap.objs.size=some { cls:=.type "list",dict:=none,data:=.seq its.toArray z,slots:=#[] }->EP X G W Q (.ref s.heap.objs.size) { s with heap:=h' }:=λ its r' hz h' z kp e =>
  ⟨.ref s.heap.objs.size,_,I.laid (t':=s.toks) kp (ai _) (show aa4 X.prog X.w _ h' _ (.lst ys)from⟨hz,its,z,r',e⟩),rfl,q _ (I.hok.fresh (ai _))⟩
 rcases hq with hq|hq
 .obtain⟨its,r',pl,hz⟩:=I.list hq
  have F:=r'.length
  obtain⟨o,ho,hc,n,hd⟩:=pl.isList
  exact call_list_seq p (.inl rfl) ho hc hd (λ h' z kp e=>fin its r' hz h' z kp e) (by simp only[aw]<;>omega)
 .obtain⟨its,r',pl,hz⟩:=I.tuple hq
  have F:=r'.length
  obtain⟨o,ho,hc,n,hd⟩:=pl
  exact call_list_seq p (.inr rfl) ho hc hd (λ h' z kp e=>fin its r' hz h' z kp e) (by simp only[aw]<;>omega)
theorem an2:aa6 X (.type "tuple") (λ J H Q=>∃ p ys,J=[.ref p]/\((SqL X.K H p ys/\∀ l,H l=none->Q (.ref l) (upd H l (.tup ys)))\/(SqT X.K H p ys/\Q (.ref p) H))):=by
 intro z s W H J us Q I r h
 obtain⟨p,ys,rfl,h⟩:=h
 obtain⟨u,rfl,Z⟩:=qv r
 cases Z
 rcases h with⟨hq,q⟩|⟨hq,q⟩
 .obtain⟨its,r',pl,hz⟩:=I.list hq
  have F:=r'.length
  refine call_tuple_list pl.isList (λ h' kp=>?_) (by simp only[aw]<;>omega)
  have G:Inv X z W H { s with heap:=h' }:=I.kept (t':=s.toks) kp
  have Y:Inv X z W (upd H h'.objs.size (.tup ys)) { s with heap:=h'.push { cls:=.type "tuple",data:=.seq its.toArray } } :=
   G.laid (t':=s.toks) (λ b o e=>ao _ e) (ai _) (show aa4 X.prog X.w _ _ _ (.tup ys)from⟨hz,its,r',jH _ _⟩)
  exact⟨.ref h'.objs.size,_,Y,rfl,q _ (G.hok.fresh (ai _))⟩
 .obtain⟨its,r',pl,hz⟩:=I.tuple hq
  exact call_tuple_same pl ⟨.ref p,H,I,rfl,q⟩
def tyV (K:ae)(T:String)(x:V)(H:Hp):Prop:=match x with
 | .str _=>T = "str"
 | .int _=>T = "int"
 | .ref p=>(T = "list"/\∃ xs,SqL K H p xs)\/(T = "tuple"/\∃ o,K.lookup p=some o/\o.cls=.type "tuple"/\o.dict=none) \/
   (T = "dict"/\((∃ kvs,H p=some (.dK kvs))\/∃ kvs,H p=some (.dT kvs)))\/(T = "set"/\∃ S n,H p=some (.set S n))
 | _=>False
theorem bl5 {h:yA}{W:St}{H:Hp}{s:af}{T:String}{x:V}{v:Value}(I:Inv X h W H s)(r:RelV x v)(F:tyV X.K T x H) :
  s.TypeIs v T/\∀ a,v=.ref a->∃ ob,s.heap.get? a=some ob/\ob.dict=none:=by
 cases x with
 | str z =>
  obtain⟨t,rfl⟩:=r
  cases(show T = "str" from F)
  exact⟨ke s z t,λ _ e=>nomatch e⟩
 | int i =>
  obtain⟨t,rfl⟩:=r
  cases(show T = "int" from F)
  exact⟨fA s i t,λ _ e=>nomatch e⟩
 | ref p =>
  cases r
  rcases F with⟨rfl,G,hq⟩|⟨rfl,o,hk,hc,hd⟩|⟨rfl,hk⟩|⟨rfl,S,n,hk⟩
  .obtain⟨its,_,pl,_⟩:=I.list hq
   refine⟨pl.isList.typeIs,λ a e=>?_⟩
   cases e
   obtain⟨o,n,e,c,hd,_⟩:=pl
   exact⟨o,e,hd⟩
  .refine⟨⟨o,I.kIn p o hk,hc⟩,λ a e=>?_⟩
   cases e
   exact⟨o,I.kIn _ o hk,hd⟩
  .have z:∃ o,s.heap.get? p=some o/\o.ExactDict:=by
    rcases hk with⟨kvs,hk⟩|⟨kvs,hk⟩
    .obtain⟨_,_,_,_,o,_,_,e,ex,_⟩:=I.hok p _ hk
     exact⟨o,e,ex⟩
    .obtain⟨_,_,_,_,o,_,_,e,ex,_⟩:=I.hok p _ hk
     exact⟨o,e,ex⟩
   obtain⟨o,e,ex⟩:=z
   refine⟨⟨o,e,ex.1⟩,λ a e2=>?_⟩
   cases e2
   exact⟨o,e,ex.2.1⟩
  .obtain⟨o,_,_,_,e,ex,_⟩:=I.hok p _ hk
   refine⟨⟨o,e,ex.1⟩,λ a e2=>?_⟩
   cases e2
   exact⟨o,e,ex.2.1⟩
 | _=>exact bM F
def cb1 (K:ae)(T:String)(r:V->List V->Hp->VK->Prop)(to:TE):TE:=λ W H Q=>to W H λ x H1=>tyV K T x H1/\r x [] H1 Q
def tBM (K:ae)(T:String)(r:V->List V->Hp->VK->Prop)(to:TE)(t:TA):TE:=λ W H Q=>to W H λ x H1=>tyV K T x H1/\t W H1 λ xs H2=>r x xs H2 Q
variable {o e:Expr} {es:yL} {to:TE} {t:TA} {name:Str} {apos cpos:Pos} {T id:String} {r:V->List V->Hp->VK->Prop}
theorem bk7 (pa:kg T)(slot:Slot T name id)(G:typeOf (.builtin id)=pure (.type "method_descriptor"))(hm:MtR X id r)(ho:PE X o to)
  (F:dz o name X.env (eval o X.env)=eval o X.env:=by rfl) (z:(apos.endLine==cpos.line)=true:=by rfl):PE X (.Call (.Attribute o name apos) [] [] cpos) (cb1 X.K T r to):=by
 intro p s W H Q I h
 refine wpAny_Call_method0_late F z (thn (ho p s W H _ I h) λ v s1 ⟨x,Y,J,r1,Z,q1⟩=>?_)
 obtain⟨h1,h2⟩:=bl5 J r1 Z
 exact⟨T,id,pa,slot,G,h1,h2,gF rfl (PySem.evalArgs_none (hm p s1 W Y x [] v [] Q J r1 .nil q1))⟩
theorem bW0 (pa:kg T)(slot:Slot T name id)(Y:typeOf (.builtin id)=pure (.type "method_descriptor"))(hm:MtR X id r)(ho:PE X o to)(ha:PA X (e::es) t)
  (G:dz o name X.env (eval o X.env)=eval o X.env:=by rfl)
  (J:((cR cpos (a7 (e::es) X.env)).all (λ x=>!x.1)&&(fw cpos (di [] X.env)).all (λ x=>x.1.isSome)
   && decide ((e::es).length+([]:List fM).length+(if([]:List fM).isEmpty then 0 else 1)<30))=true:=by rfl)
  (F:(apos.endLine==cpos.line)=true:=by rfl) (hs:a7 (e::es) X.env=(false,eval e X.env)::a7 es X.env:=by rfl) (z:(cR cpos (a7 es X.env)).any (·.1)=false:=by rfl) :
  PE X (.Call (.Attribute o name apos) (e::es) [] cpos) (tBM X.K T r to t):=by
 intro p s W H Q I h
 refine wpAny_Call_method_late G J F rfl (thn (ho p s W H _ I h) λ v s1 ⟨x,H1,Z,r1,ty,q1⟩=>?_)
 obtain⟨h1,h2⟩:=bl5 Z r1 ty
 refine⟨T,id,pa,slot,Y,h1,h2,?_⟩
 have hA:=ha cpos p s1 W H1 _ Z q1
 rw[hs]at hA ⊢
 refine gF (by show(false||(cR cpos (a7 es X.env)).any (·.1))=false;rw[z]<;>rfl) (Calls.evalArgs_plain ?_)
 exact thn hA λ us s2 ⟨vs,H2,I2,r2,q2⟩=>hm p s2 W H2 x vs v us Q I2 r1 r2 q2
end
def MtM (X:Cx)(id:String)(r:V->List V->Hp->VK->Prop):Prop :=
 ∀(pins:yA) (s:af) (W:St) (H:Hp) (x:V) (xs:List V) (v:Value) (us:yH) (Q:VK),Inv X pins W H s->RelV x v->Vals xs us->r x xs H Q ->
  wpAny (model X.prog X.w) X.A (call (.builtin id) (v::us)) (EP X pins W Q) X.xe s
theorem Vals.one:∀ {x:V} {us:yH},Vals [x] us->∃ u,us=[u]/\RelV x u
 | _,_,.cons r .nil=>⟨_,rfl,r⟩
theorem Vals.zero:∀ {us:yH},Vals [] us->us=[]
 | _,.nil=>rfl
theorem Vals.rep {p:List V}{us:yH}(h:Vals p us):∀ k:Nat,Vals (aq k p).flatten (aq k us).flatten
 | 0=>.nil
 | k+1=>by
  rw[bE,bE,cK,cK]
  exact Vals.append h (Vals.rep h k)
theorem au2 (its:yH):∀(k:Nat) (h:yH),
  kh (λ x1 x2=>x1++x2) h.toArray (aq k its.toArray)=(h++(aq k its).flatten).toArray
 | 0,h=>by simp
 | k+1,h=>by
  have e:h.toArray++its.toArray=(h++its).toArray:=by simp
  have e2:(h++its)++(aq k its).flatten=h++(aq (k+1) its).flatten:=by
   rw[bE,cK,bo]
  rw[<-e2,<-au2 its k (h++its),<-e,bE,dH]
section
variable {X:Cx} {pins:yA} {W:St} {H:Hp} {s:af} {l b:Addr} {xs ys zs:List V}
theorem Inv.lset {its its':yH}{n:Nat}{f:Array Value->Array Value}{t':Nat}(I:Inv X pins W H s)(p:H l=some (.lst xs))
  (e:s.heap.get? l=some { cls:=.type "list",data:=.seq its.toArray n }) (h:f its.toArray=its'.toArray) (hv:Vals ys its') (hz:ys.length<=aG) :
  Inv X pins W (upd H l (.lst ys)) { s with heap:=s.heap.update l (gD f),toks:=t' }:=by
 have q:=PySem.IsL.update e f
 rw[h]at q
 refine I.write (x:=l) (e:=l) (by rw[p];exact trivial) (.inl rfl) (λ z u hb hu=>(gE s.heap (gD f) (bS hb)).trans hu) ⟨_,q⟩ ?_
 exact⟨hz,its',_,hv,q⟩
theorem Inv.lnew {its:yH}{t':Nat}(I:Inv X pins W H s)(hv:Vals ys its)(hz:ys.length<=aG) :
  Inv X pins W (upd H s.heap.objs.size (.lst ys)) { s with heap:=s.heap.push { cls:=.type "list",data:=.seq its.toArray },toks:=t' } :=
 I.laid (λ _ _ q=>ao _ q) (ai _) ⟨hz,its,0,hv,aX _ rfl⟩
theorem Inv.fresh (I:Inv X pins W H s):H s.heap.objs.size=none:=I.hok.fresh (ai _)
theorem Inv.lstM (I:Inv X pins W H s)(h:H l=some (.lst xs)):xs.length<=aG/\∃(its:yH) (n:Nat),Vals xs its/\xs.length=its.length/\s.heap.get? l=some { cls:=.type "list",data:=.seq its.toArray n }:=by
 obtain⟨z,its,n,r,e⟩:=I.hok l _ h
 exact⟨z,its,n,r,r.length,e⟩
theorem bd8 {n:Nat}(h:n<=aG):dC n=false:=by
 unfold dC
 exact decide_eq_false (by omega)
end
section
variable {X:Cx}
def bs2:V->List V->Hp->VK->Prop:=λ x vs H Q=>∃ l xs y,x=.ref l/\vs=[y]/\H l=some (.lst xs)/\xs.length<aG/\Q .non (upd H l (.lst (xs++[y])))
theorem at4:MtM X "list.append" bs2:=by
 intro p s W H x vs v us Q I J Y h
 obtain⟨l,xs,y,rfl,rfl,G,hz,q⟩:=h
 cases J
 obtain⟨u,rfl,Z⟩:=Y.one
 obtain⟨z,its,n,r,hl,e⟩:=I.lstM G
 refine ja g6 ⟨_,e,rfl⟩ F.entry_list_append (F.args_list_append_2 _ _) (PySem.list_append l its.toArray n u (by rw[aw];omega)) ⟨e,?_⟩
 refine⟨.non,_,I.lset (its':=its++[u]) G e (by simp) (r.append (.cons Z .nil)) ?_,rfl,q⟩
 rw[ar,db]
 omega
def cc4:R2:=λ x y H Q=>∃ l b xs zs,x=.ref l/\y=.ref b/\H l=some (.lst xs)/\H b=some (.lst zs)/\xs.length+zs.length<=aG/\∀ p,H p=none->Q (.ref p) (upd H p (.lst (xs++zs)))
theorem bM8:OpR X (bQ .Add) cc4:=by
 intro F s W H x y v u Q I rx ry h
 obtain⟨l,b,xs,zs,rfl,rfl,Y,G,hz,q⟩:=h
 cases rx
 cases ry
 obtain⟨z,its,n,r,hl,e⟩:=I.lstM Y
 obtain⟨z2,p,n2,J,Z,e2⟩:=I.lstM G
 refine PySem.P.add_list e e2 ?_ (by rw[aw,aw];omega)
 have ea:its.toArray++p.toArray=(its++p).toArray:=by simp
 rw[ea]
 exact⟨.ref _,_,I.lnew (t':=s.toks) (r.append J) (by rw[ar];omega),rfl,q _ I.fresh⟩
def cd2:R2:=λ x y H Q=>∃ l k xs,x=.ref l/\y=.int k/\H l=some (.lst xs)/\-(2^63)<=k/\k<2^63/\xs.length*k.toNat<=aG /\
 ∀ p,H p=none->Q (.ref p) (upd H p (.lst (aq k.toNat xs).flatten))
theorem bs6 {α:Type}(h:List α)(k:Nat):(aq k h).flatten.length=k*h.length:=by
 induction k with
 | zero=>simp
 | succ k ih=>rw[bE,cK,ar,ih,Nat.succ_mul,gG]
theorem bN3:OpR X (bQ .Mult) cd2:=by
 intro a0 s W H x y v u Q I rx ry h
 obtain⟨l,k,xs,rfl,rfl,hH,h1,h2,hz,q⟩:=h
 cases rx
 obtain⟨t,rfl⟩:=ry
 obtain⟨z,its,n,r,hl,e⟩:=I.lstM hH
 have J:its.toArray.size*k.toNat<=aG:=by rw[aw,<-hl];exact hz
 have Y:¬ its.toArray.size*k.toNat > (2^63 - 1) / 8:=by
  have:(aG:Nat)<=(2^63 - 1) / 8:=by decide
  omega
 have Z:¬(!Builtin.List.listFitsIndex k)=true:=by
  rw[fitsIndex_both h1 h2]
  exact aU
 have p:¬ dC (its.toArray.size*k.toNat)=true:=by
  rw[bd8 J]
  exact aU
 have G:kh (λ x1 x2=>x1++x2) #[] (aq (if its.toArray.isEmpty=true then 0 else k.toNat) its.toArray)=(aq k.toNat its).flatten.toArray:=by
  have f0:∀ m:Nat,kh (λ x1 x2=>x1++x2) #[] (aq m its.toArray)=(aq m its).flatten.toArray:=λ m=>by
   have:=au2 its m []
   rw[eV]at this
   exact this
  rw[f0]
  cases its with
  | nil=>simp
  | cons a r'=>rw[if_neg (by simp)]
 refine fF (T := "list") (U := "int") (by decide) ⟨_,e,rfl⟩ (λ s'=>fA s' k t) noFill_list_mul jb dL repeat_list iH.lookup
  (ja dL (fA s k t) iI (ic _ _) (int___rmul___int_list k t l its.toArray n)
   ⟨e,rfl,⟨_,e,rfl⟩,ja F.slot_list_mul ⟨_,e,rfl⟩ F.entry_list_mul (F.args_list_mul_2 _ _) (AutoListH.list___mul___list_int_3 l its.toArray n k t Z Y p) ⟨e,?_⟩⟩)
 rw[G]
 exact⟨.ref _,_,I.lnew (t':=s.toks) (r.rep k.toNat) (by rw[bs6,kJ];exact hz),rfl,q _ I.fresh⟩
end
section
variable {prog:aB} {w:World} {A:aQ} {E:yB} {s:af}
end
section
variable {X:Cx}
end
end L2
end
noncomputable section
namespace Att
open PySem PySem.W PySem.Calls PyProof.Rows
theorem ints_of_wellAll {P:Params}{h:Heap}:∀(ns:List Int) (vs:yH),WellAll P h vs (ns.map WData.int)->jt vs ns:=by
 intro ns
 induction ns with
 | nil =>
  intro vs w
  rw[cX]at w
  cases w
  exact .nil
 | cons n ns ih =>
  intro vs w
  rw[a9]at w
  cases w with
  | cons a b =>
   cases a
   exact .cons _ _ (ih _ b)
theorem script_of {l:OpenLaw}{n:Nat}(hn:l.most=some n){P:Params}{h:Heap}{args:List WData}{z:yH}
  (p:l.row.toRowW.claim.pre args=true) (Z:WellAll P h z args) :
  ∃ a vs ns,z=[Value.ref a]/\args=[WData.list (ns.map WData.int)]/\h.get? a=some { cls:=.type "list",data:=.seq vs.toArray }/\jt vs ns/\ns.length<=n:=by
 have Y:WShape.hasAll [] args [.list .int]=true:=(pre_splitW p).1
 have hc:l.pre.holds [] { args:=args }=true:=(pre_splitW p).2
 obtain⟨d,r,rfl,h1,h2⟩:=hasAllW_cons Y
 obtain rfl:=hasAllW_nil h2
 obtain⟨xs,rfl,h3⟩:=hasW_list h1
 obtain⟨ns,rfl⟩:=items_int h3
 have F:ns.length<=n:=by
  unfold OpenLaw.pre at hc
  have G:(WTm.not (.lt (.lit (.int (n:Int))) (.len (.arg 0)))).holds [] { args:=[.list (ns.map .int)] }=true:=by
   have G:=(holds_andW hc).1
   rw[hn]at G
   exact G
  have J:=condW_of G (w_not (w_lt w_lit (w_len_list (w_arg rfl))))
  rw[aD]at J
  refine jJ λ q=>?_
  have q':(n:Int)<((ns.length:Nat):Int):=by omega
  first
   | (rw[decide_eq_true q']at J;exact absurd J (by decide))
   | (simp at J;omega)
 cases Z with
 | cons w1 w2 =>
  cases w2
  cases w1 with
  | list ho hall=>exact⟨_,_,ns,rfl,rfl,ho,ints_of_wellAll ns _ hall,F⟩
theorem post_true (l:OpenLaw)(args:List WData):l.row.toRowW.claim.post args (.bool true) args=true :=
 postW_of (r:=l.row.toRowW) (X:=(true==true))
  (show WShape.has [] (.bool true) .bool=true by first|rfl|decide|simp[WShape.has,WShape.arms,WShape.armsAll])
  (show(WTm.eq .res (.lit (.bool true))).value [] { args:=args,res:=some (.bool true),after:=args }=some (.bool (true==true))from w_eq_bool (w_res rfl) w_lit) rfl
theorem attach_call {l:OpenLaw}{n:Nat}{q:aB}{loose:yI}{XP:(Str->Option Value)->Heap->Prop}{YP:World->Heap->Prop}{d:DefRec}
  (hn:l.most=some n) (a1:d.params.defaults=[])
  (call:∀(w:World) (s₀ h:af) (mg mb:yD) (fa:Addr) (o:Obj) (pm cd p:Value) (a:Addr) (vs:yH) (ns:List Int),
   Ground q loose [] XP w s₀ mg mb h.heap->YP w h.heap ->
   h.heap.get? fa=some o->o.data=.func (docDef d.name d.params d.body d.scope pm cd p)->h.heap.CodeRec cd d.name->mg d.name=some (.ref fa) ->
   h.heap.get? a=some { cls:=.type "list",data:=.seq vs.toArray }->jt vs ns->ns.length<=n->h.gens=#[] ->
   fL (model l.prog w) iz (.call (.ref fa) ⟨[.ref a],[]⟩) (λ r s'=>r=.ok (.ret (.bool true))/\OldK h.heap s'.heap/\s'.os=h.os/\fJ s'.gens) h) :
  WalkO q loose XP YP l.row.toRowW d [] (λ f vs=>j3 f vs):=by
 intro w s₀ h mg mb G Y fa o pm cd p dV kV ho hd a2 hD a0 hg args a5 as J a4 b0 a3 a6
 obtain rfl:dV=.none:=Dflts.none hD a1
 obtain rfl:kV=.none:=Dflts.noKw hD
 obtain⟨a,vs,ns,rfl,rfl,Z,z,F⟩:=script_of hn J a3
 refine enter_call (gu (call w s₀ h mg mb fa o pm cd p a vs ns G Y ho (fd_plain hd) a2 a0 Z z F hg) λ r s' hq=>?_)
 obtain⟨rfl,h2,h3,h4⟩:=hq
 exact⟨.inl ⟨.bool true,.bool true,[],rfl,λ _=>rfl,.bool true,post_true l _,λ _=>⟨List.Pairwise.nil,λ _ hm=>(nomatch hm)⟩⟩,h2,h3,h4⟩
section
variable {prog:aB} {w:World} {A:aQ} {E:yB} {s:af} {K:Frag}
end
end Att
noncomputable section
namespace L2
open PySem PySem.Spec PyProof.Rows
theorem ah6:∀ {vs:yH} {ns:List Int},jt vs ns->Vals (ns.map V.int) vs
 | _,_,.nil=>.nil
 | _,_,.cons n t h=>.cons ⟨t,rfl⟩ (ah6 h)
noncomputable def defArgs (s:Stmt):bV:=match s with
 | .FunctionDef _ a _ _ _ _ _ _ _ _=>a
 | _=>{ posonlyargs:=[],args:=[],vararg:=none,kwonlyargs:=[],kw_defaults:=[],kwarg:=none,defaults:=[] }
noncomputable def defBody (s:Stmt):List Stmt:=match s with
 | .FunctionDef _ _ b _ _ _ _ _ _ _=>b
 | _=>[]
noncomputable def defScope (s:Stmt):Scope:=match s with
 | .FunctionDef _ _ _ _ _ _ sc _ _ _=>sc
 | _=>{ kind:=.function,names:=[],isGenerator:=false,isCoroutine:=false }
noncomputable abbrev CX0:CXT:=λ _ _ _ _ _ _=>False
abbrev E0:XK:=λ _ _ _=>False
theorem aK6 {X:Cx}:ac8 CX0 X E0:=λ _ _ _ _ _ _ _ h=>h.elim
structure Fun (K:ae)(x qual:Str)(st:Stmt)(f:Addr)(fd:bH):Prop where
 ex:∃(oc:Value) (od:yJ) (kV doc pm:Value) (an:yJ) (cdv ct:Value) (osl:yF),
  fd=cx x qual (defArgs st) (defBody st) (defScope st) .none kV doc pm an cdv ct/\K.lookup f=some ⟨oc,od,.func fd,osl⟩/\dZ K cdv qual=true
 kp:bz K (.ref f)=true
section
variable {P:aB} {w:World} {K:ae} {mg:yD} {base:Heap}
theorem Fun.ok {x qual:Str}{st:Stmt}{f:Addr}{Z:bH}{N ps:yI}{k:Nat}{sp:Sp}(F:Fun K x qual st f Z)(S:FnScope N ps (defScope st))(len:∀ vs H Q E,sp vs H Q E->vs.length=ps.length)
  (G:∀(z:Value) (A:aQ) (p:List Env) (s:af) (H:Hp) (vs:List V) (Q:VK) (E:XK),Room k (A.deeper (fx qual (defScope st) s.heap.objs.size f z))->sp vs H Q E ->
   ∃ t,PSs (aZ0 CX0 P w K mg base N qual (defScope st) f z A p s H E).nox (defBody st) t/\t { nx:=λ _ H'=>Q .non H',rt:=Q } (ae7 N vs) H):FnOk P w K mg base CX0 (k+1) f Z ps sp:=by
 obtain⟨oc,od,kV,a1,pm,an,z,ct,a0,rfl,lk,J⟩:=F.ex
 refine bD2 lk J S len λ A p s H vs Q E hr Y=>?_
 obtain⟨t,h,q⟩:=G z A p s H vs Q E hr Y
 exact⟨t,h.nox,q⟩
theorem Fun.binds {x qual:Str}{st:Stmt}{f:Addr}{Y:bH}{ps:yI}(F:Fun K x qual st f Y)
  (h:∀(kV p G:Value) (J:yJ) (z ct:Value) (us:yH),us.length=ps.length->dA (cx x qual (defArgs st) (defBody st) (defScope st) .none kV p G J z ct) ⟨us,[]⟩=pure (ps.zip us)):Binds K Y ps []:=by
 obtain⟨oc,od,kV,p,G,J,z,ct,Z,rfl,lk,a0⟩:=F.ex
 exact .all (h kV p G J z ct)
theorem aT1 {x qual:Str}{st:Stmt}{f:Addr}{oc:Value}{od G:yJ}{z:yF}{kV p F h ct:Value}(l:K.lookup f=some ⟨oc,od,.func (cx x qual (defArgs st) (defBody st) (defScope st) .none kV p F G h ct),z⟩)
  (c:dZ K h qual=true) (k:bz K (.ref f)=true):Fun K x qual st f (cx x qual (defArgs st) (defBody st) (defScope st) .none kV p F G h ct):=⟨⟨oc,od,kV,p,F,G,h,ct,z,rfl,l,c⟩,k⟩
end
section
variable {X:Cx}
end
theorem cd5 {A B:Prop}(h:B):if false=true then A else B:=by
 rw[if_neg aU]
 exact h
theorem iteT {A B:Prop}(h:A):if true=true then A else B:=by
 rw[if_pos rfl]
 exact h
def ab4 (H H':Hp):Prop:=∀ b o,H b=some o->H' b=some o
theorem ab4.refl (H:Hp):ab4 H H:=λ _ _ h=>h
theorem aT6 {prog:aB}{w:World}{A:aQ}{R:jG->af->Prop}{s:af}{z p iter:Expr}{G:yL}{scope:Scope}{pos:Pos}{it F:Value}{env:Env}(I:Nat->af->Prop)
  (turn:∀ n s,I n s->wpAny (model prog w) A (pyNext it) (λ r s₁=>match r with
   | none=>R (.ok .next) s₁
   | some v=>wpAny (model prog w) A (eU p it v) (λ _ J=>wpAny (model prog w) A (gj p env v) (λ _ s₂ =>
     wpAny (model prog w) A (forIn G true λ c r=>if r=true then do let ok <- dJ c env (eval c env);pure (ForInStep.yield ok)else pure (ForInStep.yield r)) (λ ok Y =>
      if ok=true then wpAny (model prog w) A (eval z env) (λ x s₄ =>
       wpAny (model prog w) A (call (.builtin "list.append") [F,x]) (λ _ s₅=>∃ m,m<n/\I m s₅) (jw (model prog w) A env λ e s'=>R (.error e) s') s₄) (jw (model prog w) A env λ e s'=>R (.error e) s') Y
      else ∃ m,m<n/\I m Y) (jw (model prog w) A env λ e s'=>R (.error e) s') s₂) (jw (model prog w) A env λ e s'=>R (.error e) s') J) (jw (model prog w) A env λ e s'=>R (.error e) s') s₁) (jw (model prog w) A env λ e s'=>R (.error e) s') s)
  (n:Nat) (h:I n s) :
  fL (model prog w) A (.compLoop (.ListComp z [⟨p,iter,G,0⟩] scope pos) 0 it F env) R s:=by
 refine codeAny_loop rfl I (λ n s hI=>?_) n h
 show wpAny _ A ((compTurn (.ListComp z [⟨p,iter,G,0⟩] scope pos) 0 it F env).onRaise (λ x=>do noteFrame x env;theTreesLotGoes x)) _ _ s
 refine wpAny_noted ?_
 rw[compTurn_list]
 refine aj (iO (aj (bP (turn n s hI) (λ r s₁ h₁=>?_) λ _ _ h'=>h')))
 cases r with
 | none=>exact ay h₁
 | some v =>
  refine aj (bP h₁ (λ _ J Z=>?_) λ _ _ h'=>h')
  refine aj (bP Z (λ _ s₂ h₂=>aj (bP h₂ (λ ok Y h₃=>?_) λ _ _ h'=>h')) λ _ _ h'=>h')
  cases ok with
  | false=>exact ay ⟨rfl,h₃⟩
  | true =>
   exact aj (aj (bP h₃ (λ x s₄ h₄=>aj (bP h₄ (λ _ s₅ h₅=>ay (ay ⟨rfl,h₅⟩)) λ _ _ h'=>h')) λ _ _ h'=>h'))
noncomputable def ak4 (cells:yC):List (Str×cf)->List (Str×Addr)->List (Str×Addr)
 | [],acc=>acc
 | (n,k)::r,acc=>ak4 cells r (if k==.free then(match cells.lookup n with|some c=>(n,c)::acc|none=>acc)else acc)
theorem ac6 {env:Env}:∀(names:List (Str×cf)) (p:yC),(∀ y∈names,y.2=.free->∃ c,env.cells.lookup y.1=some c) ->
  (forIn names p λ(x:Str×cf) (cs:yC)=>(if x.2==.free then do let c <- cellOf env x.1;pure (ForInStep.yield ((x.1,c)::cs))else pure (ForInStep.yield cs):Sem (ForInStep (List (Str×Addr)))))=pure (ak4 env.cells names p)
 | [],p,_=>by rw[ie];rfl
 | (n,k)::r,p,h=>by
  have z:=λ a=>ac6 r a λ y hy=>h y (au _ hy)
  rw[jU]
  unfold ak4
  cases e:(k==NameKind.free)with
  | false =>
   simp only[bu,if_false]
   exact z p
  | true =>
   have hk:k=.free:=by simpa using e
   obtain⟨c,hc⟩:=h (n,k) aA hk
   have e1:cellOf env n=pure c:=by unfold cellOf;rw[hc]
   simp only[if_true,e1,hc]
   exact z _
theorem ad5 {scope:Scope}{env:Env}(h:∀ y∈scope.names,y.2=.free->∃ c,env.cells.lookup y.1=some c):closureFor scope env=pure (ak4 env.cells scope.names []):=by
 have:=ac6 (env:=env) scope.names [] h
 show(forIn scope.names [] (λ(x:Str×cf) (cs:yC)=>(if x.2==.free then do let c <- cellOf env x.1;pure (ForInStep.yield ((x.1,c)::cs))else pure (ForInStep.yield cs):Sem (ForInStep (List (Str×Addr))))) >>= λ cs=>pure cs)=_
 rw[this]
 rfl
theorem clOf_mem {cells:yC}{n:Str}{c:Addr}:∀ {names:List (Str×cf)} {p:yC},(n,c)∈ak4 cells names p->cells.lookup n=some c\/(n,c)∈p
 | [],_,h=>.inr h
 | (m,k)::r,p,h=>by
  unfold ak4 at h
  rcases clOf_mem h with z|z
  .exact .inl z
  .cases e:(k==NameKind.free)with
   | false=>simp only[e,bu,if_false]at z;exact .inr z
   | true =>
    simp only[e,if_true]at z
    cases q:cells.lookup m with
    | none=>rw[q]at z;exact .inr z
    | some d =>
     rw[q]at z
     rcases aH.mp z with y|y
     .cases y;exact .inl q
     .exact .inr y
theorem aE5 {cells:yC}{n:Str}{c:Addr}(hc:cells.lookup n=some c):∀ {names:List (Str×cf)} {p:yC},((n,NameKind.free)∈names\/(n,c)∈p)->(n,c)∈ak4 cells names p
 | [],_,h=>by rcases h with h|h;(exact absurd h (by simp));exact h
 | (m,k)::r,p,h=>by
  unfold ak4
  refine aE5 hc ?_
  rcases h with h|h
  .rcases aH.mp h with e|h
   .cases e
    right
    simp[hc]
   .exact .inl h
  .right
   cases e:(k==NameKind.free)with
   | false=>simpa using h
   | true =>
    simp only[if_true]
    cases q:cells.lookup m with
    | none=>exact h
    | some d=>exact au _ h
theorem ac4 {α:Type}{n:Str}{c:α}:∀ {l:List (Str×α)},(n,c)∈l->(∀ d,(n,d)∈l->d=c)->l.lookup n=some c
 | (m,d)::r,h,u=>by
  rw[aV]
  cases e:n==m with
  | true =>
   have e':=beq_iff_eq.mp e
   subst e'
   rw[u d aA]
  | false =>
   rcases aH.mp h with z|z
   .cases z;simp at e
   .exact ac4 z λ d' h'=>u d' (au _ h')
theorem ay9 {cells:yC}{n:Str}{c:Addr}{names:List (Str×cf)}(hc:cells.lookup n=some c)(h:(n,NameKind.free)∈names):(ak4 cells names []).lookup n=some c:=by
 refine ac4 (aE5 hc (.inl h)) λ d hd=>?_
 rcases clOf_mem hd with z|z
 .rw[hc]at z;exact(av z).symm
 .exact absurd z (by simp)
theorem ze:∀(names:List (Str×cf)) (n:Nat) (h:yC),aK n names h=aK n names []++h
 | [],_,h=>by simp[aK]
 | (x,k)::r,n,h=>by
  unfold aK
  split
  .rw[ze r (n+1) ((x,n)::h),ze r (n+1) [(x,n)]]
   simp
  .exact ze r n h
theorem zu:∀ {names:List (Str×cf)} {n:Nat} {p:yC} {x:Str} {c:Addr},(x,c)∈aK n names p->(x,NameKind.cell)∈names\/(x,c)∈p
 | [],_,_,_,_,h=>.inr h
 | (y,k)::r,n,p,x,c,h=>by
  unfold aK at h
  split at h
  .rename_i hk
   rcases zu h with z|z
   .exact .inl (au _ z)
   .rcases aH.mp z with e|z
    .cases e
     have:k=.cell:=by simpa using hk
     subst this
     exact .inl aA
    .exact .inr z
  .rcases zu h with z|z
   .exact .inl (au _ z)
   .exact .inr z
theorem zw {α:Type}(x:Str):∀(l r:List (Str×α)),(l++r).lookup x=(l.lookup x).or (r.lookup x)
 | [],r=>by simp
 | (y,v)::l,r=>by
  rw[eF,aV,aV]
  cases x==y with
  | true=>rfl
  | false=>exact zw x l r
noncomputable def zN (N':yI)(src:yE)(scope:Scope)(XN:yI)(xs:Scope):Bool :=
 (scope.kind==.function) &&
 (scope.names.all λ y=>!(y.2==.free)||(xs.names.lookup y.1==some .cell||xs.names.lookup y.1==some .free)) &&
 (scope.names.all λ y=>!(y.2==.local)||scope.names.lookup y.1==some .local) &&
 (scope.names.all λ y=>!(y.2==.cell)||(scope.names.all λ z=>!(z.1==y.1)||z.2==.cell)) &&
 (src.length==N'.length) &&
 ((N'.zip src).all λ y=>match y.2 with|none=>true|some j=>XN[j]?==some y.1&&scope.names.lookup y.1==some .free)
structure CompCk (N':yI)(src:yE)(scope:Scope)(XN:yI)(xs:Scope):Prop where
 kind:scope.kind=.function
 fr:∀ y∈scope.names,y.2=.free->xs.names.lookup y.1=some .cell\/xs.names.lookup y.1=some .free
 loc:∀ y∈scope.names,y.2=.local->scope.names.lookup y.1=some .local
 cel:∀ y∈scope.names,y.2=.cell->∀ z∈scope.names,z.1=y.1->z.2=.cell
 len:src.length=N'.length
 sr:∀(i j:Nat) (x:Str),src[i]?=some (some j)->N'[i]?=some x->XN[j]?=some x/\scope.names.lookup x=some .free
theorem bl6 {p:yI}{src:yE}{scope:Scope}{F:yI}{G:Scope}(h:zN p src scope F G=true):CompCk p src scope F G:=by
 unfold zN at h
 simp only[ag]at h
 obtain⟨⟨⟨⟨⟨J,h2⟩,h3⟩,Z⟩,h5⟩,h6⟩:=h
 refine⟨by simpa using J,λ y hy e=>?_,λ y hy e=>?_,λ y hy e z hz ez=>?_,by simpa using h5,λ i j x e1 e2=>?_⟩
 .have:=aL.mp h2 y hy
  simpa [e]using this
 .have:=aL.mp h3 y hy
  simpa [e]using this
 .have:=aL.mp Z y hy
  simp only[e,beq_self_eq_true,eM,kC]at this
  have:=aL.mp this z hz
  simpa [ez]using this
 .have Y:(x,some j)∈p.zip src:=by
   refine aY (i:=i) ?_
   rw[List.getElem?_zip_eq_some]
   exact⟨e2,e1⟩
  have:=aL.mp h6 _ Y
  simpa using this
noncomputable abbrev zB (X:Cx)(N':yI)(scope:Scope)(Cc:Addr)(cells:yC)(s:af)(H:Hp)(ex:List Addr):Cx where
 prog:=X.prog
 w:=X.w
 K:=X.K
 mg:=X.mg
 base:=X.base
 A:=X.A
 N:=N'
 s₀:=s
 H₀:=H
 env:={ scope:=eO scope X.env,locals:=Cc,globals:=X.env.globals,cells:=cells,qual:=X.env.qual,func:=none,code:=X.env.code,frame:=X.env.frame,builtins:=X.env.builtins }
 outer:=X.stack
 stack:=X.stack
 ex:=ex
 fn:=λ x=>scope.names.lookup x==some .cell
 calm:=X.calm
 pn:=[]
 xe:=λ _ _=>False
def PIf (X:Cx)(ifs:yL)(t:TT):Prop :=
 ∀(pins:yA) (s:af) (W:St) (H:Hp) (Q:Bool->Hp->Prop),Inv X pins W H s->t W H Q ->
  wpAny (model X.prog X.w) X.A (forIn ifs true λ c r=>if r=true then do let ok <- dJ c X.env (eval c X.env);pure (ForInStep.yield ok)else pure (ForInStep.yield r)) (TP X pins W Q) X.xe s
def cd8:TT:=λ _ H Q=>Q true H
theorem bv4 {X:Cx}:PIf X [] cd8:=λ _ _ _ H _ I h=>wpAny_tests_nil ⟨H,I,h⟩
theorem bt2 {X:Cx}{c:Expr}{t:TT}(h:PT X c t):PIf X [c] t:=λ p s W H Q I hw=>wpAny_tests_one (h p s W H Q I hw)
noncomputable def av4 (src:yE)(W:St):St:=src.map λ o=>match o with|none=>none|some j=>(W[j]?).join
def tComp (src:yE)(wi:TI)(g:TG)(tc:TT)(te:TE):TE:=λ W H Q=>wi W H λ J H1=>∀ D,H1 D=none ->
 ∃ Ww:Nat->Nat->St->Hp->Prop,(∃ m,Ww 0 m (av4 src W) (upd H1 D (.lst [])))/\∀ i m W' H',Ww i m W' H' ->
  (J.stop i H'/\Q (.ref D) H')\/(J.go i H'/\∃ N:St->Hp->Prop,(∀ W2 H2,N W2 H2->∃ m',m'<m/\Ww (i+1) m' W2 H2) /\
   ∀ x H2,J.yld i H' x H2->g x W' H2 λ W3 H3=>tc W3 H3 λ b H4=>if b=true then te W3 H4 λ v H5=>∃ ys,H5 D=some (.lst ys)/\ys.length<aG/\N W3 (upd H5 D (.lst (ys++[v])))else N W3 H4)
theorem z6 {env:Env}:∀ {names:List (Str×cf)} {x:Str} {k:cf},names.lookup x=some k ->
  (names.map λ(n,k)=>if(k==NameKind.free&&env.scope.kind==.function&&env.kindOf n==some .cell)then(n,NameKind.cell)else(n,k)).lookup x =
   some (if(k==NameKind.free&&env.scope.kind==.function&&env.kindOf x==some .cell)then NameKind.cell else k)
 | [],_,_,h=>by simp at h
 | (n,k)::r,x,k',h=>by
  have p:=@z6 env r x k'
  show cW x ((if(k==NameKind.free&&env.scope.kind==.function&&env.kindOf n==some .cell)=true then(n,NameKind.cell)else(n,k))::_)=_
  cases hx:x==n with
  | true =>
   have e:=beq_iff_eq.mp hx
   subst e
   simp only[aV,hx]at h
   cases h
   by_cases hc:(k==NameKind.free&&env.scope.kind==.function&&env.kindOf x==some .cell)=true
   .rw[if_pos hc,if_pos hc];simp only[aV,hx]
   .rw[if_neg hc,if_neg hc];simp only[aV,hx]
  | false =>
   simp only[aV,hx]at h
   by_cases hc:(k==NameKind.free&&env.scope.kind==.function&&env.kindOf n==some .cell)=true
   .rw[if_pos hc];simp only[aV,hx];exact p h
   .rw[if_neg hc];simp only[aV,hx];exact p h
theorem zY {env:Env}:∀ {names:List (Str×cf)} {x:Str},names.lookup x=none ->
  (names.map λ(n,k)=>if(k==NameKind.free&&env.scope.kind==.function&&env.kindOf n==some .cell)then(n,NameKind.cell)else(n,k)).lookup x=none
 | [],_,_=>rfl
 | (n,k)::r,x,h=>by
  have p:=@zY env r x
  show cW x ((if(k==NameKind.free&&env.scope.kind==.function&&env.kindOf n==some .cell)=true then(n,NameKind.cell)else(n,k))::_)=_
  cases hx:x==n with
  | true=>simp only[aV,hx]at h;cases h
  | false =>
   simp only[aV,hx]at h
   by_cases hc:(k==NameKind.free&&env.scope.kind==.function&&env.kindOf n==some .cell)=true
   .rw[if_pos hc];simp only[aV,hx];exact p h
   .rw[if_neg hc];simp only[aV,hx];exact p h
theorem am2 {X:Cx}{N':yI}{src:yE}{scope:Scope}{a5:yA}{W:St}{H:Hp}{s s4:af}{fp:List Addr}
  (F:CompCk N' src scope X.N X.env.scope) (I:Inv X a5 W H s) (hf:∀ b∈fp,FpOk X a5 H b) (b0:∀ b∈fp,b<s.heap.objs.size)
  (e4:∃ tk,s4={ s with heap:=eJ (s.heap.push { cls:=.type "dict",data:=.dict #[] }) scope.names,toks:=tk }) :
  Inv (zB X N' scope s.heap.objs.size (aK (s.heap.objs.size+1) scope.names (ak4 X.env.cells scope.names [])) s H fp) [] (av4 src W) H s4:=by
 obtain⟨tk,rfl⟩:=e4
 have hk:∀ b o,s.heap.get? b=some o->(eJ (s.heap.push { cls:=.type "dict",data:=.dict #[] }) scope.names).get? b=some o:=λ b o e=>c7 _ _ b o (ao _ e)
 have ok:=cellsFrom_ok scope.names (s.heap.push { cls:=.type "dict",data:=.dict #[] }) (s.heap.objs.size+1) [] ⟨λ _ _ hm=>(nomatch hm),List.Pairwise.nil⟩ (by rw[bO];exact ai _)
 rw[bO]at ok
 have Z:=ze scope.names (s.heap.objs.size+1) (ak4 X.env.cells scope.names [])
 have lk:∀ x c,(aK (s.heap.objs.size+1) scope.names (ak4 X.env.cells scope.names [])).lookup x=some c ->
   ((x,c)∈aK (s.heap.objs.size+1) scope.names []/\(x,NameKind.cell)∈scope.names)\/(X.env.cells.lookup x=some c/\(aK (s.heap.objs.size+1) scope.names []).lookup x=none):=λ x c e=>by
  rw[Z,zw]at e
  cases q:(aK (s.heap.objs.size+1) scope.names []).lookup x with
  | some d =>
   rw[q]at e
   have e':d=c:=av e
   subst e'
   have hm:=aF q
   refine .inl ⟨hm,?_⟩
   rcases zu hm with z|z
   .exact z
   .exact absurd z (by simp)
  | none =>
   rw[q]at e
   have e':(ak4 X.env.cells scope.names []).lookup x=some c:=e
   rcases clOf_mem (aF e')with z|z
   .exact .inr ⟨z,rfl⟩
   .exact absurd z (by simp)
 have up:∀ x c,(x,c)∈aK (s.heap.objs.size+1) scope.names []->s.heap.objs.size+1<=c:=λ x c h=>(ok.empty x c h).2
 have b3:∀ x c,X.env.cells.lookup x=some c->c<s.heap.objs.size:=λ x c h=>by
  obtain⟨v,q⟩:=I.cell x c h
  exact q.lt
 have a4:∀ b,b<s.heap.objs.size->b≠s.heap.objs.size:=λ b h=>aE h
 have b2:∀ b∈fp,H b=none/\b≠X.env.locals/\b ∉ X.fs:=λ b hb=>⟨(hf b hb).1,(hf b hb).2.1,(hf b hb).2.2.1⟩
 have b6:(eJ (s.heap.push { cls:=.type "dict",data:=.dict #[] }) scope.names).Ns s.heap.objs.size (λ _=>none):=(kY s.heap (.type "dict")).keeps (c7 _ _)
 have a0:∀ x k,scope.names.lookup x=some k->(eO scope X.env).names.lookup x=some (if(k==NameKind.free&&X.env.scope.kind==.function&&X.env.kindOf x==some .cell)then NameKind.cell else k):=λ x k e=>z6 (env:=X.env) e
 have a3:∀ x,scope.names.lookup x=none->(eO scope X.env).names.lookup x=none:=λ x e=>zY (env:=X.env) e
 have b1:∀ x c,(x,NameKind.free)∈scope.names->X.env.cells.lookup x=some c->(aK (s.heap.objs.size+1) scope.names (ak4 X.env.cells scope.names [])).lookup x=some c:=λ x c hx hc=>by
  rw[Z,zw]
  cases q:(aK (s.heap.objs.size+1) scope.names []).lookup x with
  | some d =>
   rcases zu (aF q)with z|z
   .have:=F.cel _ z rfl _ hx rfl
    cases this
   .exact absurd z (by simp)
  | none=>exact ay9 hc hx
 have a6:∀ x,(x,NameKind.free)∈scope.names->∃ c,X.env.cells.lookup x=some c:=λ x hx=>I.ok.has x (F.fr _ hx rfl)
 refine⟨⟨I.ok.mod,F.kind,I.ok.glob,I.ok.blt,ai _,λ x y c e1 e2=>?_,λ x hx=>?_,λ x c hx e=>?_,I.ok.hd,I.ok.frames,.inl rfl,λ b hb=>⟨a4 b (b0 b hb),λ x c e z=>?_⟩,I.bs,ak I.ok.bsz I.sz,λ b o e hb=>?_,λ b hb z=>?_,I.stack,I.stkFree⟩,
  rfl,I.bare,Un.kept hk,⟨_,b6,λ i x v e1 e2 e3=>?_⟩,λ x c e=>?_,I.hok.fresh (ai _),λ x c e=>?_,λ p hp=>absurd (show p∈([]:yA)from hp) (by simp),I.hok.kept hk,by unfold av4;rw[aD];exact F.len⟩
 .rcases lk x c e1 with⟨a1,_⟩|⟨a1,_⟩<;>rcases lk y c e2 with⟨a2,_⟩|⟨a2,_⟩
  .exact gz ok.apart a1 a2
  .exact absurd (az (b3 _ _ a2) (fO (up _ _ a1))) (bA _)
  .exact absurd (az (b3 _ _ a1) (fO (up _ _ a2))) (bA _)
  .exact I.ok.inj x y c a1 a2
 .cases q:scope.names.lookup x with
  | none =>
   have J:(eO scope X.env).names.lookup x=some .cell\/(eO scope X.env).names.lookup x=some .free:=hx
   rw[a3 x q]at J
   rcases J with z|z<;>cases z
  | some k =>
   have J:(eO scope X.env).names.lookup x=some .cell\/(eO scope X.env).names.lookup x=some .free:=hx
   rw[a0 x k q]at J
   cases k with
   | free =>
    obtain⟨c,hc⟩:=a6 x (aF q)
    exact⟨c,b1 x c (aF q) hc⟩
   | cell =>
    obtain⟨c,hc⟩:=zM (n:=s.heap.objs.size+1) q
    exact⟨c,by show(aK _ _ _).lookup x=_;rw[Z,zw,hc];rfl⟩
   | _=>rcases J with z|z<;>cases z
 .have J:(scope.names.lookup x==some .cell)=true:=hx
  have q:scope.names.lookup x=some .cell:=by simpa using J
  rcases lk x c e with⟨a,_⟩|⟨a,b⟩
  .have:=up _ _ a;show s.heap.objs.size<=c;omega
  .obtain⟨d,hd⟩:=zM (n:=s.heap.objs.size+1) q
   rw[hd]at b;cases b
 .subst z
  rcases lk x c e with⟨a,_⟩|⟨a,_⟩
  .exact absurd (az (b0 c hb) (fO (up _ _ a))) (bA _)
  .exact(hf c hb).2.2.2.2.1 x c a rfl
 .rcases(hf b hb).2.2.2.1 with z|z
  .exact I.ok.noex b o e z
  .exact absurd (az (aI e) (ak I.ok.bsz z)) (bA _)
 .rcases aH.mp (I.stkSub b z)with y|y
  .exact(b2 b hb).2.1 y
  .exact(b2 b hb).2.2 y
 .have G:(av4 src W)[i]?=some (some v):=e2
  unfold av4 at G
  rw[aC]at G
  cases q:src[i]? with
  | none=>rw[q]at G;cases G
  | some o =>
   rw[q]at G
   cases o with
   | none=>cases G
   | some j =>
    have Y:(W[j]?).join=some v:=av G
    have ej:W[j]?=some (some v):=by
     cases q2:W[j]? with
     | none=>rw[q2]at Y;cases Y
     | some o2=>rw[q2]at Y;exact congrArg some Y
    obtain⟨h1,h2⟩:=F.sr i j x q e1
    have hm:=aF h2
    obtain⟨mX,c0,b5⟩:=I.loc
    have b4:Vis X.env.scope x:=by
     rcases F.fr _ hm rfl with z|z
     .exact .inr (.inl z)
     .exact .inr (.inr z)
    obtain⟨u,ru,look⟩:=b5 j x v h1 ej b4
    refine⟨u,ru,.inr ?_⟩
    have hcell:∃ c,X.env.cells.lookup x=some c/\s.heap.IsCell c (some u):=by
     rcases look with⟨z,_⟩|⟨_,c,z1,z2⟩
     .have z':X.env.scope.names.lookup x=some .local:=z
      rcases F.fr _ hm rfl with y|y<;>(rw[z']at y;cases y)
     .exact⟨c,z1,z2⟩
    obtain⟨c,c1,c2⟩:=hcell
    refine⟨?_,c,b1 x c hm c1,c2.keeps hk⟩
    show(eO scope X.env).names.lookup x=some .cell\/(eO scope X.env).names.lookup x=some .free
    rw[a0 x _ h2]
    by_cases hc:(NameKind.free==NameKind.free&&X.env.scope.kind==.function&&X.env.kindOf x==some .cell)=true
    .rw[if_pos hc];exact .inl rfl
    .rw[if_neg hc];exact .inr rfl
 .rcases lk x c e with⟨a,_⟩|⟨a,_⟩
  .exact⟨_,(ok.empty x c a).1⟩
  .obtain⟨v,q⟩:=I.cell x c a
   exact⟨v,q.keeps hk⟩
 .rcases lk x c e with⟨a,_⟩|⟨a,_⟩
  .exact I.hok.fresh (by have:=up _ _ a;omega)
  .exact I.freeC x c a
theorem aG4 {X:Cx}{Z:yI}{scope:Scope}{h:yA}{W W':St}{H Y:Hp}{s s5:af}{F:List Addr}{cells:yC}{h':Heap}
  (I:Inv X h W H s) (G:∀ b∈F,FpOk X h H b) (J:Inv (zB X Z scope s.heap.objs.size cells s H F) [] W' Y s5) (hs:dm s.heap.objs.size s5.heap h') :
  Inv X h W Y { s5 with heap:=h' }:=by
 have p:∀ b o,s.heap.get? b=some o->b≠s.heap.objs.size:=λ b o e=>aE (aI e)
 have u:Un (frs X.stack) F H Y s.heap s5.heap:=J.base
 refine I.call' (s':={ s5 with heap:=h' }) (ch:=F) J.os ⟨λ b o e n hb hx=>?_,λ b o e n hb hx=>?_,λ b o e n hx=>u.free b o e n hx,λ b o e hx=>?_,u.tups,u.frzs,u.tbls⟩ (λ b o e=>?_) J.bare λ b hb=>⟨(G b hb).2.2.2.1,(G b hb).2.1,(G b hb).2.2.2.2.1,(G b hb).2.2.2.2.2⟩
 .exact(hs.2 b (p b o e)).trans (u.keep b o e n hb hx)
 .obtain⟨sl,q⟩:=u.slot b o e n hb hx
  exact⟨sl,(hs.2 b (p b o e)).trans q⟩
 .obtain⟨o',q⟩:=u.there b o e hx
  exact⟨o',(hs.2 b (p b o e)).trans q⟩
 .have fr:Y s.heap.objs.size=none:=J.free
  refine(J.hok b o e).stay (λ c w' hc q=>(hs.2 c ?_).trans q) (λ _ q=>q) λ _ _ q=>q
  rintro rfl
  rcases hc with z|hc
  .rw[<-z,fr]at e;cases e
  .rw[fr]at hc;cases hc
theorem ac3 {M:Model}{A:aQ}{E:yB}{s:af}{scope:Scope}{globals:Addr}{z:yC}{qual:Str}{p:Env}{Q:Env->af->Prop}
  (h:Q { scope:=scope,locals:=s.heap.objs.size,globals:=globals,cells:=aK (s.heap.objs.size+1) scope.names z,qual:=qual,func:=none,code:=p.code,frame:=p.frame,builtins:=p.builtins }
   { s with heap:=eJ (s.heap.push { cls:=.type "dict",data:=.dict #[] }) scope.names }) :
  wpAny M A (fB scope globals z [] qual none .none (some p)) Q E s:=by
 simp only[fB,jc,if_true]
 refine aj (wpAny_alloc ?_)
 refine aj (wpAny_layCells _ (λ name kind cells=>by cases hkc:kind==NameKind.cell<;>simp[hkc]) _ _ _ _ ?_)
 rw[show({ s with heap:=s.heap.push { cls:=.type "dict",data:=.dict #[] } }:af).heap.objs.size=s.heap.objs.size+1 from bO ..]
 refine aj ?_
 rw[ie]
 exact ay (ay h)
theorem av1 {X':Cx}{R:jG->af->Prop}{a2 tg iter:Expr}{a5:yL}{scope:Scope}{pos:Pos}{g:TG}{tc:TT}{te:TE}{J:It}{Z:List Addr}{it D:Addr}{tn:Nat->Heap->Prop}{Ww:Nat->Nat->St->Hp->Prop}
  {QD:Hp->Prop} {W0:St} {H0:Hp} {s4:af} {m0:Nat} (hx:X'.xe=λ _ _=>False) (p:X'.calm=true) (I4:Inv X' [] W0 H0 s4) (T:Turn X'.prog X'.w X'.K tg J Z it tn) (b0:tn 0 s4.heap)
  (G:∀ H':Hp,(∀ b∈Z,H' b=none)->∀ b∈Z,FpOk X' [] H' b) (b2:∀ b∈Z,H0 b=none) (w0:Ww 0 m0 W0 H0)
  (turn:∀ i m W' H',Ww i m W' H'->(J.stop i H'/\QD H')\/(J.go i H'/\∃ N:St->Hp->Prop,(∀ W2 H2,N W2 H2->∃ m',m'<m/\Ww (i+1) m' W2 H2) /\
   ∀ x H2,J.yld i H' x H2->g x W' H2 λ W3 Y=>tc W3 Y λ b H4=>if b=true then te W3 H4 λ v H5=>∃ ys,H5 D=some (.lst ys)/\ys.length<aG/\N W3 (upd H5 D (.lst (ys++[v])))else N W3 H4))
  (hg:PG X' tg g) (b3:PIf X' a5 tc) (he:PE X' a2 te) (a3:∀ W' H' s',Inv X' [] W' H' s'->QD H'->R (.ok .next) s') :
  fL (model X'.prog X'.w) X'.A (.compLoop (.ListComp a2 [⟨tg,iter,a5,0⟩] scope pos) 0 (.ref it) (.ref D) X'.env) R s4:=by
 have nox:∀ {α:Type} {t:Sem α} {Q Q':α->af->Prop} {E:yB} {s:af},wpAny (model X'.prog X'.w) X'.A t Q X'.xe s->(∀ a s,Q a s->Q' a s)->wpAny (model X'.prog X'.w) X'.A t Q' E s :=
  λ h hQ=>bP h hQ λ _ _ z=>by rw[hx]at z;exact z.elim
 refine aT6 (λ n s'=>∃ i W' H',Inv X' [] W' H' s'/\tn i s'.heap/\(∀ b∈Z,H' b=none)/\Ww i n W' H') ?_ m0 ⟨0,W0,H0,I4,b0,b2,w0⟩
 rintro n s3 ⟨i,W3,Y,I3,a4,a1,w3⟩
 rcases turn i n W3 Y w3 with⟨stop,qn⟩|⟨go,N,hN,step⟩
 .refine nox (T.done X' rfl rfl rfl p i [] s3 W3 Y X'.xe I3 (G Y a1) a4 stop) λ r s4 ⟨hr,I4⟩=>?_
  subst hr
  exact a3 W3 Y s4 I4 qn
 .refine nox (T.item X' rfl rfl rfl p i [] s3 W3 Y X'.xe I3 (G Y a1) a4 go) λ r s4 ⟨u,hr,h4⟩=>?_
  subst hr
  refine nox h4 λ _ s5 ⟨x,H5,I5,r5,y5,a0,b1⟩=>?_
  have a6:=I5.pinned (G H5 b1) (T.obj _ _ a0)
  refine nox (hg _ s5 W3 H5 x u _ a6 r5 (step x H5 y5)) λ _ s6 ⟨W6,H6,I6,q6⟩=>?_
  have F:∀ {W7:St} {H7:Hp} {s7:af},Inv X' ([]++av3 Z s5.heap) W7 H7 s7->N W7 H7->∃ m,m<n/\∃ i W' H',Inv X' [] W' H' s7/\tn i s7.heap/\(∀ b∈Z,H' b=none)/\Ww i m W' H':=λ {W7 H7 s7} I7 n7=>by
   obtain⟨m',hm,w7⟩:=hN W7 H7 n7
   refine⟨m',hm,i+1,W7,H7,I7.unpinned,T.keep _ _ _ a0 λ b hb o e=>(I7.pin (b,o) (aZ _ (aZ _ (qr hb e)))).1,λ b hb=>?_,w7⟩
   obtain⟨o,e,d⟩:=T.obj _ _ a0 b hb
   exact(I7.pin (b,o) (aZ _ (aZ _ (qr hb e)))).2.1
  refine nox (b3 _ s6 W6 H6 _ I6 q6) λ b s7 ⟨H7,I7,q7⟩=>?_
  cases b with
  | false =>
   rw[if_neg aU]at q7 ⊢
   exact F I7 q7
  | true =>
   rw[if_pos rfl]at q7 ⊢
   refine nox (he _ s7 W6 H7 _ I7 q7) λ v s8 ⟨y,H8,I8,r8,ys,hy,hz,q8⟩=>?_
   refine nox (at4 _ s8 W6 H8 (.ref D) [y] (.ref D) [v] (λ _ H9=>N W6 H9) I8 rfl (.cons r8 .nil) ⟨D,ys,y,rfl,rfl,hy,hz,q8⟩) λ v9 s9 ⟨_,H9,I9,_,q9⟩=>?_
   exact F I9 q9
theorem aS2 {X:Cx}{a1 tg iter:Expr}{a4:yL}{scope:Scope}{pos:Pos}{wi:TI}{g:TG}{tc:TT}{te:TE}(Z:yI)(src:yE)
  (b3:zN Z src scope X.N X.env.scope=true) (hi:PI X tg iter wi) (Y:X.calm=true)
  (b2:∀(Cc:Addr) (cells:yC) (s:af) (H:Hp) (ex:List Addr),PG (zB X Z scope Cc cells s H ex) tg g/\PIf (zB X Z scope Cc cells s H ex) a4 tc/\PE (zB X Z scope Cc cells s H ex) a1 te)
  (hs:∀ x,de iter X.env x=pure x:=by intro _;rfl):PE X (.ListComp a1 [⟨tg,iter,a4,0⟩] scope pos) (tComp src wi g tc te):=by
 intro z s W H Q I h
 have ck:=bl6 b3
 rw[eval_ListComp]
 have b4:=ad5 (scope:=scope) (env:=X.env) λ y hy e=>I.ok.has y.1 (ck.fr y hy e)
 refine fY (use:=none) rfl hs b4 ck.kind ck.loc (thn (hi z s W H _ I h) λ v s1 h1=>thn h1 λ c0 s2 h2=>?_)
 obtain⟨it,F,tn,J,H2,e,I2,T,a3,f2,Ww⟩:=h2
 subst e
 have hD:=I2.fresh
 obtain⟨Ww,⟨m0,w0⟩,turn⟩:=Ww _ hD
 have I3:=I2.lnew (its:=[]) (ys:=[]) (t':=s2.toks) .nil (b9 _)
 have a5:∀ b∈F,b<s2.heap.objs.size:=λ b hb=>by obtain⟨o,q,_⟩:=T.obj _ _ a3 b hb;exact aI q
 have f3:∀ b∈F,FpOk X z (upd H2 s2.heap.objs.size (.lst [])) b:=λ b hb=>⟨by rw[zc (aE (a5 b hb))];exact(f2 b hb).1,(f2 b hb).2⟩
 refine bF (ac3 ?_)
 generalize G:({ s2 with heap:=s2.heap.push { cls:=.type "list",data:=.seq ([]:yH).toArray },toks:=s2.toks }:af)=s3 at I3
 have b6:({ s2 with heap:=s2.heap.push { cls:=.type "list",data:=.seq ([]:yH).toArray } }:af)=s3:=G
 have a6:∀ b∈F,b<s3.heap.objs.size:=λ b hb=>by
  rw[<-G]
  show b<(s2.heap.push _).objs.size
  rw[bO]
  exact fP (a5 b hb)
 have I4:=am2 (s4:={ s3 with heap:=eJ (s3.heap.push { cls:=.type "dict",data:=.dict #[] }) scope.names }) ck I3 f3 a6 ⟨_,rfl⟩
 have a0:tn 0 (eJ (s3.heap.push { cls:=.type "dict",data:=.dict #[] }) scope.names):=T.keep _ _ _ a3 λ b hb o e=>c7 _ _ b o (ao _ (by rw[<-G];exact ao _ e))
 obtain⟨hg,b1,he⟩:=b2 s3.heap.objs.size (aK (s3.heap.objs.size+1) scope.names (ak4 X.env.cells scope.names [])) s3 (upd H2 s2.heap.objs.size (.lst [])) F
 have a2:∀ H':Hp,(∀ b∈F,H' b=none)->∀ b∈F,FpOk (zB X Z scope s3.heap.objs.size (aK (s3.heap.objs.size+1) scope.names (ak4 X.env.cells scope.names [])) s3 (upd H2 s2.heap.objs.size (.lst [])) F) [] H' b:=λ H' hn b hb =>
  ⟨hn b hb,(I4.ok.exf b hb).1,I4.ok.exfs b hb,.inl hb,λ x c e=>(I4.ok.exf b hb).2 x c e,λ p hp=>absurd (show p∈([]:yA)from hp) (by simp)⟩
 have T':Turn X.prog X.w X.K tg J F it tn:=T
 have b0:∀ b∈F,upd H2 s2.heap.objs.size (.lst []) b=none:=λ b hb=>(f3 b hb).1
 have L:=av1 (X':=zB X Z scope s3.heap.objs.size (aK (s3.heap.objs.size+1) scope.names (ak4 X.env.cells scope.names [])) s3 (upd H2 s2.heap.objs.size (.lst [])) F) (R:=compPost (model X.prog X.w) X.A X.xe none (EP X z W Q) (Value.ref s2.heap.objs.size) s3.heap.objs.size) (iter:=iter) (scope:=scope) (pos:=pos) (QD:=λ H'=>Q (.ref s2.heap.objs.size) H') rfl Y I4 T' a0 a2 b0 w0 turn hg b1 he
  (λ W' H' s' J' q=>by
   obtain⟨mm,hn,_⟩:=J'.loc
   exact⟨mm,hn,λ h' b5=>⟨.ref s2.heap.objs.size,H',aG4 I3 f3 J' b5,rfl,q⟩⟩)
 exact gH L (T.self _ _ _ _ _ a0 L)
section
variable {X:Cx}
theorem bX0:bn "abs"=some (.builtin "abs"):=by decide +kernel
theorem bU4:bn "len"=some (.builtin "len"):=by decide +kernel
theorem bO0:bn "min"=some (.builtin "min"):=by decide +kernel
theorem bW3:bn "max"=some (.builtin "max"):=by decide +kernel
theorem au5:bn "isinstance"=some (.builtin "isinstance"):=by decide +kernel
theorem bJ9:bn "int"=some (.type "int"):=by decide +kernel
theorem bO9:bn "bool"=some (.type "bool"):=by decide +kernel
theorem bI3:bn "str"=some (.type "str"):=by decide +kernel
theorem aW0:bn "tuple"=some (.type "tuple"):=by decide +kernel
theorem aU3:bn "list"=some (.type "list"):=by decide +kernel
def bW4 (i j:Int):Prop:=0<j/\j<2^4096
theorem aK9 {y:Int}(h0:0<y)(h:y<2^4096):y.natAbs.log2<9000:=by
 have hn:y.natAbs<2^4096:=by
  have:(y.natAbs:Int)=y:=by omega
  have p:(y.natAbs:Int)<((2^4096:Nat):Int):=by rw[this];simpa using h
  exact jx.mp p
 have:=(Nat.log2_lt (by omega)).mpr hn
 omega
theorem ba6:OpR X (bQ .FloorDiv) (rI bW4 λ i j=>.int (i / j)):=opI λ i j _ _ _ _ _ hc q=>by
 refine floordiv_int (by have:=hc.1;omega) ?_ (.inl (PyProof.noPylong_of_log2 (aK9 hc.1 hc.2)))
 rw[ft i (by have:=hc.1;omega)]
 exact q
theorem aA9 {K:ae}(h:X.K=K):IxR X (cb8 K):=by subst h;exact bz9
theorem bw8 {K:ae}(h:X.K=K):IxR X (cb7 K):=by subst h;exact ix_tup
theorem aj8 {K:ae}(z:X.K=K):aa6 X (.builtin "len") (λ h H Q=>∃ p ys,h=[.ref p]/\(SqL K H p ys\/SqT K H p ys)/\Q (.int ys.length) H):=by subst z;exact aq9
theorem aw7 {K:ae}(z:X.K=K):aa6 X (.type "tuple") (λ h H Q=>∃ p ys,h=[.ref p]/\((SqL K H p ys/\∀ l,H l=none->Q (.ref l) (upd H l (.tup ys)))\/(SqT K H p ys/\Q (.ref p) H))):=by subst z;exact an2
theorem aG9 {K:ae}(z:X.K=K):aa6 X (.type "list") (λ h H Q=>∃ p ys,h=[.ref p]/\(SqL K H p ys\/SqT K H p ys)/\∀ l,H l=none->Q (.ref l) (upd H l (.lst ys))):=by subst z;exact au4
theorem bh1 {K:ae}{tg l:Expr}{h:TE}(p:X.K=K)(hl:PE X l h):PI X tg l (bt6 K h):=by subst p;exact bu9 hl
theorem bm4 {K:ae}{tg l:Expr}{h:TE}(p:X.K=K)(hl:PE X l h):PI X tg l (bS4 K h):=by subst p;exact bQ3 hl
theorem by7 {K:ae}{pos:Pos}{es:yL}{k:Nat}{t:TGs}{n:Nat}(z:X.K=K)(hc:X.calm=true)(h:PGs X es t)
  (hn:(cC es X.env).length=n:=by rfl) (p:(cC es X.env).findIdx? (·.1)=none:=by rfl):PG X (.Tuple es k pos) (bX3 K n t):=by subst z;exact bD8 hc h hn p
end
structure DefAt (K:ae)(mg:yD)(x:Str)(st:Stmt)(ps:yI)(f:Addr)(fd:bH):Prop where
 fn:Fun K x x st f fd
 mg:mg x=some (.ref f)
 bi:Binds K fd ps []
@[irreducible] noncomputable def ce6 (p:Prop):Prop:=p
theorem ab4.new {p:Addr}{H z:Hp}{o:HO}(h:ab4 H z)(F:z p=none):ab4 H (L2.upd z p o):=λ x o e=>by
 have e1:=h x o e
 rw[zc (zt e1 F)]
 exact e1
section
variable {prog:aB} {w:World} {A:aQ} {R:jG->af->Prop} {I:Addr} {fp wr:List Addr} {n:Nat} {P:Nat->Value->Prop} {St:Nat->Heap->Prop} {kw:List (Str×Value)}
end
theorem ag9 (val : Nat -> Int) : ∀ k j, j <= k -> val (j0 (λ i j => decide (val i < val j)) k) <= val j
  | 0, j, h => by have : j = 0 := by omega
                  subst this; exact jN _
  | k + 1, j, h => by
    have ih := ag9 val k
    unfold j0
    by_cases hb : val (k + 1) < val (j0 (λ i j => decide (val i < val j)) k)
    . rw[if_pos (by simpa using hb)]
      by_cases hj : j = k + 1
      . subst hj; exact jN _
      . have := ih j (by omega); omega
    . rw[if_neg (by simpa using hb)]
      by_cases hj : j = k + 1
      . subst hj; omega
      . exact ih j (by omega)
theorem aS9 {ns:List Int}{its:yH}(r:Vals (ns.map V.int) its){i:Nat}{v:Value}(h:its[i]?=some v):∃ z t,ns[i]?=some z/\v=Value.int z t:=by
 have hl:=r.length
 rw[aD]at hl
 have p:i<its.length:=(ac.mp h).1
 obtain⟨u,e1,q⟩:=r.get (i:=i) (x:=.int ns[i]) (by rw[aC,ah (by omega)];rfl)
 rw[h]at e1;cases e1
 obtain⟨t,rfl⟩:=q
 exact⟨_,t,ah (by omega),rfl⟩
inductive D where
 | non|bl (b:Bool)|int (i:Int)|str (x:Str)|tup (l:List D)|lst (l:List D)
mutual
noncomputable def D.deep:D->Nat
 | .tup l=>D.deepL l+1
 | .lst l=>D.deepL l+1
 | _=>0
noncomputable def D.deepL:List D->Nat
 | []=>0
 | d::l=>max (D.deep d) (D.deepL l)
end
section
variable {X:Cx}
end
section
variable {X:Cx}
def bU5 (K:ae):R2:=λ x y H Q=>∃ a b xs ys,x=.ref a/\y=.ref b/\SqT K H a xs/\SqT K H b ys/\xs.length+ys.length<=aG/\∀ p H',ab4 H H'->SqT K H' p (xs++ys)->(H' p=some (.tup (xs++ys))\/(p=a/\ys=[])\/(p=b/\xs=[]))->Q (.ref p) H'
theorem bA2 {prog:aB}{w:World}{A:aQ}{E:yB}{s:af}{t b:Addr}{ws:yH}{Q:yB}(ht:IsTup s.heap t ([]:yH).toArray)(hb:IsTup s.heap b ws.toArray)(h1:Q (.ref b) s) :
  wpAny (model prog w) A (bQ .Add (.ref t) (.ref b)) Q E s:=by
 obtain⟨⟨cls,dd,data,sl⟩,ho,hc,n,hd⟩:=id ht
 obtain⟨⟨Y,F,G,J⟩,p,z,Z,h⟩:=id hb
 simp only at hc hd z h
 subst hc hd z h
 exact jq ⟨_,ho,rfl⟩ ⟨_,p,rfl⟩ f8 iR d4 dP (dB _ _)
   (tuple_addW0 t b _ ws.toArray n Z dd F sl J rfl) ⟨ho,p,h1⟩
theorem bp1 {K:ae}(hK:X.K=K):OpR X (bQ .Add) (bU5 K):=by
 subst hK
 intro F s W H x y v u Q I J Y h
 obtain⟨a,b,Z,ys,e1,e2,ha,hb,hz,q⟩:=h
 by_cases hx:Z=[]
 .subst e1;subst e2;subst hx
  cases J;cases Y
  obtain⟨its,r1,p1,_⟩:=I.tuple ha
  obtain⟨G,r2,p2,_⟩:=I.tuple hb
  obtain rfl:its=[]:=r1.nil_iff.mpr rfl
  exact bA2 p1 p2 ⟨.ref b,H,I,rfl,q b H (ab4.refl H) hb (.inr (.inr ⟨rfl,rfl⟩))⟩
 .refine bq6 F s W H x y v u Q I J Y ⟨a,b,Z,ys,e1,e2,ha,hb,hx,hz,λ z=>?_,λ z p hp=>?_⟩
  .subst z
   exact q a H (ab4.refl H) (by rw[aN];exact ha) (.inr (.inl ⟨rfl,rfl⟩))
  .exact q p _ ((ab4.refl H).new hp) (SqT.of zq) (.inl zq)
def cc9 (K:ae):V->Option Int->Option Int->Hp->VK->Prop:=λ x lo hi H Q=>∃ a xs,x=.ref a/\SqT K H a xs/\∀ p H',ab4 H H'->SqT K H' p (aI6 xs lo hi)->(H' p=some (.tup (aI6 xs lo hi))\/(p=a/\aI6 xs lo hi=xs))->Q (.ref p) H'
theorem an3 {prog:aB}{w:World}{A:aQ}{E:yB}{s:af}{t sl:Addr}{p:yK}{vl vu:Value}{z G:Option Int}{Q:yB}(ht:IsTup s.heap t p)(hs:s.heap.IsSliceOf sl vl vu .none)(pl:fX vl z)(pu:fX vu G)
  (hw:HT.sIx p.size 0 z=0/\HT.sIx p.size p.size G=p.size) (h:Q (.ref t) s):wpAny (model prog w) A (gA (.ref t) (.ref sl)) Q E s:=by
 obtain⟨os,J,Y,a0⟩:=id hs
 have Z:s.TypeIs (.ref sl) "slice":=⟨os,J,Y⟩
 unfold gA
 try with_reducible refine eN ?_
 first|refine aj (ay ?_)|skip
 refine aj (jr ht.typeIs (by decide) ?_)
 refine aj (cU (name:=bX "__getitem__") ht.typeIs br
  (cA br ht.typeIs iG ?_ (i9 _ _)))
 show wpAny _ _ (cB (.ref t) >>= _) _ _ s
 refine aj (iT ht ?_)
 refine aj (gB Z ?_)
 rw[if_pos (by decide)]
 refine aj (HT.sliceApplied_gen hs pl pu ?_)
 have F:((((HT.sIx p.size 0 z:Nat):Int)==0&&(1:Int)==1&&(HT.sIx p.size p.size G - HT.sIx p.size 0 z)==p.size)=true):=by
  rw[hw.1,hw.2]
  simp
 show wpAny _ _ (if(((HT.sIx p.size 0 z:Nat):Int)==0&&(1:Int)==1&&(HT.sIx p.size p.size G - HT.sIx p.size 0 z)==p.size)=true then _ else _) _ _ s
 rw[if_pos F]
 refine aj (aj (gB ht.typeIs (ay ?_)))
 rw[if_pos (by decide)]
 exact aj (iX (ay ⟨_,rfl,ay h⟩))
theorem al6 {p:List V}{F z:Option Int}(h:HT.sIx p.length 0 F=0/\HT.sIx p.length p.length z=p.length):aI6 p F z=p:=by
 unfold aI6
 rw[h.1,h.2]
 simp
theorem bn1 {K:ae}(hK:X.K=K):SlR X (cc9 K):=by
 subst hK
 intro G s W H x v vl vu Z J sl Q I Y hs pl pu h
 obtain⟨a,z,e1,hx,q⟩:=h
 by_cases hw:HT.sIx z.length 0 Z=0/\HT.sIx z.length z.length J=z.length
 .subst e1
  cases Y
  obtain⟨its,r,ht,hz⟩:=I.tuple hx
  have F:its.toArray.size=z.length:=by rw[aw];exact r.length.symm
  refine⟨"tuple",_,br.lookup,ht.typeIs,?_⟩
  exact an3 ht hs pl pu (by rw[F];exact hw) ⟨.ref a,H,I,rfl,q a H (ab4.refl H) (by rw[al6 hw];exact hx) (.inr ⟨rfl,al6 hw⟩)⟩
 .exact bI0 G s W H x v vl vu Z J sl Q I Y hs pl pu ⟨a,z,e1,hx,hw,λ p hp=>q p _ ((ab4.refl H).new hp) (SqT.of zq) (.inl zq)⟩
theorem aZ1 {K:ae}(h:X.K=K):SlR X (ca1 K):=by subst h;exact bo6
end
noncomputable def Its (x:Str):It:=⟨λ i _=>i<x.cps.size,λ i H v H'=>H'=H/\∃ c,x.cps[i]?=some c/\v=.str ⟨#[c]⟩,λ i _=>x.cps.size<=i⟩
theorem aG2 {P:aB}{w:World}{K:ae}{tg:Expr}{G:String}{x:Str}{t:Tok}(it:Addr)(hn:["enumerate", "zip", "dict_itemiterator", "dict_reverseitemiterator", "odict_iterator", "itertools.zip_longest", "itertools.pairwise"].contains G=false)
  (Ww:∀ A:aQ,A.handled=none->Walks P w A it [it] [it] x.cps.size (SignAt x) (λ i h=>h.IsStrIter it G x t i))
  (J:∀(A:aQ) (s:af) (i:Nat) (Q:Option Value->af->Prop) (E:yB),A.handled=none->s.heap.IsStrIter it G x t i->x.cps[i]?=none->(∀ h',jO it s.heap h'->Q none { s with heap:=h' })->wpAny (model P w) A (pyNext (.ref it)) Q E s)
  (F:∀(A:aQ) (i:Nat) (s:af) (Q:yB) (E:yB),s.heap.IsStrIter it G x t i->Q (.ref it) s->wpAny (model P w) A (kG (.ref it)) Q E s):Turn P w K tg (Its x) [it] it (λ i h=>h.IsStrIter it G x t i) where
 mem:=by simp
 obj:=λ i h st b hb=>by
  have e:b=it:=by simpa using hb
  subst e
  obtain⟨o,ho,hc,hd⟩:=st
  exact⟨o,ho,λ v z=>by rw[hd]at z;cases z⟩
 keep:=λ i h h' st k=>by
  obtain⟨o,ho,r⟩:=st
  exact⟨o,k it (by simp) _ ho,r⟩
 item:=by
  intro X hP hw hK hc i p s W H E I Z st hg
  subst hP hw hK
  obtain⟨f0,f1,f2,f3,f4,f5⟩:=Z it (by simp)
  refine(Ww X.A (I.ok.hd hc)).item i s _ _ hg st λ v h' tk hv Y kk=>?_
  obtain⟨c,u,a1,rfl⟩:=hv
  have I1:Inv X p W H { s with heap:=h',toks:=tk }:=I.turned (λ b o hb e=>kk b o (by simpa using hb) e) f0 f1 f3 f4 f5
  obtain⟨o,ho,a0,hd⟩:=id Y
  exact⟨_,rfl,aH9 (s:={ s with heap:=h',toks:=tk }) (n:=G) ho a0 hd hn ⟨.str ⟨#[c]⟩,H,I1,⟨u,rfl⟩,⟨rfl,c,a1,rfl⟩,Y,λ b hb=>(Z b hb).1⟩⟩
 done:=by
  intro X hP hw hK hc i p s W H E I Z st hg
  subst hP hw hK
  obtain⟨f0,f1,f2,f3,f4,f5⟩:=Z it (by simp)
  have a2:x.cps.size<=i:=hg
  exact J X.A s i _ E (I.ok.hd hc) st (by simp;omega) λ h' eb=>⟨rfl,I.turned (t':=s.toks) (λ b o hb e=>eb b o hb e) f0 f1 f3 f4 f5⟩
 self:=λ A i s Q E st h=>F A i s Q E st h
def ca7 (tl:TE):TI:=λ W H R=>tl W H λ v H1=>∃ x,v=.str x/\R (Its x) H1
theorem bL2 {X:Cx}{tg l:Expr}{Y:TE}(hl:PE X l Y):PI X tg l (ca7 Y):=by
 intro p s W H R I h
 refine thn (hl p s W H _ I h) λ v s1 ⟨v0,H1,G,r1,q1⟩=>?_
 obtain⟨x,e,q⟩:=q1
 subst e
 obtain⟨t,rfl⟩:=r1
 have fin:∀(F:String) (o:Obj),o={ cls:=.type F,data:=.fields #[.str x t,.int 0 0] }->Turn X.prog X.w X.K tg (Its x) [s1.heap.objs.size] s1.heap.objs.size (λ i h=>h.IsStrIter s1.heap.objs.size F x t i)->PIE X p W tg R (.ref s1.heap.objs.size) { s1 with heap:=s1.heap.push o }:=λ F o Z T=>by
  subst Z
  refine⟨s1.heap.objs.size,[s1.heap.objs.size],_,_,H1,rfl,G.kept (t':=s1.toks) λ b o e=>ao _ e,T,⟨_,aX _ rfl,rfl,rfl⟩,λ b hb=>?_,q⟩
  have e:b=s1.heap.objs.size:=by simpa using hb
  subst e
  exact G.fpOk (ai _) (G.hok.fresh (ai _))
 cases ha:x.cps.all (·<128)
 .exact wpAny_pyIter_wide ha (fin "str_iterator" _ rfl (aG2 _ (by decide) (λ A z=>Walks.strWide z _ x t) (λ A s i Q E z st hx J=>wpAny_pyNext_wide_end z st hx J) λ A i s Q E st h=>wpAny_pyIter_striter_wide st h))
 .exact wpAny_pyIter_ascii ha (fin "str_ascii_iterator" _ rfl (aG2 _ (by decide) (λ A z=>Walks.strAscii z _ x t) (λ A s i Q E z st hx J=>wpAny_pyNext_ascii_end z st hx J) λ A i s Q E st h=>wpAny_pyIter_striter_ascii st h))
section
variable {X:Cx} {K:ae} {T id:String} {name:Str} {o e:Expr} {es:yL} {to:TE} {t:TA} {r:V->List V->Hp->VK->Prop} {apos cpos:Pos}
theorem bN6 (Y:X.K=K)(pa:kg T)(slot:Slot T name id)(G:typeOf (.builtin id)=pure (.type "method_descriptor"))(J:MtR X id r)(ho:PE X o to)(ha:PA X (e::es) t)
  (z:dz o name X.env (eval o X.env)=eval o X.env:=by rfl)
  (F:((cR cpos (a7 (e::es) X.env)).all (λ x=>!x.1)&&(fw cpos (di [] X.env)).all (λ x=>x.1.isSome)
   && decide ((e::es).length+([]:List fM).length+(if([]:List fM).isEmpty then 0 else 1)<30))=true:=by rfl)
  (p:(apos.endLine==cpos.line)=true:=by rfl) (hs:a7 (e::es) X.env=(false,eval e X.env)::a7 es X.env:=by rfl) (h:(cR cpos (a7 es X.env)).any (·.1)=false:=by rfl) :
  PE X (.Call (.Attribute o name apos) (e::es) [] cpos) (tBM K T r to t):=by
 subst Y
 exact bW0 pa slot G J ho ha z F p hs h
end
structure Mach where
 letters:Int
 rooms:Int
 begins:List Int
 ends:List Int
 doors:List (Int×Str×Int×Int)
noncomputable def bU7 (q:Int×Str×Int×Int):D:=.tup [.int q.1,.str q.2.1,.int q.2.2.1,.int q.2.2.2]
noncomputable def Mach.D (M:Mach):D:=.tup [.int M.letters,.int M.rooms,.tup (M.begins.map .int),.tup (M.ends.map .int),.tup (M.doors.map bU7)]
noncomputable def ltr (i:Nat):Str:=⟨#[97+i]⟩
structure DoorOk (letters rooms:Int)(q:Int×Str×Int×Int):Prop where
 s0:0<=q.1
 s1:q.1<rooms
 l:∃ i:Nat,(i:Int)<letters/\q.2.1=ltr i
 g0:0<=q.2.2.1
 g1:q.2.2.1<rooms
 t0:0<=q.2.2.2
 t1:q.2.2.2<=3
structure RoomsOk (rooms:Int)(l:List Int):Prop where
 mem:∀ r∈l,0<=r/\r<rooms
 up:l.Pairwise (· < ·)
structure Mach.Ok (most:Nat)(M:Mach):Prop where
 l0:1<=M.letters
 l1:M.letters<=3
 r0:1<=M.rooms
 r1:M.rooms<=5
 b:RoomsOk M.rooms M.begins
 e:RoomsOk M.rooms M.ends
 d:∀ q∈M.doors,DoorOk M.letters M.rooms q
 m:M.doors.length<=most
mutual
noncomputable def D.tups:D->Bool
 | .lst _=>false
 | .tup l=>D.tupsL l
 | _=>true
noncomputable def D.tupsL:List D->Bool
 | []=>true
 | d::l=>D.tups d&&D.tupsL l
end
end L2
end
noncomputable section
namespace L2
end L2
end
noncomputable section
namespace L2
open PySem PySem.Spec PyProof.Rows
noncomputable def cb0:List Int->Option Int
 | []=>none
 | a::l=>some (match cb0 l with|none=>a|some b=>if b<a then b else a)
theorem aK8 {X:Cx}{Y tg iter:Expr}{Z:yL}{scope:Scope}{pos a0 py:Pos}{y:Str}{i:Nat}{wi:TI}{g:TG}{tc:TT}{te:TE}(N':yI)(src:yE)
  (hN:X.N.Nodup) (b4:X.N[i]?=some y) (a6:X.env.scope.names.lookup y=some .local)
  (b3:zN N' src scope X.N X.env.scope=true) (hi:PI X tg iter wi) (a2:X.calm=true)
  (b2:∀(Cc:Addr) (cells:yC) (s:af) (H:Hp) (ex:List Addr),PG (zB X N' scope Cc cells s H ex) tg g/\PIf (zB X N' scope Cc cells s H ex) Z tc/\PE (zB X N' scope Cc cells s H ex) Y te)
  (hs:∀ x,de iter X.env x=pure x:=by intro _;rfl)
  (b5:eG (.ListComp Y [⟨tg,iter,Z,0⟩] scope pos) (some (.Name y py)) a0.line X.env=pure true:=by rfl) :
  PS X (.Assign [.Name y py] (.ListComp Y [⟨tg,iter,Z,0⟩] scope pos) a0) (bf2 (tComp src wi g tc te) (av0 i)):=by
 intro F s W H D0 I h
 have ck:=bl6 b3
 rw[exec_Assign_Name_used _ _ _ _ b5]
 refine aj (iO (aj ?_))
 show wpAny _ X.A (do let _ <- comprehension (.ListComp Y [⟨tg,iter,Z,0⟩] scope pos) scope X.env _ (newList []) false (eval iter X.env) (some (gj (.Name y py) X.env))) _ _ s
 have c2:=ad5 (scope:=scope) (env:=X.env) λ y hy e=>I.ok.has y.1 (ck.fr y hy e)
 refine aj (bP (fY (use:=some (gj (.Name y py) X.env)) (Q:=λ _ s'=>SP X F D0 .next s') rfl hs c2 ck.kind ck.loc (thn (hi F s W H _ I h) λ v s1 h1=>thn h1 λ d0 s2 h2=>?_)) (λ _ s' hq=>ay (ay hq)) λ _ _ e=>e)
 obtain⟨it,G,tn,J,H2,e,I2,T,a3,f2,Ww⟩:=h2
 subst e
 have hD:=I2.fresh
 obtain⟨Ww,⟨m0,w0⟩,turn⟩:=Ww _ hD
 have I3:=I2.lnew (its:=[]) (ys:=[]) (t':=s2.toks) .nil (b9 _)
 have a4:∀ b∈G,b<s2.heap.objs.size:=λ b hb=>by obtain⟨o,q,_⟩:=T.obj _ _ a3 b hb;exact aI q
 have f3:∀ b∈G,FpOk X F (upd H2 s2.heap.objs.size (.lst [])) b:=λ b hb=>⟨by rw[zc (aE (a4 b hb))];exact(f2 b hb).1,(f2 b hb).2⟩
 refine bF (ac3 ?_)
 generalize a1:({ s2 with heap:=s2.heap.push { cls:=.type "list",data:=.seq ([]:yH).toArray },toks:=s2.toks }:af)=s3 at I3
 have c3:({ s2 with heap:=s2.heap.push { cls:=.type "list",data:=.seq ([]:yH).toArray } }:af)=s3:=a1
 have b1:∀ b∈G,b<s3.heap.objs.size:=λ b hb=>by
  rw[<-a1]
  show b<(s2.heap.push _).objs.size
  rw[bO]
  exact fP (a4 b hb)
 have I4:=am2 (s4:={ s3 with heap:=eJ (s3.heap.push { cls:=.type "dict",data:=.dict #[] }) scope.names }) ck I3 f3 b1 ⟨_,rfl⟩
 have a5:tn 0 (eJ (s3.heap.push { cls:=.type "dict",data:=.dict #[] }) scope.names):=T.keep _ _ _ a3 λ b hb o e=>c7 _ _ b o (ao _ (by rw[<-a1];exact ao _ e))
 obtain⟨hg,c1,he⟩:=b2 s3.heap.objs.size (aK (s3.heap.objs.size+1) scope.names (ak4 X.env.cells scope.names [])) s3 (upd H2 s2.heap.objs.size (.lst [])) G
 have b0:∀ H':Hp,(∀ b∈G,H' b=none)->∀ b∈G,FpOk (zB X N' scope s3.heap.objs.size (aK (s3.heap.objs.size+1) scope.names (ak4 X.env.cells scope.names [])) s3 (upd H2 s2.heap.objs.size (.lst [])) G) [] H' b:=λ H' hn b hb =>
  ⟨hn b hb,(I4.ok.exf b hb).1,I4.ok.exfs b hb,.inl hb,λ x c e=>(I4.ok.exf b hb).2 x c e,λ p hp=>absurd (show p∈([]:yA)from hp) (by simp)⟩
 have T':Turn X.prog X.w X.K tg J G it tn:=T
 have b6:∀ b∈G,upd H2 s2.heap.objs.size (.lst []) b=none:=λ b hb=>(f3 b hb).1
 have L:=av1 (X':=zB X N' scope s3.heap.objs.size (aK (s3.heap.objs.size+1) scope.names (ak4 X.env.cells scope.names [])) s3 (upd H2 s2.heap.objs.size (.lst [])) G) (R:=compPost (model X.prog X.w) X.A X.xe (some (gj (.Name y py) X.env)) (λ _ s'=>SP X F D0 .next s') (Value.ref s2.heap.objs.size) s3.heap.objs.size) (iter:=iter) (scope:=scope) (pos:=pos) (QD:=λ H'=>D0.nx (W.set i (some (.ref s2.heap.objs.size))) H') rfl a2 I4 T' a5 b0 b6 w0 turn hg c1 he
  (λ W' H' s' J' q=>by
   have J2:=aG4 I3 f3 J' (Heap.SameBut.refl _ _)
   obtain⟨mm,hn,_⟩:=J'.loc
   have nL:s3.heap.objs.size≠X.env.locals:=gk I3.lt
   have nC:∀ x c,X.env.cells.lookup x=some c->c≠s3.heap.objs.size:=λ x c e=>by
    obtain⟨v,z⟩:=I3.cell x c e
    exact aE z.lt
   show wpAny _ X.A (gj (.Name y py) X.env (.ref s2.heap.objs.size)) _ _ _
   refine jk (as4 (v:=.ref s2.heap.objs.size) J2 hN b4 (.inl a6) rfl (λ s5 I5 sb=>?_) (.inr a6))
   obtain⟨aa,sb,ha⟩:=sb
   have na:s3.heap.objs.size≠aa:=by
    rcases ha with z|z
    .rw[z];exact nL
    .exact λ e=>nC _ _ z e.symm
   refine⟨mm,hn.sameBut sb na,λ h' c0=>⟨_,H',I5.turned (t':=s5.toks) (λ b o hb e=>(c0.2 b hb).trans e) J'.free nL (.inr I3.sz) nC λ p hp z=>?_,q⟩⟩
   exact absurd (aI (I3.pin p hp).1) (by rw[z];exact bA _))
 exact gH L (T.self _ _ _ _ _ a5 L)
def ce1:V->Option Int->Option Int->Hp->VK->Prop:=λ x lo hi H Q=>∃ z,x=.str z/\z.length<=aG/\Q (.str (eW z lo hi)) H
theorem au8 {v:Value}{o:Option Int}(p:fX v o):∃ q:Option (Int×Tok),v=partValue q/\q.map (·.1)=o:=by
 cases p with
 | none=>exact⟨none,rfl,rfl⟩
 | int i t=>exact⟨some (i,t),rfl,rfl⟩
theorem bB3 {X:Cx}:SlR X ce1:=by
 intro Z s W H x v vl vu J G sl Q I rx hs pl pu h
 obtain⟨z,rfl,hz,q⟩:=h
 obtain⟨t,rfl⟩:=rx
 obtain⟨l,rfl,el⟩:=au8 pl
 obtain⟨u,rfl,eu⟩:=au8 pu
 refine⟨"str",_,F.slot_str_getitem.lookup,ke s z t,?_⟩
 refine wpAny_getItem_str_slice (l:=l) (u:=u) (st:=none) hs rfl ?_
 unfold sliceMade
 have e:slicePicked z l u none=bv J G 1 z.length:=by
  unfold slicePicked
  rw[el,eu]
  rfl
 rw[e]
 unfold eW at q
 split
 .rename_i hc
  have p:((1:Int)==1&&(bv J G 1 z.length).length==z.length)=true:=hc
  rw[if_pos p]at q
  exact⟨.str z,H,I,⟨t,rfl⟩,q⟩
 .rename_i hc
  have p:¬((1:Int)==1&&(bv J G 1 z.length).length==z.length)=true:=hc
  rw[if_neg p]at q
  have Y:(Str.mk (ig (λ x=>z.cps[x]?) (bv J G 1 z.length)).toArray).length<=aG:=by
   show(ig (λ x=>z.cps[x]?) (bv J G 1 z.length)).toArray.size<=aG
   rw[aw]
   exact ak (List.length_filterMap_le _ _) (ak (sliceIndices_le J G z.length) hz)
  exact⟨Y,.str _,H,I.tok _,⟨_,rfl⟩,q⟩
section
variable {M:Model} {A:aQ} {E:yB} {s₀ s:af} {m cm:yD} {env:Env} {cs:yC}
theorem bw0 {n:Str}{v:Value}{Q:Unit->af->Prop}(z:fN s₀ env.locals m cs cm s)(p:env.scope.kind=.function)(kl:env.kindOf n=some .local)
  (go:∀ s',fN s₀ env.locals (λ y=>if y=n then some v else m y) cs cm s'->Q () s'):wpAny M A (iw env n v) Q E s:=by
 refine gW kl z.toInCall.ns (λ g h gs=>go _ ⟨⟨?a,h,λ b o e=>?b,z.toInCall.fresh⟩,λ k c e=>?c,z.apart,z.above⟩) (by rw[p];rfl)
 case a=>obtain⟨F,tk,e⟩:=z.toInCall.same;subst e;exact⟨g,_,rfl⟩
 case b=>exact gs.extBut b o (aE (az (aI e) z.toInCall.fresh)) (z.toInCall.keep b o e)
 case c=>exact(z.cell k c e).sameBut gs (gk (z.above k c (aF e)))
theorem bz1 {n:Str}{c:Addr}{v:Value}{Q:Unit->af->Prop}(z:fN s₀ env.locals m cs cm s)(F:env.scope.kind=.function)(G:env.kindOf n=some .cell)
  (e1:env.cells.lookup n=some c) (e2:cs.lookup n=some c) (go:∀ s',fN s₀ env.locals m cs (λ y=>if y=n then some v else cm y) s'->Q () s'):wpAny M A (iw env n v) Q E s:=by
 have up:=z.above n c (aF e2)
 refine hW F G e1 (z.cell n c e2) λ g h gs=>go _ ⟨⟨?a,z.toInCall.ns.sameBut gs (aE up),λ b o e=>?b,z.toInCall.fresh⟩,λ k p e=>?c,z.apart,z.above⟩
 case a=>obtain⟨J,tk,e⟩:=z.toInCall.same;subst e;exact⟨g,_,rfl⟩
 case b=>exact gs.extBut b o (aE (gI (az (aI e) z.toInCall.fresh) up)) (z.toInCall.keep b o e)
 case c =>
  by_cases q:k=n
  .subst q
   rw[e2]at e;cases e
   simpa using h
  .rw[if_neg q]
   exact(z.cell k p e).sameBut gs λ y=>q (gz z.apart (aF e) (y▸aF e2))
theorem aw5 (f:Str×Value->PUnit->Sem (ForInStep PUnit))(Y:∀ n v u,f (n,v) u=(do iw env n v;pure (.yield ⟨⟩)))(F:env.scope.kind=.function)(sub:∀ n c,cs.lookup n=some c->env.cells.lookup n=some c) :
  ∀(bs:List (Str×Value)) (m G:yD) (s:af) (Q:PUnit->af->Prop),fN s₀ env.locals m cs G s ->
   (∀ y∈bs,env.kindOf y.1=some .local\/(env.kindOf y.1=some .cell/\∃ c,cs.lookup y.1=some c)) ->
   (∀ s',fN s₀ env.locals (bindL env.kindOf bs m) cs (bindC env.kindOf bs G) s'->Q ⟨⟩ s')->wpAny M A (forIn bs ⟨⟩ f) Q E s
 | [],m,G,s,Q,z,_,go=>by rw[ie];exact ay (go s z)
 | (n,v)::r,m,G,s,Q,z,hy,go=>by
  rw[jU,Y]
  have hr:=λ y (q:y∈r)=>hy y (au _ q)
  rcases hy (n,v) aA with kl|⟨Z,c,e2⟩
  .refine aj (aj (bw0 z F kl λ s' J=>ay (aw5 f Y F sub r _ _ s' Q J hr λ p h=>go p ?_)))
   unfold bindL bindC;rw[if_pos kl,if_pos kl];exact h
  .have nl:¬ env.kindOf n=some .local:=by rw[Z];decide
   refine aj (aj (bz1 z F Z (sub n c e2) e2 λ s' J=>ay (aw5 f Y F sub r _ _ s' Q J hr λ p h=>go p ?_)))
   unfold bindL bindC;rw[if_neg nl,if_neg nl];exact h
end
theorem am5 {M:Model}{A:aQ}{E:yB}{s:af}{scope:Scope}{globals:Addr}{h:yC}{binds:List (Str×Value)}{qual:Str}{func:yJ}{code:Value}{builtins:Addr}{Q:Env->af->Prop}
  (F:scope.kind=.function) (hy:∀ y∈binds,scope.names.lookup y.1=some .local\/(scope.names.lookup y.1=some .cell/\∃ c,(aK (s.heap.objs.size+1) scope.names []).lookup y.1=some c))
  (go:∀ env,env=newEnv scope s.heap.objs.size globals (aK (s.heap.objs.size+1) scope.names h) qual func code none builtins ->
   ∀ s',fN s env.locals (bindL env.kindOf binds λ _=>none) (aK (s.heap.objs.size+1) scope.names []) (bindC env.kindOf binds λ _=>none) s'->Q env s') :
  wpAny M A (fB scope globals h binds qual func code none builtins) Q E s:=by
 simp only[fB,Option.isSome_none,bu,if_false]
 refine aj (wpAny_alloc (aj (wpAny_layCells _ (λ J kd G=>by cases q:kd==NameKind.cell<;>simp[q]) _ _ _ _ ?_)))
 have ok:=cellsFrom_ok scope.names (s.heap.push { cls:=.type "frame",data:=.dict #[] }) (s.heap.objs.size+1) [] ⟨λ _ _ z=>(nomatch z),List.Pairwise.nil⟩ (by rw[bO];exact ai _)
 have p:({ s with heap:=s.heap.push { cls:=.type "frame",data:=.dict #[] } }:af).heap.objs.size=s.heap.objs.size+1:=bO ..
 rw[bO]at ok
 rw[p]
 refine aj (aw5 (s₀:=s) (cs:=aK (s.heap.objs.size+1) scope.names []) (env:=newEnv scope s.heap.objs.size globals (aK (s.heap.objs.size+1) scope.names h) qual func code none builtins)
  _ (λ _ _ _=>rfl) F (λ n c e=>?sub) binds (λ _=>none) (λ _=>none) _ _ ⟨⟨⟨_,_,rfl⟩,?ns,λ b o e=>?k,ai _⟩,λ n c e=>(ok.empty n c (aF e)).1,ok.apart,λ n c e=>(ok.empty n c e).2⟩ hy λ s' x=>ay (go _ rfl s' x))
 case sub =>
  show(aK _ _ _).lookup n=some c
  rw[ze,zw,e];rfl
 case ns=>exact(kY s.heap (.type "frame")).keeps (c7 _ _)
 case k=>exact c7 _ _ b o (ao _ e)
noncomputable def au3 (c:Addr)(qual:Str):HO:=.ext λ h=>h.CodeRec (.ref c) qual
noncomputable def bA9 (f:Addr)(fd:bH):HO:=.ext λ h=>h.get? f=some { cls:=.type "function",data:=.func fd }
theorem as6 {P:aB}{w:World}{H:Hp}{h:Heap}{c:Addr}{q:Str}(x:HOk P w H h)(e:H c=some (au3 c q)):h.CodeRec (.ref c) q:=(x c _ e).1
theorem ap2 {P:aB}{w:World}{H:Hp}{h:Heap}{f:Addr}{p:bH}(x:HOk P w H h)(e:H f=some (bA9 f p)):h.get? f=some { cls:=.type "function",data:=.func p }:=(x f _ e).1
noncomputable def isC (cells:yC)(b:Addr):Bool:=cells.any λ p=>cells.lookup p.1==some b
theorem aR0 {cells:yC}{b:Addr}:isC cells b=true↔∃ x,cells.lookup x=some b:=by
 unfold isC
 rw[dr]
 constructor
 .rintro⟨p,_,e⟩;exact⟨p.1,by simpa using e⟩
 .rintro⟨x,e⟩;exact⟨(x,b),aF e,by simpa using e⟩
noncomputable def aa5 (cells:yC)(H:Hp):Hp:=λ b=>if isC cells b=true then none else H b
noncomputable def Put (cells:yC)(H H':Hp):Hp:=λ b=>if isC cells b=true then H b else H' b
theorem aa5.cell {cells:yC}{H:Hp}{b:Addr}(h:isC cells b=true):aa5 cells H b=none:=if_pos h
theorem aa5.ne {cells:yC}{H:Hp}{b:Addr}(h:isC cells b≠true):aa5 cells H b=H b:=if_neg h
theorem aa5.some {cells:yC}{H:Hp}{b:Addr}{o:HO}(h:aa5 cells H b=some o):isC cells b≠true/\H b=some o:=by
 unfold aa5 at h
 split at h
 .cases h
 .rename_i z;exact⟨z,h⟩
theorem aa5.none {cells:yC}{H:Hp}{b:Addr}(h:H b=none):aa5 cells H b=none:=by
 unfold aa5
 split
 .rfl
 .exact h
theorem Put.cell {cells:yC}{H H':Hp}{b:Addr}(h:isC cells b=true):Put cells H H' b=H b:=if_pos h
theorem Put.ne {cells:yC}{H H':Hp}{b:Addr}(h:isC cells b≠true):Put cells H H' b=H' b:=if_neg h
def Cells (clos:yC)(H:Hp):Prop:=∀ x c,clos.lookup x=some c->∃ o v,H c=some (.frz o (.own c))/\o.data=.cell v
theorem Cells.at {p:yC}{H:Hp}(z:Cells p H){b:Addr}(h:isC p b=true):∃ o v,H b=some (.frz o (.own b))/\o.data=.cell v:=by
 obtain⟨x,e⟩:=aR0.mp h
 exact z x b e
def Cap (clos:yC)(H:Hp)(fr:yI)(cap:List V):Prop:=∀(i:Nat) (x:Str) (v:V),fr[i]?=some x->cap[i]?=some v->∃ c o u,clos.lookup x=some c/\H c=some (.frz o (.own c))/\o.data=.cell (some u)/\RelV v u
structure LamScope (N ps fr:yI)(sc:Scope):Prop where
 kind:sc.kind=.function
 co:sc.isCoroutine=false
 gen:sc.isGenerator=false
 nd:N.Nodup
 app:N=ps++fr
 par:∀ x∈ps,sc.names.lookup x=some .local\/sc.names.lookup x=some .cell
 frs:∀ x∈fr,sc.names.lookup x=some .free
 cel:∀ y∈sc.names,y.2=.cell->sc.names.lookup y.1=some .cell
noncomputable def ax9 (P:aB)(w:World)(K:ae)(mg:yD)(base:Heap)(N:yI)(qual:Str)(scope:Scope)(f:Addr)(cd:Value)(clos:yC)(A:aQ)(outer:List Env)(s:af)(H:Hp):Cx where
 prog:=P
 w:=w
 K:=K
 mg:=mg
 base:=base
 A:=A.deeper (cY qual scope s.heap.objs.size f cd (aK (s.heap.objs.size+1) scope.names clos))
 N:=N
 s₀:=s
 H₀:=aa5 clos H
 env:=cY qual scope s.heap.objs.size f cd (aK (s.heap.objs.size+1) scope.names clos)
 outer:=outer
 stack:=cY qual scope s.heap.objs.size f cd (aK (s.heap.objs.size+1) scope.names clos)::outer
 ex:=[]
 fn:=λ x=>scope.names.lookup x==some .cell
 calm:=true
 pn:=[]
 xe:=λ _ _=>False
theorem HOk.drop {P:aB}{w:World}{H:Hp}{h:Heap}{p:yC}(x:HOk P w H h)(z:Cells p H):HOk P w (aa5 p H) h:=λ b o e=>by
 obtain⟨_,e'⟩:=aa5.some e
 have F:∀ c u,H c=some u->(∀ o v,u≠.frz o v)->isC p c≠true:=λ c u q d y=>by
  obtain⟨o,v,q',_⟩:=z.at y
  rw[q]at q';cases q'
  exact d _ _ rfl
 exact(x b o e').stay (λ _ _ _ q=>q) (λ c q=>by rw[aa5.ne (F c _ q λ _ _=>by nofun)];exact q) λ c G q=>by rw[aa5.ne (F c _ q λ _ _=>by nofun)];exact q
theorem aW7 {P:aB}{w:World}{K:ae}{mg:yD}{base:Heap}{N ps fr:yI}{qual:Str}{scope:Scope}{f:Addr}{cd:Value}{h:yC}{A:aQ}{F:List Env}{s s1:af}{H:Hp}{us:yH}{vs cap:List V}
  (S:LamScope N ps fr scope) (hd:A.handled=none) (G:Env0 P w K mg base A F s H) (hl:vs.length=ps.length) (a4:cap.length=fr.length) (r:Vals vs us)
  (hc:Cells h H) (inj:∀ x y c,h.lookup x=some c->h.lookup y=some c->x=y) (a3:∀ x,scope.names.lookup x=some .free->∃ c,h.lookup x=some c) (a0:Cap h H fr cap)
  (x:fN s s.heap.objs.size (bindL (cY qual scope s.heap.objs.size f cd (aK (s.heap.objs.size+1) scope.names h)).kindOf (ps.zip us) λ _=>none) (aK (s.heap.objs.size+1) scope.names [])
   (bindC (cY qual scope s.heap.objs.size f cd (aK (s.heap.objs.size+1) scope.names h)).kindOf (ps.zip us) λ _=>none) s1) :
  Inv (ax9 P w K mg base N qual scope f cd h A F s H) [] (vs.map some++cap.map some) (aa5 h H) s1:=by
 obtain⟨h1,tk,rfl,hk⟩:=x.done
 have Y:∀ b:Addr,b ∉ (ax9 P w K mg base N qual scope f cd h A F s H).ex:=λ b z=>absurd (show b∈([]:List Addr)from z) (by simp)
 have lk:∀ y c,(aK (s.heap.objs.size+1) scope.names h).lookup y=some c->(aK (s.heap.objs.size+1) scope.names []).lookup y=some c\/((aK (s.heap.objs.size+1) scope.names []).lookup y=none/\h.lookup y=some c):=λ y c e=>by
  rw[ze,zw]at e
  cases q:(aK (s.heap.objs.size+1) scope.names []).lookup y with
  | some d=>rw[q]at e;left;simpa using e
  | none=>rw[q]at e;right;exact⟨rfl,by simpa using e⟩
 have own:∀ y c,(aK (s.heap.objs.size+1) scope.names []).lookup y=some c->s.heap.objs.size<c:=λ y c e=>x.above y c (aF e)
 have Z:∀ y c,h.lookup y=some c->c<s.heap.objs.size:=λ y c e=>by
  obtain⟨o,v,q,_⟩:=hc y c e
  exact G.hok.lt q
 have hx:∀ y c,h.lookup y=some c->scope.names.lookup y=some .free->(aK (s.heap.objs.size+1) scope.names h).lookup y=some c:=λ y c e k=>by
  rw[ze,zw]
  cases q:(aK (s.heap.objs.size+1) scope.names []).lookup y with
  | none=>exact e
  | some d =>
   rcases zu (aF q)with z|z
   .rw[S.cel _ z rfl]at k;cases k
   .exact absurd z (by simp)
 have dn:∀ b,H b=none->aa5 h H b=none:=λ b e=>aa5.none e
 refine⟨⟨G.mod,S.kind,rfl,rfl,ai _,λ y z c a b=>?inj,λ y hy=>?has,λ y c hy e=>?cab,λ _=>hd,h9 G.frames,.inr ⟨rfl,rfl⟩,λ b z=>absurd z (Y b),λ b o e=>⟨(G.bs b o e).1,dn b (G.bs b o e).2⟩,G.bsz,λ b _ _=>Y b,λ b z=>absurd z (Y b),G.funs,λ b hb=>dn b (G.frf b hb)⟩,
  rfl,G.bare,Un.kept hk,⟨_,x.toInCall.ns,λ i y v q1 q2 q3=>?loc⟩,λ y c e=>?cell,dn _ (G.hok.fresh (ai _)),λ y c e=>?freeC,λ p hp=>absurd (show p∈([]:yA)from hp) (by simp),(G.hok.drop hc).kept hk,?len⟩
 case inj =>
  rcases lk y c a with a|⟨_,a⟩<;>rcases lk z c b with b|⟨_,b⟩
  .exact gz x.apart (aF a) (aF b)
  .exact absurd (gI (own _ _ a) (Z _ _ b)) (bA _)
  .exact absurd (gI (own _ _ b) (Z _ _ a)) (bA _)
  .exact inj y z c a b
 case has =>
  have hy:scope.names.lookup y=some .cell\/scope.names.lookup y=some .free:=hy
  rcases hy with hy|hy
  .obtain⟨c,e⟩:=zM (n:=s.heap.objs.size+1) hy
   refine⟨c,?_⟩
   show(aK (s.heap.objs.size+1) scope.names h).lookup y=some c
   rw[ze,zw,e];rfl
  .obtain⟨c,e⟩:=a3 y hy
   exact⟨c,hx y c e hy⟩
 case cab =>
  have hy:(scope.names.lookup y==some .cell)=true:=hy
  have a2:scope.names.lookup y=some .cell:=by simpa using hy
  rcases lk y c e with a|⟨a,_⟩
  .exact dW (own y c a)
  .obtain⟨d,q⟩:=zM (n:=s.heap.objs.size+1) a2
   rw[q]at a;cases a
 case loc =>
  have a1:ps.Nodup:=by have:=S.nd;rw[S.app]at this;exact(fQ.mp this).1
  by_cases hi:i<vs.length
  .have ha:vs[i]?=some v:=by
    rw[ax (by simpa using hi),aC]at q2
    cases e:vs[i]? with
    | none=>rw[e]at q2;cases q2
    | some a=>rw[e]at q2;cases q2;rfl
   obtain⟨u,hu,rv⟩:=r.get ha
   have hp:ps[i]?=some y:=by
    have J:N[i]?=some y:=q1
    rw[S.app,ax (by omega)]at J;exact J
   refine⟨u,rv,?_⟩
   rcases S.par y (aY hp)with k|k
   .exact .inl ⟨k,ai4 a1 hp hu k⟩
   .obtain⟨c,e⟩:=zM (n:=s.heap.objs.size+1) k
    refine .inr ⟨.inl k,c,?_,?_⟩
    .show(aK (s.heap.objs.size+1) scope.names h).lookup y=some c
     rw[ze,zw,e];rfl
    .have q:=x.cell y c e
     rw[aj7 a1 hp hu (by show scope.names.lookup y≠_;rw[k];decide)]at q
     exact q
  .have hf:fr[i - vs.length]?=some y:=by
    have J:N[i]?=some y:=q1
    rw[S.app,aJ (by omega)]at J;rw[hl];exact J
   have hv:cap[i - vs.length]?=some v:=by
    rw[aJ (by simpa using hi),aC,aD]at q2
    cases e:cap[i - vs.length]? with
    | none=>rw[e]at q2;cases q2
    | some a=>rw[e]at q2;cases q2;rfl
   obtain⟨c,o,u,e1,e2,e3,e4⟩:=a0 _ y v hf hv
   have kf:=S.frs y (aY hf)
   refine⟨u,e4,.inr ⟨.inr kf,c,hx y c e1 kf,?_⟩⟩
   exact⟨o,hk c o (G.hok c _ e2).1,e3⟩
 case cell =>
  rcases lk y c e with a|⟨_,a⟩
  .exact⟨_,x.cell y c a⟩
  .obtain⟨o,v,q,d⟩:=hc y c a
   exact⟨v,o,hk c o (G.hok c _ q).1,d⟩
 case freeC =>
  rcases lk y c e with a|⟨_,a⟩
  .exact dn c (G.hok.fresh (dW (own y c a)))
  .exact aa5.cell (aR0.mpr ⟨y,a⟩)
 case len =>
  show _=N.length
  rw[S.app]
  simp[hl,a4]
theorem aL9 {P:aB}{w:World}{p:List Env}{H H':Hp}{s s':af}{h:yC}(hok:HOk P w H s.heap)(hc:Cells h H)(frf:∀ b∈frs p,H b=none)
  (un:Un (frs p) [] (aa5 h H) H' s.heap s'.heap) (J:HOk P w H' s'.heap):Un (frs p) [] H (Put h H H') s.heap s'.heap/\HOk P w (Put h H H') s'.heap:=by
 have Z:∀ b,H b=none->isC h b≠true:=λ b e y=>by
  obtain⟨o,v,q,_⟩:=hc.at y
  rw[e]at q;cases q
 have F:∀ c u,H c=some u->(∀ o v,u≠.frz o v)->isC h c≠true:=λ c u q d y=>by
  obtain⟨o,v,q',_⟩:=hc.at y
  rw[q]at q';cases q'
  exact d _ _ rfl
 have G:∀ b,isC h b=true->H' b=none:=λ b y=>by
  obtain⟨o,v,q,_⟩:=hc.at y
  exact un.free b o (hok b _ q).1 (aa5.cell y) (by simp)
 refine⟨⟨λ b o e n hb hx=>un.keep b o e (aa5.none n) hb hx,λ b o e n hb hx=>un.slot b o e (aa5.none n) hb hx,λ b o e n hx=>?_,λ b o e hx=>un.there b o e hx,λ b Y e=>?_,λ b o u e=>?_,λ b ps e=>?_⟩,λ b o e=>?_⟩
 .rw[Put.ne (Z b n)];exact un.free b o e (aa5.none n) hx
 .have z:=F b _ e λ _ _=>by nofun
  rw[Put.ne z];exact un.tups b Y (by rw[aa5.ne z];exact e)
 .by_cases z:isC h b=true
  .rw[Put.cell z];exact e
  .rw[Put.ne z];exact un.frzs b o u (by rw[aa5.ne z];exact e)
 .have z:=F b _ e λ _ _=>by nofun
  rw[Put.ne z];exact un.tbls b ps (by rw[aa5.ne z];exact e)
 .by_cases z:isC h b=true
  .rw[Put.cell z]at e
   obtain⟨ob,v,q,d⟩:=hc.at z
   rw[q]at e;cases e
   have g:=(hok b _ q).1
   have g':=un.keep b ob g (aa5.cell z) (λ y=>by rw[frf b y]at q;cases q) (by simp)
   exact⟨g',ob,g'⟩
  .rw[Put.ne z]at e
   have np:∀ c u,H' c=some u->Put h H H' c=some u:=λ c u q=>by
    rw[Put.ne λ y=>by rw[G c y]at q;cases q];exact q
   exact(J b o e).stay (λ _ _ _ q=>q) (λ c q=>np c _ q) λ c Y q=>np c _ q
structure ClOk (P:aB)(w:World)(K:ae)(mg:yD)(base:Heap)(k:Nat)(R:Hp->Prop)(f:Addr)(sp:Sp):Prop where
 run:∀(A:aQ) (outer:List Env) (s:af) (H:Hp) (us:yH) (vs:List V) (Q:VK),Room k A->Env0 P w K mg base A outer s H->R H->Vals vs us->sp vs H Q E0 ->
  fL (model P w) A (.call (.ref f) ⟨us,[]⟩) (CR CX0 outer P w H s Q E0) s
def av7 (H:Hp)(f:Addr)(qual:Str)(params:bV)(body:Expr)(scope:Scope)(fr:yI)(cap:List V)(clos:yC):Prop :=
 ∃ pm c' ctv,H f=some (bA9 f (dj "<lambda>" qual params body scope clos pm (.ref c') ctv))/\H c'=some (au3 c' qual)/\Cells clos H /\
  (∀ x y c,clos.lookup x=some c->clos.lookup y=some c->x=y)/\(∀ x,scope.names.lookup x=some .free->∃ c,clos.lookup x=some c)/\Cap clos H fr cap
def BM (mg:yD)(base:Heap):Prop:=∃ bm ob,mg "__builtins__"=some (.ref bm)/\bm≠gh/\base.get? bm=some ob/\ob.cls=.type "module"/\ob.dict=some gh/\ob.data=.plain
noncomputable def lamCheck (scope xs:Scope):Bool:=scope.names.all λ y=>!(y.2==.free)||(xs.names.lookup y.1==some .cell||xs.names.lookup y.1==some .free)
structure Caught (cl:yC)(N:yI)(kd:Str->Option cf)(W:St)(H1 H2:Hp):Prop where
 ne:∀ b,isC cl b≠true->H2 b=H1 b
 free:∀ b,isC cl b=true->H1 b=none
 cells:Cells cl H2
 cap:∀(i:Nat) (x:Str) (v:V) (c:Addr),N[i]?=some x->W[i]?=some (some v)->(kd x=some .cell\/kd x=some .free)->cl.lookup x=some c->∃ o u,H2 c=some (.frz o (.own c))/\o.data=.cell (some u)/\RelV v u
 inj:∀ x y c,cl.lookup x=some c->cl.lookup y=some c->x=y
def bQ9 (K:ae)(H:Hp)(f:Addr):Prop:=(∃ fd,H f=some (bA9 f fd))\/∃ oc od fd sl,K.lookup f=some ⟨oc,od,.func fd,sl⟩
theorem bQ9.at {X:Cx}{p:yA}{W:St}{H:Hp}{s:af}{f:Addr}(h:bQ9 X.K H f)(I:Inv X p W H s):PySem.W.FnAt f s.heap:=by
 rcases h with⟨z,h⟩|⟨oc,od,z,sl,h⟩
 .exact⟨_,_,_,_,ap2 I.hok h⟩
 .exact⟨_,_,_,_,I.kIn _ _ h⟩
noncomputable def as2 (K:ae)(names:yI):List (Str×Addr×Addr):=names.filterMap λ x=>(bj K x).map λ p=>(x,p)
theorem am8 {K:ae}{names:yI}{y:Str×Addr×Addr}:y∈as2 K names↔y.1∈names/\bj K y.1=some y.2:=by
 unfold as2
 rw[fq]
 constructor
 .rintro⟨x,hx,e⟩
  obtain⟨p,h,rfl⟩:=bt.mp e
  exact⟨hx,h⟩
 .rintro⟨hx,e⟩
  exact⟨y.1,hx,by rw[e];rfl⟩
def by1 (K:ae)(names:yI)(base:Heap):Prop:=∀ x∈names,∀ c P,bj K x=some (c,P)->bU base c P
def bx4 (K:ae)(names:yI)(H:Hp):Prop:=∀ x∈names,∀ c P,bj K x=some (c,P)->H P=some (.tbl #[])
noncomputable def bI5 (K:ae)(names:yI)(ts:List Addr):Bool:=names.all λ x=>match bj K x with
 | some (c,P)=>jK K c P&&ts.contains P
 | none=>true
theorem aq4 {K:ae}{x:Str}(h:(bj K x).isSome=true):bj K x=some (((bj K x).getD (0,0)).1,((bj K x).getD (0,0)).2):=by
 obtain⟨p,e⟩:=b7.mp h
 rw[e]
 rfl
def bK2 (H:Hp)(P:Addr)(q:Str):Prop:=∃ ps:Array Value,H P=some (.tbl ps)/\TriplesOk ps.toList/\∀ pos cv,codeAmong pos ps.toList=some cv->∃ c',cv=.ref c'/\H c'=some (au3 c' q)
def TabsH (T:List (Addr×Str))(H:Hp):Prop:=∀ y∈T,bK2 H y.1 y.2
def bP3 (H H':Hp):Prop:=∀ b o,(∀ ps,o≠.tbl ps)->H b=some o->H' b=some o
theorem bP3.of {H p:Hp}(a:ab4 H p):bP3 H p:=λ c o _ h=>a c o h
theorem TabsH.keep {T:List (Addr×Str)}{H H':Hp}(h:TabsH T H)(k:∀ b o,(∀ z,o≠.lst z)->H b=some o->H' b=some o):TabsH T H':=λ y hy=>by
 obtain⟨ps,e,t,c⟩:=h y hy
 refine⟨ps,k _ _ (λ _=>by nofun) e,t,λ pos F q=>?_⟩
 obtain⟨p,e1,e2⟩:=c pos F q
 exact⟨p,e1,k _ _ (λ _=>by unfold au3;nofun) e2⟩
theorem TabsH.same {T:List (Addr×Str)}{H H':Hp}(h:TabsH T H)(s:ab4 H H'):TabsH T H':=h.keep λ b o _ e=>s b o e
theorem TabsH.new {T:List (Addr×Str)}{H:Hp}{a:Addr}{o:HO}(h:TabsH T H)(n:H a=none):TabsH T (upd H a o):=h.same ((ab4.refl H).new n)
theorem TabsH.put {T:List (Addr×Str)}{H:Hp}{a:Addr}{o:HO}{p:List V}(h:TabsH T H)(n:H a=some (.lst p)):TabsH T (upd H a o):=h.keep λ b u d e=>by
 rw[zc λ z=>by subst z;rw[n]at e;cases e;exact d _ rfl];exact e
theorem TabsH.init {T:List (Addr×Str)}{H:Hp}(h:∀ p∈T.map (·.1),H p=some (.tbl #[])):TabsH T H:=λ y hy =>
 ⟨#[],h _ (bw hy),trivial,λ pos z e=>by simp[codeAmong]at e⟩
theorem Caught.same {cells:yC}{N:yI}{kd:Str->Option cf}{W:St}{p F:Hp}(h:Caught cells N kd W p F):ab4 p F:=λ b o e=>by
 rw[h.ne b λ z=>by rw[h.free b z]at e;cases e];exact e
theorem Fun.okC {P:aB}{w:World}{K:ae}{mg:yD}{base:Heap}{x qual:Str}{st:Stmt}{f c:Addr}{G:bH}{N ps:yI}{k:Nat}{sp:Sp}(F:Fun K x qual st f G)(J:G.code=.ref c)(S:FnScope N ps (defScope st))(len:∀ vs H Q E,sp vs H Q E->vs.length=ps.length)
  (z:∀(A:aQ) (p:List Env) (s:af) (H:Hp) (vs:List V) (Q:VK) (E:XK),Room k (A.deeper (fx qual (defScope st) s.heap.objs.size f (.ref c)))->sp vs H Q E ->
   ∃ t,PSs (aZ0 CX0 P w K mg base N qual (defScope st) f (.ref c) A p s H E).nox (defBody st) t/\t { nx:=λ _ H'=>Q .non H',rt:=Q } (ae7 N vs) H):FnOk P w K mg base CX0 (k+1) f G ps sp:=by
 obtain⟨oc,od,kV,a1,pm,an,Z,ct,a0,rfl,lk,hc⟩:=F.ex
 have e:Z=.ref c:=J
 subst e
 refine bD2 lk hc S len λ A p s H vs Q E hr Y=>?_
 obtain⟨t,h,q⟩:=z A p s H vs Q E hr Y
 exact⟨t,h.nox,q⟩
theorem aQ7 {X:Cx}{K:ae}(hc:X.calm=true)(hK:X.K=K):aa6 X (.builtin "min") (λ xs H Q=>∃ a ns,xs=[.ref a]/\SqL K H a (ns.map V.int)/\ns≠[]/\∀ m∈ns,(∀ y∈ns,m<=y)->Q (.int m) H):=by
 subst hK
 intro Z s W H xs us Q I r h
 obtain⟨a,ns,rfl,hS,Y,q⟩:=h
 obtain⟨u,rfl,ru⟩:=qv r
 cases ru
 obtain⟨its,G,pl,hz⟩:=I.list hS
 have hl:=G.length
 rw[aD]at hl
 have a0:0<ns.length:=iJ.mpr Y
 refine call_min_walk (dX pl.isList ?_)
 have p:a<s.heap.objs.size:=by obtain⟨o,_,e,_⟩:=pl;exact aI e
 have Ww:=k8 (prog:=X.prog) (w:=X.w) (A:=X.A.in1) (I.ok.hd hc) s.heap.objs.size a (aE p) its.toArray
 let val:Nat->Int:=λ i=>ns.getD i 0
 have F:∀ i v,its.toArray[i]?=some v->∃ t,v=Value.int (val i) t:=λ i v e=>by
  obtain⟨z,t,e1,e2⟩:=aS9 G (i:=i) (v:=v) (by rw[eg]at e;exact e)
  refine⟨t,?_⟩
  rw[e2]
  show Value.int z t=Value.int (ns.getD i 0) t
  rw[aM,e1]
  rfl
 refine⟨_,_,_,_,_,_,_,rfl,Ww,⟨⟨_,aX _ rfl,rfl,rfl⟩,?_⟩,λ b hb=>?_,by rw[aw];omega,CmpOf.ints_lt val F,λ v h' tk hP k=>?_⟩
 .obtain⟨o,e,r⟩:=pl.isList
  exact⟨o,ao _ e,r⟩
 .show b<(s.heap.push _).objs.size
  rw[bO]
  rcases aH.mp hb with z|z
  .rw[z];exact bR _
  .have J:b=a:=by simpa using z
   rw[J];exact fP p
 .obtain⟨z,t,e1,e2⟩:=aS9 G (i:=j0 (λ i j=>decide (val i<val j)) (its.toArray.size - 1)) (v:=v) (by rw[eg]at hP;exact hP)
  subst e2
  have hv:val (j0 (λ i j=>decide (val i<val j)) (its.toArray.size - 1))=z:=by
   show ns.getD _ 0=z
   rw[aM,e1]
   rfl
  refine⟨.int z,H,I.kept (h':=h') (t':=tk) λ b o q=>k b o ?_ (ao _ q),⟨t,rfl⟩,q z (aY e1) λ y hy=>?_⟩
  .intro z
   have J:b=s.heap.objs.size:=by simpa using z
   exact absurd (aI q) (by rw[J];exact bA _)
  .obtain⟨j,hj,e3⟩:=cL.mp hy
   have:=ag9 val (its.toArray.size - 1) j (by simp only[aw];omega)
   rw[hv]at this
   have e4:val j=y:=by
    show ns.getD j 0=y
    rw[aM,ah hj]
    exact e3
   omega
noncomputable def mx (a b:Int):Int:=if b > a then b else a
section
variable {X:Cx}
end
noncomputable def mx3 (a b c:Int):Int:=mx (mx a b) c
noncomputable def rnd (x:Int):Int:=if x=0\/x=3 then x else 2
noncomputable def sharp (n:Nat)(s:Nat->Nat->Int)(i j:Nat):Int:=(cb0 ((aS n).map λ k=>mx3 (s i k) (rnd (s k k)) (s k j))).getD 3
section
variable {n:Nat} {s:Nat->Nat->Int}
end
def ak6 (H:Hp)(f:Addr)(name qual:Str)(params:bV)(body:yM)(scope:Scope)(fr:yI)(cap:List V)(clos:yC):Prop :=
 ∃ doc pm c' ctv,H f=some (bA9 f (fR name qual params body scope clos .none .none doc pm none (.ref c') ctv))/\H c'=some (au3 c' qual)/\Cells clos H /\
  (∀ x y c,clos.lookup x=some c->clos.lookup y=some c->x=y)/\(∀ x,scope.names.lookup x=some .free->∃ c,clos.lookup x=some c)/\Cap clos H fr cap
theorem ak6.fn {K:ae}{H:Hp}{f:Addr}{name qual:Str}{params:bV}{body:yM}{scope:Scope}{fr:yI}{cap:List V}{p:yC}(h:ak6 H f name qual params body scope fr cap p):bQ9 K H f:=by
 obtain⟨F,J,Y,z,G,_⟩:=h
 exact .inl ⟨_,G⟩
end L2
end
noncomputable section
namespace L2
open PySem PySem.Spec PyProof.Rows Builtin
section
variable {P:aB} {w:World} {A:aQ} {E:yB} {s:af}
theorem ay2 {it t:Addr}{i:Nat}{l:yK}{v:Value}{Q:yB}(F:s.heap.IsTupleIter it t i)(J:s.heap.IsTuple t l)(hv:l[i]?=some v)
  (k:∀ h',h'.IsTupleIter it t (i+1)->dm it s.heap h'->Q v { s with heap:=h' }):wpAny (model P w) A (bL (.ref it)) Q E s:=by
 obtain⟨o,e1,e2,h⟩:=id F
 obtain⟨p,p1,_,n,G⟩:=J
 unfold bL
 refine aj (cU (name:=bX "__next__") F.typeIs cF (cA cF F.typeIs fe ?_ (eX _)))
 show wpAny _ _ (field (.ref it) 0 >>= _) _ _ _
 refine aj (dQ e1 h (x:=.ref t) rfl ?_)
 show wpAny _ _ (if(Value.ref t==Value.none)=true then _ else _) _ _ _
 rw[if_neg (show ¬((Value.ref t==Value.none)=true)from λ z=>nomatch z)]
 show wpAny _ _ (field (.ref it) 1 >>= _) _ _ _
 refine aj (dQ e1 h (x:=.int i 0) rfl ?_)
 show wpAny _ _ (seqItems? (.ref t) >>= _) _ _ _
 refine aj (fj p1 G ?_)
 simp only[cM,hv]
 refine aj (wpAny_setField e1 h (by simp) (ay ⟨v,rfl,ay (k _ ⟨_,gZ _ e1 (Obj.isFreed_of_fields (jd h _)),(Obj.cls_mapFields ..).trans e2,by rw[jd h];simp[rawInt]⟩ (iK ..))⟩))
theorem aI2 {it t:Addr}{i:Nat}{l:yK}{Q:yB}(G:A.handled=none)(F:s.heap.IsTupleIter it t i)(Y:s.heap.IsTuple t l)(hv:l[i]?=none)
  (k:∀ h' e,jO it s.heap h'->(∃ o,h'.get? e=some o/\o.cls=.type "StopIteration")->E (.ref e) { s with heap:=h' }):wpAny (model P w) A (bL (.ref it)) Q E s:=by
 obtain⟨o,e1,e2,h⟩:=id F
 obtain⟨p,p1,_,n,J⟩:=Y
 unfold bL
 refine aj (cU (name:=bX "__next__") F.typeIs cF (cA cF F.typeIs fe ?_ (eX _)))
 show wpAny _ _ (field (.ref it) 0 >>= _) _ _ _
 refine aj (dQ e1 h (x:=.ref t) rfl ?_)
 show wpAny _ _ (if(Value.ref t==Value.none)=true then _ else _) _ _ _
 rw[if_neg (show ¬((Value.ref t==Value.none)=true)from λ z=>nomatch z)]
 show wpAny _ _ (field (.ref it) 1 >>= _) _ _ _
 refine aj (dQ e1 h (x:=.int i 0) rfl ?_)
 show wpAny _ _ (seqItems? (.ref t) >>= _) _ _ _
 refine aj (fj p1 J ?_)
 simp only[cM,hv]
 refine aj (iX (aj (wpAny_setField e1 h (by simp) ?_)))
 show wpAny _ _ (newExc (.type "StopIteration") [] >>= _) _ _ (_:af)
 refine aj ?_
 simp only[newExc,newTuple]
 refine aj (bF ?_ (by size_fits))
 refine aj (m:=firstArgMember _ _) (wpAny_of_eq (a:=Value.none) (by first|rfl|(simp only[firstArgMember];rfl)) (bF ?_ (by size_fits)))
 simp only[raiseNew]
 refine aj (wpAny_handled ?_)
 first|rw[show A.in1.handled=none from G]|rw[G]
 exact aj (ay (wpAny_throw (k _ _ (((iK ..).extBut.push _).push _) ⟨_,aX _ rfl,rfl⟩)))
end
structure Dw (P:aB)(w:World)(K:ae)(J:It)(it:Addr)(tn:Nat->Heap->Prop):Prop where
 obj:∀ i h,tn i h->∃ o,h.get? it=some o/\∀ v,o.data≠.cell v
 keep:∀ i h h',tn i h->(∀ o,h.get? it=some o->h'.get? it=some o)->tn i h'
 item:∀(X:Cx),X.prog=P->X.w=w->X.K=K->∀(A:aQ) (i:Nat) (pins:yA) (s:af) (W:St) (H:Hp) (Q:yB) (E:yB),Inv X pins W H s->tn i s.heap->J.go i H ->
  (∀ x u h' tk,RelV x u->J.yld i H x H->tn (i+1) h'->dm it s.heap h'->Q u { s with heap:=h',toks:=tk })->wpAny (model P w) A (bL (.ref it)) Q E s
 done:∀(X:Cx),X.prog=P->X.w=w->X.K=K->∀(A:aQ) (i:Nat) (pins:yA) (s:af) (W:St) (H:Hp) (Q:yB) (E:yB),A.handled=none->Inv X pins W H s->tn i s.heap->J.stop i H ->
  (∀ h' e,jO it s.heap h'->(∃ o,h'.get? e=some o/\o.cls=.type "StopIteration")->E (.ref e) { s with heap:=h' })->wpAny (model P w) A (bL (.ref it)) Q E s
theorem bu6 {P:aB}{w:World}{K:ae}(a it:Addr):Dw P w K (Itl K a) it (λ i h=>h.IsListIter it a i) where
 obj:=λ i h st=>by
  obtain⟨o,e,c,d⟩:=st
  exact⟨o,e,λ v z=>by rw[d]at z;cases z⟩
 keep:=λ i h h' st k=>st.at k
 item:=by
  intro X Y hw Z A i F s W H Q E I st hg k
  subst Y hw Z
  obtain⟨xs,x,hq,hx⟩:=hg
  obtain⟨its,J,p,hz⟩:=I.list hq
  obtain⟨u,hu,ru⟩:=J.get hx
  exact wpAny_nextOf_list_item st p.isList (x:=u) (by simpa using hu) λ h' G sb=>k x u h' s.toks ru ⟨rfl,λ ys hy=>by rw[I.list_inj hy hq];exact hx⟩ G sb
 done:=by
  intro X Y hw Z A i F s W H Q E hA I st hg k
  subst Y hw Z
  obtain⟨xs,hq,hx⟩:=hg
  obtain⟨its,J,p,hz⟩:=I.list hq
  have hl:=J.length
  exact wpAny_nextOf_list_end hA st p.isList (by simp;omega) k
theorem bJ6 {P:aB}{w:World}{K:ae}(a it:Addr):Dw P w K (Itt K a) it (λ i h=>h.IsTupleIter it a i) where
 obj:=λ i h st=>by
  obtain⟨o,e,c,d⟩:=st
  exact⟨o,e,λ v z=>by rw[d]at z;cases z⟩
 keep:=λ i h h' st k=>st.at k
 item:=by
  intro X Y hw Z A i F s W H Q E I st hg k
  subst Y hw Z
  obtain⟨xs,x,hq,hx⟩:=hg
  obtain⟨its,J,p,hz⟩:=I.tuple hq
  obtain⟨u,hu,ru⟩:=J.get hx
  exact ay2 st (show s.heap.IsTuple a its.toArray from p) (v:=u) (by simpa using hu) λ h' G sb=>k x u h' s.toks ru ⟨rfl,λ ys hy=>by rw[I.tuple_inj hy hq];exact hx⟩ G sb
 done:=by
  intro X Y hw Z A i F s W H Q E hA I st hg k
  subst Y hw Z
  obtain⟨xs,hq,hx⟩:=hg
  obtain⟨its,J,p,hz⟩:=I.tuple hq
  have hl:=J.length
  exact aI2 hA st (show s.heap.IsTuple a its.toArray from p) (by simp;omega) k
theorem bH9 {P:aB}{w:World}{K:ae}(x:Str)(t:Tok)(it:Addr):Dw P w K (Its x) it (λ i h=>h.IsStrIter it (ii x) x t i) where
 obj:=λ i h st=>by
  obtain⟨o,e,c,d⟩:=st
  exact⟨o,e,λ v z=>by rw[d]at z;cases z⟩
 keep:=λ i h h' st k=>by
  obtain⟨o,ho,r⟩:=st
  exact⟨o,k _ ho,r⟩
 item:=by
  intro X J hw Z A i G s W H Q E I st hg k
  subst J hw Z
  have F:i<x.cps.size:=hg
  have hc:x.cps[i]?=some x.cps[i]:=by simp[F]
  unfold ii at st k
  cases ha:x.cps.all (·<128)
  .rw[ha]at st k
   exact wpAny_nextOf_wide_item st hc λ h' p Y=>k (.str ⟨#[x.cps[i]]⟩) _ h' (s.toks+1) ⟨_,rfl⟩ ⟨rfl,_,hc,rfl⟩ p Y
  .rw[ha]at st k
   exact wpAny_nextOf_ascii_item st hc λ h' p Y=>k (.str ⟨#[x.cps[i]]⟩) _ h' (s.toks+1) ⟨_,rfl⟩ ⟨rfl,_,hc,rfl⟩ p Y
 done:=by
  intro X J hw Z A i G s W H Q E hA I st hg k
  subst J hw Z
  have F:x.cps.size<=i:=hg
  have hc:x.cps[i]?=none:=by simp[F]
  unfold ii at st
  cases ha:x.cps.all (·<128)
  .rw[ha]at st
   exact wpAny_nextOf_wide_end hA st hc k
  .rw[ha]at st
   exact wpAny_nextOf_ascii_end hA st hc k
section
variable {X:Cx} {pins:yA} {W:St} {H:Hp} {s:af} {A:aQ} {E:yB} {J1 J2:It} {t1 t2:Nat->Heap->Prop} {z ti to i1 i2:Addr} {n:Nat} {a b:Value}
end
def Mkr (v:Value)(o:Obj)(h:Heap):Prop:=∀(P:aB) (w:World) (A:aQ) (E:yB) (s:af) (Q:yB),(∀ b u,h.get? b=some u->s.heap.get? b=some u) ->
 Q (.ref s.heap.objs.size) { s with heap:=s.heap.push o }->wpAny (model P w) A (kG v) Q E s
def Sr (K:ae)(H:Hp)(x:V)(J:It):Prop:=(∃ a,x=.ref a/\(∃ xs,SqL K H a xs)/\J=Itl K a)\/(∃ a,x=.ref a/\(∃ xs,SqT K H a xs)/\J=Itt K a)\/∃ y,x=.str y/\J=Its y
theorem Sr.mk {X:Cx}{z:yA}{W:St}{H:Hp}{s:af}{x:V}{u:Value}{J:It}(I:Inv X z W H s)(h:Sr X.K H x J)(r:RelV x u) :
  ∃(o:Obj) (F:Addr->Nat->Heap->Prop),o.isFreed=false/\Mkr u o s.heap/\(∀ it,Dw X.prog X.w X.K J it (F it))/\∀ it h',h'.get? it=some o->F it 0 h':=by
 rcases h with⟨a,e,⟨Y,hq⟩,e'⟩|⟨a,e,⟨Y,hq⟩,e'⟩|⟨y,e,e'⟩
 .subst e e';cases r
  obtain⟨its,G,p,hz⟩:=I.list hq
  exact⟨_,λ it i h=>h.IsListIter it a i,rfl,λ P w A E s' Q hk q=>dX (p.isList.at λ o e=>hk _ _ e) q,λ it=>bu6 a it,λ it h' e=>⟨_,e,rfl,rfl⟩⟩
 .subst e e';cases r
  obtain⟨its,G,p,hz⟩:=I.tuple hq
  exact⟨_,λ it i h=>h.IsTupleIter it a i,rfl,λ P w A E s' Q hk q=>iZ (Heap.IsTuple.at (show s.heap.IsTuple a its.toArray from p) λ o e=>hk _ _ e) q,λ it=>bJ6 a it,λ it h' e=>⟨_,e,rfl,rfl⟩⟩
 .subst e e';obtain⟨t,rfl⟩:=r
  exact⟨_,λ it i h=>h.IsStrIter it (ii y) y t i,rfl,λ P w A E s' Q hk q=>wpAny_pyIter_strU q,λ it=>bH9 y t it,λ it h' e=>⟨_,e,rfl,rfl⟩⟩
end L2
end
noncomputable section
namespace L2
open PySem PySem.Spec PyProof.Rows Builtin
open AutoSeq1 (wpAny_loadPart')
section
variable {X:Cx} {pins:yA} {W:St} {H:Hp} {s:af} {A:aQ} {E:yB} {J1:It} {t1:Nat->Heap->Prop} {z it:Addr} {n:Nat} {old:Value}
end
end L2
end
noncomputable section
namespace L2
open PySem PySem.Spec PyProof.Rows Builtin
open AutoSeq1 (wpAny_loadPart')
theorem az3:fillsNumberSlot (.type "tuple") "mul"=pure false :=
 PySem.fillsNumberSlot_seq (id := "tuple.__mul__") (r:=some (.builtin "tuple.__rmul__")) d5.lookup (by decide +kernel) f9.lookup (by decide +kernel)
theorem aH1:seqRepeat? (.type "tuple")=pure (some (.builtin "tuple.__mul__")):=by
 unfold seqRepeat?
 rw[jL (T := "tuple") (name := "__mul__") (id := "tuple.__mul__") d5.lookup (by decide +kernel),jL (T := "tuple") (name := "__rmul__") (id := "tuple.__rmul__") f9.lookup (by decide +kernel)]
 rfl
theorem ar4 (a:Int)(t:Tok)(l:Addr)(o:Obj)(p:yK)(n:Nat)(z:yJ)(sl:yF) :
  Meets (Builtin.«int.__rmul__» ⟨[.int a t,.ref l],[]⟩) (λ _ R s=>s.heap.get? l=some { cls:=.type "tuple",dict:=z,data:=.seq p n,slots:=sl }/\R (.ok (.ret Value.notImplemented)) s) :=
 .of_wp λ prog w A R s h=>by obtain⟨F,g,d,tk,os⟩:=s;obtain⟨hl,h⟩:=h;wp_walk;exact⟨_,rfl,h⟩
noncomputable def ak3 {α:Type}:Nat->List α->List α
 | 0,_=>[]
 | n+1,a=>a++ak3 n a
theorem aE9 {α:Type}(l:List α):∀(n:Nat) (h:Array α),(aq n l.toArray).foldl (·++·) h=h++(ak3 n l).toArray
 | 0,h=>by simp[ak3]
 | n+1,h=>by rw[bE,dH,aE9 l n];simp[ak3]
theorem ar9 {α:Type}(a:Array α):∀(n:Nat) (h:Array α),((aq n a).foldl (·++·) h).size=h.size+a.size*n
 | 0,h=>by simp
 | n+1,h=>by rw[bE,dH,ar9 a n,Array.size_append,Nat.mul_succ];omega
def TmA (items:yK)(k:Int)(l:Addr)(R:yB)(s:af):Prop :=
 ((items.isEmpty||k==1)=true->R (.ref l) s)/\((items.isEmpty||k==1)=false->R (.ref s.heap.objs.size) { s with heap:=s.heap.push { cls:=.type "tuple",data:=.seq ((aq k.toNat items).foldl (·++·) #[]) } })
theorem aN0 {P:aB}{w:World}{A:aQ}{E:yB}{s:af}{l:Addr}{p:yK}{k:Int}{t:Tok}{Q:yB}(h0:0<=k)(Y:k<=1000000)(hz:p.size*k.toNat<=1000000)(hl:IsTup s.heap l p)
  (h:TmA p k l Q s):wpAny (model P w) A (call (.builtin "tuple.__mul__") [.ref l,.int k t]) Q E s:=by
 refine cA d5 hl.typeIs PySem.F.entry_tuple_mul ?_ (PySem.F.args_tuple_mul_2 _ _)
 obtain⟨G,q2⟩:=h
 show wpAny _ _ (asIndex (.int k t) >>= _) _ _ _
 refine aj (ay ?_)
 rw[if_neg (by rw[decide_eq_false (by omega),decide_eq_false (by omega)];decide)]
 show wpAny _ _ (cB (.ref l) >>= _) _ _ _
 refine aj (iT hl ?_)
 have z:(p.size:Int)*k<=1000000:=by
  have:((p.size*k.toNat:Nat):Int)<=1000000:=by omega
  rw[jV,e8 h0]at this
  exact this
 cases hb:(p.isEmpty||k==1)with
 | true =>
  rw[if_pos rfl]
  unfold ki
  refine aj (aj (gB hl.typeIs (ay ?_)))
  rw[if_pos (by decide)]
  exact aj (iX (ay ⟨_,rfl,G hb⟩))
 | false =>
  rw[if_neg aU]
  have J:p.isEmpty=false:=by
   rw[eR]at hb;exact hb.1
  have q:=q2 hb
  show wpAny _ _ (if(decide (k<=0)||p.isEmpty)=true then _ else _) _ _ _
  by_cases hk:k<=0
  .rw[if_pos (by rw[decide_eq_true hk];rfl)]
   have:k.toNat=0:=by omega
   rw[this]at q
   exact aj (bF (ay ⟨_,rfl,q⟩) (by size_fits))
  .rw[if_neg (by rw[decide_eq_false hk,J];decide)]
   show wpAny _ _ (if(p.size:Int)*k > (2^63 - 1) / 8 then _ else _) _ _ _
   rw[if_neg (by omega)]
   show wpAny _ _ (if fC ((p.size:Int)*k)=true then _ else _) _ _ _
   rw[if_neg (by unfold fC;rw[decide_eq_false (by unfold aG;omega)];decide)]
   refine aj (bF (ay ⟨_,rfl,q⟩) ?_)
   show Array.size _<=aG
   rw[ar9]
   show 0+_<=_
   rw[be]
   have h3:p.size*k.toNat<=aG:=ak hz (by decide)
   exact h3
theorem aC6 {α:Type}:∀ n,ak3 n ([]:List α)=[]
 | 0=>rfl
 | n+1=>by simp[ak3,aC6 n]
theorem bg6 {α:Type}(l:List α):ak3 1 l=l:=by simp[ak3]
theorem aD1 {α:Type}(l:List α):∀ n,(ak3 n l).length=l.length*n
 | 0=>by simp[ak3]
 | n+1=>by simp[ak3,aD1 l n,jP];omega
theorem Vals.repT {h:List V}{us:yH}(r:Vals h us):∀ n,Vals (ak3 n h) (ak3 n us)
 | 0=>.nil
 | n+1=>r.append (Vals.repT r n)
def bX5 (K:ae):R2:=λ x y H Q=>∃ a xs n,x=.ref a/\y=.int n/\SqT K H a xs/\(0<=n/\n<=1000000/\xs.length*n.toNat<=1000000)/\∀ p H',ab4 H H'->SqT K H' p (ak3 n.toNat xs)->(H' p=some (.tup (ak3 n.toNat xs))\/(p=a/\ak3 n.toNat xs=xs))->Q (.ref p) H'
theorem bz4 {X:Cx}{K:ae}(hK:X.K=K):OpR X (bQ .Mult) (bX5 K):=by
 subst hK
 intro F s W H x y v u Q I Z ry h
 obtain⟨a,z,n,rfl,rfl,ha,⟨h0,h1,hz⟩,q⟩:=h
 cases Z
 obtain⟨t,rfl⟩:=ry
 obtain⟨its,r1,p1,Y⟩:=I.tuple ha
 have p:=r1.length
 obtain⟨⟨cls,dd,data,sl⟩,ho,hc,G,hd⟩:=id p1
 simp only at hc hd
 subst hc hd
 refine fF (T := "tuple") (U := "int") (by decide) p1.typeIs (λ s'=>fA s' n t) az3 jb dL aH1 iH.lookup
  (ja dL (fA s n t) iI (ic _ _) (ar4 n t a default its.toArray G dd sl) ⟨ho,⟨rfl,p1.typeIs,aN0 h0 h1 (by rw[aw,<-p];exact hz) p1 ⟨λ hb=>?_,λ hb=>?_⟩⟩⟩)
 .have ex:ak3 n.toNat z=z:=by
   rw[bh]at hb
   rcases hb with hb|hb
   .have J:its=[]:=by simpa using hb
    have hx:z=[]:=r1.nil_iff.mp J
    rw[hx,aC6]
   .have:n=1:=by simpa using hb
    subst this
    exact bg6 _
  exact⟨.ref a,H,I,rfl,q a H (ab4.refl H) (by rw[ex];exact ha) (.inr ⟨rfl,ex⟩)⟩
 .have hp:=I.hok.fresh (ai s.heap.objs.size)
  refine⟨.ref s.heap.objs.size,_,I.laid (t':=s.toks) (o:=.tup (ak3 n.toNat z)) (λ b ob q=>ao _ q) (ai _) ?_,rfl,q _ _ ((ab4.refl H).new hp) (SqT.of zq) (.inl zq)⟩
  refine⟨by rw[aD1];exact ak hz (by decide),ak3 n.toNat its,r1.repT _,?_⟩
  rw[show(ak3 n.toNat its).toArray=(aq n.toNat its.toArray).foldl (·++·) #[]by rw[aE9];simp]
  exact⟨_,aX _ rfl,rfl,_,rfl⟩
end L2
end
noncomputable section
namespace L2
open PySem PySem.Spec PyProof.Rows
theorem am3 {A:aQ}{k:Nat}(hr:Room k A):A.units+2<cLine:=je (Nat.add_le_add_left (by decide:2<=64) _) hr.units
section
variable {κ:Type} [DecidableEq κ]
noncomputable def av5 (kvs:List (κ×V))(k:κ):Option V:=(kvs.find? λ kv=>decide (kv.1=k)).map (·.2)
noncomputable def ak9 (kvs:List (κ×V))(k:κ)(v:V):List (κ×V) :=
 if(kvs.any λ kv=>decide (kv.1=k))=true then kvs.map (λ kv=>if kv.1=k then(kv.1,v)else kv)else kvs++[(k,v)]
theorem af9 {p:κ×V}{r:List (κ×V)}{k:κ}(e:p.1=k):av5 (p::r) k=some p.2:=by simp[av5,c8,e]
theorem ag0 {p:κ×V}{r:List (κ×V)}{k:κ}(e:¬ p.1=k):av5 (p::r) k=av5 r k:=by simp[av5,c8,e]
theorem ao3 (k:κ):∀ kvs:List (κ×V),(kvs.any λ h=>decide (h.1=k))=(av5 kvs k).isSome
 | []=>rfl
 | p::r=>by
  rw[fZ]
  by_cases e:p.1=k
  .simp only[af9 e,decide_eq_true e,Bool.true_or,jc]
  .rw[ag0 e,decide_eq_false e,kC];exact ao3 k r
theorem qF (kvs:List (κ×V))(k:κ)(v:V):(ak9 kvs k v).length<=kvs.length+1:=by
 unfold ak9
 split
 .rw[aD];omega
 .rw[ar,aP,eY];omega
theorem aq6.isSome_eq {o:Option V}{u:Option Value}(r:aq6 o u):o.isSome=u.isSome:=by
 cases o with
 | none=>cases u with
  | none=>rfl
  | some _=>exact(show False from r).elim
 | some _=>cases u with
  | none=>exact(show False from r).elim
  | some _=>rfl
theorem aq6.getD {o:Option V}{u:Option Value}{d:V}{d':Value}(r:aq6 o u)(h:RelV d d'):RelV (o.getD d) (u.getD d'):=by
 cases o with
 | none=>cases u with
  | none=>exact h
  | some _=>exact(show False from r).elim
 | some _=>cases u with
  | none=>exact(show False from r).elim
  | some _=>exact r
theorem KV.val {kvs:List (κ×V)}{vs:List (κ×Value)}(r:KV kvs vs)(k:κ):aq6 (av5 kvs k) (iA vs k):=by
 unfold KV at r
 induction r with
 | nil=>exact True.intro
 | @cons p q ps qs h t ih =>
  obtain⟨F,G⟩:=h
  by_cases e:p.1=k
  .have e':q.1=k:=F.symm.trans e
   have b:iA (q::qs) k=some q.2:=by simp[iA,c8,e']
   rw[af9 e,b];exact G
  .have e':¬ q.1=k:=λ z=>e (F.trans z)
   have b:iA (q::qs) k=iA qs k:=by simp[iA,c8,e']
   rw[ag0 e,b];exact ih
theorem KV.any {kvs:List (κ×V)}{vs:List (κ×Value)}(r:KV kvs vs)(k:κ):(kvs.any λ p=>decide (p.1=k))=vs.any λ p=>decide (p.1=k):=by
 unfold KV at r
 induction r with
 | nil=>rfl
 | cons h t ih=>rw[fZ,fZ,ih,h.1]
theorem KV.repl {kvs:List (κ×V)}{vs:List (κ×Value)}(r:KV kvs vs)(k:κ){y:V}{u:Value}(J:RelV y u) :
  KV (kvs.map λ F=>if F.1=k then(F.1,y)else F) (vs.map λ F=>if F.1=k then(F.1,u)else F):=by
 unfold KV at r ⊢
 induction r with
 | nil=>exact .nil
 | @cons p q ps qs h t ih =>
  rw[a9,a9]
  refine .cons ?_ ih
  obtain⟨G,Y⟩:=h
  by_cases e:p.1=k
  .rw[if_pos e,if_pos (G.symm.trans e)];exact⟨G,J⟩
  .rw[if_neg e,if_neg (λ z=>e (G.trans z))];exact⟨G,Y⟩
theorem KV.put {kvs:List (κ×V)}{vs:List (κ×Value)}(r:KV kvs vs)(k:κ){y:V}{u:Value}(h:RelV y u):KV (ak9 kvs k y) (stored vs k u):=by
 unfold ak9 stored
 rw[r.any k]
 by_cases e:(vs.any λ p=>decide (p.1=k))=true
 .rw[if_pos e,if_pos e];exact r.repl k h
 .rw[if_neg e,if_neg e];exact kZ r ⟨rfl,h⟩
theorem KV.length {kvs:List (κ×V)}{vs:List (κ×Value)}(r:KV kvs vs):kvs.length=vs.length:=cz r
end
theorem aI3 {P:aB}{w:World}{k:Key}{u:Value}(r:RelV (kV k) u):(zv P w).is k u=true:=by
 cases k with
 | inl i=>obtain⟨t,e⟩:=(show ∃ t,u=Value.int i t from r);subst e;exact aA6 P w i t
 | inr x=>obtain⟨t,e⟩:=(show ∃ t,u=Value.str x t from r);subst e;exact ay5 P w x t
theorem bD7 {P:aB}{w:World}{f:FK}{u:Value}(h:RelV (fV f) u):fIs f u=true:=by
 cases f with
 | none=>cases(show u=Value.none from h);rfl
 | some k=>exact aI3 (P:=P) (w:=w) h
theorem au9 {P:aB}{w:World}:∀ {ks:List FK} {us:yH},Vals (ks.map fV) us->ItemsAre (qg P w) ks us
 | [],_,r=>by rw[cX]at r;cases r;exact .nil
 | k::ks,_,r=>by
  rw[a9]at r
  cases r with
  | cons h t=>exact .cons (bD7 (P:=P) (w:=w) h) (au9 t)
theorem bK6 {P:aB}{w:World}{H:Hp}{h:Heap}(ok:HOk P w H h):∀ {ks:List NI} {z:List V} {us:yH},cQ (NAt H) ks z->Vals z us->cQ (NIs P w h) ks us
 | _,_,_,.nil,r=>by cases r;exact .nil
 | _,_,_,.cons (a:=k) q t,r=>by
  cases r with
  | cons p t1 =>
   refine .cons ?_ (bK6 ok t t1)
   cases k with
   | inl f=>cases q;exact bD7 (P:=P) (w:=w) p
   | inr l =>
    obtain⟨c,rfl,e⟩:=q
    cases p
    obtain⟨_,its,r,o,p,F,n,h3⟩:=(show aa4 P w H h c (.tup (l.map fV))from ok c _ e)
    exact⟨c,rfl,o,its.toArray,n,p,F,h3,by simpa using au9 r⟩
abbrev KT (H:Hp):List (List NI×V)->List (List NI×Addr×Value)->Prop:=cQ λ p q=>p.1=q.1/\NK H p.1 q.2.1/\RelV p.2 q.2.2
theorem KT.val {H:Hp}{kvs:List (List NI×V)}{G:List (List NI×Addr×Value)}(r:KT H kvs G)(k:List NI):aq6 (av5 kvs k) ((atKey G k).map (·.2)):=by
 induction r with
 | nil=>exact True.intro
 | @cons p q ps qs h t ih =>
  obtain⟨F,_,J⟩:=h
  by_cases e:p.1=k
  .have e':q.1=k:=F.symm.trans e
   have b:atKey (q::qs) k=some q.2:=by simp[atKey,c8,e']
   rw[af9 e,b];exact J
  .have e':¬ q.1=k:=λ z=>e (F.trans z)
   have b:atKey (q::qs) k=atKey qs k:=by simp[atKey,c8,e']
   rw[ag0 e,b];exact ih
theorem KT.repl {H:Hp}{kvs:List (List NI×V)}{J:List (List NI×Addr×Value)}(r:KT H kvs J)(k:List NI){y:V}{u:Value}(Z:RelV y u) :
  KT H (kvs.map λ G=>if G.1=k then(G.1,y)else G) (J.map (putAt k u)):=by
 induction r with
 | nil=>exact .nil
 | @cons p q ps qs h t ih =>
  rw[a9,a9]
  refine .cons ?_ ih
  obtain⟨F,Y,h3⟩:=h
  unfold putAt
  by_cases e:p.1=k
  .rw[if_pos e,if_pos (F.symm.trans e)];exact⟨F,Y,Z⟩
  .rw[if_neg e,if_neg (λ z=>e (F.trans z))];exact⟨F,Y,h3⟩
theorem KT.put {H:Hp}{kvs:List (List NI×V)}{h:List (List NI×Addr×Value)}(r:KT H kvs h)(k:List NI){b:Addr}{y:V}{u:Value}(hb:NK H k b)(p:RelV y u) :
  KT H (ak9 kvs k y) (storedH h k b u):=by
 have e:(kvs.any λ z=>decide (z.1=k))=(atKey h k).isSome:=by
  rw[ao3,(r.val k).isSome_eq,fS]
 unfold ak9 storedH
 rw[e]
 by_cases q:(atKey h k).isSome=true
 .rw[if_pos q,if_pos q];exact r.repl k p
 .rw[if_neg q,if_neg q];exact kZ r ⟨rfl,hb,p⟩
theorem KT.keeps {H H':Hp}{kvs:List (List NI×V)}{h:List (List NI×Addr×Value)}(r:KT H kvs h)(ht:∀ b ys,H b=some (.tup ys)->H' b=some (.tup ys)):KT H' kvs h :=
 cQ.mapP r λ _ _ z=>⟨z.1,z.2.1.mono ht,z.2.2⟩
section
variable {P:aB} {w:World} {H:Hp} {h:Heap} {a:Addr}
theorem bM0 {u:HO}(ok:HOk P w H h)(e:Rd H a u):aa4 P w H h a u:=e.ok ok
theorem aX5 {kvs:List (Key×V)}(ok:HOk P w H h)(e:Rd H a (.dK kvs)):kvs.length<=aG/\(a==dh)=false/\∃ vs,KV kvs vs/\h.DictOf (zv P w) a vs :=
 show aa4 P w H h a (.dK kvs)from bM0 ok e
theorem bJ0 {kvs:List (Key×V)}(ok:HOk P w H h)(e:H a=some (.dK kvs)):kvs.length<=aG/\(a==dh)=false/\∃ vs,KV kvs vs/\h.DictOf (zv P w) a vs:=aX5 ok (.inl e)
theorem ar1 {ks:List NI}(ok:HOk P w H h)(e:NK H ks a):(ar7 P w).is h ks a:=by
 obtain⟨F,e,p⟩:=e
 obtain⟨_,its,r,o,z,G,n,h3⟩:=(show aa4 P w H h a (.tup F)from ok a _ e)
 exact⟨o,its.toArray,n,z,G,h3,by simpa using bK6 ok p r⟩
theorem aP4 {kvs:List (List NI×V)}(ok:HOk P w H h)(e:Rd H a (.dT kvs)):kvs.length<=aG/\(a==dh)=false /\
  ∃ F,KT H kvs F/\h.DictOfH (ar7 P w) a F:=by
 obtain⟨z,y,F,r,o,es,ep,G,Y,h3,J,Z⟩:=(show aa4 P w H h a (.dT kvs)from bM0 ok e)
 refine⟨z,y,F,r,o,es,ep,G,Y,h3,J,λ x hx=>?_,Z⟩
 have all:∀ {l:List (List NI×V)} {m:List (List NI×Addr×Value)},KT H l m->∀ x∈m,(ar7 P w).is h x.1 x.2.1:=by
  intro l m q
  induction q with
  | nil=>intro x hx;exact nomatch hx
  | @cons p q ps qs hq t ih =>
   intro x hx
   rcases aH.mp hx with e|hx
   .subst e
    exact ar1 ok (by rw[<-hq.1];exact hq.2.1)
   .exact ih x hx
 exact all r x hx
theorem bS5 {kvs:List (List NI×V)}(ok:HOk P w H h)(e:H a=some (.dT kvs)):kvs.length<=aG/\(a==dh)=false /\
  ∃ p,KT H kvs p/\h.DictOfH (ar7 P w) a p:=aP4 ok (.inl e)
end
def av6 (H:Hp)(a:Addr)(y:V)(r:Option V):Prop :=
 (∃ kvs k,Rd H a (.dK kvs)/\y=kV k/\r=av5 kvs k)\/∃ kvs k b,Rd H a (.dT kvs)/\y=.ref b/\NK H k b/\r=av5 kvs k
def bz2 (H:Hp)(a:Addr)(y v:V)(H':Hp):Prop :=
 (∃ kvs k,H a=some (.dK kvs)/\y=kV k/\kvs.length<aG/\H'=upd H a (.dK (ak9 kvs k v))) \/
 ∃ kvs k b,H a=some (.dT kvs)/\y=.ref b/\NK H k b/\kvs.length<aG/\H'=upd H a (.dT (ak9 kvs k v))
theorem av6.k {H:Hp}{a:Addr}{kvs:List (Key×V)}{k:Key}(e:H a=some (.dK kvs)):av6 H a (kV k) (av5 kvs k):=.inl ⟨kvs,k,.inl e,rfl,rfl⟩
theorem av6.t {H:Hp}{a b:Addr}{kvs:List (List NI×V)}{k:List NI}(e:H a=some (.dT kvs))(eb:NK H k b):av6 H a (.ref b) (av5 kvs k):=.inr ⟨kvs,k,b,.inl e,rfl,eb,rfl⟩
theorem bz2.k {H:Hp}{a:Addr}{kvs:List (Key×V)}{k:Key}{v:V}(e:H a=some (.dK kvs))(hl:kvs.length<aG):bz2 H a (kV k) v (upd H a (.dK (ak9 kvs k v))):=.inl ⟨kvs,k,e,rfl,hl,rfl⟩
theorem bz2.t {H:Hp}{a b:Addr}{kvs:List (List NI×V)}{k:List NI}{v:V}(e:H a=some (.dT kvs))(eb:NK H k b)(hl:kvs.length<aG) :
  bz2 H a (.ref b) v (upd H a (.dT (ak9 kvs k v))):=.inr ⟨kvs,k,b,e,rfl,eb,hl,rfl⟩
section
variable {X:Cx} {pins:yA} {W:St} {H:Hp} {s:af} {a:Addr} {y v:V} {u r:Value} {o:Option V} {A:aQ} {E:yB}
theorem Inv.big (I:Inv X pins W H s):dh<s.heap.objs.size:=by
 have h:bp<s.heap.objs.size:=(I.mod.glob.keeps I.bk).lt
 exact gI (by decide) h
theorem ar6 {Q:yB}(hu:A.units+2<cLine)(I:Inv X pins W H s)(g:av6 H a y (some v))(ry:RelV y u)(h:∀ J s',Inv X pins W H s'->RelV v J->Q J s') :
  wpAny (model X.prog X.w) A (gA (.ref a) u) Q E s:=by
 rcases g with⟨kvs,k,e,Y,l⟩|⟨kvs,k,b,e,Y,eb,l⟩
 .subst Y
  obtain⟨z,hd,vs,F,Z⟩:=aX5 I.hok e
  obtain⟨J,hw,G⟩:=aq6.some_of (v:=v) (o:=iA vs k) (by rw[l];exact F.val k)
  exact wpAny_getItem_of (aI3 ry) Z.mapOf hw (h J _ (I.tok _) G)
 .subst Y
  cases(show u=Value.ref b from ry)
  obtain⟨z,hd,xs,F,Z⟩:=aP4 I.hok e
  obtain⟨J,hw,G⟩:=aq6.some_of (v:=v) (o:=(atKey xs k).map (·.2)) (by rw[l];exact F.val k)
  obtain⟨p,hp,a0⟩:=bt.mp hw
  refine wpAny_getItem_heap (show _<_ from hu) (ar1 I.hok eb) Z hp ?_
  rw[a0]
  exact h J _ (I.tok _) G
theorem bZ3 {Q:yB}(hu:A.units+2<cLine)(I:Inv X pins W H s)(g:av6 H a y o)(J:RelV y u)(h:∀ s',Inv X pins W H s'->Q (.bool o.isSome) s') :
  wpAny (model X.prog X.w) A (dM .In u (.ref a)) Q E s:=by
 rcases g with⟨kvs,k,e,F,l⟩|⟨kvs,k,b,e,F,eb,l⟩
 .subst F
  obtain⟨z,hd,vs,p,G⟩:=aX5 I.hok e
  refine wpAny_in_of (aI3 J) hd G.mapOf ?_
  rw[<-(p.val k).isSome_eq,<-l]
  exact h _ (I.tok _)
 .subst F
  cases(show u=Value.ref b from J)
  obtain⟨z,hd,Y,p,G⟩:=aP4 I.hok e
  refine wpAny_in_heap (show _<_ from hu) (ar1 I.hok eb) hd G ?_
  have q:=(p.val k).isSome_eq
  rw[fS]at q
  rw[<-q,<-l]
  exact h _ (I.tok _)
theorem aO4 {Q:yB}(hu:A.units+2<cLine)(I:Inv X pins W H s)(g:av6 H a y o)(J:RelV y u)(h:∀ s',Inv X pins W H s'->Q (.bool (!o.isSome)) s') :
  wpAny (model X.prog X.w) A (dM .NotIn u (.ref a)) Q E s:=by
 rcases g with⟨kvs,k,e,F,l⟩|⟨kvs,k,b,e,F,eb,l⟩
 .subst F
  obtain⟨z,hd,vs,p,G⟩:=aX5 I.hok e
  refine wpAny_notIn_of (aI3 J) hd G.mapOf ?_
  rw[<-(p.val k).isSome_eq,<-l]
  exact h _ (I.tok _)
 .subst F
  cases(show u=Value.ref b from J)
  obtain⟨z,hd,Y,p,G⟩:=aP4 I.hok e
  refine wpAny_notIn_heap (show _<_ from hu) (ar1 I.hok eb) hd G ?_
  have q:=(p.val k).isSome_eq
  rw[fS]at q
  rw[<-q,<-l]
  exact h _ (I.tok _)
theorem ay6 {h':Heap}{t':Nat}{ob:HO}(I:Inv X pins W H s)(mu:Mut (H a))(hs:dm a s.heap h')(h:∃ q,h'.get? a=some q)(new:aa4 X.prog X.w (upd H a ob) h' a ob) :
  Inv X pins W (upd H a ob) { s with heap:=h',toks:=t' } :=
 I.write (x:=a) (e:=a) mu (.inl rfl) (λ b q hb z=>(hs.2 b hb).trans z) h new
theorem bi7 {P:aB}{w:World}{H':Hp}{h':Heap}{kvs:List (Key×V)}{vs:List (Key×Value)}(z:kvs.length<=aG)(hd:(a==dh)=false)(h:KV kvs vs)(p:h'.DictOf (zv P w) a vs) :
  aa4 P w H' h' a (.dK kvs):=⟨z,hd,vs,h,p⟩
theorem at7 {H':Hp}{Q:Unit->af->Prop}(hu:A.units+2<cLine)(I:Inv X pins W H s)(g:bz2 H a y v H')(ry:RelV y u)(Z:RelV v r)(h:∀ s',Inv X pins W H' s'->Q () s') :
  wpAny (model X.prog X.w) A (setItem (.ref a) u r) Q E s:=by
 rcases g with⟨kvs,k,e,G,l,Y⟩|⟨kvs,k,b,e,G,eb,l,Y⟩
 .subst G Y
  obtain⟨z,hd,vs,p,J⟩:=bJ0 I.hok e
  have hz:vs.length<=aG:=by rw[<-p.length];exact z
  have hl:(ak9 kvs k v).length<=aG:=by have:=qF kvs k v;omega
  refine wpAny_setItem_pairs (hsz:=hz) (aI3 ry) J λ h' F hs=>h _ ?_
  have he:∃ q,h'.get? a=some q:=let⟨q,_,_,hq,_⟩:=F;⟨q,hq⟩
  exact ay6 I (by rw[e];exact True.intro) hs he (bi7 hl hd (p.put k Z) F)
 .subst G Y
  cases(show u=Value.ref b from ry)
  obtain⟨z,hd,xs,p,J⟩:=bS5 I.hok e
  have hz:xs.length<=aG:=by rw[<-cz p];exact z
  have hl:(ak9 kvs k v).length<=aG:=by have:=qF kvs k v;omega
  refine wpAny_setItem_heap (hsz:=hz) (show _<_ from hu) (ar1 I.hok eb) J λ h' F hs=>h _ ?_
  obtain⟨q,es,ep,hq,h2,h3,h4,_,h5⟩:=F
  refine ay6 I (by rw[e];exact True.intro) hs ⟨q,hq⟩ ⟨hl,hd,_,(p.put k eb Z).keeps λ c ys ec=>?_,q,es,ep,hq,h2,h3,h4,h5⟩
  rw[zc (bS9 ec e (λ z=>nomatch z))]
  exact ec
end
section
variable {X:Cx} {pins:yA} {W:St} {H:Hp} {s:af} {a:Addr} {kvs:List (Key×V)} {k:Key} {u:Value} {A:aQ} {E:yB}
end
theorem ai6 {X:Cx}{h:yA}{W:St}{H:Hp}{s:af}{a:Addr}{y:V}{o:Option V}(I:Inv X h W H s)(g:av6 H a y o):s.TypeIs (.ref a) "dict":=by
 rcases g with⟨kvs,k,e,_,_⟩|⟨kvs,k,b,e,_,_,_⟩
 .obtain⟨_,_,vs,_,p⟩:=aX5 I.hok e
  exact p.typeIs
 .obtain⟨_,_,z,_,p⟩:=aP4 I.hok e
  exact p.typeIs
section
variable {X:Cx} {o i e value:Expr} {pos pos' tpos:Pos} {td ty tv:TE}
end
theorem aE1 {P:aB}{w:World}{H:Hp}(h:Heap)(hb:dh<h.objs.size):aa4 P w H (h.push { cls:=.type "dict",data:=.dict #[] }) h.objs.size (.dK []) :=
 ⟨b9 _,beq_eq_false_iff_ne.mpr (bS (aE hb)),[],.nil,Heap.DictOf.new h⟩
def bi0:TE:=λ _ H Q=>∀ p,H p=none->Q (.ref p) (upd H p (.dK []))
section
variable {X:Cx} {pos:Pos}
theorem bg0:PE X (.Dict [] [] pos) bi0:=λ p s W H Q I h =>
 wpAny_Dict_empty ⟨.ref s.heap.objs.size,_,I.laid (a:=s.heap.objs.size) (o:=.dK []) (t':=s.toks) (λ _ _ q=>ao _ q) (ai _) (aE1 s.heap I.big),rfl,h _ (I.hok.fresh (ai _))⟩
end
noncomputable def aO2:List (TE×TE)->St->Hp->(List (V×V)->Hp->Prop)->Prop
 | [],_,H,Q=>Q [] H
 | (tk,tv)::r,W,H,Q=>tk W H λ x H1=>tv W H1 λ y H2=>aO2 r W H2 λ ps H3=>Q ((x,y)::ps) H3
abbrev VV:List (V×V)->List (Value×Value)->Prop:=cQ λ p q=>RelV p.1 q.1/\RelV p.2 q.2
def PPs (X:Cx)(pos:Pos)(keys:List (Option Expr))(values:yL)(trs:List (TE×TE)):Prop :=
 ∀(pins:yA) (s:af) (W:St) (H:Hp) (Q:List (V×V)->Hp->Prop),Inv X pins W H s->aO2 trs W H Q ->
  wpAny (model X.prog X.w) X.A (evalPairs (pairTrees keys values X.env pos)) (λ vs s'=>∃ ps H',Inv X pins W H' s'/\VV ps vs/\Q ps H') X.xe s
theorem bo1 {X:Cx}{pos:Pos}:PPs X pos [] [] []:=λ p s W H Q I h=>pairTrees_nil_walk ⟨[],H,I,.nil,h⟩
theorem bb0 {X:Cx}{pos:Pos}{k v:Expr}{ks:List (Option Expr)}{vs:yL}{tk G:TE}{z:List (TE×TE)}(hk:PE X k tk)(hv:PE X v G)(hr:PPs X pos ks vs z) :
  PPs X pos (some k::ks) (v::vs) ((tk,G)::z):=λ p s W H Q I h =>
 pairTrees_cons_walk (thn (hk p s W H _ I h) λ u s1 ⟨x,H1,Y,rx,q1⟩=>thn (hv p s1 W H1 _ Y q1) λ w2 s2 ⟨y,H2,Z,ry,q2⟩ =>
  thn (hr p s2 W H2 _ Z q2) λ ws s3 ⟨ps,H3,J,F,q3⟩=>⟨(x,y)::ps,H3,J,.cons ⟨rx,ry⟩ F,q3⟩)
noncomputable def as3 (kvs more:List (Key×V)):List (Key×V):=more.foldl (λ acc kv=>ak9 acc kv.1 kv.2) kvs
theorem KV.merge:∀ {z:List (Key×V)} {F:List (Key×Value)} {kvs:List (Key×V)} {vs:List (Key×Value)},KV z F->KV kvs vs->KV (as3 kvs z) (merged vs F):=by
 intro z F kvs vs r
 unfold KV at r
 induction r generalizing kvs vs with
 | nil=>intro q;exact q
 | @cons p q ps qs h t ih =>
  intro r0
  have e:KV (ak9 kvs p.1 p.2) (stored vs q.1 q.2):=by
   have:=r0.put p.1 h.2
   rw[<-h.1];exact this
  exact ih e
theorem ac0:∀(h kvs:List (Key×V)),(as3 kvs h).length<=kvs.length+h.length
 | [],kvs=>by show kvs.length<=kvs.length+0;omega
 | p::r,kvs=>by
  have z:=ac0 r (ak9 kvs p.1 p.2)
  have F:=qF kvs p.1 p.2
  show(as3 (ak9 kvs p.1 p.2) r).length<=_
  rw[aP];omega
theorem am9 {P:aB}{w:World}:∀ {kvs:List (Key×V)} {ws:List (Value×Value)},VV (kvs.map λ F=>(kV F.1,F.2)) ws->∃ z,Carries (zv P w) ws z/\KV kvs z
 | [],_,r=>by rw[cX]at r;cases r;exact⟨[],True.intro,.nil⟩
 | p::kvs,_,r=>by
  rw[a9]at r
  cases r with
  | @cons a b as bs h t =>
   obtain⟨z,c,q⟩:=am9 (P:=P) (w:=w) t
   obtain⟨J,G⟩:=b
   exact⟨(p.1,G)::z,⟨aI3 h.1,rfl,c⟩,.cons ⟨rfl,h.2⟩ q⟩
def bE5 (trs:List (TE×TE)):TE:=λ W H Q=>∀ p,H p=none->aO2 trs W (upd H p (.dK [])) λ ps H2=>H2 p=some (.dK [])/\∃ kvs:List (Key×V),ps=kvs.map (λ kv=>(kV kv.1,kv.2))/\kvs.length<=15/\Q (.ref p) (upd H2 p (.dK (as3 [] kvs)))
theorem bo4 {X:Cx}{pos:Pos}{keys:List (Option Expr)}{p:yL}{J:List (TE×TE)}(h:PPs X pos keys p J)(Y:keys.all (·.isSome)=true)(hl:keys.length=p.length)(h0:keys≠[])
  (Z:keys.length<=15):PE X (.Dict keys p pos) (bE5 J):=by
 intro G s W H Q I q
 have hn:=I.hok.fresh (ai s.heap.objs.size)
 have I1:=I.laid (a:=s.heap.objs.size) (o:=.dK []) (h':=s.heap.push { cls:=.type "dict",data:=.dict #[] }) (t':=s.toks) (λ _ _ q=>ao _ q) (ai _) (aE1 s.heap I.big)
 refine wpAny_Dict_walk (knd:=zv X.prog X.w) Y hl h0 Z (thn (h G _ W _ _ I1 (q _ hn)) λ ws s2 ⟨ps,H2,I2,a0,e,kvs,ep,lk,q2⟩=>?_)
 subst ep
 obtain⟨rs,c,rk⟩:=am9 (P:=X.prog) (w:=X.w) a0
 obtain⟨z,hd,a1,r0,dd⟩:=bJ0 I2.hok e
 cases r0
 refine⟨rs,c,dd,λ h' F hs=>⟨.ref s.heap.objs.size,_,?_,rfl,q2⟩⟩
 have hz:(as3 [] kvs).length<=aG:=by
  have h1:=ac0 kvs []
  rw[eY]at h1
  rw[dN];omega
 have he:∃ q,h'.get? s.heap.objs.size=some q:=let⟨q,_,_,hq,_⟩:=F;⟨q,hq⟩
 exact ay6 I2 (by rw[e];exact True.intro) hs he (bi7 hz hd (rk.merge .nil) F)
section
variable {X:Cx} {pins:yA} {W:St} {H:Hp} {s:af} {a:Addr} {y d:V} {u r:Value} {o:Option V} {A:aQ} {E:yB}
end
section
variable {X:Cx} {o e f:Expr} {apos cpos:Pos} {td ty tx:TE}
end
section
variable {P:aB} {w:World} {A:aQ} {E:yB} {s:af}
end
section
variable {X:Cx} {pins:yA} {W:St} {H:Hp} {s:af}
theorem HOk.tw {P:aB}{w:World}{h:Heap}{a:Addr}{u v:HO}(ok:HOk P w H h)(hu:H a=some u)(Y:∀ y,u≠.own y)(J:∀ p,u≠.tup p)(new:aa4 P w H h a v):HOk P w (upd H a v) h:=λ b q e=>by
 have F:∀ c y,H c=some (.own y)->upd H a v c=some (.own y):=λ c y r=>by rw[zc λ z=>by subst z;rw[hu]at r;cases r;exact Y _ rfl];exact r
 have G:∀ c p,H c=some (.tup p)->upd H a v c=some (.tup p):=λ c p r=>by rw[zc λ z=>by subst z;rw[hu]at r;cases r;exact J _ rfl];exact r
 by_cases hb:b=a
 .subst hb;rw[zq]at e;cases e
  exact new.stay (λ _ _ _ r=>r) (λ c r=>F c _ r) G
 .rw[zc hb]at e
  exact(ok b q e).stay (λ _ _ _ r=>r) (λ c r=>F c _ r) G
end
section
variable {prog:aB} {w:World} {A:aQ} {R:jG->af->Prop} {I:Addr} {fp wr:List Addr} {n:Nat} {P:Nat->Value->Prop} {St:Nat->Heap->Prop} {kw:List (Str×Value)}
end
theorem br3 (i:Int)(h:0<=i):kj i 1=i % 2:=by
 unfold kj
 rw[decide_eq_true h]
 show((i.toNat &&& (1:Int).toNat:Nat):Int)=_
 rw[show(1:Int).toNat=1 from rfl,Nat.and_one_is_mod]
 omega
theorem bA6 {X:Cx}:OpR X (bQ .BitAnd) (rI (λ i j=>0<=i/\j=1) λ i j=>.int (i % 2)):=opI λ i j _ _ _ _ _ hc q=>by
 obtain⟨h0,rfl⟩:=hc
 refine and_int ?_
 rw[br3 i h0]
 exact q
theorem bs9 {X:Cx}:MtR X "int.bit_length" (λ x vs H Q=>∃ i,x=.int i/\vs=[]/\Q (.int (e9 i:Nat)) H):=by
 intro p s W H x vs v us Q I G z h
 obtain⟨i,rfl,rfl,q⟩:=h
 obtain⟨t,rfl⟩:=G
 cases z
 refine call_gives fg (fA s _ t) PySem.F.entry_int_bit_length (PySem.F.args_int_bit_length_1 _) (iL i t) ?_
 exact⟨.int _,H,I.tok _,⟨_,rfl⟩,q⟩
section
variable {X:Cx} {pins:yA} {W:St} {H:Hp} {s:af} {a Cc:Addr} {a0:Value}
end
section
variable {P:aB} {w:World} {K:ae} {mg:yD} {base:Heap} {N:yI} {qual:Str} {scope:Scope} {f:Addr} {cd:Value} {A:aQ} {outer:List Env} {s0:af} {H0:Hp} {E:XK}
end
noncomputable def excTail:List Value:=[.type "ValueError",.type "Exception",.type "BaseException",.type "object"]
structure ExcCls (K:ae)(Cc:Addr):Prop where
 obj:∃ bm N nm q bs hdct sn sub ab col dd k0 k1 k2 k3 k5 mN,K.lookup Cc=some (excClassObj nm q Cc N bs bm hdct sn sub ab col dd k0 k1 k2 k3 k5 "ValueError.__new__")/\(∀ n∈quietNames,mN n=none)/\∀ h:Heap,K.In h->h.Ns N mN/\OwnTailQ h excTail bm
noncomputable def excI (K:ae)(Cc:Addr):Bool:=bq K (.ref Cc) (bX "__getattribute__")==some (some (.builtin "BaseException.__getattribute__"))&&(bq K (.ref Cc) (bX "__getattr__")==some none&&(bq K (.ref Cc) (bX "__class__")==some (some (.builtin "object.__class__"))&&(jl K (.builtin "object.__class__") (bX "__get__")==some (some (.builtin "getset_descriptor.__get__"))&&(jS K (.builtin "object.__class__")==some true&&kA K Cc (.type "object")==some true))))
section
variable {X:Cx} {E:XK} {Cc:Addr} {x:Str}
end
structure Tr (X:Cx)(pins:yA)(W:St)(H:Hp)(s:af)(a Cc:Addr)(fl:Value):Prop where
 inv:Inv X pins W H s
 n0:X.s₀.heap.get? a=none
 nH:H a=none
 np:∀ p∈X.pn++pins,p.1≠a
 tr:∃ a0 oe vs T oT ts,s.heap.get? a=some oe/\(oe.cls=.ref Cc/\vs[0]?=some a0)/\oe.data=.fields vs/\vs[1]?=some (.ref T)/\X.s₀.heap.get? T=none/\H T=none/\(∀ p∈X.pn++pins,p.1≠T)/\T≠a/\s.heap.get? T=some oT/\oT.data=.fields ts/\ts[3]?=some fl
section
variable {X:Cx} {pins:yA} {W:St} {H:Hp} {s:af} {a Cc T:Addr} {fl fl' a0:Value} {h':Heap}
end
section
variable {X:Cx} {pins:yA} {W:St} {H:Hp} {s:af} {a Cc:Addr} {oe:Obj} {fl:Value}
end
section
variable {prog:aB} {w:World} {A:aQ} {R:jG->af->Prop} {I:Addr} {fp wr:List Addr} {n:Nat} {P:Nat->Value->Prop} {St:Nat->Heap->Prop} {h₀:Heap}
end
noncomputable def bX6 (lo:Int)(n:Nat):It:=⟨λ i _=>i<n,λ i H x H'=>H'=H/\x=.int (lo+i*(-1)),λ i _=>n<=i⟩
theorem av8 {P:aB}{w:World}{K:ae}{tg:Expr}(it:Addr)(J:Int)(n:Nat):Turn P w K tg (bX6 J n) [it] it (λ i h=>hZ h it (J+(i:Nat)*(-1)) ((n:Int) - (i:Nat)) (-1)) where
 mem:=by simp
 obj:=λ i h st b hb=>by
  have e:b=it:=by simpa using hb
  subst e
  exact⟨_,st,λ v z=>by
   have z':Data.fields _=Data.cell v:=z
   cases z'⟩
 keep:=λ i h h' st k=>k it (by simp) _ st
 item:=by
  intro X hP hw hK hc i p s W H E I G st hg
  subst hP hw hK
  obtain⟨Y,f1,f2,f3,f4,Z⟩:=G it (by simp)
  have Ww:=kT (prog:=X.prog) (w:=X.w) (I.ok.hd hc) it J (-1) n
  refine Ww.item i s _ _ hg st λ v h' tk hv F kk=>?_
  obtain⟨t,rfl⟩:=hv
  have I1:Inv X p W H { s with heap:=h',toks:=tk }:=I.turned (λ b o hb e=>kk b o (by simpa using hb) e) Y f1 f3 f4 Z
  exact⟨_,rfl,aH9 (s:={ s with heap:=h',toks:=tk }) (n := "range_iterator") F rfl rfl (by decide) ⟨.int (J+i*(-1)),H,I1,⟨t,rfl⟩,⟨rfl,rfl⟩,F,λ b hb=>(G b hb).1⟩⟩
 done:=by
  intro X hP hw hK hc i p s W H E I G st hg
  subst hP hw hK
  obtain⟨Y,f1,f2,f3,f4,Z⟩:=G it (by simp)
  exact gm (I.ok.hd hc) st (by have:n<=i:=hg;omega) λ h' eb=>⟨rfl,I.turned (t':=s.toks) (λ b o hb e=>eb b o hb e) Y f1 f3 f4 Z⟩
 self:=λ _ _ _ _ _ st h=>gq st h
theorem as5 {a:Int}(h:0<=a):cS a (-1) (-1)=a+1:=by
 unfold cS
 rw[if_neg (by decide),if_pos (by omega),show(-(-1:Int))=1 from rfl,kI]
 omega
theorem aL3 {a:Int}(ha:0<=a)(h:a<2^20):iM a (-1) (-1)=true:=by
 unfold iM
 rw[as5 ha]
 simp only[j2,ag,bh,decide_eq_true_eq,beq_iff_eq,show ¬((-1:Int) > 0)by decide,if_false]
 omega
def bF4 (ta:TA):TI:=λ W H R=>ta W H λ vs H1=>∃ i:Int,vs=[.int i,.int (-1),.int (-1)]/\(0<=i/\i<2^20)/\R (bX6 i (i+1).toNat) H1
theorem aP7 {X:Cx}{tg a b c:Expr}{ta:TA}{p pos:Pos}(hg:Gl X "range")(hm:X.mg "range"=none)(ha:PA X [a,b,c] ta)(hs:a7 [a,b,c] X.env=(false,eval a X.env)::a7 [b,c] X.env:=by rfl)(Y:a7 [b,c] X.env=[(false,eval b X.env),(false,eval c X.env)]:=by rfl) :
  PI X tg (.Call (.Name "range" p) [a,b,c] [] pos) (bF4 ta):=by
 intro G s W H R I h
 refine Call_ (al5 I hg hm j9 (cw (thn (ha pos G s W H _ I h) λ us s1 ⟨vs,H1,I1,r1,J⟩=>?_) hs (by rw[Y];rfl)))
 obtain⟨z,e,⟨J,q2⟩,q⟩:=J
 subst e
 cases r1 with
 | cons r rr =>
  cases rr with
  | cons r' rr =>
   cases rr with
   | cons r'' rr =>
    cases rr
    obtain⟨t,rfl⟩:=r
    obtain⟨t',rfl⟩:=r'
    obtain⟨F,rfl⟩:=r''
    refine call_range_3 (by decide) ?_
    refine i7 (kU ..) (aL3 J q2) ?_
    have Z:Inv X G W H1 { s1 with heap:=s1.heap.push { cls:=.type "range",data:=.fields #[.int z t,.int (-1) t',.int (-1) F] },toks:=s1.toks }:=I1.kept λ b o e=>ao _ e
    refine⟨(s1.heap.push { cls:=.type "range",data:=.fields #[.int z t,.int (-1) t',.int (-1) F] }).objs.size,[(s1.heap.push { cls:=.type "range",data:=.fields #[.int z t,.int (-1) t',.int (-1) F] }).objs.size],_,_,H1,rfl,
     Z.kept (t':=s1.toks) λ b o e=>ao _ e,av8 _ z (z+1).toNat,?_,λ b hb=>?_,q⟩
    .show hZ _ _ (z+((0:Nat):Int)*(-1)) ((((z+1).toNat:Nat):Int) - ((0:Nat):Int)) (-1)
     have e1:z+((0:Nat):Int)*(-1)=z:=by simp
     have e2:(((z+1).toNat:Nat):Int) - ((0:Nat):Int)=cS z (-1) (-1):=by rw[as5 J];omega
     rw[e1,e2]
     exact aX _ rfl
    .have e:b=(s1.heap.push { cls:=.type "range",data:=.fields #[.int z t,.int (-1) t',.int (-1) F] }).objs.size:=by simpa using hb
     subst e
     exact Z.fpOk (ai _) (Z.hok.fresh (ai _))
theorem as8 {X:Cx}{k:Nat}{p1 z:Pos}:PE X (.UnaryOp .USub (.Constant (.int 1) k p1) z) (tC (.int (-1))) :=
 λ p s W H Q I h=>bV8 (X:=X) bE8 bi2 p s W H Q I ⟨1,rfl,h⟩
section
variable {X:Cx} {pins:yA} {W:St} {H:Hp} {s:af} {a Cc:Addr} {oe:Obj} {fl:Value}
end
section
variable {X:Cx} {pins:yA} {W:St} {H:Hp} {s:af} {a Cc D':Addr} {oe:Obj} {fl:Value}
end
section
open PySem.AutoSeq1 (wpAny_loadPart')
open PySem.MeetsSeq PySem.MeetsSeq2 PySem.MeetsSeq3 PySem.SeqAt
end
section
variable {A:aQ} {s:af}
end
section
variable {prog:aB} {w:World} {A:aQ} {E:yB} {s:af} {x y:Str} {t u:Tok}
end
section
variable {X:Cx} {a:Addr} {oe:Obj}
end
theorem bl3 {P:aB}{w:World}{k:Key}{u:Value}(h:(zv P w).is k u=true):RelV (kV k) u:=by
 rcases zd h with⟨i,t,rfl,rfl⟩|⟨x,t,rfl,rfl⟩
 .exact⟨t,rfl⟩
 .exact⟨t,rfl⟩
theorem KV.get {κ:Type}:∀ {l:List (κ×V)} {m:List (κ×Value)} {i:Nat} {k:κ} {v:V},KV l m->l[i]?=some (k,v)->∃ u,m[i]?=some (k,u)/\RelV v u:=by
 intro l m i k v r
 induction r generalizing i with
 | nil=>intro e;simp at e
 | cons h t ih =>
  intro e
  cases i with
  | zero=>cases(av e:_=(k,v));exact⟨_,congrArg some (Prod.ext h.1.symm rfl),h.2⟩
  | succ i=>exact ih (by simpa using e)
section
variable {X:Cx} {pins:yA} {W:St} {H:Hp} {s:af}
theorem Inv.freezeK {a:Addr}{o:Obj}{kvs:List (Key×V)}(I:Inv X pins W H s)(e:H a=some (.dK kvs))(ho:s.heap.get? a=some o):Inv X pins W (upd H a (.frz o (.dK kvs))) s :=
 I.un (t':=s.toks) (Un.write (by rw[e];trivial) (.inl rfl) (λ _ _ _ q=>q) ⟨o,ho⟩) (I.hok.tw e (by nofun) (by nofun) ⟨ho,I.hok a _ e⟩)
theorem Inv.thawK {a:Addr}{o:Obj}{kvs:List (Key×V)}(I:Inv X pins W H s)(e:H a=some (.frz o (.dK kvs)))(h0:∀ o u,X.H₀ a≠some (.frz o u)):Inv X pins W (upd H a (.dK kvs)) s:=by
 have h:∀ b,H b=none->upd H a (.dK kvs) b=none:=λ b n=>by rw[zc λ z=>by subst z;rw[e]at n;cases n];exact n
 have B:=I.base
 refine⟨I.ok,I.os,I.bare,⟨B.keep,B.slot,λ b o q n hx=>h b (B.free b o q n hx),B.there,λ b J q=>?_,λ b ob u q=>?_,λ b ps q=>?_⟩,I.loc,I.cell,h _ I.free,λ x c q=>h _ (I.freeC x c q),λ p G=>?_,I.hok.tw e (by nofun) (by nofun) ?_,I.len⟩
 .have r:=B.tups b J q
  rw[zc λ z=>by subst z;rw[e]at r;cases r];exact r
 .rw[zc λ z=>by subst z;exact h0 _ _ q];exact B.frzs b ob u q
 .obtain⟨m,r⟩:=B.tbls b ps q
  exact⟨m,by rw[zc λ z=>by subst z;rw[e]at r;cases r];exact r⟩
 .obtain⟨p1,F,p3⟩:=I.pin p G
  exact⟨p1,h _ F,p3⟩
 .exact(show aa4 X.prog X.w H s.heap a (.frz o (.dK kvs))from I.hok a _ e).2
end
noncomputable def Jk (a:Addr)(o:Obj)(kvs:List (Key×V)):It:=⟨λ i H=>H a=some (.frz o (.dK kvs))/\i<kvs.length,
 λ i H x H'=>H'=H/\∃ k v,kvs[i]?=some (k,v)/\x=kV k,λ i H=>H a=some (.frz o (.dK kvs))/\kvs.length<=i⟩
theorem bi5 {P:aB}{w:World}{H:Hp}{h:Heap}{a:Addr}{o:Obj}{kvs:List (Key×V)}{p:Array DictEntry}{ep:Nat}(ok:HOk P w H h)(z:H a=some (.frz o (.dK kvs)))(ho:o.data=.dict p ep):∃ vs,KV kvs vs/\h.DictAt (zv P w) a vs ep:=by
 obtain⟨e,zz,y,vs,r,o',es,Z,F,J,h3,G,h5,Y⟩:=(show aa4 P w H h a (.frz o (.dK kvs))from ok a _ z)
 rw[e]at F;cases F
 rw[ho]at h3;cases h3
 exact⟨vs,r,o,p,e,J,ho,G,h5,Y⟩
theorem aS3 {P:aB}{w:World}{K:ae}{tg:Expr}(a it:Addr)(o:Obj)(kvs:List (Key×V))(ep:Nat)(Z:Array DictEntry)(ho:o.data=.dict Z ep) :
  Turn P w K tg (Jk a o kvs) [it] it (λ i h=>h.IsKeyIter it a i kvs.length ep) where
 mem:=by simp
 obj:=λ i h st b hb=>by
  have e:b=it:=by simpa using hb
  subst e
  obtain⟨o,e,c,d⟩:=st
  exact⟨o,e,λ v z=>by rw[d]at z;cases z⟩
 keep:=λ i h h' st k=>st.at λ o e=>k it (by simp) o e
 item:=by
  intro X hP hw hK hc i p s W H E I G st hg
  subst hP hw hK
  obtain⟨fz,hlt⟩:=hg
  obtain⟨vs,r,da⟩:=bi5 I.hok fz ho
  have hl:kvs.length=vs.length:=cz r
  obtain⟨u,hu,_⟩:=KV.get r (ah hlt)
  obtain⟨J,f1,f2,f3,f4,Y⟩:=G it (by simp)
  refine wpAny_pyNext_dict_item (by rw[<-hl];exact st) da hu λ key h' hk F sb=>?_
  rw[<-hl]at F
  have I1:Inv X p W H { s with heap:=h' }:=I.turned (t':=s.toks) (λ b o hb e=>(sb.2 b hb).trans e) J f1 f3 f4 Y
  obtain⟨o',e,c,d⟩:=id F
  exact⟨key,rfl,aH9 (s:={ s with heap:=h' }) e c d (by decide) ⟨kV kvs[i].1,H,I1,bl3 hk,⟨rfl,_,_,ah hlt,rfl⟩,F,λ b hb=>(G b hb).1⟩⟩
 done:=by
  intro X hP hw hK hc i p s W H E I G st hg
  subst hP hw hK
  obtain⟨fz,a0⟩:=hg
  obtain⟨vs,r,da⟩:=bi5 I.hok fz ho
  have hl:kvs.length=vs.length:=cz r
  obtain⟨J,f1,f2,f3,f4,Y⟩:=G it (by simp)
  exact wpAny_pyNext_dict_end (I.ok.hd hc) (by rw[<-hl];exact st) da (bW (by omega)) λ h' eb=>⟨rfl,I.turned (t':=s.toks) (λ b o hb e=>eb b o hb e) J f1 f3 f4 Y⟩
 self:=λ _ _ _ _ _ st h=>wpAny_pyIter_keyiter st h
section
variable {X:Cx} {tg:Expr}
def bM9 (tl:TE):TI:=λ W H R=>tl W H λ x H1=>∃ a kvs,x=.ref a/\H1 a=some (.dK kvs)/\∀ o,R (Jk a o kvs) (upd H1 a (.frz o (.dK kvs)))
theorem bw1 {l:Expr}{J:TE}(hl:PE X l J):PI X tg l (bM9 J):=by
 intro z s W H R I h
 refine thn (hl z s W H _ I h) λ v s1 ⟨x,H1,F,r1,a,kvs,ex,ha,q⟩=>?_
 subst ex
 cases r1
 obtain⟨zz,y,vs,r,o,es,p,G,h2,h3,Y,h5,h6⟩:=(show aa4 X.prog X.w H1 s1.heap a (.dK kvs)from F.hok a _ ha)
 have hl:kvs.length=vs.length:=cz r
 refine wpAny_pyIter_dict y (knd:=zv X.prog X.w) (kvs:=vs) (ep:=p) ⟨o,es,G,h2,h3,Y,h5,h6⟩ ?_
 have Z:=(F.freezeK ha G).kept (t':=s1.toks) (h':=s1.heap.push { cls:=.type "dict_keyiterator",data:=.fields #[.ref a,.int 0 0,.int vs.length 0,.int p 0] }) λ b u r=>ao _ r
 refine⟨s1.heap.objs.size,[s1.heap.objs.size],_,_,_,rfl,Z,aS3 a s1.heap.objs.size o kvs p es h3,⟨_,aX _ rfl,rfl,by rw[hl];rfl⟩,λ b hb=>?_,q o⟩
 have e:b=s1.heap.objs.size:=by simpa using hb
 subst e
 exact(F.freezeK ha G).fpOk (ai _) ((F.freezeK ha G).hok.fresh (ai _))
theorem aD6:∀ {l:List (Key×V)} {us:yH},us.length=l.length->(∀(j:Nat) (u:Value),us[j]?=some u->∀ k v,l[j]?=some (k,v)->RelV (kV k) u)->Vals (l.map λ z=>kV z.1) us
 | [],[],_,_=>.nil
 | [],_::_,h,_=>by cases h
 | _::_,[],h,_=>by cases h
 | (k,v)::l,u::us,h,q=>.cons (q 0 u rfl k v rfl) (aD6 (kK h) λ j F e p v' e'=>q (j+1) F e p v' e')
theorem aJ7 (hc:X.calm=true):aa6 X (.type "list") (λ Y H Q=>∃ p kvs,Y=[.ref p]/\H p=some (.dK kvs)/\∀ l,H l=none->Q (.ref l) (upd H l (.lst (kvs.map λ G=>kV G.1)))):=by
 intro J s W H Y us Q I r h
 obtain⟨p,kvs,rfl,hd,q⟩:=h
 obtain⟨u,rfl,rx⟩:=qv r
 cases rx
 obtain⟨zz,y,vs,r,o,es,F,h1,h2,h3,Z,h5,h6⟩:=(show aa4 X.prog X.w H s.heap p (.dK kvs)from I.hok p _ hd)
 have hl:kvs.length=vs.length:=cz r
 refine PySem.W.kdl_call (PySem.W.kdl_dict (knd:=zv X.prog X.w) (kvs:=vs) (ep:=F) y) (I.ok.hd hc) ⟨o,es,h1,h2,h3,Z,h5,h6⟩ (by omega) λ h' tk z c kp e it=>?_
 refine⟨.ref s.heap.objs.size,_,I.laid (t':=tk) kp (ai _) (show aa4 X.prog X.w _ h' _ (.lst (kvs.map λ G=>kV G.1))from⟨by rw[aD];exact zz,z.toList,c,?_,by rw[ik];exact e⟩),rfl,q _ (I.hok.fresh (ai _))⟩
 refine aD6 (by rw[cr];exact it.1.trans hl.symm) λ j u e k v hk=>?_
 obtain⟨k',x',e1,e2⟩:=it.2 j u (by rw[<-g7];exact e)
 obtain⟨u',e3,_⟩:=KV.get r hk
 rw[e3]at e1;cases e1
 exact bl3 e2
theorem ay1:aa6 X (.builtin "sorted") (λ Z H Q=>∃(p:Addr) (ns:List Int),Z=[.ref p]/\H p=some (.lst (ns.map V.int))/\ns.length<64/\∀(l:Addr) (F:List Int),H l=none->F.Perm ns->F.Pairwise (·<=·)->Q (.ref l) (upd H l (.lst (F.map V.int)))):=by
 intro J s W H Z us Q I r h
 obtain⟨p,ns,rfl,hd,a0,q⟩:=h
 obtain⟨u,rfl,rx⟩:=qv r
 cases rx
 obtain⟨its,Y,pl,hz⟩:=I.list (SqL.of hd)
 have hI:=aK5 Y
 have G:its.length=ns.length:=by have:=Y.length;rw[aD]at this;exact this.symm
 refine sorted_ints pl.isList hI (by omega) λ out z a1 a2 a3=>?_
 obtain⟨e,he⟩:=sortedAll_at s.heap its out
 refine⟨.ref (s.heap.objs.size+1),_,I.laid (t':=s.toks) (λ b o hb=>sortedAll_old hb) (cb _) (show aa4 X.prog X.w _ _ _ (.lst (z.map V.int))from⟨?_,out.toList,e,ah6 a1,by rw[ik];exact he⟩),rfl,q _ z (I.hok.fresh (cb _)) a2 a3⟩
 rw[aD,a2.length_eq,dN];omega
end
end L2
end
noncomputable section
namespace DV
inductive D where
 | non|bl (b:Bool)|int (i:Int)|str (x:List Nat)|tup (l:List D)|ref (n:Nat)|fn (f:String)|clo (f:String) (cs:List D)
noncomputable instance:DecidableEq D:=λ a b=>dS (a=b)
noncomputable instance (x:D):Decidable (x=.non):=match x with
 | .non=>.isTrue rfl
 | .bl _=>.isFalse nofun
 | .int _=>.isFalse nofun
 | .str _=>.isFalse nofun
 | .tup _=>.isFalse nofun
 | .ref _=>.isFalse nofun
 | .fn _=>.isFalse nofun
 | .clo _ _=>.isFalse nofun
inductive O where
 | lst (l:List D)|ro (l:List D)|dic (l:List (D×D))|ins (c:String) (fs:List (D×D))|dit (l:List (D×D))|dicF (l:List (D×D))
noncomputable instance:DecidableEq O:=λ a b=>dS (a=b)
noncomputable abbrev Sto:=List O
noncomputable def O.kd:O->Nat
 | .lst _=>0|.ro _=>1|.dic _=>2|.ins _ _=>3|.dit _=>4|.dicF _=>2
inductive R (α:Type) where
 | ok (a:α) (s:Sto)|exc (e:D) (s:Sto)|bad
noncomputable abbrev M (α:Type):=Sto->R α
noncomputable def R.bind {α β:Type}(r:R α)(f:α->Sto->R β):R β:=match r with
 | .ok a s=>f a s
 | .exc e s=>.exc e s
 | .bad=>.bad
@[simp] theorem R.bind_ok {α β:Type} (a:α) (s:Sto) (f:α->Sto->R β):(R.ok a s).bind f=f a s:=rfl
@[simp] theorem R.bind_bad {α β:Type} (f:α->Sto->R β):(R.bad:R α).bind f=.bad:=rfl
@[simp] theorem R.bind_exc {α β:Type} (e:D) (s:Sto) (f:α->Sto->R β):(R.exc e s:R α).bind f=.exc e s:=rfl
theorem R.bind_inv {α β:Type}{r:R α}{f:α->Sto->R β}{b:β}{t:Sto}(h:r.bind f=.ok b t):∃ a s,r=.ok a s/\f a s=.ok b t:=by
 cases r with
 | ok a s=>exact⟨a,s,rfl,h⟩
 | exc e s=>cases h
 | bad=>cases h
@[simp] theorem R.bind_assoc {α β γ:Type} (r:R α) (f:α->Sto->R β) (g:β->Sto->R γ):(r.bind f).bind g=r.bind λ a s=>(f a s).bind g:=by cases r<;>rfl
mutual
noncomputable def D.bnd (n:Nat):D->Bool
 | .tup l=>D.bndL n l
 | .ref k=>decide (k<n)
 | .clo _ l=>D.bndL n l
 | _=>true
noncomputable def D.bndL (n:Nat):List D->Bool
 | []=>true
 | d::l=>D.bnd n d&&D.bndL n l
end
noncomputable def O.bnd (n:Nat):O->Bool
 | .lst l=>D.bndL n l
 | .ro l=>D.bndL n l
 | .dic l=>D.bndL n (l.map (·.1))&&D.bndL n (l.map (·.2))
 | .ins _ l=>D.bndL n (l.map (·.1))&&D.bndL n (l.map (·.2))
 | .dicF l=>D.bndL n (l.map (·.1))&&D.bndL n (l.map (·.2))
 | .dit l=>D.bndL n (l.map (·.1))&&D.bndL n (l.map (·.2))
mutual
noncomputable def D.plain:D->Bool
 | .non=>true|.int _=>true|.str _=>true
 | .tup l=>D.plainL l
 | _=>false
noncomputable def D.plainL:List D->Bool
 | []=>true
 | d::l=>D.plain d&&D.plainL l
end
mutual
noncomputable def D.ncl:D->Bool
 | .tup l=>D.nclL l
 | .clo _ _=>false
 | _=>true
noncomputable def D.nclL:List D->Bool
 | []=>true
 | d::l=>D.ncl d&&D.nclL l
end
noncomputable def O.ncl:O->Bool
 | .lst l=>D.nclL l
 | .ro l=>D.nclL l
 | .dic l=>D.nclL (l.map (·.2))
 | .dit l=>D.nclL (l.map (·.2))
 | .dicF l=>D.nclL (l.map (·.2))
 | .ins _ l=>D.nclL (l.map (·.2))
noncomputable def D.key:D->Bool
 | .int _=>true|.str _=>true|_=>false
noncomputable def D.hdI:List D->Bool
 | .int _::_=>true|.non::_=>true|.tup _::_=>true|_=>false
noncomputable def D.keyF:D->Bool
 | .int _=>true|.non=>true|.str x=>decide (x.length<=1000)|_=>false
noncomputable def D.keyS:D->Bool
 | .tup l=>D.hdI l&&(l.all D.keyF&&decide (l.length<=1000))|d=>D.keyF d
noncomputable def D.keyT:D->Bool
 | .tup l=>D.hdI l&&(l.all D.keyS&&decide (l.length<=1000))|_=>false
noncomputable def LIM:Nat:=1000000
@[irreducible] noncomputable def BIG:Nat:=2^60000
@[irreducible] noncomputable def DIVL:Nat:=2^4096
inductive BOp where
 | add|sub|mul|fdiv|mod|pow|shl|shr|band|bor
 deriving DecidableEq
inductive COp where
 | eq|ne|lt|le|gt|ge|isin|notin
 deriving DecidableEq
inductive Cn where
 | non|bl (b:Bool)|int (i:Int)|str (x:List Nat)
 deriving DecidableEq
noncomputable def Cn.d:Cn->D
 | .non=>.non|.bl b=>.bl b|.int i=>.int i|.str x=>.str x
inductive Bi where
 | len|abs|int|str|min2|max2|max3|min3|isInt|isBool|isStr|isTup|isList|ord
 deriving DecidableEq
inductive Mk where
 | tuple|list|all|any|sum|min|max|sorted|lenset
 deriving DecidableEq
inductive Mt where
 | append|partition
 deriving DecidableEq
inductive Tg where
 | one (i:Nat)|tup (is:List Nat)
 deriving DecidableEq
mutual
inductive E where
 | var (i:Nat)|cst (c:Cn)|glob (x:String)
 | bin (op:BOp) (a b:E)|not (a:E)
 | cmp (op:COp) (a b:E)
 | and (a b:E)|or (a b:E)|ite (c a b:E)
 | tup (es:Es)|lst (es:Es)|dic (ks vs:Es)|bitl (a:E)
 | ix (a b:E)|slL (a lo:E)|slU (a hi:E)|slLU (a lo hi:E)
 | call (f:String) (as:As)
 | bi (b:Bi) (es:Es)|mk (k:Mk) (l:L)
 | meth (m:Mt) (o:E) (es:Es)
 | attr (o:E) (f:List Nat)|new (c:String) (as:As)|mcall (o:E) (m:String) (as:As)|keysL (e:E)|srt (e:E)
inductive Es where
 | nil|cons (e:E) (es:Es)
inductive As where
 | nil|ex (e:E) (as:As)|fn (f:String) (as:As)
inductive I where
 | seq (e:E)|rng1 (a:E)|rng2 (a b:E)|rngD (a:E)|keys (e:E)
inductive L where
 | comp (tg:Tg) (it:I) (e:E) (caps:yE)|compIf (tg:Tg) (it:I) (c e:E) (caps:yE)|disp (es:Es)|seq (e:E)
end
mutual
inductive S where
 | asg (tg:Tg) (e:E)|setIx (o i e:E)|ex (e:E)|ret (e:E)
 | ite (c:E) (a b:Ss)|whl (c:E) (b:Ss)|for_ (tg:Tg) (it:I) (b:Ss)|setA (o:E) (f:List Nat) (e:E)|forK (tg:Tg) (e:E) (b:Ss)
inductive Ss where
 | nil|cons (s:S) (ss:Ss)
end
noncomputable abbrev Env:=List (Option D)
noncomputable def aa7 (o:O):M D:=λ s=>.ok (.ref s.length) (s++[o])
noncomputable def pur (d:D):M D:=λ s=>.ok d s
noncomputable def bad {α:Type}:M α:=λ _=>.bad
noncomputable def mulOk (a b:Int):Bool:=decide (a.natAbs<2^64)||decide (b.natAbs<2^64)||(decide (a.natAbs<BIG)&&decide (b.natAbs<BIG))
noncomputable def rep:Nat->List Nat->List Nat
 | 0,_=>[]
 | n+1,a=>a++rep n a
noncomputable def aL7:Nat->List D->List D
 | 0,_=>[]
 | n+1,a=>a++aL7 n a
noncomputable def z0:BOp->D->D->M D
 | .add,.int a,.int b=>pur (.int (a+b))
 | .add,.str a,.str b=>if a.length+b.length<=LIM then pur (.str (a++b))else bad
 | .add,.tup a,.tup b=>if a.length+b.length<=LIM then pur (.tup (a++b))else bad
 | .add,.ref a,.ref b=>λ s=>match s[a]?,s[b]? with
  | some (.lst l),some (.lst m)=>if l.length+m.length<=LIM then aa7 (.lst (l++m)) s else .bad
  | _,_=>.bad
 | .sub,.int a,.int b=>pur (.int (a - b))
 | .mul,.int a,.int b=>if mulOk a b then pur (.int (a*b))else bad
 | .mul,.str a,.int n=>if 0<=n/\n<=1000000/\a.length*n.toNat<=LIM then pur (.str (rep n.toNat a))else bad
 | .mul,.tup a,.int n=>if 0<=n/\n<=1000000/\a.length*n.toNat<=LIM then pur (.tup (aL7 n.toNat a))else bad
 | .mul,.ref a,.int n=>λ s=>match s[a]? with
  | some (.lst l)=>if 0<=n/\n<=1000000/\l.length*n.toNat<=LIM then aa7 (.lst (aL7 n.toNat l)) s else .bad
  | _=>.bad
 | .fdiv,.int a,.int b=>if 0<b/\b<(DIVL:Int)then pur (.int (a / b))else bad
 | .mod,.int a,.int b=>if 0<b then pur (.int (a % b))else bad
 | .pow,.int a,.int b=>if 0<=b/\b<=1000000/\a.natAbs<2^64 then pur (.int (a^b.toNat))else bad
 | .shl,.int a,.int b=>if 0<=b/\b<=1000000/\a.natAbs<2^64 then pur (.int (a*2^b.toNat))else bad
 | .shr,.int a,.int b=>if 0<=b then pur (.int (a / 2^b.toNat))else bad
 | .band,.int a,.int b=>if 0<=a/\b=1 then pur (.int (a % 2))else bad
 | .bor,.int a,.int b=>if 0<=a/\0<=b then pur (.int ((a.toNat ||| b.toNat:Nat):Int))else bad
 | _,_,_=>bad
noncomputable def kd (s:Sto):D->Nat
 | .non=>0|.bl _=>1|.int _=>1|.str _=>2|.tup _=>3
 | .ref r=>match s[r]? with|some (.lst _)=>4|_=>9
 | _=>9
noncomputable def aA3 (a b:Nat):Bool:=a==9||b==9||a==b
noncomputable def b2i (b:Bool):Int:=if b then 1 else 0
noncomputable def aW4:D->D->Option Bool
 | .non,.non=>some true
 | .bl a,.bl b=>some (a==b)
 | .int a,.int b=>some (a==b)
 | .bl a,.int b=>some (b2i a==b)
 | .int a,.bl b=>some (a==b2i b)
 | .str a,.str b=>some (a==b)
 | _,_=>none
noncomputable def aa8 (s:Sto)(a b:D):Option Bool:=match aW4 a b with
 | some z=>some z
 | none=>if aA3 (kd s a) (kd s b)then none else some false
noncomputable def eqL (f:D->D->Option Bool):List D->List D->Option Bool
 | [],[]=>some true
 | [],_::_=>some false
 | _::_,[]=>some false
 | a::l,b::m=>match f a b,eqL f l m with
  | some x,some y=>some (x&&y)
  | _,_=>none
noncomputable def eqv (s:Sto):Nat->D->D->Option Bool
 | 0,a,b=>aa8 s a b
 | n+1,a,b=>match a,b with
  | .tup l,.tup m=>eqL (eqv s n) l m
  | .ref x,.ref y=>match s[x]?,s[y]? with
   | some (.lst l),some (.lst m)=>if l.length=m.length then eqL (eqv s n) l m else some false
   | _,_=>none
  | a,b=>aa8 s a b
noncomputable def DEEP:Nat:=30
noncomputable def eqM (a b:D):M D:=λ s=>match eqv s DEEP a b with
 | some r=>.ok (.bl r) s
 | none=>.bad
noncomputable def inL (s:Sto)(x:D):List D->Option Bool
 | []=>some false
 | y::l=>match eqv s DEEP y x,inL s x l with
  | some a,some b=>some (a||b)
  | _,_=>none
noncomputable def look (k:D):List (D×D)->Option D
 | []=>none
 | (a,v)::l=>if a=k then some v else look k l
noncomputable def inM (a b:D):M Bool:=λ s=>match b with
 | .tup l=>match inL s a l with|some r=>.ok r s|none=>.bad
 | .ref r=>match s[r]? with
  | some (.lst l)=>match inL s a l with|some r=>.ok r s|none=>.bad
  | some (.dic l)=>if a.key then .ok (look a l).isSome s else .bad
  | some (.dit l)=>if a.keyT then .ok (look a l).isSome s else .bad
  | _=>.bad
 | .str y=>match a with|.str [c]=>.ok (decide (c∈y)) s|_=>.bad
 | _=>.bad
noncomputable def bc7:D->Option (Int×List Nat)
 | .tup [.int i,.str x]=>some (i,x)
 | _=>none
noncomputable def bR2 (f:Int->List Nat->Int->List Nat->Bool)(a b:D):M D:=λ s=>match bc7 a,bc7 b with
 | some (i,x),some (j,y)=>.ok (.bl (f i x j y)) s
 | _,_=>.bad
noncomputable def zf:COp->D->D->M D
 | .eq,a,b=>eqM a b
 | .ne,a,b=>λ s=>match eqv s DEEP a b with|some r=>.ok (.bl (!r)) s|none=>.bad
 | .lt,.int a,.int b=>pur (.bl (decide (a<b)))
 | .le,.int a,.int b=>pur (.bl (decide (a<=b)))
 | .gt,.int a,.int b=>pur (.bl (decide (b<a)))
 | .isin,a,b=>λ s=>(inM a b s).bind λ r s=>.ok (.bl r) s
 | .notin,a,b=>λ s=>(inM a b s).bind λ r s=>.ok (.bl (!r)) s
 | _,_,_=>bad
noncomputable def ixn (n:Nat)(i:Int):Option Nat:=if 0<=i then(if i<n then some i.toNat else none)else if -(n:Int)<=i then some (i+n).toNat else none
noncomputable def sbd (n:Nat)(i:Int):Nat:=if 0<=i then min i.toNat n else(i+n).toNat
noncomputable def loB (n:Nat):Option Int->Nat
 | none=>0
 | some i=>sbd n i
noncomputable def hiB (n:Nat):Option Int->Nat
 | none=>n
 | some i=>sbd n i
noncomputable def af4 {α:Type}(l:List α)(lo hi:Option Int):List α:=(l.drop (loB l.length lo)).take (hiB l.length hi - loB l.length lo)
noncomputable def ixM (a b:D):M D:=λ s=>match a,b with
 | .tup l,.int i=>match(ixn l.length i).bind λ j=>l[j]? with|some d=>.ok d s|none=>.bad
 | .str l,.int i=>match(ixn l.length i).bind λ j=>l[j]? with|some c=>.ok (.str [c]) s|none=>.bad
 | .ref r,b=>match s[r]? with
  | some (.lst l)=>match b with
   | .int i=>match(ixn l.length i).bind λ j=>l[j]? with|some d=>.ok d s|none=>.bad
   | _=>.bad
  | some (.ro l)=>match b with
   | .int i=>match(ixn l.length i).bind λ j=>l[j]? with|some d=>.ok d s|none=>.bad
   | _=>.bad
  | some (.dic l)=>if b.key then match look b l with|some d=>.ok d s|none=>.bad else .bad
  | some (.dit l)=>if b.keyT then match look b l with|some d=>.ok d s|none=>.bad else .bad
  | _=>.bad
 | _,_=>.bad
noncomputable def slM (a:D)(lo hi:Option Int):M D:=λ s=>match a with
 | .tup l=>.ok (.tup (af4 l lo hi)) s
 | .str l=>.ok (.str (af4 l lo hi)) s
 | .ref r=>match s[r]? with
  | some (.lst l)=>aa7 (.lst (af4 l lo hi)) s
  | _=>.bad
 | _=>.bad
noncomputable def ad9:List D->Option (List Bool)
 | []=>some []
 | .bl b::l=>(ad9 l).map (b::·)
 | _=>none
noncomputable def qf:List D->Option (List Int)
 | []=>some []
 | .int i::l=>(qf l).map (i::·)
 | _=>none
noncomputable def am7:List D->Option (List (List Nat))
 | []=>some []
 | .str i::l=>(am7 l).map (i::·)
 | _=>none
noncomputable def bm7 (d:D):M D:=λ s=>match d with
 | .tup l=>.ok (.int l.length) s
 | .str l=>.ok (.int l.length) s
 | .ref r=>match s[r]? with
  | some (.lst l)=>.ok (.int l.length) s
  | some (.ro l)=>.ok (.int l.length) s
  | _=>.bad
 | _=>.bad
noncomputable def isK (k:Nat)(d:D):M D:=λ s=>match d with
 | .non=>.ok (.bl false) s
 | .bl _=>.ok (.bl (k==1||k==2)) s
 | .int _=>.ok (.bl (k==1)) s
 | .str _=>.ok (.bl (k==3)) s
 | .tup _=>.ok (.bl (k==4)) s
 | .ref r=>match s[r]? with
  | some (.lst _)=>.ok (.bl (k==5)) s
  | _=>.bad
 | _=>.bad
noncomputable def bi1 (f:D->M D):List D->M D
 | [d]=>f d
 | _=>bad
noncomputable def aH4:List D->M D
 | [.str [c]]=>λ s=>if 48<=c/\c<=57 then .ok (.int ((c - 48:Nat):Int)) s else .bad
 | _=>bad
noncomputable def aQ9:List D->M D
 | [.int i]=>λ s=>if 0<=i/\i<=9 then .ok (.str [48+i.toNat]) s else .bad
 | [.str w]=>λ s=>.ok (.str w) s
 | _=>bad
noncomputable def bi:Bi->List D->M D
 | .len,l=>bi1 bm7 l
 | .abs,l=>λ s=>match qf l with|some [i]=>.ok (.int (if i<0 then -i else i)) s|_=>.bad
 | .int,l=>λ s=>match ad9 l with|some [b]=>.ok (.int (if b then 1 else 0)) s|some _=>.bad|none=>aH4 l s
 | .str,l=>aQ9 l
 | .min2,l=>λ s=>match qf l with|some [a,b]=>.ok (.int (if b<a then b else a)) s|_=>.bad
 | .max2,l=>λ s=>match qf l with|some [a,b]=>.ok (.int (if b > a then b else a)) s|_=>.bad
 | .max3,l=>λ s=>match qf l with|some [a,b,c]=>.ok (.int (max (max a b) c)) s|_=>.bad
 | .isInt,l=>bi1 (isK 1) l
 | .isBool,l=>bi1 (isK 2) l
 | .isStr,l=>bi1 (isK 3) l
 | .isTup,l=>bi1 (isK 4) l
 | .isList,l=>bi1 (isK 5) l
 | _,_=>bad
noncomputable def bR0:List Int->Option Int
 | []=>none
 | a::l=>some (l.foldl min a)
noncomputable def cd6:List Int->Option Int
 | []=>none
 | a::l=>some (l.foldl max a)
noncomputable def ins (a:Int):List Int->List Int
 | []=>[a]
 | b::l=>if a<=b then a::b::l else b::ins a l
noncomputable def ao1:List Int->List Int
 | []=>[]
 | a::l=>ins a (ao1 l)
noncomputable def cd3 (is:List Int):Bool:=is.all (λ i=>decide (-1000000000<=i/\i<=1000000000))&&decide (is.length<=1000000)
noncomputable def mk:Mk->List D->M D
 | .tuple,l=>λ s=>.ok (.tup l) s
 | .list,l=>aa7 (.lst l)
 | .all,l=>λ s=>match ad9 l with|some bs=>.ok (.bl (bs.all id)) s|none=>.bad
 | .any,l=>λ s=>match ad9 l with|some bs=>.ok (.bl (bs.any id)) s|none=>.bad
 | .sum,l=>λ s=>match qf l with|some is=>if cd3 is then .ok (.int is.sum) s else .bad|none=>.bad
 | .min,l=>λ s=>match(qf l).bind bR0 with|some m=>.ok (.int m) s|none=>.bad
 | .max,l=>λ s=>match(qf l).bind cd6 with|some m=>.ok (.int m) s|none=>.bad
 | .sorted,l=>λ s=>match qf l with|some is=>aa7 (.lst ((ao1 is).map D.int)) s|none=>.bad
 | .lenset,l=>bad
noncomputable def ao9 (k v:D)(l:List (D×D)):List (D×D):=if(look k l).isSome then l.map (λ p=>if p.1=k then(p.1,v)else p)else l++[(k,v)]
noncomputable def setIx (o i v:D):Sto->R Unit:=λ s=>match o with
 | .ref r=>match s[r]? with
  | some (.lst l)=>match i with
   | .int i=>match ixn l.length i with|some j=>.ok () (s.set r (.lst (l.set j v)))|none=>.bad
   | _=>.bad
  | some (.dic l)=>if i.key&&decide (l.length<LIM)then .ok () (s.set r (.dic (ao9 i v l)))else .bad
  | some (.dit l)=>if i.keyT&&decide (l.length<LIM)then .ok () (s.set r (.dit (ao9 i v l)))else .bad
  | _=>.bad
 | _=>.bad
noncomputable def meth:Mt->D->List D->M D
 | .append,.ref r,[d]=>λ s=>match s[r]? with
  | some (.lst l)=>if l.length<LIM then .ok .non (s.set r (.lst (l++[d])))else .bad
  | _=>.bad
 | _,_,_=>bad
structure Fns where
 call:String->List D->M D
 lam:String->List D->List D->M D
 con:String->Option D
 xcall:String->List D->Sto->Option (String×Sto)
 xc:String->Bool
 xt:String->Bool
 cdc:String->Option (List (List Nat×List Nat))
 kd:String->Bool
 mcall:String->String->List D->M D
 new:String->List D->M D
 att:String->List Nat->Bool
noncomputable def aX8 (U:Env)(i:Nat):M D:=λ s=>match U[i]? with|some (some d)=>.ok d s|_=>.bad
noncomputable def qA (U:Env)(caps:yE):Env:=caps.map λ o=>match o with|none=>none|some j=>(U[j]?).join
noncomputable def aD0 (U:Env)(i:Nat)(d:D):Option Env:=if i < U.length then some (U.set i (some d))else none
noncomputable def aD2 (U:Env)(i:Nat):Option Env:=if i < U.length then some (U.set i none)else none
noncomputable def ai0 (U:Env):List Nat->List D->Option Env
 | [],[]=>some U
 | i::is,d::l=>(aD0 U i d).bind λ U=>ai0 U is l
 | _,_=>none
noncomputable def qC (U:Env):Tg->D->Option Env
 | .one i,d=>aD0 U i d
 | .tup is,.tup l=>ai0 U is l
 | _,_=>none
structure Sq where
 its:List D
 src:List Nat
noncomputable def al9 (d:D):M Sq:=λ s=>match d with
 | .tup l=>.ok ⟨l,[]⟩ s
 | .str l=>.ok ⟨l.map λ c=>.str [c],[]⟩ s
 | .ref r=>match s[r]? with
  | some (.lst l)=>.ok ⟨l,[r]⟩ s
  | some (.ro l)=>.ok ⟨l,[]⟩ s
  | _=>.bad
 | _=>.bad
noncomputable def ao2 (d:D):M Sq:=λ s=>match d with
 | .ref r=>match s[r]? with
  | some (.dic l)=>if l.all (λ p=>p.1.keyF)then .ok ⟨l.map (·.1),[r]⟩ (s.set r (.dicF l))else .bad
  | _=>.bad
 | _=>.bad
noncomputable def aJ1 (s:Sto)(src:List Nat):Bool:=src.all λ r=>match s[r]? with|some (.dicF _)=>false|_=>true
noncomputable def aq3 {α:Type}(src:List Nat)(a:α):Sto->R α:=λ s=>match src with
 | [r]=>match s[r]? with
  | some (.dicF l)=>.ok a (s.set r (.dic l))
  | _=>.bad
 | _=>.bad
noncomputable def ab9 (d:D):M D:=λ s=>match d with
 | .ref r=>match s[r]? with
  | some (.dic l)=>if l.all (λ p=>p.1.keyF)then aa7 (.lst (l.map (·.1))) s else .bad
  | _=>.bad
 | _=>.bad
noncomputable def aT9 (l:List D):M D:=λ s=>match qf l with
 | some is=>if is.length<64 then aa7 (.lst ((ao1 is).map D.int)) s else .bad
 | none=>.bad
noncomputable def ae2 (f:List Nat)(x:D):M D:=λ s=>match x with
 | .ref r=>match s[r]? with
  | some (.ins _ fs)=>match look (.str f) fs with|some d=>.ok d s|none=>.bad
  | _=>.bad
 | _=>.bad
noncomputable def ah3 (k v:D):List (D×D)->List (D×D)
 | []=>[(k,v)]
 | (a,x)::r=>if a=k then(a,v)::r else(a,x)::ah3 k v r
noncomputable def ai9 (ok:String->Bool)(f:List Nat)(x v:D):Sto->R Unit:=λ s=>match x with
 | .ref r=>match s[r]? with
  | some (.ins c fs)=>if ok c&&decide (fs.length<1000)then .ok () (s.set r (.ins c (ah3 (.str f) v fs)))else .bad
  | _=>.bad
 | _=>.bad
noncomputable def bj0 (x:D):Sto->R String:=λ s=>match x with
 | .ref r=>match s[r]? with
  | some (.ins c _)=>.ok c s
  | _=>.bad
 | _=>.bad
noncomputable def bF3 (d:D):Sto->R (List D):=λ s=>match d with
 | .tup l=>.ok l s
 | .str l=>.ok (l.map λ c=>.str [c]) s
 | .ref r=>match s[r]? with
  | some (.lst l)=>.ok l s
  | some (.ro l)=>.ok l s
  | _=>.bad
 | _=>.bad
noncomputable def aK1 (d:D):Sto->R (List D):=λ s=>match d with
 | .ref r=>match s[r]? with
  | some (.lst l)=>.ok l s
  | _=>.bad
 | _=>.bad
noncomputable def Ww62:Int:=4611686018427387904
noncomputable def ad6 (a b:Int):List D:=(aS (b - a).toNat).map λ(k:Nat)=>.int (a+k)
noncomputable def bitsN (i:Int):Nat:=if i=0 then 0 else i.natAbs.log2+1
noncomputable def aJ8 (x:D):M D:=λ s=>match x with|.int i=>.ok (.int (bitsN i:Nat)) s|_=>.bad
noncomputable def ad3 (a:Int):List D:=(aS (a+1).toNat).map λ(k:Nat)=>.int (a+(k:Int)*(-1))
noncomputable def chk (s0 s:Sto)(src:List Nat):Bool:=src.all λ r=>decide (s[r]?=s0[r]?)
noncomputable def tru {α:Type}(r:R D)(f:Bool->Sto->R α):R α:=r.bind λ d s=>match d with|.bl b=>f b s|_=>.bad
@[simp] theorem tru_bl {α:Type} (b:Bool) (s:Sto) (f:Bool->Sto->R α):tru (.ok (.bl b) s) f=f b s:=rfl
noncomputable def qE (ok:Sto->Bool)(g:D->Env->Sto->R (Option D×Env)):List D->Env->Sto->R (List D)
 | [],_,s=>if ok s then .ok [] s else .bad
 | d::l,U,s=>if ok s then(g d U s).bind λ p s=>(qE ok g l p.2 s).bind λ r s=>.ok (match p.1 with|some v=>v::r|none=>r) s else .bad
mutual
noncomputable def ev (F:Fns):E->Env->Sto->R D
 | .var i,U,s=>aX8 U i s
 | .cst c,_,s=>.ok c.d s
 | .glob x,_,s=>match F.con x with|some d=>.ok d s|none=>.bad
 | .bin op a b,U,s=>(ev F a U s).bind λ x s=>(ev F b U s).bind λ y s=>z0 op x y s
 | .not a,U,s=>tru (ev F a U s) λ b s=>.ok (.bl (!b)) s
 | .cmp op a b,U,s=>(ev F a U s).bind λ x s=>(ev F b U s).bind λ y s=>zf op x y s
 | .and a b,U,s=>tru (ev F a U s) λ c s=>if c then tru (ev F b U s) λ c s=>.ok (.bl c) s else .ok (.bl false) s
 | .or a b,U,s=>tru (ev F a U s) λ c s=>if c then .ok (.bl true) s else tru (ev F b U s) λ c s=>.ok (.bl c) s
 | .ite c a b,U,s=>tru (ev F c U s) λ k s=>if k then ev F a U s else ev F b U s
 | .tup es,U,s=>(evs F es U s).bind λ l s=>.ok (.tup l) s
 | .lst es,U,s=>(evs F es U s).bind λ l s=>aa7 (.lst l) s
 | .dic .nil .nil,U,s=>aa7 (.dic []) s
 | .dic (.cons k .nil) (.cons v .nil),U,s=>(ev F k U (s++[.dic []])).bind λ kd s1=>(ev F v U s1).bind λ vd s2=>if kd.key=true/\s2[s.length]?=some (.dic [])then .ok (.ref s.length) (s2.set s.length (.dic [(kd,vd)]))else .bad
 | .dic _ _,U,s=>.bad
 | .bitl a,U,s=>(ev F a U s).bind λ x s=>aJ8 x s
 | .ix a b,U,s=>(ev F a U s).bind λ x s=>(ev F b U s).bind λ y s=>ixM x y s
 | .slL a lo,U,s=>(ev F a U s).bind λ x s=>(ev F lo U s).bind λ y s=>match y with|.int i=>slM x (some i) none s|_=>.bad
 | .slU a hi,U,s=>(ev F a U s).bind λ x s=>(ev F hi U s).bind λ y s=>match y with|.int i=>slM x none (some i) s|_=>.bad
 | .slLU a lo hi,U,s=>(ev F a U s).bind λ x s=>(ev F lo U s).bind λ y s=>match y with|.int i=>(ev F hi U s).bind (λ z s=>match z with|.int j=>slM x (some i) (some j) s|_=>.bad)|_=>.bad
 | .call f as,U,s=>(af5 F as U s).bind λ l s=>F.call f l s
 | .bi b es,U,s=>(evs F es U s).bind λ l s=>bi b l s
 | .mk k it,U,s=>(evL F it U s).bind λ q s=>mk k q s
 | .meth m o es,U,s=>(ev F o U s).bind λ x s=>(evs F es U s).bind λ l s=>meth m x l s
 | .attr o f,U,s=>(ev F o U s).bind λ x s=>ae2 f x s
 | .keysL e,U,s=>(ev F e U s).bind λ x s=>ab9 x s
 | .srt e,U,s=>(ev F e U s).bind λ x s=>(aK1 x s).bind λ q s=>aT9 q s
 | .new c as,U,s=>(af5 F as U s).bind λ l s=>(F.new c (.ref s.length::l) (s++[.ins c []])).bind λ d s'=>if d=.non then .ok (.ref s.length) s' else .bad
 | .mcall o m as,U,s=>(ev F o U s).bind λ x s=>(bj0 x s).bind λ c s=>(af5 F as U s).bind λ l s=>F.mcall c m (x::l) s
noncomputable def evs (F:Fns):Es->Env->Sto->R (List D)
 | .nil,_,s=>.ok [] s
 | .cons e es,U,s=>(ev F e U s).bind λ d s=>(evs F es U s).bind λ l s=>.ok (d::l) s
noncomputable def af5 (F:Fns):As->Env->Sto->R (List D)
 | .nil,_,s=>.ok [] s
 | .ex e as,U,s=>(ev F e U s).bind λ d s=>(af5 F as U s).bind λ l s=>.ok (d::l) s
 | .fn f as,U,s=>(af5 F as U s).bind λ l s=>.ok (.fn f::l) s
noncomputable def evI (F:Fns):I->Env->Sto->R Sq
 | .seq e,U,s=>(ev F e U s).bind λ d s=>al9 d s
 | .rng1 a,U,s=>(ev F a U s).bind λ x s=>match x with|.int i=>if -Ww62<=i/\i<Ww62 then .ok ⟨ad6 0 i,[]⟩ s else .bad|_=>.bad
 | .rng2 a b,U,s=>(ev F a U s).bind λ x s=>(ev F b U s).bind λ y s=>match x,y with|.int i,.int j=>if(-Ww62<=i/\i<Ww62)/\-Ww62<=j/\j<Ww62 then .ok ⟨ad6 i j,[]⟩ s else .bad|_,_=>.bad
 | .rngD a,U,s=>(ev F a U s).bind λ x s=>match x with|.int i=>if 0<=i/\i<1048576 then .ok ⟨ad3 i,[]⟩ s else .bad|_=>.bad
 | .keys e,U,s=>(ev F e U s).bind λ d s=>ao2 d s
noncomputable def evL (F:Fns):L->Env->Sto->R (List D)
 | .comp tg it e caps,U,s=>(evI F it U s).bind λ q s0=>if q.its.length<=LIM then qE (λ s=>chk s0 s q.src) (λ d U s=>match qC U tg d with
   | some U=>(ev F e U s).bind λ v s=>.ok (some v,U) s
   | none=>.bad) q.its (qA U caps) s0 else .bad
 | .compIf tg it c e caps,U,s=>(evI F it U s).bind λ q s0=>if q.its.length<=LIM then qE (λ s=>chk s0 s q.src) (λ d U s=>match qC U tg d with
   | some U=>tru (ev F c U s) λ k s=>if k then(ev F e U s).bind λ v s=>.ok (some v,U) s else .ok (none,U) s
   | none=>.bad) q.its (qA U caps) s0 else .bad
 | .disp es,U,s=>evs F es U s
 | .seq e,U,s=>(ev F e U s).bind λ d s=>bF3 d s
end
inductive Ct where
 | next (U:Env)|ret (d:D)|cont (U:Env)|brk (U:Env)
noncomputable def az1 (ok:Sto->Bool)(g:D->Env->Sto->R Ct):List D->Env->Sto->R Ct
 | [],U,s=>if ok s then .ok (.next U) s else .bad
 | d::l,U,s=>if ok s then(g d U s).bind λ c s=>match c with
   | .next U=>az1 ok g l U s
   | .cont U=>az1 ok g l U s
   | .brk U=>.ok (.next U) s
   | .ret d=>.ok (.ret d) s
  else .bad
noncomputable def qH (c:Env->Sto->R D)(g:Env->Sto->R Ct):Nat->Env->Sto->R Ct
 | 0,_,_=>.bad
 | n+1,U,s=>tru (c U s) λ b s=>if b then(g U s).bind λ c' s=>match c' with
   | .next U=>qH c g n U s
   | .cont U=>qH c g n U s
   | .brk U=>.ok (.next U) s
   | .ret d=>.ok (.ret d) s
  else .ok (.next U) s
open Classical in
noncomputable def whl (c:Env->Sto->R D)(g:Env->Sto->R Ct)(U:Env)(s:Sto):R Ct :=
 if h:∃ n,qH c g n U s≠.bad then qH c g h.choose U s else .bad
mutual
noncomputable def ex (F:Fns):S->Env->Sto->R Ct
 | .asg tg e,U,s=>(ev F e U s).bind λ d s=>match qC U tg d with|some U=>.ok (.next U) s|none=>.bad
 | .setIx o i e,U,s=>(ev F e U s).bind λ d s=>(ev F o U s).bind λ x s=>(ev F i U s).bind λ y s=>(setIx x y d s).bind λ _ s=>.ok (.next U) s
 | .ex e,U,s=>(ev F e U s).bind λ _ s=>.ok (.next U) s
 | .ret e,U,s=>(ev F e U s).bind λ d s=>.ok (.ret d) s
 | .ite c a b,U,s=>tru (ev F c U s) λ k s=>if k then exs F a U s else exs F b U s
 | .whl c b,U,s=>whl (ev F c) (exs F b) U s
 | .for_ tg it b,U,s=>(evI F it U s).bind λ q s0=>az1 (λ s=>chk s0 s q.src) (λ d U s=>match qC U tg d with
   | some U=>exs F b U s
   | none=>.bad) q.its U s0
 | .setA o f e,U,s=>(ev F e U s).bind λ d s=>(ev F o U s).bind λ x s=>(ai9 (λ c=>F.att c f) f x d s).bind λ _ s=>.ok (.next U) s
 | .forK tg e b,U,s=>(evI F (.keys e) U s).bind λ q s0=>if aJ1 s q.src then(az1 (λ s=>chk s0 s q.src) (λ d U s=>match qC U tg d with
   | some U=>exs F b U s
   | none=>.bad) q.its U s0).bind (λ c s=>aq3 q.src c s)else .bad
noncomputable def exs (F:Fns):Ss->Env->Sto->R Ct
 | .nil,U,s=>.ok (.next U) s
 | .cons st ss,U,s=>(ex F st U s).bind λ c s=>match c with|.next U=>exs F ss U s|c=>.ok c s
end
structure Df where
 name:String
 ps:Nat
 vs:Nat
 body:Ss
structure Lm where
 id:String
 ps:Nat
 cs:Nat
 body:E
inductive HT where
 | ve
 | isi (cs:List String)|one (c:String)|not (t:HT)|or (a b:HT)
inductive Hd where
 | ret (t:HT)|iff (t:HT) (b:Bool) (h:Hd)|nob (b:Bool)|noe|iffN (t:HT) (h:Hd)|aoN (a b:HT)|sup (x:String) (h:Hd)
 | kin (f:String) (l:Bool)
noncomputable def subC (c d:String):Bool:=c==d||(d == "TollError"||d == "ValueError")
noncomputable def aG3:List String:=["NotSteady", "TooMuch", "TooLong", "NoMaking", "NoPaper", "NoPair", "NoText", "NoRow", "NoName"]
noncomputable def bi9:List (List Nat):=[[115,116,101,97,100,121],[109,117,99,104],[108,111,110,103],[109,97,107,105,110,103],[112,97,112,101,114],[112,97,105,114],[116,101,120,116],[114,111,119],[110,97,109,101]]
noncomputable def ao0:List Nat:=[97,110,111,116,104,101,114]
noncomputable def cc2 (bs:List Bool):List Nat:=if bs.countP id=1 then bi9.getD (bs.findIdx id) []else ao0
noncomputable def bI6 (c:String):List Nat:=cc2 (aG3.map (subC c))
noncomputable def HT.val (c:String):HT->Bool
 | .isi cs=>cs.any (subC c)
 | .one d=>subC c d
 | .not t=>!t.val c
 | .or a b=>if a.val c then true else b.val c
 | .ve=>true
noncomputable def HT.ok (p:String->Bool):HT->Bool
 | .isi cs=>cs.all p
 | .one d=>p d
 | .not t=>t.ok p
 | .or a b=>a.ok p&&b.ok p
 | .ve=>true
noncomputable def Hd.val (c:String):Hd->Bool
 | .ret t=>t.val c
 | .iff t b h=>if t.val c then b else h.val c
 | .nob b=>b
 | .noe=>false
 | .iffN _ h=>h.val c
 | .aoN a b=>a.val c&&b.val c
 | .sup _ h=>h.val c
 | .kin _ _=>false
noncomputable def Hd.ok (p:String->Bool):Hd->Bool
 | .ret t=>t.ok p
 | .iff t _ h=>t.ok p&&h.ok p
 | .nob _=>true
 | .noe=>true
 | .iffN t h=>t.ok p&&h.ok p
 | .aoN a b=>a.ok p&&b.ok p
 | .sup x h=>p x&&h.ok p
 | .kin _ _=>aG3.all p
noncomputable def Hd.vD (c:String):Hd->D
 | .ret t=>.bl (t.val c)
 | .iff t b h=>if t.val c then .bl b else h.vD c
 | .nob b=>.bl b
 | .noe=>.non
 | .iffN t h=>if t.val c then .non else h.vD c
 | .aoN a b=>if a.val c then(if b.val c then .bl true else .non)else .non
 | .sup _ h=>h.vD c
 | .kin _ _=>.non
noncomputable def Hd.kn:Hd->Option (String×Bool)
 | .kin f l=>some (f,l)
 | .sup _ h=>h.kn
 | _=>none
noncomputable def Hd.kok (k:String->Bool)(h:Hd):Bool:=match h.kn with|some (f,_)=>k f|none=>true
noncomputable def Hd.cls (c:String):Hd->String
 | .sup x _=>x|_=>c
noncomputable def Hd.supOk (c:String):Hd->Bool
 | .sup x _=>subC c x|_=>true
noncomputable def Hd.nn:Hd->Bool
 | .nob _=>true|.noe=>true|_=>false
noncomputable def aK0 (ok:Sto->Bool)(g:D->Env->Sto->R Ct)(gx:D->Env->Sto->Option (String×Sto)):List D->Env->Sto->Option (String×Sto)
 | [],_,_=>none
 | d::l,U,s=>if ok s then match g d U s with
   | .ok (.next U1) s1=>aK0 ok g gx l U1 s1
   | .ok (.cont U1) s1=>aK0 ok g gx l U1 s1
   | .ok _ _=>none
   | _=>gx d U s
  else none
noncomputable def aI5 (c:Env->Sto->R D)(g:Env->Sto->R Ct)(gx:Env->Sto->Option (String×Sto)):Nat->Env->Sto->Option (String×Sto)
 | 0,_,_=>none
 | n+1,U,s=>match c U s with
  | .ok (.bl true) s1=>match g U s1 with
   | .ok (.next U1) s2=>aI5 c g gx n U1 s2
   | .ok (.cont U1) s2=>aI5 c g gx n U1 s2
   | .ok _ _=>none
   | _=>gx U s1
  | _=>none
open Classical in
noncomputable def whlX (c:Env->Sto->R D)(g:Env->Sto->R Ct)(gx:Env->Sto->Option (String×Sto))(U:Env)(s:Sto):Option (String×Sto):=if h:∃ n,(aI5 c g gx n U s).isSome=true then aI5 c g gx h.choose U s else none
inductive XB where
 | no|rais (c:String)|call (f:String) (as:As)|iteT (c:E) (a r:XB)|seq (s:S) (b:XB)
 | kind|alt (a b:XB)
 | iteE (c:E) (a r:XB)|forX (tg:Tg) (it:I) (b:Ss) (x:XB)|whlX (c:E) (b:Ss) (x:XB)
noncomputable def xB (F:Fns):XB->Env->Sto->Option (String×Sto)
 | .no,_,_=>none
 | .kind,_,_=>none
 | .alt a b,U,s=>match xB F a U s with|some r=>some r|none=>xB F b U s
 | .rais c,_,s=>if F.xc c=true then some (c,s)else none
 | .call f as,U,s=>match af5 F as U s with|.ok l s1=>F.xcall f l s1|_=>none
 | .iteT c a r,U,s=>match ev F c U s with|.ok (.bl b) s1=>if b then xB F a U s1 else xB F r U s1|_=>none
 | .seq st b,U,s=>match ex F st U s with|.ok (.next U1) s1=>xB F b U1 s1|_=>none
 | .forX tg it b x,U,s=>match evI F it U s with
  | .ok q s0=>aK0 (λ s=>chk s0 s q.src) (λ d U s=>match qC U tg d with
   | some U=>exs F b U s
   | none=>.bad) (λ d U s=>match qC U tg d with
   | some U=>xB F x U s
   | none=>none) q.its U s0
  | _=>none
 | .iteE c a r,U,s=>match ev F c U s with|.ok (.bl b) s1=>if b then xB F a U s1 else xB F r U s1|_=>none
 | .whlX c b x,U,s=>DV.whlX (ev F c) (exs F b) (xB F x) U s
structure Xf where
 ps:Nat
 vs:Nat
 body:XB
structure Tf where
 ps:Nat
 vs:Nat
 body:Ss
 xb:XB
 c:String
 i:Nat
 h:Hd
 tl:Ss
 pre:Ss
structure Pr where
 df:String->Option Df
 lm:String->Option Lm
 con:String->Option D
 xf:String->Option Xf
 tf:String->Option Tf
 xc:String->Bool
 xt:String->Bool
 cdc:String->Option (List (List Nat×List Nat))
 mt:String->String->Option Df
 att:String->List Nat->Bool
noncomputable def ab3 (st st':Sto):Bool:=(aS st.length).all λ i=>decide (st'[i]?=st[i]?)||(match st'[i]? with|some o=>o.bnd st.length|none=>false)
noncomputable def zn (st:Sto)(d:D)(st':Sto):R D :=
 if ab3 st st' then
  match d with
  | .ref r=>if r<st.length then .ok d (st'.take st.length)else match st'[r]? with
   | some o=>if o.bnd st.length then .ok (.ref st.length) (st'.take st.length++[o])else .ok d st'
   | none=>.bad
  | d=>if d.bnd st.length then .ok d (st'.take st.length)else .ok d st'
 else .ok d st'
noncomputable def Hd.out (h:Hd)(c:String)(s s':Sto):R D:=match h with
 | .noe=>zn s (.ref s'.length) (s'++[.lst []])
 | h=>match h.kn with
  | some (_,true)=>zn s (.ref s'.length) (s'++[.lst [.str (bI6 c)]])
  | some (_,false)=>zn s (.str (bI6 c)) s'
  | none=>zn s (h.vD c) s'
noncomputable def Tf.tk (d:Tf)(c:String):Bool:=match d.h with|.sup x _=>subC c x|_=>c==d.c
noncomputable def XB.isK:XB->Bool
 | .kind=>true|_=>false
noncomputable def bZ0 (P:Pr)(f:String):Bool:=match P.xf f with|some d=>d.ps==1&&(d.vs==1&&d.body.isK)|none=>false
noncomputable def bq8 (F:Fns)(d:Tf)(s:Sto)(U0:Env)(s0:Sto):R D:=match xB F d.xb U0 s0 with
 | some (c,s')=>if d.tk c=true/\F.xc c=true/\d.h.ok F.xt=true/\d.h.kok F.kd=true then d.h.out c s s' else .bad
 | none=>(exs F d.body U0 s0).bind λ c s1=>match c with
  | .ret v=>zn s v s1
  | .next U=>(exs F d.tl U s1).bind λ c s2=>match c with
   | .ret v=>zn s v s2
   | .next _=>zn s .non s2
   | _=>.bad
  | _=>.bad
noncomputable def bT0 (F:Fns)(d:Tf)(l:List D)(s:Sto):R D:=match exs F d.pre (l.map some++aq d.vs none) s with
 | .ok (.next U0) s0=>bq8 F d s U0 s0
 | _=>.bad
noncomputable def aX6 (F:Fns)(d:Df)(l:List D)(s:Sto):R D:=if l.length=d.ps then(exs F d.body (l.map some++aq d.vs none) s).bind λ c s'=>match c with
 | .ret v=>zn s v s'
 | .next _=>zn s .non s'
 | _=>.bad else .bad
noncomputable def callN (P:Pr):Nat->Fns
 | 0=>⟨λ _ _ _=>.bad,λ _ _ _ _=>.bad,P.con,λ _ _ _=>none,P.xc,P.xt,P.cdc,bZ0 P,λ _ _ _ _=>.bad,λ _ _ _=>.bad,P.att⟩
 | n+1=>⟨λ f l s=>match P.df f with
   | some d=>if l.length=d.ps then(exs (callN P n) d.body (l.map some++aq d.vs none) s).bind λ c s'=>match c with
     | .ret v=>zn s v s'
     | .next _=>zn s .non s'
     | _=>.bad else .bad
   | none=>match P.tf f with
    | some d=>if l.length=d.ps then bT0 (callN P n) d l s else .bad
    | none=>.bad,
  λ id cs l s=>match P.lm id with
   | some d=>if l.length=d.ps/\cs.length=d.cs/\(D.nclL l&&D.nclL cs&&s.all O.ncl)=true then(ev (callN P n) d.body (l.map some++cs.map some) s).bind λ v s'=>zn s v s' else .bad
   | none=>.bad,P.con,
  λ f l s=>match P.xf f with
   | some d=>if l.length=d.ps then xB (callN P n) d.body (l.map some++aq d.vs none) s else none
   | none=>none,P.xc,P.xt,P.cdc,bZ0 P,λ c m l s=>match P.mt c m with|some d=>aX6 (callN P n) d l s|none=>.bad,λ c l s=>(callN P n).mcall c "__init__" l s,P.att⟩
def KP (s s':Sto):Prop:=∀(i:Nat) (o:O),s[i]?=some o->∃ o',s'[i]?=some o'/\o'.kd=o.kd
theorem KP.refl (s:Sto):KP s s:=λ i o h=>⟨o,h,rfl⟩
theorem KP.trans {a b c:Sto}(h:KP a b)(g:KP b c):KP a c:=λ i o e=>by
 obtain⟨p,e1,k1⟩:=h i o e
 obtain⟨z,e2,k2⟩:=g i p e1
 exact⟨z,e2,k2.trans k1⟩
theorem KP.app (s t:Sto):KP s (s++t):=λ i o e=>⟨o,by rw[ax (ac.mp e).1];exact e,rfl⟩
theorem KP.set {s:Sto}{r:Nat}{o p:O}(h:s[r]?=some p)(k:o.kd=p.kd):KP s (s.set r o):=λ i u e=>by
 by_cases z:r=i
 .subst z
  rw[h]at e;cases e
  exact⟨o,a8 (ac.mp h).1,k⟩
 .exact⟨u,by rw[am z];exact e,rfl⟩
def KR {α:Type}(s:Sto)(r:R α):Prop:=∀ a s',r=.ok a s'->KP s s'
theorem KR.bad {α:Type}{s:Sto}:KR s (.bad:R α):=λ _ _ h=>by cases h
theorem KR.ok {α:Type}{s:Sto}{a:α}:KR s (.ok a s):=λ _ _ h=>by cases h;exact KP.refl _
theorem KR.bind {α β:Type}{s:Sto}{r:R α}{f:α->Sto->R β}(h:KR s r)(g:∀ a s1,KR s1 (f a s1)):KR s (r.bind f):=λ b s' e=>by
 obtain⟨a,s1,e1,e2⟩:=R.bind_inv e
 exact(h a s1 e1).trans (g a s1 b s' e2)
theorem KR.tru {α:Type}{s:Sto}{r:R D}{f:Bool->Sto->R α}(h:KR s r)(g:∀ a s1,KR s1 (f a s1)):KR s (tru r f):=KR.bind h λ a s1=>by
 cases a with
 | bl b=>exact g b s1
 | _=>exact KR.bad
theorem KR.if {α:Type}{s:Sto}{c:Prop}[Decidable c]{a b:R α}(h:KR s a)(g:KR s b):KR s (if c then a else b):=by split;exact h;exact g
theorem KR.al {s:Sto}{o:O}:KR s (aa7 o s):=λ _ _ h=>by cases h;exact KP.app _ _
theorem KR.pu {s:Sto}{d:D}:KR s (pur d s):=λ _ _ h=>by cases h;exact KP.refl _
theorem KR.bd {s:Sto}:KR s ((DV.bad:M D) s):=λ _ _ h=>by cases h
theorem KR.im {s:Sto}{c:Prop}{_:Decidable c}{d:D}:KR s ((if c then pur d else DV.bad:M D) s):=by split;exact KR.pu;exact KR.bd
theorem KR.ia {s:Sto}{c:Prop}{_:Decidable c}{o:O}:KR s (if c then aa7 o s else .bad):=KR.if KR.al KR.bd
theorem aZ3 (op:BOp)(x y:D)(s:Sto):KR s (z0 op x y s):=by
 cases op with
 | add=>cases x with
  | int a=>cases y with
   | int b=>exact KR.pu
   | _=>exact KR.bd
  | str a=>cases y with
   | str b=>exact KR.im
   | _=>exact KR.bd
  | tup a=>cases y with
   | tup b=>exact KR.im
   | _=>exact KR.bd
  | ref a=>cases y with
   | ref b =>
    show KR s (match s[a]?,s[b]? with|some (.lst l),some (.lst m)=>if l.length+m.length<=LIM then aa7 (.lst (l++m)) s else .bad|_,_=>.bad)
    split
    .exact KR.ia
    .exact KR.bd
   | _=>exact KR.bd
  | _=>exact KR.bd
 | sub=>cases x with
  | int a=>cases y with
   | int b=>exact KR.pu
   | _=>exact KR.bd
  | _=>exact KR.bd
 | mul=>cases x with
  | int a=>cases y with
   | int b=>exact KR.im
   | _=>exact KR.bd
  | str a=>cases y with
   | int b=>exact KR.im
   | _=>exact KR.bd
  | tup a=>cases y with
   | int b=>exact KR.im
   | _=>exact KR.bd
  | ref a=>cases y with
   | int n =>
    show KR s (match s[a]? with|some (.lst l)=>if 0<=n/\n<=1000000/\l.length*n.toNat<=LIM then aa7 (.lst (aL7 n.toNat l)) s else .bad|_=>.bad)
    split
    .exact KR.ia
    .exact KR.bd
   | _=>exact KR.bd
  | _=>exact KR.bd
 | fdiv=>cases x with
  | int a=>cases y with
   | int b=>exact KR.im
   | _=>exact KR.bd
  | _=>exact KR.bd
 | mod=>cases x with
  | int a=>cases y with
   | int b=>exact KR.im
   | _=>exact KR.bd
  | _=>exact KR.bd
 | pow=>cases x with
  | int a=>cases y with
   | int b=>exact KR.im
   | _=>exact KR.bd
  | _=>exact KR.bd
 | shl=>cases x with
  | int a=>cases y with
   | int b=>exact KR.im
   | _=>exact KR.bd
  | _=>exact KR.bd
 | shr=>cases x with
  | int a=>cases y with
   | int b=>exact KR.im
   | _=>exact KR.bd
  | _=>exact KR.bd
 | band=>cases x with
  | int a=>cases y with
   | int b=>exact KR.im
   | _=>exact KR.bd
  | _=>exact KR.bd
 | bor=>cases x with
  | int a=>cases y with
   | int b=>exact KR.im
   | _=>exact KR.bd
  | _=>exact KR.bd
theorem bx1 (f:Int->List Nat->Int->List Nat->Bool)(x y:D)(s:Sto):KR s (bR2 f x y s):=by
 intro a s' h
 unfold bR2 at h
 split at h<;>cases h
 exact KP.refl _
theorem bJ8 (op:COp)(x y:D)(s:Sto):KR s (zf op x y s):=by
 have p:∀ a b:D,KR s (inM a b s):=λ a b=>by
  intro r s' h
  unfold inM at h
  split at h
  .split at h<;>cases h;exact KP.refl _
  .split at h
   .split at h<;>cases h;exact KP.refl _
   .split at h<;>cases h;exact KP.refl _
   .split at h<;>cases h;exact KP.refl _
   .cases h
  .split at h<;>cases h;exact KP.refl _
  .cases h
 cases op with
 | isin=>exact KR.bind (p x y) λ _ _=>KR.ok
 | notin=>exact KR.bind (p x y) λ _ _=>KR.ok
 | eq=>intro a s' h;change eqM x y s=_ at h;unfold eqM at h;split at h<;>cases h;exact KP.refl _
 | ne =>
  intro a s' h
  change(match eqv s DEEP x y with|some r=>R.ok (D.bl (!r)) s|none=>.bad)=_ at h
  split at h<;>cases h;exact KP.refl _
 | _ =>
  intro a s' h
  cases x with
  | int i=>(cases y with
   | int j=>cases h<;>exact KP.refl _
   | _=>cases h)
  | tup l=>(cases y with
   | tup m=>first|exact bx1 _ _ _ _ _ _ h|cases h
   | _=>cases h)
  | _=>cases h
theorem bV9 (x y:D)(s:Sto):KR s (ixM x y s):=by
 intro a s' h
 unfold ixM at h
 repeat' split at h
 all_goals first|(cases h;exact KP.refl _;done)|(cases h;done)
theorem bs0 (x:D)(z p:Option Int)(s:Sto):KR s (slM x z p s):=by
 intro a s' h
 unfold slM at h
 repeat' split at h
 all_goals first|(cases h;exact KP.refl _;done)|(cases h;exact KP.app _ _;done)|(cases h;done)
theorem bx0 (x:D)(s:Sto):KR s (bF3 x s):=by
 intro a s' h
 unfold bF3 at h
 repeat' split at h
 all_goals first|(cases h;exact KP.refl _;done)|(cases h;done)
theorem bp3 (x:D)(s:Sto):KR s (aK1 x s):=by
 intro a s' h
 unfold aK1 at h
 repeat' split at h
 all_goals first|(cases h;exact KP.refl _;done)|(cases h;done)
theorem bn2 (x:D)(s:Sto):KR s (al9 x s):=by
 intro a s' h
 unfold al9 at h
 repeat' split at h
 all_goals first|(cases h;exact KP.refl _;done)|(cases h;done)
theorem bv3 (l:List D)(s:Sto):KR s (aQ9 l s):=by
 intro a s' h
 unfold aQ9 at h
 split at h
 .split at h<;>cases h;exact KP.refl _
 .cases h;exact KP.refl _
 .cases h
theorem br8 (l:List D)(s:Sto):KR s (aH4 l s):=by
 intro a s' h
 unfold aH4 at h
 split at h
 .split at h<;>cases h;exact KP.refl _
 .cases h
theorem bU6 (b:Bi)(l:List D)(s:Sto):KR s (bi b l s):=by
 have k1:∀ f:D->M D,(∀ d,KR s (f d s))->KR s (bi1 f l s):=λ f z=>by
  cases l with
  | nil=>exact KR.bad
  | cons d t=>(cases t with
   | nil=>exact z d
   | cons _ _=>exact KR.bad)
 have k2:∀ k d,KR s (isK k d s):=λ k d=>by
  intro a s' h
  unfold isK at h
  repeat' split at h
  all_goals first|(cases h;exact KP.refl _;done)|(cases h;done)
 have p:∀ d,KR s (bm7 d s):=λ d=>by
  intro a s' h
  unfold bm7 at h
  repeat' split at h
  all_goals first|(cases h;exact KP.refl _;done)|(cases h;done)
 cases b with
 | len=>exact k1 _ p
 | isInt=>exact k1 _ (k2 1)
 | isBool=>exact k1 _ (k2 2)
 | isStr=>exact k1 _ (k2 3)
 | isTup=>exact k1 _ (k2 4)
 | isList=>exact k1 _ (k2 5)
 | str=>exact bv3 l s
 | int =>
  intro a s' h
  have h:(match ad9 l with|some [b]=>R.ok (D.int (if b then 1 else 0)) s|some _=>.bad|none=>aH4 l s)=.ok a s':=h
  split at h
  .cases h;exact KP.refl _
  .cases h
  .exact br8 l s a s' h
 | _ =>
  intro a s' h
  unfold bi at h
  first|(cases h;done)|(simp only at h;split at h<;>first|(cases h;exact KP.refl _;done)|(cases h;done))
theorem bX4 (k:Mk)(l:List D)(s:Sto):KR s (mk k l s):=by
 cases k with
 | tuple=>exact KR.ok
 | list=>exact KR.al
 | lenset=>exact KR.bad
 | _ =>
  intro a s' h
  unfold mk at h
  simp only at h
  repeat' split at h
  all_goals first|(cases h;exact KP.refl _;done)|(cases h;exact KP.app _ _;done)|(cases h;done)
theorem bA4 (m:Mt)(o:D)(l:List D)(s:Sto):KR s (meth m o l s):=by
 have p:∀ {r:Nat} {f:List D->R D},(∀ l,s[r]?=some (.lst l)->KR s (f l))->KR s (match s[r]? with|some (.lst l)=>f l|_=>.bad:R D):=λ {r f} h=>by
  cases e:s[r]? with
  | none=>exact KR.bad
  | some ob=>cases ob with
   | lst l=>exact h l e
   | _=>exact KR.bad
 cases o with
 | ref r=>cases m with
  | append=>match l with
   | [d]=>exact p λ l e=>KR.if (λ _ _ h=>by cases h;exact KP.set e rfl) KR.bad
   | []=>exact KR.bd
   | _::_::_=>exact KR.bd
  | _=>exact KR.bd
 | _=>cases m<;>exact KR.bd
theorem bc8 (o i v:D)(s:Sto):KR s (setIx o i v s):=by
 intro a s' h
 unfold setIx at h
 cases o with
 | ref r =>
  simp only at h
  cases e:s[r]? with
  | none=>rw[e]at h;cases h
  | some ob =>
   rw[e]at h
   cases ob with
   | lst l =>
    cases i with
    | int k=>simp only at h;split at h<;>cases h;exact KP.set e rfl
    | _=>cases h
   | dic l=>simp only at h;split at h<;>cases h;exact KP.set e rfl
   | dit l=>simp only at h;split at h<;>cases h;exact KP.set e rfl
   | _=>cases h
 | _=>cases h
theorem bh0 (d:D)(s:Sto):KR s (ao2 d s):=by
 intro a s' h
 unfold ao2 at h
 split at h
 .split at h
  .rename_i e
   split at h
   .cases h;exact KP.set e rfl
   .cases h
  .cases h
 .cases h
theorem bh6 {α:Type}(src:List Nat)(a:α)(s:Sto):KR s (aq3 src a s):=by
 intro b s' h
 unfold aq3 at h
 split at h
 .split at h
  .rename_i e;cases h;exact KP.set e rfl
  .cases h
 .cases h
theorem aW6 (d:D)(s:Sto):KR s (ab9 d s):=by
 intro a s' h
 unfold ab9 at h
 repeat' split at h
 all_goals first|(cases h;exact KP.app _ _;done)|(cases h;done)
theorem bz7 (l:List D)(s:Sto):KR s (aT9 l s):=by
 intro a s' h
 unfold aT9 at h
 repeat' split at h
 all_goals first|(cases h;exact KP.app _ _;done)|(cases h;done)
theorem be1 (f:List Nat)(x:D)(s:Sto):KR s (ae2 f x s):=by
 intro a s' h
 unfold ae2 at h
 repeat' split at h
 all_goals first|(cases h;exact KP.refl _;done)|(cases h;done)
theorem by3 (x:D)(s:Sto):KR s (bj0 x s):=by
 intro a s' h
 unfold bj0 at h
 repeat' split at h
 all_goals first|(cases h;exact KP.refl _;done)|(cases h;done)
theorem aZ2 (ok:String->Bool)(f:List Nat)(x v:D)(s:Sto):KR s (ai9 ok f x v s):=by
 intro b s' h
 unfold ai9 at h
 split at h
 .split at h
  .rename_i e
   split at h
   .cases h;exact KP.set e rfl
   .cases h
  .cases h
 .cases h
structure FK (F:Fns):Prop where
 call:∀ f l s,KR s (F.call f l s)
 lam:∀ id cs l s,KR s (F.lam id cs l s)
 xcall:∀ f l s c s',F.xcall f l s=some (c,s')->KP s s'
 mcall:∀ c m l s,KR s (F.mcall c m l s)
 new:∀ c l s,KR s (F.new c l s)
theorem ao5 {ok:Sto->Bool}{g:D->Env->Sto->R (Option D×Env)}(hg:∀ d U s,KR s (g d U s)):∀(l:List D) (U:Env) (s:Sto),KR s (qE ok g l U s)
 | [],U,s=>KR.if KR.ok KR.bad
 | d::l,U,s=>KR.if (KR.bind (hg d U s) λ p s1=>KR.bind (ao5 hg l p.2 s1) λ r s2=>KR.ok) KR.bad
section
variable {F:Fns} (hF:FK F)
theorem bz6 (U:Env)(i:Nat)(s:Sto):KR s (aX8 U i s):=by
 intro a s' h
 unfold aX8 at h
 split at h<;>cases h;exact KP.refl _
include hF
mutual
theorem zm:∀(e:E) (U:Env) (s:Sto),KR s (ev F e U s)
 | .var i,U,s=>bz6 U i s
 | .cst c,U,s=>KR.ok
 | .glob x,U,s=>by
  intro a s' h
  change(match F.con x with|some d=>R.ok d s|none=>.bad)=_ at h
  split at h<;>cases h;exact KP.refl _
 | .bin op a b,U,s=>KR.bind (zm a U s) λ x s=>KR.bind (zm b U s) λ y s=>aZ3 op x y s
 | .not a,U,s=>KR.tru (zm a U s) λ b s=>KR.ok
 | .cmp op a b,U,s=>KR.bind (zm a U s) λ x s=>KR.bind (zm b U s) λ y s=>bJ8 op x y s
 | .and a b,U,s=>KR.tru (zm a U s) λ c s=>KR.if (KR.tru (zm b U s) λ c s=>KR.ok) KR.ok
 | .or a b,U,s=>KR.tru (zm a U s) λ c s=>KR.if KR.ok (KR.tru (zm b U s) λ c s=>KR.ok)
 | .ite c a b,U,s=>KR.tru (zm c U s) λ k s=>KR.if (zm a U s) (zm b U s)
 | .tup es,U,s=>KR.bind (aj0 es U s) λ l s=>KR.ok
 | .lst es,U,s=>KR.bind (aj0 es U s) λ l s=>KR.al
 | .dic .nil .nil,U,s=>KR.al
 | .dic (.cons k .nil) (.cons v .nil),U,s=>by
  intro a s' h
  obtain⟨kd,s1,e1,h⟩:=R.bind_inv (show(ev F k U (s++[.dic []])).bind _=_ from h)
  obtain⟨p,s2,e2,h⟩:=R.bind_inv h
  split at h
  case isFalse=>cases h
  rename_i hc
  cases h
  exact((KP.app _ _).trans ((zm k U _ _ _ e1).trans (zm v U _ _ _ e2))).trans (KP.set hc.2 rfl)
 | .dic .nil (.cons _ _),U,s=>KR.bad
 | .dic (.cons _ .nil) .nil,U,s=>KR.bad
 | .dic (.cons _ .nil) (.cons _ (.cons _ _)),U,s=>KR.bad
 | .dic (.cons _ (.cons _ _)) _,U,s=>KR.bad
 | .bitl a,U,s=>KR.bind (zm a U s) λ x s=>by
  intro a s' h
  unfold aJ8 at h
  repeat' split at h
  all_goals first|(cases h;exact KP.refl _;done)|(cases h;done)
 | .attr o f,U,s=>KR.bind (zm o U s) λ x s=>be1 f x s
 | .keysL e,U,s=>KR.bind (zm e U s) λ x s=>aW6 x s
 | .srt e,U,s=>KR.bind (zm e U s) λ x s=>KR.bind (bp3 x s) λ q s=>bz7 q s
 | .new c as,U,s=>KR.bind (ae8 as U s) λ l s=>by
  intro a s' h
  obtain⟨d,s1,e1,h⟩:=R.bind_inv h
  split at h<;>cases h
  exact(KP.app _ _).trans (hF.new _ _ _ _ _ e1)
 | .mcall o m as,U,s=>KR.bind (zm o U s) λ x s=>KR.bind (by3 x s) λ c s=>KR.bind (ae8 as U s) λ l s=>hF.mcall c m _ s
 | .ix a b,U,s=>KR.bind (zm a U s) λ x s=>KR.bind (zm b U s) λ y s=>bV9 x y s
 | .slL a lo,U,s=>KR.bind (zm a U s) λ x s=>KR.bind (zm lo U s) λ y s=>by
  cases y with
  | int i=>exact bs0 _ _ _ _
  | _=>exact KR.bad
 | .slU a hi,U,s=>KR.bind (zm a U s) λ x s=>KR.bind (zm hi U s) λ y s=>by
  cases y with
  | int i=>exact bs0 _ _ _ _
  | _=>exact KR.bad
 | .slLU a lo hi,U,s=>KR.bind (zm a U s) λ x s=>KR.bind (zm lo U s) λ y s=>by
  cases y with
  | int i =>
   refine KR.bind (zm hi U s) λ z s=>?_
   cases z with
   | int j=>exact bs0 _ _ _ _
   | _=>exact KR.bad
  | _=>exact KR.bad
 | .call f as,U,s=>KR.bind (ae8 as U s) λ l s=>hF.call f l s
 | .bi b es,U,s=>KR.bind (aj0 es U s) λ l s=>bU6 b l s
 | .mk k it,U,s=>KR.bind (bL9 it U s) λ q s=>bX4 k q s
 | .meth m o es,U,s=>KR.bind (zm o U s) λ x s=>KR.bind (aj0 es U s) λ l s=>bA4 m x l s
theorem aj0:∀(es:Es) (U:Env) (s:Sto),KR s (evs F es U s)
 | .nil,U,s=>KR.ok
 | .cons e es,U,s=>KR.bind (zm e U s) λ d s=>KR.bind (aj0 es U s) λ l s=>KR.ok
theorem ae8:∀(h:As) (U:Env) (s:Sto),KR s (af5 F h U s)
 | .nil,U,s=>KR.ok
 | .ex e h,U,s=>KR.bind (zm e U s) λ d s=>KR.bind (ae8 h U s) λ l s=>KR.ok
 | .fn f h,U,s=>KR.bind (ae8 h U s) λ l s=>KR.ok
theorem at3:∀(it:I) (U:Env) (s:Sto),KR s (evI F it U s)
 | .seq e,U,s=>KR.bind (zm e U s) λ d s=>bn2 d s
 | .rng1 a,U,s=>KR.bind (zm a U s) λ x s=>by
  cases x with
  | int i=>exact KR.if KR.ok KR.bad
  | _=>exact KR.bad
 | .rng2 a b,U,s=>KR.bind (zm a U s) λ x s=>KR.bind (zm b U s) λ y s=>by
  cases x with
  | int i=>(cases y with
   | int j=>exact KR.if KR.ok KR.bad
   | _=>exact KR.bad)
  | _=>exact KR.bad
 | .rngD a,U,s=>KR.bind (zm a U s) λ x s=>by
  cases x with
  | int i=>exact KR.if KR.ok KR.bad
  | _=>exact KR.bad
 | .keys e,U,s=>KR.bind (zm e U s) λ d s=>bh0 d s
theorem bL9:∀(it:L) (U:Env) (s:Sto),KR s (evL F it U s)
 | .comp tg it e caps,U,s=>KR.bind (at3 it U s) λ q s0=>KR.if (ao5 (λ d U s=>by
   intro a s' h
   split at h
   .exact KR.bind (zm e _ s) (λ v s=>KR.ok) _ _ h
   .cases h) _ _ _) KR.bad
 | .compIf tg it c e caps,U,s=>KR.bind (at3 it U s) λ q s0=>KR.if (ao5 (λ d U s=>by
   intro a s' h
   split at h
   .exact KR.tru (zm c _ s) (λ k s=>KR.if (KR.bind (zm e _ s) λ v s=>KR.ok) KR.ok) _ _ h
   .cases h) _ _ _) KR.bad
 | .disp es,U,s=>aj0 es U s
 | .seq e,U,s=>KR.bind (zm e U s) λ d s=>bx0 d s
end
theorem an6 {ok:Sto->Bool}{g:D->Env->Sto->R Ct}(hg:∀ d U s,KR s (g d U s)):∀(l:List D) (U:Env) (s:Sto),KR s (az1 ok g l U s)
 | [],U,s=>KR.if KR.ok KR.bad
 | d::l,U,s=>KR.if (KR.bind (hg d U s) λ c s=>by
   cases c with
   | next U=>exact an6 hg l U s
   | cont U=>exact an6 hg l U s
   | brk U=>exact KR.ok
   | ret d=>exact KR.ok) KR.bad
theorem aA8 {c:Env->Sto->R D}{g:Env->Sto->R Ct}(hc:∀ U s,KR s (c U s))(hg:∀ U s,KR s (g U s)):∀(n:Nat) (U:Env) (s:Sto),KR s (qH c g n U s)
 | 0,U,s=>KR.bad
 | n+1,U,s=>KR.tru (hc U s) λ b s=>KR.if (KR.bind (hg U s) λ h s=>by
   cases h with
   | next U=>exact aA8 hc hg n U s
   | cont U=>exact aA8 hc hg n U s
   | brk U=>exact KR.ok
   | ret d=>exact KR.ok) KR.ok
mutual
theorem bC3:∀(st:S) (U:Env) (s:Sto),KR s (ex F st U s)
 | .asg tg e,U,s=>KR.bind (zm hF e U s) λ d s=>by
  intro a s' h
  split at h<;>cases h;exact KP.refl _
 | .setIx o i e,U,s=>KR.bind (zm hF e U s) λ d s=>KR.bind (zm hF o U s) λ x s=>KR.bind (zm hF i U s) λ y s=>KR.bind (bc8 x y d s) λ _ s=>KR.ok
 | .ex e,U,s=>KR.bind (zm hF e U s) λ d s=>KR.ok
 | .ret e,U,s=>KR.bind (zm hF e U s) λ d s=>KR.ok
 | .ite c a b,U,s=>KR.tru (zm hF c U s) λ k s=>KR.if (aa9 a U s) (aa9 b U s)
 | .setA o f e,U,s=>KR.bind (zm hF e U s) λ d s=>KR.bind (zm hF o U s) λ x s=>KR.bind (aZ2 _ f x d s) λ _ s=>KR.ok
 | .forK tg e b,U,s=>KR.bind (at3 hF (.keys e) U s) λ q s0=>KR.if (KR.bind (an6 hF (λ d U s=>by
   intro a s' h
   split at h
   .exact aa9 b _ _ _ _ h
   .cases h) _ _ _) λ c s=>bh6 _ c s) KR.bad
 | .whl c b,U,s=>by
  intro r s' h
  change whl (ev F c) (exs F b) U s=_ at h
  unfold whl at h
  split at h
  .exact aA8 hF (λ U s=>zm hF c U s) (λ U s=>aa9 b U s) _ U s _ _ h
  .cases h
 | .for_ tg it b,U,s=>KR.bind (at3 hF it U s) λ q s0=>an6 hF (λ d U s=>by
   intro a s' h
   split at h
   .exact aa9 b _ _ _ _ h
   .cases h) _ _ _
theorem aa9:∀(h:Ss) (U:Env) (s:Sto),KR s (exs F h U s)
 | .nil,U,s=>KR.ok
 | .cons st h,U,s=>KR.bind (bC3 st U s) λ c s=>by
  cases c with
  | next U=>exact aa9 h U s
  | _=>exact KR.ok
end
end
theorem zC {s st:Sto}{d:D}(h:KP s st):KR s (zn s d st):=by
 have tk:∀ t,KP s (st.take s.length++t):=λ t i o e=>by
  obtain⟨z,e',k⟩:=h i o e
  have G:=(ac.mp e).1
  have F:=(ac.mp e').1
  refine⟨z,?_,k⟩
  rw[ax (by rw[bK];omega),fD,if_pos G];exact e'
 have p:KP s (st.take s.length):=by have:=tk [];rwa [aN]at this
 intro a s' e
 unfold zn at e
 repeat' split at e
 all_goals first|(cases e;exact p;done)|(cases e;exact tk _;done)|(cases e;exact h;done)|(cases e;done)
theorem aq1 {ok:Sto->Bool}{g:D->Env->Sto->R Ct}{p:D->Env->Sto->Option (String×Sto)}(hg:∀ d U s,KR s (g d U s))(hx:∀ d U s c s',p d U s=some (c,s')->KP s s'):∀(l:List D) (U:Env) (s:Sto) (c:String) (s':Sto),aK0 ok g p l U s=some (c,s')->KP s s'
 | [],U,s,c,s',h=>by cases h
 | d::l,U,s,c,s',h=>by
  unfold aK0 at h
  split at h
  .split at h
   .rename_i e;exact(hg d U s _ _ e).trans (aq1 hg hx l _ _ _ _ h)
   .rename_i e;exact(hg d U s _ _ e).trans (aq1 hg hx l _ _ _ _ h)
   .cases h
   .exact hx _ _ _ _ _ h
  .cases h
theorem an4 {t:Env->Sto->R D}{g:Env->Sto->R Ct}{p:Env->Sto->Option (String×Sto)}(ht:∀ U s,KR s (t U s))(hg:∀ U s,KR s (g U s))(hx:∀ U s c s',p U s=some (c,s')->KP s s'):∀(n:Nat) (U:Env) (s:Sto) (c:String) (s':Sto),aI5 t g p n U s=some (c,s')->KP s s'
 | 0,U,s,c,s',h=>by cases h
 | n+1,U,s,c,s',h=>by
  unfold aI5 at h
  split at h
  .rename_i s1 e1
   have k:=ht U s _ _ e1
   split at h
   .rename_i e;exact k.trans ((hg U s1 _ _ e).trans (an4 ht hg hx n _ _ _ _ h))
   .rename_i e;exact k.trans ((hg U s1 _ _ e).trans (an4 ht hg hx n _ _ _ _ h))
   .cases h
   .exact k.trans (hx _ _ _ _ h)
  .cases h
theorem ai1 {F:Fns}(p:FK F):∀(b:XB) (U:Env) (s:Sto) (c:String) (s':Sto),xB F b U s=some (c,s')->KP s s'
 | .no,U,s,c,s',h=>by cases h
 | .alt a b,U,s,c,s',h=>by
  change(match xB F a U s with|some r=>some r|none=>xB F b U s)=_ at h
  split at h
  .rename_i r e
   cases h
   exact ai1 p a _ _ _ _ e
  .exact ai1 p b _ _ _ _ h
 | .rais d,U,s,c,s',h=>by
  change(if F.xc d=true then some (d,s)else none)=_ at h
  split at h
  .cases h;exact KP.refl _
  .cases h
 | .call f as,U,s,c,s',h=>by
  change(match af5 F as U s with|.ok l s1=>F.xcall f l s1|_=>none)=_ at h
  split at h
  .rename_i l s1 e;exact(ae8 p as U s _ _ e).trans (p.xcall _ _ _ _ _ h)
  .cases h
 | .iteT d a r,U,s,c,s',h=>by
  change(match ev F d U s with|.ok (.bl b) s1=>if b then xB F a U s1 else xB F r U s1|_=>none)=_ at h
  split at h
  .rename_i b s1 e
   have k:=zm p d U s _ _ e
   split at h
   .exact k.trans (ai1 p a _ _ _ _ h)
   .exact k.trans (ai1 p r _ _ _ _ h)
  .cases h
 | .seq st b,U,s,c,s',h=>by
  change(match ex F st U s with|.ok (.next U1) s1=>xB F b U1 s1|_=>none)=_ at h
  split at h
  .rename_i U1 s1 e;exact(bC3 p st U s _ _ e).trans (ai1 p b _ _ _ _ h)
  .cases h
 | .iteE d a r,U,s,c,s',h=>by
  change(match ev F d U s with|.ok (.bl b) s1=>if b then xB F a U s1 else xB F r U s1|_=>none)=_ at h
  split at h
  .rename_i b s1 e
   have k:=zm p d U s _ _ e
   split at h
   .exact k.trans (ai1 p a _ _ _ _ h)
   .exact k.trans (ai1 p r _ _ _ _ h)
  .cases h
 | .forX tg it b x,U,s,c,s',h=>by
  change(match evI F it U s with
   | .ok q s0=>aK0 (λ s=>chk s0 s q.src) (λ d U s=>match qC U tg d with
    | some U=>exs F b U s
    | none=>.bad) (λ d U s=>match qC U tg d with
    | some U=>xB F x U s
    | none=>none) q.its U s0
   | _=>none)=_ at h
  split at h
  .rename_i q s0 e
   refine(at3 p it U s _ _ e).trans (aq1 ?_ ?_ _ _ _ _ _ h)
   .intro d U s
    split
    .exact aa9 p _ _ _
    .exact KR.bad
   .intro d U s c s' h
    split at h
    .exact ai1 p x _ _ _ _ h
    .cases h
  .cases h
 | .whlX d b x,U,s,c,s',h=>by
  change whlX (ev F d) (exs F b) (xB F x) U s=_ at h
  unfold whlX at h
  split at h
  .exact an4 (zm p d) (aa9 p b) (λ U s c s' h=>ai1 p x _ _ _ _ h) _ _ _ _ _ h
  .cases h
theorem bD6 {h:Hd}{c:String}{s st:Sto}(k:KP s st):KR s (h.out c s st):=by
 unfold Hd.out
 split
 .exact zC (k.trans (KP.app _ _))
 .split
  .exact zC (k.trans (KP.app _ _))
  .exact zC k
  .exact zC k
theorem aZ9 {F:Fns}(p:FK F)(d:Tf){s s0:Sto}(z:KP s s0)(U0:Env):KR s (bq8 F d s U0 s0):=by
 intro a s' h
 unfold bq8 at h
 split at h
 .rename_i c s1 e
  have k:=z.trans (ai1 p _ _ _ _ _ e)
  split at h
  .exact bD6 k _ _ h
  .cases h
 .obtain⟨c,s1,e1,h⟩:=R.bind_inv h
  have k1:=z.trans (aa9 p _ _ _ _ _ e1)
  cases c with
  | ret v=>exact zC k1 _ _ h
  | next U =>
   obtain⟨c,s2,e2,h⟩:=R.bind_inv h
   have k2:=k1.trans (aa9 p _ _ _ _ _ e2)
   cases c with
   | ret v=>exact zC k2 _ _ h
   | next U=>exact zC k2 _ _ h
   | _=>cases h
  | _=>cases h
theorem bp0 {F:Fns}(p:FK F)(d:Tf)(l:List D)(s:Sto):KR s (bT0 F d l s):=by
 intro a s' h
 unfold bT0 at h
 split at h
 .rename_i U0 s0 e
  exact aZ9 p d (aa9 p _ _ _ _ _ e) U0 _ _ h
 .cases h
theorem qm (P:Pr):∀ n,FK (callN P n)
 | 0=>⟨λ _ _ _=>KR.bad,λ _ _ _ _=>KR.bad,λ _ _ _ _ _ h=>(by cases h),λ _ _ _ _=>KR.bad,λ _ _ _=>KR.bad⟩
 | n+1=>by
  refine⟨λ f l s=>?_,λ id cs l s=>?_,λ f l s c s' h=>?_,λ c m l s=>?_,λ c l s=>(qm P n).mcall c _ l s⟩
  .intro a s' h
   unfold callN at h
   simp only at h
   split at h
   case h_2 =>
    split at h
    case h_2=>cases h
    split at h
    case isFalse=>cases h
    exact bp0 (qm P n) _ _ _ _ _ h
   split at h
   case isFalse=>cases h
   obtain⟨c,s1,e1,h⟩:=R.bind_inv h
   have k1:=aa9 (qm P n) _ _ _ _ _ e1
   cases c with
   | ret v=>exact zC k1 _ _ h
   | next U=>exact zC k1 _ _ h
   | _=>cases h
  .intro a s' h
   unfold callN at h
   simp only at h
   split at h
   case h_2=>cases h
   split at h
   case isFalse=>cases h
   obtain⟨v,s1,e1,h⟩:=R.bind_inv h
   exact zC (zm (qm P n) _ _ _ _ _ e1) _ _ h
  .unfold callN at h
   simp only at h
   split at h
   case h_2=>cases h
   split at h
   case isFalse=>cases h
   exact ai1 (qm P n) _ _ _ _ _ h
  .intro a s' h
   unfold callN at h
   simp only at h
   split at h
   case h_2=>cases h
   unfold aX6 at h
   split at h
   case isFalse=>cases h
   obtain⟨c,s1,e1,h⟩:=R.bind_inv h
   have k1:=aa9 (qm P n) _ _ _ _ _ e1
   cases c with
   | ret v=>exact zC k1 _ _ h
   | next U=>exact zC k1 _ _ h
   | _=>cases h
end DV
end
open DV renaming Sto->lb,D->lf,Env->lh,R->lj,ev->lp,callN->lq,LIM->ls,eqv->lu,tru->lw,Fns->lx,Pr->ly,DEEP->lz,ao9->lA,look->lB,eqL->lC,rep->lD,kd->lE,aa8->lG,Es->lH,O->lI,af4->lJ,evs->lK,qC->lL,chk->lM,Tg->lN,Ct->lO,af5->lP,ah3->lQ,Df->lR,Bi->lS,qf->lT,aL7->lU,sbd->lV,ad6->lW,Ww62->lX,loB->lY,aa7->lZ,inL->l7,ixn->l8,aX6->mn,Sq->mq,As->mr,M->mw,E->my,aA3->mz,ad9->mB,ad3->mD,aD0->mF,qA->mG,mk->mH,Lm->mJ,hiB->mK,slM->mM,ai0->mO,az1->mP,evI->mQ,am7->mR,ins->mU,bi->mV,qE->mW,Mk->mY,Mt->mZ,aW4->m7,COp->m8,pur->m9,inM->nh,bi1->ni,meth->nj,BOp->nq,isK->nu,ao2->ny,aq3->nA,bR0->nB,aK1->nD,ae2->nE,ai9->nF,ab9->nG,ao1->nI,aT9->nJ,ab3->nK
open DV.D renaming bndL->li,bnd->lr,hdI->lv,keyS->lF,nclL->l9,keyF->nk,ncl->nv
open DV.O renaming bnd->ln
noncomputable section
namespace L2
theorem fb {α:Type}{d:α}{s:lb}{p:Prop}(h:(DV.R.bad:lj α)=.ok d s):p:=nomatch h
open PySem PySem.Spec PyProof.Rows
structure LamI where
 qual:Str
 params:bV
 body:Expr
 scope:Scope
 ps:List Str
 fr:List Str
 nm:Option (Str×Pos)
def CloAt (H:Hp)(f:Addr)(J:LamI)(cap:List V)(clos:yC):Prop:=match J.nm with
 | none=>av7 H f J.qual J.params J.body J.scope J.fr cap clos
 | some p=>ak6 H f p.1 J.qual J.params [.Return (some J.body) p.2] J.scope J.fr cap clos
def at0 (H:Hp)(f:Addr)(J:LamI)(clos:yC):Prop:=match J.nm with
 | none=>∃ pm c' ctv,H f=some (bA9 f (dj "<lambda>" J.qual J.params J.body J.scope clos pm (.ref c') ctv))/\H c'=some (au3 c' J.qual)
 | some p=>∃ doc pm c' ctv,H f=some (bA9 f (fR p.1 J.qual J.params [.Return (some J.body) p.2] J.scope clos .none .none doc pm none (.ref c') ctv))/\H c'=some (au3 c' J.qual)
structure Gm where
 K:ae
 fa:String->Option Addr
 lg:String->LamI->Prop
 T:List (Addr×Str)
 cls:String->Option Addr
variable (Γ:Gm)
mutual
noncomputable def RV (C:Nat->Addr)(H:Hp):lf->V->Prop
 | .non,v=>v=.non
 | .bl b,v=>v=.bl b
 | .int i,v=>v=.int i
 | .str x,v=>v=.str ⟨x.toArray⟩/\x.length<=ls
 | .tup l,v=>∃ a xs,v=.ref a/\(SqT Γ.K H a xs/\(lv l=true->H a=some (.tup xs)))/\RVL C H l xs
 | .ref n,v=>v=.ref (C n)
 | .fn f,v=>∃ a,Γ.fa f=some a/\v=.ref a
 | .clo id cs,v=>∃ f cap J clos,v=.ref f/\Γ.lg id J/\CloAt H f J cap clos/\cap.length=J.fr.length/\RVL C H cs cap
noncomputable def RVL (C:Nat->Addr)(H:Hp):List lf->List V->Prop
 | [],xs=>xs=[]
 | d::l,xs=>∃ x r,xs=x::r/\RV C H d x/\RVL C H l r
end
noncomputable def bD9:HO->Bool
 | .tup _=>true
 | .frz _ (.dK _)=>false
 | .frz _ _=>true
 | .ext _=>true
 | _=>false
def Kp (H H':Hp):Prop:=∀ b o,H b=some o->bD9 o=true->H' b=some o
theorem Kp.refl (H:Hp):Kp H H:=λ _ _ h _=>h
theorem Kp.trans {H p z:Hp}(a:Kp H p)(b:Kp p z):Kp H z:=λ c o h f=>b c o (a c o h f) f
theorem Kp.new {H z:Hp}{p:Addr}{o:HO}(a:Kp H z)(h:z p=none):Kp H (upd z p o):=λ c u e f=>by
 have e1:=a c u e f
 rw[zc (zt e1 h)];exact e1
theorem Kp.put {H F:Hp}{p:Addr}{o u:HO}(a:Kp H F)(h:F p=some u)(hu:bD9 u=false):Kp H (upd F p o):=λ c v e f=>by
 have e1:=a c v e f
 rw[zc (λ z=>by subst z;rw[h]at e1;cases e1;rw[hu]at f;cases f)];exact e1
theorem Kp.sqT {K:ae}{H H':Hp}{a:Addr}{p:List V}(e:Kp H H')(h:SqT K H a p):SqT K H' a p:=by
 rcases h with(h|⟨o,h⟩)|h
 .exact .inl (.inl (e _ _ h rfl))
 .exact .inl (.inr ⟨o,e _ _ h rfl⟩)
 .exact .inr h
theorem av7.kp {H H':Hp}{f:Addr}{qual:Str}{params:bV}{body:Expr}{scope:Scope}{fr:yI}{cap:List V}{p:yC}(h:av7 H f qual params body scope fr cap p)(e:Kp H H'):av7 H' f qual params body scope fr cap p:=by
 obtain⟨J,Z,F,Y,h2,h3,G,h5,h6⟩:=h
 refine⟨J,Z,F,e _ _ Y rfl,e _ _ h2 rfl,λ x c q=>?_,G,h5,λ i x v a b=>?_⟩
 .obtain⟨o,v,z,d⟩:=h3 x c q
  exact⟨o,v,e _ _ z rfl,d⟩
 .obtain⟨c,o,u,z1,z2,z3⟩:=h6 i x v a b
  exact⟨c,o,u,z1,e _ _ z2 rfl,z3⟩
theorem ak6.kp {H H':Hp}{f:Addr}{name qual:Str}{params:bV}{body:yM}{scope:Scope}{fr:yI}{cap:List V}{p:yC}(h:ak6 H f name qual params body scope fr cap p)(e:Kp H H'):ak6 H' f name qual params body scope fr cap p:=by
 obtain⟨G,Y,c',F,Z,h2,h3,J,h5,h6⟩:=h
 refine⟨G,Y,c',F,e _ _ Z rfl,e _ _ h2 rfl,λ x c q=>?_,J,h5,λ i x v a b=>?_⟩
 .obtain⟨o,v,z,d⟩:=h3 x c q
  exact⟨o,v,e _ _ z rfl,d⟩
 .obtain⟨c,o,u,z1,z2,z3⟩:=h6 i x v a b
  exact⟨c,o,u,z1,e _ _ z2 rfl,z3⟩
theorem CloAt.kp {H H':Hp}{f:Addr}{J:LamI}{cap:List V}{z:yC}(h:CloAt H f J cap z)(e:Kp H H'):CloAt H' f J cap z:=by
 unfold CloAt at h ⊢
 cases q:J.nm with
 | none=>rw[q]at h;exact av7.kp h e
 | some p=>rw[q]at h;exact ak6.kp h e
theorem at0.kp {H H':Hp}{f:Addr}{J:LamI}{z:yC}(h:at0 H f J z)(e:Kp H H'):at0 H' f J z:=by
 unfold at0 at h ⊢
 cases q:J.nm with
 | none =>
  rw[q]at h
  obtain⟨G,c',F,Z,h2⟩:=h
  exact⟨G,c',F,e _ _ Z rfl,e _ _ h2 rfl⟩
 | some p =>
  rw[q]at h
  obtain⟨Y,G,c',F,Z,h2⟩:=h
  exact⟨Y,G,c',F,e _ _ Z rfl,e _ _ h2 rfl⟩
theorem CloAt.fn {K:ae}{H:Hp}{f:Addr}{J:LamI}{cap:List V}{z:yC}(h:CloAt H f J cap z):bQ9 K H f:=by
 unfold CloAt at h
 cases q:J.nm with
 | none=>rw[q]at h;obtain⟨Y,Z,F,G,_⟩:=h;exact .inl ⟨_,G⟩
 | some p=>rw[q]at h;exact ak6.fn h
structure Gw (C:Nat->Addr)(n:Nat)(H:Hp)(C':Nat->Addr)(H':Hp):Prop where
 map:∀ i,i<n->C' i=C i
 kp:Kp H H'
variable {Γ:Gm}
mutual
theorem RV.monoW {C C':Nat->Addr}{n:Nat}{H H':Hp}(g:Gw C n H C' H'):∀(d:lf) (v:V),d.bnd n=true->RV Γ C H d v->RV Γ C' H' d v
 | .non,_,_,h=>by unfold RV at h ⊢;exact h
 | .bl _,_,_,h=>by unfold RV at h ⊢;exact h
 | .int _,_,_,h=>by unfold RV at h ⊢;exact h
 | .str _,_,_,h=>by unfold RV at h ⊢;exact h
 | .tup l,_,b,h=>by
  unfold RV at h ⊢
  unfold lr at b
  obtain⟨a,F,e,q,r⟩:=h
  exact⟨a,F,e,⟨g.kp.sqT q.1,λ z=>g.kp _ _ (q.2 z) rfl⟩,RVL.monoW g l F b r⟩
 | .ref k,_,b,h=>by
  unfold RV at h ⊢
  unfold lr at b
  rw[g.map k (of_decide_eq_true b)];exact h
 | .fn _,_,_,h=>by unfold RV at h ⊢;exact h
 | .clo id cs,_,b,h=>by
  unfold RV at h ⊢
  unfold lr at b
  obtain⟨f,cap,J,p,e,Y,Z,h3,G⟩:=h
  exact⟨f,cap,J,p,e,Y,Z.kp g.kp,h3,RVL.monoW g cs cap b G⟩
theorem RVL.monoW {C C':Nat->Addr}{n:Nat}{H H':Hp}(g:Gw C n H C' H'):∀(l:List lf) (p:List V),li n l=true->RVL Γ C H l p->RVL Γ C' H' l p
 | [],_,_,h=>by unfold RVL at h ⊢;exact h
 | d::l,_,b,h=>by
  unfold RVL at h ⊢
  unfold li at b
  rw[ag]at b
  obtain⟨x,r,e,q,t⟩:=h
  exact⟨x,r,e,RV.monoW g d x b.1 q,RVL.monoW g l r b.2 t⟩
end
mutual
theorem zg {n m:Nat}(h:n<=m):∀ d:lf,d.bnd n=true->d.bnd m=true
 | .non,_=>rfl
 | .bl _,_=>rfl
 | .int _,_=>rfl
 | .str _,_=>rfl
 | .tup l,b=>by unfold lr at b ⊢;exact aa3 h l b
 | .ref k,b=>by unfold lr at b ⊢;exact decide_eq_true (az (of_decide_eq_true b) h)
 | .fn _,_=>rfl
 | .clo _ l,b=>by unfold lr at b ⊢;exact aa3 h l b
theorem aa3 {n m:Nat}(h:n<=m):∀ l:List lf,li n l=true->li m l=true
 | [],_=>rfl
 | d::l,b=>by
  unfold li at b ⊢
  rw[ag]at b ⊢
  exact⟨zg h d b.1,aa3 h l b.2⟩
end
theorem aa2 {n:Nat}:∀ {l:List lf},li n l=true↔∀ d∈l,d.bnd n=true
 | []=>by unfold li;simp
 | d::l=>by
  unfold li
  rw[ag,aa2 (l:=l)]
  simp
theorem zJ {n:Nat}{l m:List lf}(h:li n l=true)(h':li n m=true):li n (l++m)=true :=
 aa2.mpr λ d hd=>(aO.mp hd).elim (aa2.mp h d) (aa2.mp h' d)
theorem aG1 {n:Nat}{l m:List lf}(h:li n l=true)(s:∀ d∈m,d∈l):li n m=true:=aa2.mpr λ d hd=>aa2.mp h d (s d hd)
theorem af6 {n:Nat}{l:List lf}{i:Nat}{d:lf}(h:li n l=true)(e:l[i]?=some d):d.bnd n=true:=aa2.mp h d (aY e)
section
variable {C:Nat->Addr} {H:Hp}
theorem RVL.nil:RVL Γ C H [] []:=by unfold RVL;rfl
theorem RVL.cons {d:lf}{l:List lf}{x:V}{h:List V}(a:RV Γ C H d x)(b:RVL Γ C H l h):RVL Γ C H (d::l) (x::h):=by unfold RVL;exact⟨x,h,rfl,a,b⟩
theorem RVL.unnil {p:List V}(h:RVL Γ C H [] p):p=[]:=by unfold RVL at h;exact h
theorem RVL.uncons {d:lf}{l:List lf}{p:List V}(h:RVL Γ C H (d::l) p):∃ x r,p=x::r/\RV Γ C H d x/\RVL Γ C H l r:=by unfold RVL at h;exact h
theorem RVL.length:∀ {l:List lf} {p:List V},RVL Γ C H l p->p.length=l.length
 | [],_,h=>by rw[h.unnil];rfl
 | d::l,_,h=>by
  obtain⟨x,r,rfl,_,t⟩:=h.uncons
  rw[aP,aP,RVL.length t]
theorem RVL.get:∀ {l:List lf} {p:List V} {i:Nat} {d:lf},RVL Γ C H l p->l[i]?=some d->∃ x,p[i]?=some x/\RV Γ C H d x
 | [],_,_,_,_,e=>by simp at e
 | d::l,_,0,d',h,e=>by
  obtain⟨x,r,rfl,q,t⟩:=h.uncons
  have e':d=d':=by simpa using e
  subst e'
  exact⟨x,rfl,q⟩
 | d::l,_,i+1,_,h,e=>by
  obtain⟨x,r,rfl,q,t⟩:=h.uncons
  obtain⟨y,e1,e2⟩:=RVL.get (i:=i) t (by simpa using e)
  exact⟨y,by simpa using e1,e2⟩
theorem RVL.append:∀ {l m:List lf} {p ys:List V},RVL Γ C H l p->RVL Γ C H m ys->RVL Γ C H (l++m) (p++ys)
 | [],_,_,_,h,h'=>by rw[h.unnil];exact h'
 | d::l,_,_,_,h,h'=>by
  obtain⟨x,r,rfl,q,t⟩:=h.uncons
  exact .cons q (RVL.append t h')
theorem RVL.drop:∀ {l:List lf} {p:List V} (n:Nat),RVL Γ C H l p->RVL Γ C H (l.drop n) (p.drop n)
 | _,_,0,h=>h
 | [],_,n+1,h=>by rw[h.unnil];exact .nil
 | d::l,_,n+1,h=>by
  obtain⟨x,r,rfl,q,t⟩:=h.uncons
  exact RVL.drop n t
theorem RVL.take:∀ {l:List lf} {p:List V} (n:Nat),RVL Γ C H l p->RVL Γ C H (l.take n) (p.take n)
 | _,_,0,h=>.nil
 | [],_,n+1,h=>by rw[h.unnil];exact .nil
 | d::l,_,n+1,h=>by
  obtain⟨x,r,rfl,q,t⟩:=h.uncons
  exact .cons q (RVL.take n t)
theorem RVL.set:∀ {l:List lf} {p:List V} {d:lf} {x:V} (i:Nat),RVL Γ C H l p->RV Γ C H d x->RVL Γ C H (l.set i d) (p.set i x)
 | [],_,_,_,_,h,_=>by rw[h.unnil];exact .nil
 | d::l,_,_,_,0,h,q=>by
  obtain⟨x,r,rfl,_,t⟩:=h.uncons
  exact .cons q t
 | d::l,_,_,_,i+1,h,q=>by
  obtain⟨x,r,rfl,q',t⟩:=h.uncons
  exact .cons q' (RVL.set i t q)
theorem RV.intE {i:Int}{v:V}(h:RV Γ C H (.int i) v):v=.int i:=by unfold RV at h;exact h
theorem RV.blE {i:Bool}{v:V}(h:RV Γ C H (.bl i) v):v=.bl i:=by unfold RV at h;exact h
theorem RV.nonE {v:V}(h:RV Γ C H .non v):v=.non:=by unfold RV at h;exact h
theorem RV.strE {x:List Nat}{v:V}(h:RV Γ C H (.str x) v):v=.str ⟨x.toArray⟩:=by unfold RV at h;exact h.1
theorem RV.strL {x:List Nat}{v:V}(h:RV Γ C H (.str x) v):x.length<=ls:=by unfold RV at h;exact h.2
theorem RV.tupE {l:List lf}{v:V}(h:RV Γ C H (.tup l) v):∃ a p,v=.ref a/\SqT Γ.K H a p/\RVL Γ C H l p:=by unfold RV at h;obtain⟨a,p,e,q,r⟩:=h;exact⟨a,p,e,q.1,r⟩
theorem RV.tupZ {l:List lf}{v:V}(h:RV Γ C H (.tup l) v):∃ a p,(v=.ref a/\(lv l=true->H a=some (.tup p)))/\SqT Γ.K H a p/\RVL Γ C H l p:=by unfold RV at h;obtain⟨a,p,e,q,r⟩:=h;exact⟨a,p,⟨e,q.2⟩,q.1,r⟩
theorem RVL.tonil {l:List lf}(h:RVL Γ C H l []):l=[]:=cV.mp h.length.symm
theorem RV.tupK {l:List lf}{v:V}(h:RV Γ C H (.tup l) v)(z:lv l=true):∃ a p,v=.ref a/\H a=some (.tup p)/\RVL Γ C H l p:=by unfold RV at h;obtain⟨a,p,e,q,r⟩:=h;exact⟨a,p,e,q.2 z,r⟩
theorem RV.refE {n:Nat}{v:V}(h:RV Γ C H (.ref n) v):v=.ref (C n):=by unfold RV at h;exact h
theorem RV.intI {i:Int}:RV Γ C H (.int i) (.int i):=by unfold RV;rfl
theorem RV.blI {i:Bool}:RV Γ C H (.bl i) (.bl i):=by unfold RV;rfl
theorem RV.nonI:RV Γ C H .non .non:=by unfold RV;rfl
theorem RV.strI {x:List Nat}(h:x.length<=ls):RV Γ C H (.str x) (.str ⟨x.toArray⟩):=by unfold RV;exact⟨rfl,h⟩
theorem RV.tupI {l:List lf}{a:Addr}{p:List V}(h:H a=some (.tup p))(q:RVL Γ C H l p):RV Γ C H (.tup l) (.ref a):=by unfold RV;exact⟨a,p,rfl,⟨SqT.of h,λ _=>h⟩,q⟩
theorem RV.tupC {l:List lf}{a:Addr}{p:List V}(h:SqT Γ.K H a p)(z:lv l=true->H a=some (.tup p))(q:RVL Γ C H l p):RV Γ C H (.tup l) (.ref a):=by unfold RV;exact⟨a,p,rfl,⟨h,z⟩,q⟩
theorem RV.refI {n:Nat}:RV Γ C H (.ref n) (.ref (C n)):=by unfold RV;rfl
end
theorem bq2 {n:Nat}{l:List lf}(h:lv (lU n l)=true):lv l=true:=by
 cases n with
 | zero=>cases h
 | succ n =>
  cases l with
  | nil => 
   have:∀ k,lU k ([]:List lf)=[]:=λ k=>by
    induction k with
    | zero=>rfl
    | succ k ih=>show[]++lU k []=[];rw[ih];rfl
   rw[this]at h;cases h
  | cons a l =>
   have e:lU (n+1) (a::l)=a::(l++lU n (a::l)):=rfl
   rw[e]at h
   cases a with
   | int _=>rfl
   | non=>rfl
   | tup _=>rfl
   | _=>cases h
theorem aS0 {α:Type}{l:List α}{p F:Option Int}(h:(lJ l p F).length=l.length):lJ l p F=l:=by
 unfold lJ at h ⊢
 rw[bK,cT]at h
 by_cases z:l=[]
 .subst z;simp
 .have G:=iJ.mpr z
  have e1:lY l.length p=0:=by omega
  rw[e1]at h ⊢
  rw[io]
  exact d6 (by omega)
def SqF (K:ae)(H:Hp)(a:Addr)(xs:List V):Prop:=SqL K H a xs/\∀ H',Kp H H'->SqL K H' a xs
noncomputable def aj5:lf->Option Key
 | .int i=>some (.inl i)
 | .str x=>some (.inr ⟨x.toArray⟩)
 | _=>none
noncomputable def fOf:lf->Option FK
 | .non=>some none
 | .int i=>some (some (.inl i))
 | .str x=>some (some (.inr ⟨x.toArray⟩))
 | _=>none
noncomputable def qu {κ:Type}(f:lf->Option κ):List lf->Option (List κ)
 | []=>some []
 | d::l=>match f d,qu f l with
  | some k,some r=>some (k::r)
  | _,_=>none
noncomputable def nOf:lf->Option NI
 | .tup l=>(qu fOf l).map .inr
 | d=>(fOf d).map .inl
noncomputable def ak8:List lf->Option (List NI):=qu nOf
noncomputable def bC6:lf->Option (List NI)
 | .tup l=>if(lv l&&(l.all lF&&decide (l.length<=1000)))=true then ak8 l else none
 | _=>none
noncomputable def RVD {κ:Type}(kf:lf->Option κ)(Γ:Gm)(C:Nat->Addr)(H:Hp):List (lf×lf)->List (κ×V)->Prop
 | [],kvs=>kvs=[]
 | (d,e)::l,kvs=>∃ k v r,kvs=(k,v)::r/\kf d=some k/\RV Γ C H e v/\RVD kf Γ C H l r
noncomputable def bC2:lf->Option Str
 | .str x=>some ⟨x.toArray⟩
 | _=>none
variable (Γ)
noncomputable def RO (C:Nat->Addr)(H:Hp)(a:Addr):lI->Prop
 | .lst l=>∃ xs,H a=some (.lst xs)/\RVL Γ C H l xs
 | .ro l=>∃ xs,SqF Γ.K H a xs/\RVL Γ C H l xs
 | .dic l=>∃ kvs,H a=some (.dK kvs)/\RVD aj5 Γ C H l kvs
 | .dit l=>∃ kvs,H a=some (.dT kvs)/\RVD bC6 Γ C H l kvs
 | .dicF l=>∃ o kvs,H a=some (.frz o (.dK kvs))/\RVD aj5 Γ C H l kvs
 | .ins c l=>∃ Cc dx gs,(Γ.cls c=some Cc/\Cls Γ.K Cc)/\(∀ p∈gs,NoAttr Γ.K Cc p.1)/\H a=some (.ins Cc dx gs)/\RVD bC2 Γ C H l gs
noncomputable abbrev okd:lI->Nat:=DV.O.kd
noncomputable def isMut:lI->Bool
 | .ro _=>false
 | _=>true
structure Rp (C:Nat->Addr)(H:Hp)(s:lb):Prop where
 inj:∀(i j:Nat) (o o':lI),s[i]?=some o->s[j]?=some o'->isMut o=true->isMut o'=true->C i=C j->i=j
 obj:∀(i:Nat) (o:lI),s[i]?=some o->RO Γ C H (C i) o
 wf:∀(i:Nat) (o:lI),s[i]?=some o->o.bnd s.length=true
 tab:TabsH Γ.T H
structure RE (C:Nat->Addr)(H:Hp)(n:Nat)(U:lh)(W:St):Prop where
 len:U.length=W.length
 val:∀(i:Nat) (d:lf),U[i]?=some (some d)->d.bnd n=true/\∃ v,W[i]?=some (some v)/\RV Γ C H d v
structure Gr (C:Nat->Addr)(s:lb)(H:Hp)(C':Nat->Addr)(s':lb)(H':Hp):Prop where
 w:Gw C s.length H C' H'
 le:s.length<=s'.length
 new:∀ i:Nat,s.length<=i->i<s'.length->H (C' i)=none
 kd:∀(i:Nat) (o o':lI),s[i]?=some o->s'[i]?=some o'->okd o'=okd o
 st:∀ b,H b≠none->H' b≠none
 fz:∀ b o kvs,H b=some (.frz o (.dK kvs))->H' b=some (.frz o (.dK kvs))
 fr:∀ b o,H b=some o->(∀ ps,o≠.tbl ps)->(∀(i:Nat) (ob:lI),s[i]?=some ob->isMut ob=true->C i≠b)->H' b=some o
variable {Γ}
theorem bo5 {o p:lI}(h:okd p=okd o)(m:isMut p=true):isMut o=true:=by
 cases o with
 | ro _=>cases p with
  | ro _=>cases m
  | _=>cases h
 | _=>rfl
theorem Gr.mu {C C':Nat->Addr}{s s':lb}{H H':Hp}(g:Gr C s H C' s' H')(i:Nat)(o h:lI)(e:s[i]?=some o)(e':s'[i]?=some h)(m:isMut h=true):isMut o=true:=bo5 (g.kd i o h e e') m
theorem Gr.refl (C:Nat->Addr)(s:lb)(H:Hp):Gr C s H C s H:=⟨⟨λ _ _=>rfl,Kp.refl H⟩,ai _,λ i F p=>absurd p (by omega),λ i o z e e'=>by rw[e]at e';cases e';rfl,λ _ h=>h,λ _ _ _ h=>h,λ _ _ h _ _=>h⟩
theorem Gr.trans {C C1 C2:Nat->Addr}{s s1 s2:lb}{H Y Z:Hp}(a:Gr C s H C1 s1 Y)(b:Gr C1 s1 Y C2 s2 Z)(_h:s.length<=s1.length):Gr C s H C2 s2 Z:=by
 refine⟨⟨λ i p=>(b.w.map i (az p a.le)).trans (a.w.map i p),a.w.kp.trans b.w.kp⟩,ak a.le b.le,λ i h1 h2=>?_,λ i o o' e e'=>?_,λ c h=>b.st c (a.st c h),λ c o kvs h=>b.fz c o kvs (a.fz c o kvs h),λ c o h nt ne=>?_⟩
 .by_cases p:i<s1.length
  .rw[b.w.map i p];exact a.new i h1 p
  .have e:=b.new i (by omega) h2
   cases q:H (C2 i)with
   | none=>rfl
   | some o=>exact absurd e (a.st _ (by rw[q];simp))
 .have hl:i<s1.length:=az (ac.mp e).1 a.le
  obtain⟨G,e1⟩:∃ G,s1[i]?=some G:=⟨s1[i],ah hl⟩
  exact(b.kd i G o' e1 e').trans (a.kd i o G e e1)
 .refine b.fr c o (a.fr c o h nt ne) nt λ i ob e m z=>?_
  by_cases p:i<s.length
  .obtain⟨F,J⟩:∃ F,s[i]?=some F:=⟨s[i],ah p⟩
   exact ne i F J (a.mu i F ob J e m) (by rw[<-a.w.map i p];exact z)
  .have:=a.new i (by omega) (ac.mp e).1
   rw[z,h]at this;cases this
theorem RV.mono {C C':Nat->Addr}{s s':lb}{H H':Hp}(g:Gr C s H C' s' H')(d:lf)(v:V)(b:d.bnd s.length=true)(h:RV Γ C H d v):RV Γ C' H' d v:=RV.monoW g.w d v b h
theorem RVL.mono {C C':Nat->Addr}{s s':lb}{H H':Hp}(g:Gr C s H C' s' H')(d:List lf)(v:List V)(b:li s.length d=true)(h:RVL Γ C H d v):RVL Γ C' H' d v:=RVL.monoW g.w d v b h
theorem RE.mono {C C':Nat->Addr}{s s':lb}{H H':Hp}{U:lh}{W:St}(h:RE Γ C H s.length U W)(g:Gr C s H C' s' H')(hn:s.length<=s'.length):RE Γ C' H' s'.length U W :=
 ⟨h.len,λ i d e=>by
  obtain⟨b,v,e1,e2⟩:=h.val i d e
  exact⟨zg hn d b,v,e1,RV.mono g d v b e2⟩⟩
def ab2 (Γ:Gm)(C:Nat->Addr)(s:lb)(H:Hp)(d:lf)(s':lb)(Q:VK):Prop :=
 ∀ v C' H',Gr C s H C' s' H'->s.length<=s'.length->d.bnd s'.length=true->RV Γ C' H' d v->Rp Γ C' H' s'->Q v H'
theorem ab2.trans {C C1:Nat->Addr}{s s1 s':lb}{H z:Hp}{d:lf}{Q:VK}(h:ab2 Γ C s H d s' Q)(g:Gr C s H C1 s1 z)(l:s.length<=s1.length):ab2 Γ C1 s1 z d s' Q :=
 λ v C' H' g' F b r p=>h v C' H' (g.trans g' l) (ak l F) b r p
theorem ab2.here {C:Nat->Addr}{s:lb}{H:Hp}{d:lf}{Q:VK}{v:V}(h:ab2 Γ C s H d s Q)(p:Rp Γ C H s)(b:d.bnd s.length=true)(r:RV Γ C H d v):Q v H :=
 h v C H (Gr.refl C s H) (ai _) b r p
theorem RVD.monoW {κ:Type}{p:lf->Option κ}{C C':Nat->Addr}{n:Nat}{H H':Hp}(g:Gw C n H C' H'):∀(l:List (lf×lf)) (kvs:List (κ×V)),li n (l.map (·.2))=true->RVD p Γ C H l kvs->RVD p Γ C' H' l kvs
 | [],_,_,h=>h
 | (d,e)::l,_,b,h=>by
  obtain⟨k,v,r,e1,e2,z,F⟩:=h
  rw[a9]at b
  unfold li at b
  rw[ag]at b
  exact⟨k,v,r,e1,e2,RV.monoW g e v b.1 z,RVD.monoW g l r b.2 F⟩
theorem RO.mono {C C':Nat->Addr}{n:Nat}{H H':Hp}{a:Addr}{o:lI}(h:RO Γ C H a o)(g:Gw C n H C' H')(b:o.bnd n=true)(hl:isMut o=true->∀ u,H a=some u->H' a=some u):RO Γ C' H' a o:=by
 cases o with
 | lst l =>
  unfold ln at b
  obtain⟨p,e,r⟩:=h
  exact⟨p,hl rfl _ e,RVL.monoW g l p b r⟩
 | ro l =>
  unfold ln at b
  obtain⟨p,e,r⟩:=h
  exact⟨p,⟨e.2 _ g.kp,λ J k=>e.2 _ (g.kp.trans k)⟩,RVL.monoW g l p b r⟩
 | dic l =>
  unfold ln at b
  rw[ag]at b
  obtain⟨kvs,e,r⟩:=h
  exact⟨kvs,hl rfl _ e,RVD.monoW g l kvs b.2 r⟩
 | dit l =>
  unfold ln at b
  rw[ag]at b
  obtain⟨kvs,e,r⟩:=h
  exact⟨kvs,hl rfl _ e,RVD.monoW g l kvs b.2 r⟩
 | dicF l =>
  unfold ln at b
  rw[ag]at b
  obtain⟨ob,kvs,e,r⟩:=h
  exact⟨ob,kvs,hl rfl _ e,RVD.monoW g l kvs b.2 r⟩
 | ins c l =>
  unfold ln at b
  rw[ag]at b
  obtain⟨Cc,F,gs,z,G,e,r⟩:=h
  exact⟨Cc,F,gs,z,G,hl rfl _ e,RVD.monoW g l gs b.2 r⟩
theorem RO.there {C:Nat->Addr}{H:Hp}{a:Addr}{o:lI}(h:RO Γ C H a o)(m:isMut o=true):∃ u,H a=some u/\bD9 u=false/\(∀ ps,u≠.tbl ps)/\((∀ l,o≠.dicF l)->∀ ob kvs,u≠.frz ob (.dK kvs)):=by
 cases o with
 | lst l=>obtain⟨p,e,_⟩:=h;exact⟨_,e,rfl,by nofun,λ _ _ _ z=>(by cases z)⟩
 | ro l=>cases m
 | dic l=>obtain⟨p,e,_⟩:=h;exact⟨_,e,rfl,by nofun,λ _ _ _ z=>(by cases z)⟩
 | dit l=>obtain⟨p,e,_⟩:=h;exact⟨_,e,rfl,by nofun,λ _ _ _ z=>(by cases z)⟩
 | dicF l=>obtain⟨ob,p,e,_⟩:=h;exact⟨_,e,rfl,by nofun,λ z=>absurd rfl (z l)⟩
 | ins c l=>obtain⟨_,_,_,_,_,e,_⟩:=h;exact⟨_,e,rfl,by nofun,λ _ _ _ z=>(by cases z)⟩
theorem Rp.addr {C:Nat->Addr}{H:Hp}{s:lb}(p:Rp Γ C H s){i:Nat}{l:List lf}(e:s[i]?=some (.lst l)):∃ h,H (C i)=some (.lst h)/\RVL Γ C H l h:=p.obj i _ e
theorem zQ {n m:Nat}(h:n<=m)(o:lI)(b:o.bnd n=true):o.bnd m=true:=by
 cases o with
 | lst l=>unfold ln at b ⊢;exact aa3 h l b
 | ro l=>unfold ln at b ⊢;exact aa3 h l b
 | dic l =>
  unfold ln at b ⊢
  rw[ag]at b ⊢
  exact⟨aa3 h _ b.1,aa3 h _ b.2⟩
 | dit l =>
  unfold ln at b ⊢
  rw[ag]at b ⊢
  exact⟨aa3 h _ b.1,aa3 h _ b.2⟩
 | dicF l =>
  unfold ln at b ⊢
  rw[ag]at b ⊢
  exact⟨aa3 h _ b.1,aa3 h _ b.2⟩
 | ins c l =>
  unfold ln at b ⊢
  rw[ag]at b ⊢
  exact⟨aa3 h _ b.1,aa3 h _ b.2⟩
theorem TabsH.keepF {T:List (Addr×Str)}{H H':Hp}(h:TabsH T H)(k:∀ b o,(bD9 o=true\/∃ ps,o=.tbl ps)->H b=some o->H' b=some o):TabsH T H':=λ y hy=>by
 obtain⟨ps,e,t,c⟩:=h y hy
 refine⟨ps,k _ _ (.inr ⟨_,rfl⟩) e,t,λ pos z q=>?_⟩
 obtain⟨p,e1,e2⟩:=c pos z q
 exact⟨p,e1,k _ _ (.inl rfl) e2⟩
theorem Rp.new {C:Nat->Addr}{H:Hp}{s:lb}{p:Addr}{u:HO}{o:lI}(r:Rp Γ C H s)(G:H p=none)(hb:o.bnd s.length=true)
  (ho:∀ C' H',Gw C s.length H C' H'->H' p=some u->RO Γ C' H' p o):Gr C s H (λ i=>if i=s.length then p else C i) (s++[o]) (upd H p u)/\Rp Γ (λ i=>if i=s.length then p else C i) (upd H p u) (s++[o]):=by
 have g:Gw C s.length H (λ i=>if i=s.length then p else C i) (upd H p u):=⟨λ i z=>if_neg (aE z),(Kp.refl H).new G⟩
 have key:∀ i F,(s++[o])[i]?=some F->(i<s.length/\s[i]?=some F)\/(i=s.length/\F=o):=λ i F e=>by
  rcases d7 i s.length with h|h|h
  .rw[ax h]at e;exact .inl ⟨h,e⟩
  .subst h;simp at e;exact .inr ⟨rfl,e.symm⟩
  .rw[bW (by simp;omega)]at e;cases e
 refine⟨⟨g,by simp,λ i h1 h2=>?_,λ i o1 o2 e1 e2=>?_,λ b hb=>?_,λ b ob kvs hb=>by rw[zc (zt hb G)];exact hb,λ b ob hb _ _=>by rw[zc (zt hb G)];exact hb⟩,λ i j Y Z J ej mi mj e=>?_,λ i F e=>?_,λ i F e=>?_,r.tab.new G⟩
 .rw[ar,db]at h2
  rw[if_pos (by omega)];exact G
 .rcases key i o2 e2 with⟨_,e⟩|⟨z,_⟩
  .rw[e1]at e;cases e;rfl
  .have:=(ac.mp e1).1;omega
 .unfold upd;split
  .simp
  .exact hb
 .rcases key i Y J with⟨z,J⟩|⟨z,rfl⟩<;>rcases key j Z ej with⟨hj,ej⟩|⟨hj,ej'⟩
  .rw[if_neg (aE z),if_neg (aE hj)]at e
   exact r.inj i j Y Z J ej mi mj e
  .rw[if_neg (aE z),if_pos hj]at e
   obtain⟨u,hu,_⟩:=(r.obj i Y J).there mi
   rw[e,G]at hu;cases hu
  .rw[if_neg (aE hj),if_pos z]at e
   obtain⟨u,hu,_⟩:=(r.obj j Z ej).there mj
   rw[<-e,G]at hu;cases hu
  .rw[z,hj]
 .rcases key i F e with⟨z,e⟩|⟨z,rfl⟩
  .show RO Γ _ _ (if i=s.length then p else C i) F
   rw[if_neg (aE z)]
   exact(r.obj i F e).mono g (r.wf i F e) λ _ v hv=>by rw[zc (zt hv G)];exact hv
  .show RO Γ _ _ (if i=s.length then p else C i) F
   rw[if_pos z]
   exact ho _ _ g zq
 .rw[ar,db]
  rcases key i F e with⟨z,e⟩|⟨z,rfl⟩
  .exact zQ (cb _) _ (r.wf i F e)
  .exact zQ (cb _) _ hb
theorem Rp.set1 {C:Nat->Addr}{H:Hp}{s:lb}{k:Nat}{u:HO}{o F:lI}(r:Rp Γ C H s)(hk:s[k]?=some F)(Y:isMut F=true)(hb:o.bnd s.length=true)
  (ho:∀ H',Gw C s.length H C H'->H' (C k)=some u->RO Γ C H' (C k) o) (a1:okd o=okd F):((∀ l,F≠.dicF l)->Gr C s H C (s.set k o) (upd H (C k) u))/\Rp Γ C (upd H (C k) u) (s.set k o):=by
 obtain⟨v0,G,f0,a2,a3⟩:=(r.obj k F hk).there Y
 have a0:k<s.length:=(ac.mp hk).1
 have g:Gw C s.length H C (upd H (C k) u):=⟨λ _ _=>rfl,(Kp.refl H).put G f0⟩
 have key:∀ i p,(s.set k o)[i]?=some p->(i≠k/\s[i]?=some p)\/(i=k/\p=o):=λ i p e=>by
  by_cases h:i=k
  .subst h;rw[a8 a0]at e;exact .inr ⟨rfl,(av e).symm⟩
  .rw[am (bS h)]at e;exact .inl ⟨h,e⟩
 have mm:∀ i p,(s.set k o)[i]?=some p->isMut p=true->∃ J,s[i]?=some J/\isMut J=true:=λ i p e m=>by
  rcases key i p e with⟨_,e⟩|⟨h,_⟩
  .exact⟨p,e,m⟩
  .exact⟨F,by rw[h];exact hk,Y⟩
 refine⟨λ nf=>⟨g,by simp,λ i h1 h2=>by rw[aW]at h2;omega,λ i o1 Z e1 e2=>?_,λ b hb=>?_,λ b ob kvs hb=>by rw[zc λ z=>by subst z;rw[G]at hb;cases hb;exact a3 nf _ _ rfl];exact hb,λ b ob hb nt ne=>by rw[zc (bS (ne k F hk Y))];exact hb⟩,λ i j oi oj ei ej mi mj e=>?_,λ i p e=>?_,λ i p e=>?_,r.tab.keepF λ b v hv q=>?_⟩
 .rcases key i Z e2 with⟨_,e⟩|⟨h,rfl⟩
  .rw[e1]at e;cases e;rfl
  .subst h;rw[hk]at e1;cases e1;exact a1
 .unfold upd;split
  .simp
  .exact hb
 .obtain⟨o1,e1,m1⟩:=mm i oi ei mi
  obtain⟨Z,e2,m2⟩:=mm j oj ej mj
  exact r.inj i j o1 Z e1 e2 m1 m2 e
 .rcases key i p e with⟨h,e⟩|⟨h,rfl⟩
  .refine(r.obj i p e).mono g (r.wf i p e) λ m v hv=>?_
   rw[zc λ z=>h (r.inj i k p F e hk m Y z)];exact hv
  .subst h
   exact ho _ g zq
 .rw[aW]
  rcases key i p e with⟨_,e⟩|⟨_,rfl⟩
  .exact r.wf i p e
  .exact hb
 .rw[zc λ z=>by
   subst z;rw[G]at q;cases q
   rcases hv with h|⟨ps,h⟩
   .rw[f0]at h;cases h
   .exact a2 _ h]
  exact q
theorem Rp.set {C:Nat->Addr}{H:Hp}{s:lb}{k:Nat}{u:HO}{o p:lI}(r:Rp Γ C H s)(hk:s[k]?=some p)(z:isMut p=true)(hb:o.bnd s.length=true)
  (ho:∀ H',Gw C s.length H C H'->H' (C k)=some u->RO Γ C H' (C k) o) (h:okd o=okd p:=by rfl) (nf:∀ l,p≠.dicF l:=by nofun):Gr C s H C (s.set k o) (upd H (C k) u)/\Rp Γ C (upd H (C k) u) (s.set k o) :=
 ⟨(r.set1 hk z hb ho h).1 nf,(r.set1 hk z hb ho h).2⟩
theorem Rp.same {C:Nat->Addr}{H H':Hp}{s:lb}(r:Rp Γ C H s)(e:ab4 H H'):Gr C s H C s H'/\Rp Γ C H' s:=by
 have g:Gw C s.length H C H':=⟨λ _ _=>rfl,λ b o h _=>e b o h⟩
 exact⟨⟨g,ai _,λ i F p=>absurd p (by omega),λ i o z e e'=>by rw[e]at e';cases e';rfl,λ b hb=>by
  cases q:H b with
  | none=>exact absurd q hb
  | some o=>rw[e b o q];simp,λ b o kvs h=>e b _ h,λ b o h _ _=>e b o h⟩,r.inj,λ i o h=>(r.obj i o h).mono g (r.wf i o h) λ _ u hu=>e _ u hu,r.wf,r.tab.same e⟩
section
variable {C:Nat->Addr} {H:Hp} {s:lb} {Q:VK}
theorem ab2.alloc {l:List lf}{z:List V}(h:ab2 Γ C s H (.ref s.length) (s++[.lst l]) Q)(r:Rp Γ C H s)(hl:RVL Γ C H l z)(hb:li s.length l=true){p:Addr}(F:H p=none):Q (.ref p) (upd H p (.lst z)):=by
 obtain⟨g,r'⟩:=r.new (o:=.lst l) (u:=.lst z) F hb λ C' H' g e=>⟨z,e,RVL.monoW g l z hb hl⟩
 have:=h (.ref p) _ _ g (by simp) (by unfold lr;simp) (by unfold RV;simp) r'
 exact this
theorem ab2.tup {l:List lf}{z:List V}(h:ab2 Γ C s H (.tup l) s Q)(r:Rp Γ C H s)(hl:RVL Γ C H l z)(hb:li s.length l=true){p:Addr}(F:H p=none):Q (.ref p) (upd H p (.tup z)):=by
 obtain⟨g,r'⟩:=r.same (H':=upd H p (.tup z)) ((ab4.refl H).new F)
 exact h _ _ _ g (ai _) (by unfold lr;exact hb) (RV.tupI zq (RVL.mono g l z hb hl)) r'
theorem ab2.put {k:Nat}{l l0:List lf}{p:List V}{d:lf}{v:V}(h:ab2 Γ C s H d (s.set k (.lst l)) Q)(r:Rp Γ C H s)(hk:s[k]?=some (.lst l0))(hl:RVL Γ C H l p)(hb:li s.length l=true)
  (hd:d.bnd s.length=true) (hv:RV Γ C H d v):Q v (upd H (C k) (.lst p)):=by
 obtain⟨g,r'⟩:=r.set (o:=.lst l) (u:=.lst p) hk rfl hb λ H' g e=>⟨p,e,RVL.monoW g l p hb hl⟩
 exact h _ _ _ g (by simp) (by rw[aW];exact hd) (RV.mono g d v hd hv) r'
end
variable {Γ:Gm}
theorem keyOf_inj {a b:lf}{k:Key}(ha:aj5 a=some k)(hb:aj5 b=some k):a=b:=by
 cases a with
 | int i =>
  cases ha
  cases b with
  | int j=>cases hb;rfl
  | str y=>cases hb
  | _=>cases hb
 | str x =>
  cases ha
  cases b with
  | int j=>cases hb
  | str y =>
   have h:=av hb
   injection h with h
   injection h with h
   have p:y=x:=by simpa using h
   rw[p]
  | _=>cases hb
 | _=>cases ha
theorem ag4 {d:lf}(h:d.key=true):∃ k,aj5 d=some k:=by
 cases d with
 | int i=>exact⟨_,rfl⟩
 | str x=>exact⟨_,rfl⟩
 | _=>cases h
theorem aG8 {C:Nat->Addr}{H:Hp}{d:lf}{k:Key}{v:V}(h:aj5 d=some k)(r:RV Γ C H d v):v=kV k:=by
 cases d with
 | int i=>cases h;exact r.intE
 | str x=>cases h;exact r.strE
 | _=>cases h
def bc1 {κ:Type}(kf:lf->Option κ):Prop:=∀ {a b:lf} {k:κ},kf a=some k->kf b=some k->a=b
theorem aO8:bc1 fOf:=λ {a b k} ha hb=>by
 cases a with
 | non=>cases ha;cases b with|non=>rfl|_=>cases hb
 | int i=>cases ha;cases b with|int j=>cases hb;rfl|_=>cases hb
 | str x=>cases ha;cases b with|str y=>cases hb;rfl|_=>cases hb
 | _=>cases ha
theorem ai7 {κ:Type}{f:lf->Option κ}(h:bc1 f):∀ {a b:List lf} {k:List κ},qu f a=some k->qu f b=some k->a=b
 | [],[],k,_,_=>rfl
 | [],y::b,k,ha,hb=>by
  cases ha
  unfold qu at hb
  split at hb<;>cases hb
 | x::a,[],k,ha,hb=>by
  cases hb
  unfold qu at ha
  split at ha<;>cases ha
 | x::a,y::b,k,ha,hb=>by
  unfold qu at ha hb
  split at ha
  .rename_i k1 r1 e1 e2
   cases ha
   split at hb
   .rename_i k2 F p z
    cases hb
    rw[h e1 p,ai7 h e2 z]
   .cases hb
  .cases ha
theorem nOf_cases {d:lf}{k:NI}(h:nOf d=some k):(∃ l r,d=.tup l/\qu fOf l=some r/\k=.inr r)\/∃ f,fOf d=some f/\k=.inl f:=by
 cases d with
 | tup l =>
  obtain⟨r,e,q⟩:=bt.mp (show(qu fOf l).map .inr=some k from h)
  exact .inl ⟨l,r,rfl,e,q.symm⟩
 | non=>obtain⟨r,e,q⟩:=bt.mp (show(fOf .non).map .inl=some k from h);exact .inr ⟨r,e,q.symm⟩
 | int i=>obtain⟨r,e,q⟩:=bt.mp (show(fOf (.int i)).map .inl=some k from h);exact .inr ⟨r,e,q.symm⟩
 | str i=>obtain⟨r,e,q⟩:=bt.mp (show(fOf (.str i)).map .inl=some k from h);exact .inr ⟨r,e,q.symm⟩
 | _=>cases h
theorem bu0:bc1 nOf:=λ {a b k} ha hb=>by
 rcases nOf_cases ha with⟨l,r,rfl,e,rfl⟩|⟨f,e,rfl⟩
 .rcases nOf_cases hb with⟨m,r',rfl,e',q⟩|⟨f,e',q⟩
  .cases q;rw[ai7 aO8 e e']
  .cases q
 .rcases nOf_cases hb with⟨m,r',rfl,e',q⟩|⟨f',e',q⟩
  .cases q
  .cases q;exact aO8 e e'
theorem an8 {d:lf}{k:List NI}(h:bC6 d=some k):∃ l,d=.tup l/\(lv l=true/\l.all lF=true/\l.length<=1000)/\ak8 l=some k:=by
 cases d with
 | tup l =>
  have h:(if(lv l&&(l.all lF&&decide (l.length<=1000)))=true then ak8 l else none)=some k:=h
  by_cases z:(lv l&&(l.all lF&&decide (l.length<=1000)))=true
  .rw[if_pos z]at h;rw[ag,ag]at z;exact⟨l,rfl,⟨z.1,z.2.1,of_decide_eq_true z.2.2⟩,h⟩
  .rw[if_neg z]at h;cases h
 | _=>cases h
theorem keyT_inj:bc1 bC6:=λ ha hb=>by
 obtain⟨l,rfl,_,h⟩:=an8 ha
 obtain⟨m,rfl,_,p⟩:=an8 hb
 rw[ai7 bu0 h p]
theorem ae4 {κ:Type}{f:lf->Option κ}{p:lf->Bool}(z:∀ d,p d=true->∃ k,f d=some k):∀ {l:List lf},l.all p=true->∃ k,qu f l=some k
 | [],_=>⟨[],rfl⟩
 | d::l,h=>by
  rw[bI,ag]at h
  obtain⟨k,hk⟩:=z d h.1
  obtain⟨r,hr⟩:=ae4 z h.2
  exact⟨k::r,by unfold qu;rw[hk,hr]⟩
theorem aO1 (d:lf)(h:d.keyF=true):∃ k,fOf d=some k:=by
 cases d with
 | int i=>exact⟨_,rfl⟩
 | str x=>exact⟨_,rfl⟩
 | non=>exact⟨_,rfl⟩
 | _=>cases h
theorem aC9 {l:List lf}(h:(DV.D.tup l).keyS=true):lv l=true/\l.all nk=true/\l.length<=1000:=by
 have h:(lv l&&(l.all nk&&decide (l.length<=1000)))=true:=h
 rw[ag,ag]at h
 exact⟨h.1,h.2.1,of_decide_eq_true h.2.2⟩
theorem aN1 (d:lf)(h:d.keyS=true):∃ k,nOf d=some k:=by
 cases d with
 | tup l=>obtain⟨r,e⟩:=ae4 aO1 (aC9 h).2.1;exact⟨.inr r,by show(qu fOf l).map _=_;rw[e];rfl⟩
 | int i=>exact⟨_,rfl⟩
 | str x=>exact⟨_,rfl⟩
 | non=>exact⟨_,rfl⟩
 | _=>cases h
theorem ah9 {d:lf}(h:d.keyT=true):∃ k,bC6 d=some k:=by
 cases d with
 | tup l =>
  have h:(lv l&&(l.all lF&&decide (l.length<=1000)))=true:=h
  have h':=h
  rw[ag,ag]at h'
  obtain⟨k,hk⟩:=ae4 aN1 h'.2.1
  exact⟨k,by show(if(lv l&&(l.all lF&&decide (l.length<=1000)))=true then ak8 l else none)=some k;rw[if_pos h];exact hk⟩
 | _=>cases h
theorem ca5 {C:Nat->Addr}{H:Hp}{d:lf}{k:FK}{v:V}(h:fOf d=some k)(r:RV Γ C H d v):v=fV k:=by
 cases d with
 | non=>cases h;exact r.nonE
 | int i=>cases h;exact r.intE
 | str x=>cases h;exact r.strE
 | _=>cases h
theorem bL8 {C:Nat->Addr}{H:Hp}:∀ {l:List lf} {k:List FK} {p:List V},qu fOf l=some k->RVL Γ C H l p->p=k.map fV
 | [],k,p,h,r=>by cases h;exact r.unnil
 | d::l,k,p,h,r=>by
  unfold qu at h
  split at h
  .rename_i k1 r1 e1 e2
   cases h
   obtain⟨x,ys,rfl,z,F⟩:=r.uncons
   rw[ca5 e1 z,bL8 e2 F,a9]
  .cases h
theorem aP3 {C:Nat->Addr}{H:Hp}:∀ {l:List lf} {k:List NI} {F:List V},ak8 l=some k->l.all lF=true->RVL Γ C H l F->cQ (NAt H) k F
 | [],k,F,h,_,r=>by cases h;cases r.unnil;exact .nil
 | d::l,k,F,h,z,r=>by
  unfold ak8 qu at h
  rw[bI,ag]at z
  split at h
  .rename_i k1 r1 e1 e2
   cases h
   obtain⟨x,ys,rfl,p,G⟩:=r.uncons
   refine .cons ?_ (aP3 e2 z.2 G)
   rcases nOf_cases e1 with⟨m,q,rfl,e,rfl⟩|⟨f,e,rfl⟩
   .obtain⟨a,F,e',J,Y⟩:=p.tupK (aC9 z.1).1
    rw[bL8 e Y]at J
    exact⟨a,e',J⟩
   .exact ca5 e p
  .cases h
theorem aw9 {C:Nat->Addr}{H:Hp}{d:lf}{k:List NI}{v:V}(h:bC6 d=some k)(r:RV Γ C H d v):∃ b,v=.ref b/\NK H k b:=by
 obtain⟨l,rfl,z,hk⟩:=an8 h
 obtain⟨a,F,e,p,G⟩:=r.tupK z.1
 exact⟨a,e,F,p,aP3 hk z.2.1 G⟩
section
variable {κ:Type} [DecidableEq κ] {kf:lf->Option κ}
theorem RVD.val {C:Nat->Addr}{H:Hp}{d:lf}{k:κ}(F:bc1 kf)(hk:kf d=some k):∀ {l:List (lf×lf)} {kvs:List (κ×V)},RVD kf Γ C H l kvs->(lB d l=none/\av5 kvs k=none)\/∃ e v,lB d l=some e/\av5 kvs k=some v/\RV Γ C H e v/\e∈l.map (·.2)
 | [],kvs,h=>by
  have h:kvs=[]:=h
  subst h
  exact .inl ⟨rfl,rfl⟩
 | (a,e)::l,kvs,h=>by
  obtain⟨p,v,r,rfl,e2,G,J⟩:=h
  by_cases z:a=d
  .subst z
   rw[hk]at e2;cases e2
   exact .inr ⟨e,v,by unfold lB;rw[if_pos rfl],af9 rfl,G,by simp⟩
  .have zk:¬ p=k:=λ q=>z (F e2 (by rw[q];exact hk))
   have Y:lB d ((a,e)::l)=lB d l:=by
    conv=>lhs;unfold lB
    rw[if_neg z]
   rw[Y,ag0 (show ¬(p,v).1=k from zk)]
   rcases RVD.val F hk J with q|⟨e',v',Z,q2,q3,q4⟩
   .exact .inl q
   .exact .inr ⟨e',v',Z,q2,q3,by simp at q4 ⊢;exact .inr q4⟩
theorem RVD.repl {C:Nat->Addr}{H:Hp}{d e:lf}{k:κ}{v:V}(G:bc1 kf)(hk:kf d=some k)(hv:RV Γ C H e v):∀ {l:List (lf×lf)} {kvs:List (κ×V)},RVD kf Γ C H l kvs->RVD kf Γ C H (l.map λ p=>if p.1=d then(p.1,e)else p) (kvs.map λ F=>if F.1=k then(F.1,v)else F)
 | [],kvs,h=>by
  have h:kvs=[]:=h
  subst h;exact(rfl:([]:List (κ×V))=[])
 | (a,e0)::l,kvs,h=>by
  obtain⟨Y,v0,r,rfl,e2,Z,J⟩:=h
  rw[a9,a9]
  by_cases z:a=d
  .subst z
   rw[hk]at e2;cases e2
   rw[if_pos rfl,if_pos rfl]
   exact⟨k,v,_,rfl,hk,hv,RVD.repl G hk hv J⟩
  .have zk:¬ Y=k:=λ q=>z (G e2 (by rw[q];exact hk))
   rw[if_neg z,if_neg zk]
   exact⟨Y,v0,_,rfl,e2,Z,RVD.repl G hk hv J⟩
theorem RVD.snoc {C:Nat->Addr}{H:Hp}{d e:lf}{k:κ}{v:V}(G:bc1 kf)(hk:kf d=some k)(hv:RV Γ C H e v):∀ {l:List (lf×lf)} {kvs:List (κ×V)},RVD kf Γ C H l kvs->RVD kf Γ C H (l++[(d,e)]) (kvs++[(k,v)])
 | [],kvs,h=>by
  have h:kvs=[]:=h
  subst h;exact⟨k,v,[],rfl,hk,hv,rfl⟩
 | (a,e0)::l,kvs,h=>by
  obtain⟨F,v0,r,rfl,e2,p,z⟩:=h
  exact⟨F,v0,_,rfl,e2,p,RVD.snoc G hk hv z⟩
theorem RVD.put {C:Nat->Addr}{H:Hp}{d e:lf}{k:κ}{v:V}{l:List (lf×lf)}{kvs:List (κ×V)}(z:bc1 kf)(hk:kf d=some k)(hv:RV Γ C H e v)(h:RVD kf Γ C H l kvs):RVD kf Γ C H (lA d e l) (ak9 kvs k v):=by
 unfold lA ak9
 rw[ao3]
 rcases h.val z hk with⟨p,q2⟩|⟨e',v',p,q2,_⟩
 .rw[p,q2];exact h.snoc z hk hv
 .rw[p,q2];exact h.repl z hk hv
theorem RVD.get {C:Nat->Addr}{H:Hp}:∀ {l:List (lf×lf)} {kvs:List (κ×V)} {i:Nat} {d e:lf},RVD kf Γ C H l kvs->l[i]?=some (d,e)->∃ k v,kvs[i]?=some (k,v)/\kf d=some k/\RV Γ C H e v
 | [],_,_,_,_,_,h=>by cases h
 | (a,b)::l,kvs,0,d,e,h,q=>by
  obtain⟨k,v,r,rfl,e2,p,z⟩:=h
  cases q
  exact⟨k,v,rfl,e2,p⟩
 | (a,b)::l,kvs,i+1,d,e,h,q=>by
  obtain⟨k,v,r,rfl,e2,p,z⟩:=h
  exact RVD.get (i:=i) z (show l[i]?=some (d,e)from q)
theorem RVD.keys {C:Nat->Addr}{H:Hp}:∀ {l:List (lf×lf)} {kvs:List (κ×V)},RVD kf Γ C H l kvs->∀ kv∈kvs,∃ d,kf d=some kv.1
 | [],kvs,h,kv,hk=>by
  have h:kvs=[]:=h
  subst h;cases hk
 | (a,b)::l,kvs,h,kv,hk=>by
  obtain⟨k,v,r,rfl,e2,F,p⟩:=h
  rcases aH.mp hk with z|z
  .subst z;exact⟨a,e2⟩
  .exact RVD.keys p kv z
theorem RVD.length {C:Nat->Addr}{H:Hp}:∀ {l:List (lf×lf)} {kvs:List (κ×V)},RVD kf Γ C H l kvs->kvs.length=l.length
 | [],kvs,h=>by
  have h:kvs=[]:=h
  subst h;rfl
 | (a,e)::l,kvs,h=>by
  obtain⟨F,v,r,rfl,e2,z,p⟩:=h
  rw[aP,aP,RVD.length p]
end
theorem aF6 {n:Nat}{d e:lf}{l:List (lf×lf)}(h:(DV.O.dic l).bnd n=true)(hd:d.bnd n=true)(G:e.bnd n=true):(DV.O.dic (lA d e l)).bnd n=true:=by
 unfold ln at h ⊢
 rw[ag]at h ⊢
 obtain⟨J,Y⟩:=h
 have g1:=aa2.mp J
 have F:=aa2.mp Y
 unfold lA
 refine⟨aa2.mpr λ x hx=>?_,aa2.mpr λ x hx=>?_⟩
 .obtain⟨p,z,rfl⟩:=bf.mp hx
  split at z
  .obtain⟨q,hq,rfl⟩:=bf.mp z
   split
   .exact g1 _ (bw (f:=(·.1)) hq)
   .exact g1 _ (bw (f:=(·.1)) hq)
  .rcases aO.mp z with q|q
   .exact g1 _ (bw (f:=(·.1)) q)
   .rw[aR.mp q];exact hd
 .obtain⟨p,z,rfl⟩:=bf.mp hx
  split at z
  .obtain⟨q,hq,rfl⟩:=bf.mp z
   split
   .exact G
   .exact F _ (bw (f:=(·.2)) hq)
  .rcases aO.mp z with q|q
   .exact F _ (bw (f:=(·.2)) q)
   .rw[aR.mp q];exact G
theorem ba7 {n:Nat}{d e:lf}{l:List (lf×lf)}(h:(DV.O.dit l).bnd n=true)(hd:d.bnd n=true)(p:e.bnd n=true):(DV.O.dit (lA d e l)).bnd n=true:=aF6 h hd p
theorem af7 {f:lf->lf->Option Bool}{a b:lf}{l m:List lf}{z:Bool}(h:lC f (a::l) (b::m)=some z):∃ x y,f a b=some x/\lC f l m=some y/\z=(x&&y):=by
 unfold lC at h
 cases e1:f a b with
 | none=>rw[e1]at h;cases h
 | some x =>
  cases e2:lC f l m with
  | none=>rw[e1,e2]at h;cases h
  | some y=>rw[e1,e2]at h;exact⟨x,y,rfl,rfl,(av h).symm⟩
theorem aQ0 {f:lf->lf->Option Bool}:∀ {l m:List lf} {z:Bool},lC f l m=some z->∃ e:Nat->Bool,(∀ j d d',l[j]?=some d->m[j]?=some d'->f d d'=some (e j))/\((l.length==m.length)&&(aS (min l.length m.length)).all e)=z
 | [],[],z,h=>by
  unfold lC at h
  cases h
  exact⟨λ _=>true,λ j d d' h=>by simp at h,by simp⟩
 | [],b::m,z,h=>by
  unfold lC at h
  cases h
  exact⟨λ _=>true,λ j d d' h=>by simp at h,by simp⟩
 | a::l,[],z,h=>by
  unfold lC at h
  cases h
  exact⟨λ _=>true,λ j d d' G F=>by simp at F,by simp⟩
 | a::l,b::m,z,h=>by
  obtain⟨x,y,e1,e2,J⟩:=af7 h
  obtain⟨e,G,F⟩:=aQ0 e2
  refine⟨λ j=>match j with|0=>x|j+1=>e j,λ j d d' g1 p=>?_,?_⟩
  .cases j with
   | zero=>simp at g1 p;subst g1;subst p;exact e1
   | succ j=>exact G j d d' (by simpa using g1) (by simpa using p)
  .rw[aP,aP,show min (l.length+1) (m.length+1)=min l.length m.length+1 by omega,gg,bI,kF,J,<-F]
   have:((l.length+1==m.length+1)=(l.length==m.length)):=by
    by_cases q:l.length=m.length
    .simp[q]
    .have:¬ l.length+1=m.length+1:=by omega
     simp[q]
   rw[this]
   show((l.length==m.length)&&(x&&(aS _).all e))=_
   cases x<;>cases(l.length==m.length)<;>simp
section
variable {X:Cx} {pins:yA} {W:St} {H:Hp} {sh:af} {C:Nat->Addr} {s:lb}
theorem aj4 (I:Inv X pins W H sh){a:Addr}{p ys:List V}(h:H a=some (.lst p))(h':SqT X.K H a ys):False:=by
 rcases h' with(z|⟨o,z⟩)|⟨o,its,n,hk,_⟩
 .rw[h]at z;cases z
 .rw[h]at z;cases z
 .have:=(I.bs a o (I.mod.kin a o hk)).2
  rw[h]at this;cases this
theorem rv_two (I:Inv X pins W H sh)(hK:X.K=Γ.K)(R:Rp Γ C H s){a b:lf}{x:V}(J:RV Γ C H a x)(z:RV Γ C H b x)(n1:lE s a≠9)(F:lE s b≠9):a=b\/∃ l m p Y,a=.tup l/\b=.tup m/\x=.ref p/\RVL Γ C H l Y/\RVL Γ C H m Y:=by
 have G:∀ {r:Nat},lE s (.ref r)≠9->∃ l,s[r]?=some (.lst l):=λ {r} h=>by
  have h:(match s[r]? with|some (DV.O.lst l)=>4|_=>9:Nat)≠9:=h
  cases hs:s[r]? with
  | none=>rw[hs]at h;exact absurd rfl h
  | some o =>
   rw[hs]at h
   cases o with
   | lst l=>exact⟨l,rfl⟩
   | _=>exact absurd rfl h
 cases a with
 | non=>have e:=J.nonE;subst e;cases b with
  | non=>exact .inl rfl
  | bl _=>cases z.blE
  | int _=>cases z.intE
  | str _=>cases z.strE
  | tup _=>obtain⟨_,_,e,_⟩:=z.tupE;cases e
  | ref _=>cases z.refE
  | fn _=>exact absurd rfl F
  | clo _ _=>exact absurd rfl F
 | bl p=>have e:=J.blE;subst e;cases b with
  | non=>cases z.nonE
  | bl _=>cases z.blE;exact .inl rfl
  | int _=>cases z.intE
  | str _=>cases z.strE
  | tup _=>obtain⟨_,_,e,_⟩:=z.tupE;cases e
  | ref _=>cases z.refE
  | fn _=>exact absurd rfl F
  | clo _ _=>exact absurd rfl F
 | int p=>have e:=J.intE;subst e;cases b with
  | non=>cases z.nonE
  | bl _=>cases z.blE
  | int _=>cases z.intE;exact .inl rfl
  | str _=>cases z.strE
  | tup _=>obtain⟨_,_,e,_⟩:=z.tupE;cases e
  | ref _=>cases z.refE
  | fn _=>exact absurd rfl F
  | clo _ _=>exact absurd rfl F
 | str p=>have e:=J.strE;subst e;cases b with
  | non=>cases z.nonE
  | bl _=>cases z.blE
  | int _=>cases z.intE
  | str q =>
   have e':p.toArray=q.toArray:=Str.mk.inj (V.str.inj z.strE)
   have a0:p=q:=by simpa using congrArg jj e'
   subst a0;exact .inl rfl
  | tup _=>obtain⟨_,_,e,_⟩:=z.tupE;cases e
  | ref _=>cases z.refE
  | fn _=>exact absurd rfl F
  | clo _ _=>exact absurd rfl F
 | tup l =>
  obtain⟨p,Y,e,Z,d1⟩:=J.tupE;subst e;cases b with
  | non=>cases z.nonE
  | bl _=>cases z.blE
  | int _=>cases z.intE
  | str _=>cases z.strE
  | tup m =>
   obtain⟨p',ys,e,q2,d2⟩:=z.tupE
   cases e
   rw[<-hK]at Z q2
   rw[I.tuple_inj q2 Z]at d2
   exact .inr ⟨l,m,p,Y,rfl,rfl,rfl,d1,d2⟩
  | ref r =>
   cases z.refE
   obtain⟨m,hm⟩:=G F
   obtain⟨ys,hy,_⟩:=R.addr hm
   rw[<-hK]at Z
   exact(aj4 I hy Z).elim
  | fn _=>exact absurd rfl F
  | clo _ _=>exact absurd rfl F
 | ref r =>
  have e:=J.refE;subst e
  obtain⟨l,hl⟩:=G n1
  obtain⟨Y,hx,_⟩:=R.addr hl
  cases b with
  | non=>cases z.nonE
  | bl _=>cases z.blE
  | int _=>cases z.intE
  | str _=>cases z.strE
  | tup m =>
   obtain⟨p',ys,e,q2,d2⟩:=z.tupE
   cases e
   rw[<-hK]at q2
   exact(aj4 I hx q2).elim
  | ref r' =>
   obtain⟨m,hm⟩:=G F
   have e:C r=C r':=V.ref.inj z.refE
   rw[R.inj r r' _ _ hl hm rfl rfl e]
   exact .inl rfl
  | fn _=>exact absurd rfl F
  | clo _ _=>exact absurd rfl F
 | fn _=>exact absurd rfl n1
 | clo _ _=>exact absurd rfl n1
theorem qo {a b:lf}{z:Bool}(h:lG s a b=some z):m7 a b=some z\/(m7 a b=none/\mz (lE s a) (lE s b)=false/\z=false):=by
 unfold lG at h
 cases e:m7 a b with
 | some w=>rw[e]at h;exact .inl h
 | none =>
  rw[e]at h
  cases q:mz (lE s a) (lE s b)with
  | true=>rw[q]at h;cases h
  | false=>rw[q]at h;exact .inr ⟨rfl,rfl,(av h).symm⟩
theorem bg2 {a b:lf}{z:Bool}(h:m7 a b=some z):lE s a≠9/\lE s b≠9:=by
 cases a<;>cases b<;>first|(cases h;done)|(constructor<;>(intro z;cases z))
theorem ab7 {a b:lf}{z:Bool}(h:lG s a b=some z):lE s a≠9/\lE s b≠9:=by
 rcases qo h with h|⟨_,h,_⟩
 .exact bg2 h
 .unfold mz at h
  simp only[eR,beq_eq_false_iff_ne]at h
  exact⟨h.1.1,h.1.2⟩
theorem aw4 {a:lf}{z:Bool}(h:lG s a a=some z):z=true:=by
 rcases qo h with h|⟨_,h,_⟩
 .cases a<;>cases h<;>first|rfl|exact beq_self_eq_true _
 .unfold mz at h;simp at h
theorem aE8 (I:Inv X pins W H sh)(hK:X.K=Γ.K)(R:Rp Γ C H s):∀(n:Nat) (a b:lf) (x:V) (z:Bool),lu s n a b=some z->RV Γ C H a x->RV Γ C H b x->z=true:=by
 have J:∀(a b:lf) (x:V) (z:Bool),lG s a b=some z->RV Γ C H a x->RV Γ C H b x->z=true:=by
  intro a b x z h F G
  rcases rv_two I hK R F G (ab7 h).1 (ab7 h).2 with e|⟨l,m,_,_,rfl,rfl,_⟩
  .subst e;exact aw4 h
  .rcases qo h with h|⟨_,h,_⟩
   .cases h
   .unfold mz at h;simp[lE]at h
 intro n
 induction n with
 | zero=>intro a b x z h;unfold lu at h;exact J a b x z h
 | succ n ih =>
  have a1:∀(l m:List lf) (Y:List V) (z:Bool),lC (lu s n) l m=some z->RVL Γ C H l Y->RVL Γ C H m Y->z=true:=by
   intro l
   induction l with
   | nil =>
    intro m Y z h F G
    cases m with
    | nil=>unfold lC at h;exact(av h).symm
    | cons b m=>obtain⟨x,r,e,_⟩:=G.uncons;rw[F.unnil]at e;cases e
   | cons a l ihl =>
    intro m Y z h F G
    cases m with
    | nil=>obtain⟨x,r,e,_⟩:=F.uncons;rw[G.unnil]at e;cases e
    | cons b m =>
     obtain⟨p,q,e1,e2,ez⟩:=af7 h
     obtain⟨v,r,rfl,g1,g2⟩:=F.uncons
     obtain⟨v',r',e,g3,g4⟩:=G.uncons
     cases e
     rw[ez,ih a b v p e1 g1 g3,ihl m r q e2 g2 g4];rfl
  intro a b x z h F G
  unfold lu at h
  split at h
  .rename_i l m
   obtain⟨a,Y,rfl,q1,d1⟩:=F.tupE
   obtain⟨b,ys,e,q2,Z⟩:=G.tupE
   cases e
   rw[<-hK]at q1 q2
   rw[I.tuple_inj q2 q1]at Z
   exact a1 l m Y z h d1 Z
  .rename_i p q
   split at h
   .rename_i l m hl hm
    obtain⟨Y,e1,d1⟩:=R.addr hl
    obtain⟨ys,e2,Z⟩:=R.addr hm
    have e:=F.refE.symm.trans G.refE
    have e':C p=C q:=V.ref.inj e
    rw[e',e2]at e1
    have e3:ys=Y:=by injection (av e1)
    subst e3
    split at h
    .exact a1 l m ys z h d1 Z
    .rename_i a0;exact absurd (d1.length.symm.trans Z.length) a0
   .cases h
  .exact J a b x z h F G
end
variable {Γ:Gm}
inductive Vw (sh:af):Nat->Value->Prop where
 | non:Vw sh 0 .none
 | bl (b:Bool):Vw sh 1 (.bool b)
 | int (i:Int) (t:Tok):Vw sh 1 (.int i t)
 | str (x:Str) (t:Tok):Vw sh 2 (.str x t)
 | tup {l:Addr} {items:yK} (h:sh.heap.IsTuple l items):Vw sh 3 (.ref l)
 | lst {l:Addr} {items:yK} (h:sh.heap.IsList l items):Vw sh 4 (.ref l)
theorem Vw.eq {A:aQ}{sh:af}{k z:Nat}{u v:Value}(a:Vw sh k u)(b:Vw sh z v)(p:k≠z)(hu:A.units<cLine):gJ A sh u v false:=by
 cases a with
 | non=>cases b with
  | non=>exact absurd rfl p
  | bl b=>exact SeqAt.EqAt.none_bool b
  | int i t=>exact iB i t
  | str x t=>exact iC x t
  | tup h=>exact gQ h hu
  | lst h=>exact SeqAt.EqAt.none_list h hu
 | bl a=>cases b with
  | non=>exact SeqAt.EqAt.bool_none a
  | bl b=>exact absurd rfl p
  | int i t=>exact absurd rfl p
  | str x t=>exact SeqAt.EqAt.bool_str a x t
  | tup h=>exact SeqAt.EqAt.bool_tuple a h hu
  | lst h=>exact SeqAt.EqAt.bool_list a h hu
 | int a q=>cases b with
  | non=>exact iD a q
  | bl b=>exact absurd rfl p
  | int i t=>exact absurd rfl p
  | str x t=>exact iV a q x t
  | tup h=>exact g9 a q h hu
  | lst h=>exact SeqAt.EqAt.int_list a q h hu
 | str a q=>cases b with
  | non=>exact iE a q
  | bl b=>exact SeqAt.EqAt.str_bool a q b
  | int i t=>exact iW a q i t
  | str x t=>exact absurd rfl p
  | tup h=>exact hC a q h hu
  | lst h=>exact SeqAt.EqAt.str_list a q h hu
 | tup g=>cases b with
  | non=>exact gS g hu
  | bl b=>exact SeqAt.EqAt.tuple_bool b g hu
  | int i t=>exact hJ i t g hu
  | str x t=>exact hV x t g hu
  | tup h=>exact absurd rfl p
  | lst h=>exact SeqAt.EqAt.tuple_list g h hu
 | lst g=>cases b with
  | non=>exact SeqAt.EqAt.list_none g hu
  | bl b=>exact SeqAt.EqAt.list_bool b g hu
  | int i t=>exact SeqAt.EqAt.list_int i t g hu
  | str x t=>exact SeqAt.EqAt.list_str x t g hu
  | tup h=>exact SeqAt.EqAt.list_tuple g h hu
  | lst h=>exact absurd rfl p
theorem Vw.rc {A:aQ}{sh:af}{k z:Nat}{u v:Value}(a:Vw sh k u)(b:Vw sh z v)(p:k≠z)(hu:A.units<cLine):k9 A sh u v false:=by
 cases a with
 | non=>cases b with
  | non=>exact absurd rfl p
  | bl b=>exact SeqAt.RcAt.none_bool b
  | int i t=>exact SeqAt.RcAt.none_int i t
  | str x t=>exact SeqAt.RcAt.none_str x t
  | tup h=>exact SeqAt.RcAt.none_tuple h hu
  | lst h=>exact SeqAt.RcAt.none_list h hu
 | bl a=>cases b with
  | non=>exact SeqAt.RcAt.bool_none a
  | bl b=>exact absurd rfl p
  | int i t=>exact absurd rfl p
  | str x t=>exact SeqAt.RcAt.bool_str a x t
  | tup h=>exact SeqAt.RcAt.bool_tuple a h hu
  | lst h=>exact SeqAt.RcAt.bool_list a h hu
 | int a q=>cases b with
  | non=>exact SeqAt.RcAt.int_none a q
  | bl b=>exact absurd rfl p
  | int i t=>exact absurd rfl p
  | str x t=>exact SeqAt.RcAt.int_str a q x t
  | tup h=>exact SeqAt.RcAt.int_tuple a q h hu
  | lst h=>exact SeqAt.RcAt.int_list a q h hu
 | str a q=>cases b with
  | non=>exact SeqAt.RcAt.str_none a q
  | bl b=>exact SeqAt.RcAt.str_bool a q b
  | int i t=>exact SeqAt.RcAt.str_int a q i t
  | str x t=>exact absurd rfl p
  | tup h=>exact SeqAt.RcAt.str_tuple a q h hu
  | lst h=>exact SeqAt.RcAt.str_list a q h hu
 | tup g=>cases b with
  | non=>exact SeqAt.RcAt.tuple_none g hu
  | bl b=>exact SeqAt.RcAt.tuple_bool b g hu
  | int i t=>exact SeqAt.RcAt.tuple_int i t g hu
  | str x t=>exact SeqAt.RcAt.tuple_str x t g hu
  | tup h=>exact absurd rfl p
  | lst h=>exact SeqAt.RcAt.tuple_list g h hu
 | lst g=>cases b with
  | non=>exact SeqAt.RcAt.list_none g hu
  | bl b=>exact SeqAt.RcAt.list_bool b g hu
  | int i t=>exact SeqAt.RcAt.list_int i t g hu
  | str x t=>exact SeqAt.RcAt.list_str x t g hu
  | tup h=>exact SeqAt.RcAt.list_tuple g h hu
  | lst h=>exact absurd rfl p
theorem Vw.ne {A:aQ}{sh:af}{k z:Nat}{u v:Value}(a:Vw sh k u)(b:Vw sh z v)(p:k≠z)(hu:A.units<cLine):kL A sh u v true:=by
 cases a with
 | non=>cases b with
  | non=>exact absurd rfl p
  | bl b=>exact SeqAt.RcNeAt.none_bool b
  | int i t=>exact SeqAt.RcNeAt.none_int i t
  | str x t=>exact SeqAt.RcNeAt.none_str x t
  | tup h=>exact SeqAt.RcNeAt.none_tuple h hu
  | lst h=>exact SeqAt.RcNeAt.none_list h hu
 | bl a=>cases b with
  | non=>exact SeqAt.RcNeAt.bool_none a
  | bl b=>exact absurd rfl p
  | int i t=>exact absurd rfl p
  | str x t=>exact SeqAt.RcNeAt.bool_str a x t
  | tup h=>exact SeqAt.RcNeAt.bool_tuple a h hu
  | lst h=>exact SeqAt.RcNeAt.bool_list a h hu
 | int a q=>cases b with
  | non=>exact SeqAt.RcNeAt.int_none a q
  | bl b=>exact absurd rfl p
  | int i t=>exact absurd rfl p
  | str x t=>exact SeqAt.RcNeAt.int_str a q x t
  | tup h=>exact SeqAt.RcNeAt.int_tuple a q h hu
  | lst h=>exact SeqAt.RcNeAt.int_list a q h hu
 | str a q=>cases b with
  | non=>exact SeqAt.RcNeAt.str_none a q
  | bl b=>exact SeqAt.RcNeAt.str_bool a q b
  | int i t=>exact SeqAt.RcNeAt.str_int a q i t
  | str x t=>exact absurd rfl p
  | tup h=>exact SeqAt.RcNeAt.str_tuple a q h hu
  | lst h=>exact SeqAt.RcNeAt.str_list a q h hu
 | tup g=>cases b with
  | non=>exact SeqAt.RcNeAt.tuple_none g hu
  | bl b=>exact SeqAt.RcNeAt.tuple_bool b g hu
  | int i t=>exact SeqAt.RcNeAt.tuple_int i t g hu
  | str x t=>exact SeqAt.RcNeAt.tuple_str x t g hu
  | tup h=>exact absurd rfl p
  | lst h=>exact SeqAt.RcNeAt.tuple_list g h hu
 | lst g=>cases b with
  | non=>exact SeqAt.RcNeAt.list_none g hu
  | bl b=>exact SeqAt.RcNeAt.list_bool b g hu
  | int i t=>exact SeqAt.RcNeAt.list_int i t g hu
  | str x t=>exact SeqAt.RcNeAt.list_str x t g hu
  | tup h=>exact SeqAt.RcNeAt.list_tuple g h hu
  | lst h=>exact absurd rfl p
theorem bL3 (a b:List Nat):((⟨a.toArray⟩:Str)==⟨b.toArray⟩)=(a==b):=by
 by_cases e:a=b
 .subst e;simp
 .have:(⟨a.toArray⟩:Str)≠⟨b.toArray⟩:=λ q=>e (by simpa using congrArg (λ z=>z.cps.toList) q)
  rw[beq_eq_false_iff_ne.mpr this,beq_eq_false_iff_ne.mpr e]
structure Cmp (A:aQ)(sh:af)(u v:Value)(z:Bool):Prop where
 rc:k9 A sh u v z
 ne:kL A sh u v (!z)
section
variable {X:Cx} {pins:yA} {W:St} {H:Hp} {sh:af} {C:Nat->Addr} {s:lb}
theorem bQ5 (I:Inv X pins W H sh)(z:X.K=Γ.K)(R:Rp Γ C H s){d:lf}{x:V}{u:Value}(h:RV Γ C H d x)(r:RelV x u)(hk:lE s d≠9):Vw sh (lE s d) u:=by
 cases d with
 | non=>have e:=h.nonE;subst e;cases r;exact .non
 | bl b=>have e:=h.blE;subst e;cases r;exact .bl b
 | int i=>have e:=h.intE;subst e;obtain⟨t,rfl⟩:=r;exact .int i t
 | str y=>have e:=h.strE;subst e;obtain⟨t,rfl⟩:=r;exact .str _ t
 | tup l =>
  obtain⟨a,p,e,q,_⟩:=h.tupE
  subst e;cases r
  rw[<-z]at q
  obtain⟨its,_,t,_⟩:=I.tuple q
  exact .tup t
 | ref n =>
  have e:=h.refE;subst e;cases r
  have hk:(match s[n]? with|some (DV.O.lst l)=>4|_=>9:Nat)≠9:=hk
  show Vw sh (match s[n]? with|some (DV.O.lst l)=>4|_=>9:Nat) _
  cases hs:s[n]? with
  | none=>rw[hs]at hk;exact absurd rfl hk
  | some o =>
   rw[hs]at hk
   cases o with
   | lst l =>
    obtain⟨p,e,_⟩:=R.addr hs
    obtain⟨its,_,t,_⟩:=I.list (SqL.of e)
    exact .lst t.isList
   | _=>exact absurd rfl hk
 | fn _=>exact absurd rfl hk
 | clo _ _=>exact absurd rfl hk
theorem ar8 (I:Inv X pins W H sh)(J:X.K=Γ.K)(R:Rp Γ C H s){a b:lf}{x y:V}{u v:Value}{A:aQ}{z:Bool}(h:lG s a b=some z)(p:RV Γ C H a x)(F:RV Γ C H b y)(r1:RelV x u)(G:RelV y v)(hu:A.units<cLine) :
  gJ A sh u v z/\Cmp A sh u v z:=by
 rcases qo h with h|⟨_,hn,hz⟩
 .cases a<;>cases b<;>try cases h
  .cases p.nonE;cases F.nonE;cases r1;cases G
   exact⟨dE _,SeqAt.RcAt.none_none,SeqAt.RcNeAt.none_none⟩
  .cases p.blE;cases F.blE;cases r1;cases G
   exact⟨SeqAt.EqAt.bool_bool _ _,SeqAt.RcAt.bool_bool _ _,SeqAt.RcNeAt.bool_bool _ _⟩
  .cases p.blE;cases F.intE;cases r1;obtain⟨t',rfl⟩:=G
   exact⟨SeqAt.EqAt.bool_int _ _ _,SeqAt.RcAt.bool_int _ _ _,SeqAt.RcNeAt.bool_int _ _ _⟩
  .cases p.intE;cases F.blE;obtain⟨t,rfl⟩:=r1;cases G
   exact⟨SeqAt.EqAt.int_bool _ _ _,SeqAt.RcAt.int_bool _ _ _,SeqAt.RcNeAt.int_bool _ _ _⟩
  .cases p.intE;cases F.intE;obtain⟨t,rfl⟩:=r1;obtain⟨t',rfl⟩:=G
   exact⟨SeqAt.EqAt.int_int _ _ _ _,SeqAt.RcAt.int_int _ _ _ _,SeqAt.RcNeAt.int_int _ _ _ _⟩
  .cases p.strE;cases F.strE;obtain⟨t,rfl⟩:=r1;obtain⟨t',rfl⟩:=G
   rw[<-bL3]
   exact⟨SeqAt.EqAt.str_str _ _ _ _,SeqAt.RcAt.str_str _ _ _ _,SeqAt.RcNeAt.str_str _ _ _ _⟩
 .subst hz
  unfold mz at hn
  simp only[eR,beq_eq_false_iff_ne]at hn
  have w1:=bQ5 I J R p r1 hn.1.1
  have w2:=bQ5 I J R F G hn.1.2
  exact⟨w1.eq w2 hn.2 hu,w1.rc w2 hn.2 hu,w1.ne w2 hn.2 hu⟩
theorem aR6 (I:Inv X pins W H sh)(hK:X.K=Γ.K)(R:Rp Γ C H s):∀(n:Nat) (a b:lf) (x y:V) (u v:Value) (A:aQ) (z:Bool),lu s n a b=some z->RV Γ C H a x->RV Γ C H b y->RelV x u->RelV y v->Room n A ->
  gJ A sh u v z/\Cmp A sh u v z:=by
 intro n
 induction n with
 | zero=>intro a b x y u v A z h h1 h2 r1 r2 hr;unfold lu at h;exact ar8 I hK R h h1 h2 r1 r2 hr.units0
 | succ n ih =>
  have F:∀ {l m:List lf} {xs ys:List V} {its its':yH} {A:aQ} {e:Nat->Bool},RVL Γ C H l xs->RVL Γ C H m ys->Vals xs its->Vals ys its'->Room n A->(∀ j d d',l[j]?=some d->m[j]?=some d'->lu s n d d'=some (e j)) ->
    ∀ j (h1:j<its.toArray.size) (h2:j<its'.toArray.size),gJ A sh its.toArray[j] its'.toArray[j] (e j):=by
   intro l m xs ys its its' A e d1 Y v1 Z hr he j h1 h2
   have l1:=v1.length
   have l2:=Z.length
   have e1:=d1.length
   have e2:=Y.length
   have a2:j<its.length:=by simpa using h1
   have a3:j<its'.length:=by simpa using h2
   have hj:j<l.length:=by omega
   have a1:j<m.length:=by omega
   obtain⟨x,ex,dx⟩:=d1.get (ah hj)
   obtain⟨y,ey,dy⟩:=Y.get (ah a1)
   obtain⟨u,eu,ru⟩:=v1.get ex
   obtain⟨w,ew,a4⟩:=Z.get ey
   have g1:its.toArray[j]=u:=by
    have:=ah a2
    rw[eu]at this
    simpa using(av this).symm
   have g2:its'.toArray[j]=w:=by
    have:=ah a3
    rw[ew]at this
    simpa using(av this).symm
   rw[g1,g2]
   exact(ih _ _ x y u w A (e j) (he j _ _ (ah hj) (ah a1)) dx dy ru a4 hr).1
  intro a b x y u v A z h h1 h2 r1 r2 hr
  have hz:=h
  unfold lu at h
  split at h
  .rename_i l m
   obtain⟨p,xs,ex,q1,d1⟩:=id h1.tupE
   obtain⟨q,ys,ey,q2,Y⟩:=id h2.tupE
   subst ex;subst ey
   cases r1;cases r2
   rw[<-hK]at q1 q2
   obtain⟨its,v1,t1,_⟩:=I.tuple q1
   obtain⟨its',Z,t2,_⟩:=I.tuple q2
   obtain⟨e,he,J⟩:=aQ0 h
   have l1:=v1.length
   have l2:=Z.length
   have e1:=d1.length
   have e2:=Y.length
   have sz:((aS (min its.toArray.size its'.toArray.size)).all e&&its.toArray.size==its'.toArray.size)=z:=by
    rw[<-J,Bool.and_comm,show its.toArray.size=l.length by simp;omega,show its'.toArray.size=m.length by simp;omega]
   have key:=jf (A:=A) (s:=sh) (e:=e) t1 t2 hr.units0 (F d1 Y v1 Z hr.in1 he)
   have G:=SeqAt.RcNeAt.tuples (A:=A) (s:=sh) (e:=e) t1 t2 hr.units0 (F d1 Y v1 Z hr.in1 he)
   rw[sz]at key G
   refine⟨?_,key,G⟩
   by_cases hab:p=q
   .subst hab
    rw[aE8 I hK R _ _ _ _ _ hz h1 h2]
    exact dE _
   .exact fi hab key
  .rename_i p q
   split at h
   .rename_i l m hl hm
    obtain⟨xs,e1,d1⟩:=R.addr hl
    obtain⟨ys,e2,Y⟩:=R.addr hm
    have ex:=h1.refE
    have ey:=h2.refE
    subst ex;subst ey
    cases r1;cases r2
    obtain⟨its,v1,t1,_⟩:=I.list (SqL.of e1)
    obtain⟨its',Z,t2,_⟩:=I.list (SqL.of e2)
    have l1:=v1.length
    have l2:=Z.length
    have c1:=d1.length
    have c2:=Y.length
    have fin:Cmp A sh (.ref (C p)) (.ref (C q)) z:=by
     split at h
     .rename_i a0
      obtain⟨e,he,J⟩:=aQ0 h
      have sz:(aS its.toArray.size).all e=z:=by
       rw[<-J,show its.toArray.size=l.length by simp;omega,a0]
       simp
      have key:=SeqAt.RcAt.lists (A:=A) (s:=sh) (e:=e) t1.isList t2.isList (by simp;omega) hr.units0 (F d1 Y v1 Z hr.in1 he)
      have G:=SeqAt.RcNeAt.lists (A:=A) (s:=sh) (e:=e) t1.isList t2.isList (by simp;omega) hr.units0 (F d1 Y v1 Z hr.in1 he)
      rw[sz]at key G
      exact⟨key,G⟩
     .rename_i a0
      cases h
      have hs:(its.toArray.size != its'.toArray.size)=true:=by simp;omega
      exact⟨SeqAt.RcAt.lists_lengths t1.isList t2.isList hs hr.units0,SeqAt.RcNeAt.lists_lengths t1.isList t2.isList hs hr.units0⟩
    refine⟨?_,fin⟩
    by_cases hab:C p=C q
    .rw[aE8 I hK R _ _ _ _ _ hz RV.refI (by rw[hab];exact RV.refI),hab]
     exact dE _
    .exact fi hab fin.rc
   .cases h
  .exact ar8 I hK R h h1 h2 r1 r2 hr.units0
end
variable {Γ:Gm} {X:Cx}
noncomputable def bT2:nq->Operator
 | .add=>.Add|.sub=>.Sub|.mul=>.Mult|.fdiv=>.FloorDiv|.mod=>.Mod|.pow=>.Pow|.shl=>.LShift|.shr=>.RShift|.band=>.BitAnd|.bor=>.BitOr
noncomputable def bs4:m8->CmpOp
 | .eq=>.Eq|.ne=>.NotEq|.lt=>.Lt|.le=>.LtE|.gt=>.Gt|.ge=>.GtE|.isin=>.In|.notin=>.NotIn
def rOp (Γ:Gm)(f:lf->lf->lb->lj lf):R2:=λ x y H Q=>∃ C s a b d s',Rp Γ C H s/\RV Γ C H a x/\RV Γ C H b y/\a.bnd s.length=true/\b.bnd s.length=true/\f a b s=.ok d s'/\ab2 Γ C s H d s' Q
theorem zG {d e:lf}{s t:lb}(h:m9 d s=.ok e t):d=e/\s=t:=by
 unfold m9 at h
 cases h
 exact⟨rfl,rfl⟩
theorem zW {o:lI}{e:lf}{s t:lb}(h:lZ o s=.ok e t):e=.ref s.length/\t=s++[o]:=by
 unfold lZ at h
 cases h
 exact⟨rfl,rfl⟩
theorem aM5 (a b:List Nat):(⟨a.toArray⟩:Str)++⟨b.toArray⟩=⟨(a++b).toArray⟩:=by
 show Str.append _ _=_
 unfold Str.append
 simp
theorem zH:ls<=aG:=by rw[dN];decide
theorem br5:OpR X (bQ .Mult) (rI (λ i j=>DV.mulOk i j=true) λ i j=>.int (i*j)):=opI λ i j _ _ _ _ _ hc q=>mul_int q (by
 unfold DV.mulOk at hc
 simp only[bh,ag,decide_eq_true_eq]at hc
 rcases hc with(h|h)|⟨p,z⟩
 .exact bQ7.ok (.inl (by omega))
 .exact bQ7.ok (.inr (by omega))
 .unfold DV.BIG at p z
  exact IntMulOk.of_le (m:=60000) (n:=60000) (intBits_le_iff.mpr p) (intBits_le_iff.mpr z) (by decide))
theorem aB1 (l:List Nat):∀(n:Nat) (h:Array Nat),(aq n l.toArray).foldl (·++·) h=h++(lD n l).toArray
 | 0,h=>by simp[lD]
 | n+1,h=>by
  rw[bE,dH,aB1 l n]
  simp[lD,iY]
theorem bs5 (l:List Nat):lD 1 l=l:=by simp[lD]
theorem aM9:∀ n,lD n []=[]
 | 0=>rfl
 | n+1=>by simp[lD,aM9 n]
theorem rep_len (l:List Nat):∀ n,(lD n l).length=l.length*n
 | 0=>by simp[lD]
 | n+1=>by simp[lD,rep_len l n,jP];omega
theorem bz5:OpR X (bQ .Mult) (λ x y H Q=>∃(l:List Nat) (n:Int),x=.str ⟨l.toArray⟩/\y=.int n/\(0<=n/\n<=1000000/\l.length*n.toNat<=ls)/\Q (.str ⟨(lD n.toNat l).toArray⟩) H):=by
 intro F s W H x y v u Q I G Z h
 obtain⟨l,n,rfl,rfl,⟨h0,J,h2⟩,q⟩:=h
 obtain⟨t,rfl⟩:=G
 obtain⟨t',rfl⟩:=Z
 have p:(⟨l.toArray⟩:Str).length=l.length:=by show l.toArray.size=_;simp
 have hL:=zH
 have Y:=ak0
 refine SB.mul ⟨?_,λ hn _=>?_,λ hn _=>?_⟩ λ t2 k=>?_
 .rw[decide_eq_false (by omega),decide_eq_false (by omega)];rfl
 .rw[p]
  have z:1<=n:=by omega
  intro a0
  have h3:(l.length:Int)*n<=1000000:=by
   have:((l.length*n.toNat:Nat):Int)<=(ls:Nat):=Int.ofNat_le.mpr h2
   rw[jV,e8 h0]at this
   have e:((ls:Nat):Int)=1000000:=by unfold ls;rfl
   omega
  have h4:(l.length:Int)<=1000000:=by
   have:(l.length:Int)*1<=(l.length:Int)*n:=eS z (by omega)
   omega
  have h5:(1000000:Int)<=(2^63 - 1) / n:=by
   rw[Int.le_ediv_iff_mul_le (by omega)]
   have:(1000000:Int)*n<=1000000*1000000:=eS J (by omega)
   omega
  omega
 .rw[p]
  unfold ku
  exact decide_eq_false (by omega)
 .have e:Txt.mul ⟨l.toArray⟩ n=⟨(lD n.toNat l).toArray⟩:=by
   unfold Txt.mul
   split
   .have:n.toNat=0:=by omega
    rw[this];rfl
   .split
    .rename_i hc
     rw[bh]at hc
     rcases hc with hc|hc
     .have:n=1:=by simpa using hc
      subst this
      show(⟨l.toArray⟩:Str)=⟨(lD 1 l).toArray⟩
      rw[bs5]
     .have:l=[]:=by
       have:=eq_of_beq hc
       rw[p]at this
       exact cV.mp this
      subst this
      rw[aM9]
    .show(⟨(aq n.toNat l.toArray).foldl (·++·) #[]⟩:Str)=_
     rw[aB1];simp
  rw[e]
  exact⟨.str _,H,I.tok _,⟨_,rfl⟩,q⟩
theorem ah1 {n:Nat}{l:List lf}(h:li n l=true):∀ k,li n (lU k l)=true
 | 0=>rfl
 | k+1=>zJ h (ah1 h k)
theorem RVL.repD {C:Nat->Addr}{H:Hp}{l:List lf}{p:List V}(h:RVL Γ C H l p):∀ k,RVL Γ C H (lU k l) (ak3 k p)
 | 0=>RVL.nil
 | k+1=>h.append (RVL.repD h k)
theorem at1 {α:Type}(h:List α):∀ k,ak3 k h=(aq k h).flatten
 | 0=>rfl
 | k+1=>by rw[bE,cK,<-at1 h k];rfl
theorem bf9 {x y:Int}(hx:0<=x)(hy:0<=y):fW x y=((x.toNat ||| y.toNat:Nat):Int):=by
 have nn:∀ z:Int,d8 (d8 z)=z:=λ z=>by unfold d8;omega
 unfold fW
 rw[bitAnd_nn (by unfold d8;omega) (by unfold d8;omega),nn,nn,nn]
theorem bL6 (hK:X.K=Γ.K)(op:nq):OpR X (bQ (bT2 op)) (rOp Γ (DV.z0 op)):=by
 intro G s W H x y v u Q I Y Z h
 obtain⟨C,st,a,b,d,a0,R,ha,hb,na,nb,F,q⟩:=h
 cases op with
 | add =>
  cases a with
  | int a =>
   cases b with
   | int b =>
    change(m9 _) st=_ at F
    obtain⟨rfl,rfl⟩:=zG F
    have ex:=ha.intE;have J:=hb.intE;subst ex;subst J
    exact bQ0 G s W H _ _ v u Q I Y Z ⟨_,_,rfl,rfl,q.here R rfl RV.intI⟩
   | _=>exact fb F
  | str a =>
   cases b with
   | str b =>
    change(if _ then _ else _:mw lf) st=_ at F
    split at F
    .rename_i hl
     obtain⟨rfl,rfl⟩:=zG F
     have ex:=ha.strE;have J:=hb.strE;subst ex;subst J
     refine aL4 G s W H _ _ v u Q I Y Z ⟨_,_,rfl,rfl,?_,?_⟩
     .show a.toArray.size+b.toArray.size<=_
      simp only[aw]
      exact ak hl zH
     .rw[aM5];exact q.here R rfl (RV.strI (by rw[ar];exact hl))
    .exact fb F
   | _=>exact fb F
  | tup a =>
   cases b with
   | tup b =>
    change(if _ then _ else _:mw lf) st=_ at F
    split at F
    .rename_i hl
     obtain⟨rfl,rfl⟩:=zG F
     obtain⟨p,xs,⟨rfl,z1⟩,h1,d1⟩:=ha.tupZ
     obtain⟨p',ys,⟨rfl,z2⟩,h2,d2⟩:=hb.tupZ
     refine bp1 hK G s W H _ _ v u Q I Y Z ⟨p,p',xs,ys,rfl,rfl,h1,h2,?_,λ t H' e ht hn=>?_⟩
     .rw[d1.length,d2.length];exact ak hl zH
     .obtain⟨g,r'⟩:=R.same e
      unfold lr at na nb
      refine q _ _ _ g (ai _) (by unfold lr;exact zJ na nb) (RV.tupC ht (λ z=>?_) ((RVL.mono g _ _ na d1).append (RVL.mono g _ _ nb d2))) r'
      rcases hn with hn|⟨rfl,rfl⟩|⟨rfl,rfl⟩
      .exact hn
      .rw[d2.tonil,aN]at z;rw[aN];exact e _ _ (z1 z)
      .rw[d1.tonil]at z;exact e _ _ (z2 z)
    .exact fb F
   | _=>exact fb F
  | ref a =>
   cases b with
   | ref b =>
    change(match st[a]?,st[b]? with|some (DV.O.lst l),some (DV.O.lst m)=>if l.length+m.length<=ls then lZ (.lst (l++m)) st else .bad|_,_=>.bad:lj lf)=_ at F
    split at F
    .rename_i l m h1 h2
     split at F
     .rename_i hl
      obtain⟨rfl,rfl⟩:=zW F
      obtain⟨xs,e1,d1⟩:=R.addr h1
      obtain⟨ys,e2,d2⟩:=R.addr h2
      have ex:=ha.refE;have J:=hb.refE;subst ex;subst J
      have b1:=R.wf _ _ h1
      have b2:=R.wf _ _ h2
      unfold ln at b1 b2
      refine bM8 G s W H _ _ v u Q I Y Z ⟨C a,C b,xs,ys,rfl,rfl,e1,e2,?_,λ p hp=>?_⟩
      .rw[d1.length,d2.length];exact ak hl zH
      .exact q.alloc R (d1.append d2) (zJ b1 b2) hp
     .exact fb F
    .exact fb F
   | _=>exact fb F
  | _=>exact fb F
 | sub =>
  cases a with
  | int a =>
   cases b with
   | int b =>
    change(m9 _) st=_ at F
    obtain⟨rfl,rfl⟩:=zG F
    have ex:=ha.intE;have J:=hb.intE;subst ex;subst J
    exact bH8 G s W H _ _ v u Q I Y Z ⟨_,_,rfl,rfl,q.here R rfl RV.intI⟩
   | _=>exact fb F
  | _=>exact fb F
 | mul =>
  cases a with
  | int a =>
   cases b with
   | int b =>
    change(if _ then _ else _:mw lf) st=_ at F
    split at F
    .rename_i hc
     obtain⟨rfl,rfl⟩:=zG F
     have ex:=ha.intE;have J:=hb.intE;subst ex;subst J
     exact br5 G s W H _ _ v u Q I Y Z ⟨_,_,rfl,rfl,hc,q.here R rfl RV.intI⟩
    .exact fb F
   | _=>exact fb F
  | str a =>
   cases b with
   | int b =>
    change(if _ then _ else _:mw lf) st=_ at F
    split at F
    .rename_i hc
     obtain⟨rfl,rfl⟩:=zG F
     have ex:=ha.strE;have J:=hb.intE;subst ex;subst J
     exact bz5 G s W H _ _ v u Q I Y Z ⟨_,_,rfl,rfl,hc,q.here R rfl (RV.strI (by rw[rep_len];exact hc.2.2))⟩
    .exact fb F
   | _=>exact fb F
  | tup a =>
   cases b with
   | int b =>
    change(if _ then _ else _:mw lf) st=_ at F
    split at F
    .rename_i hc
     obtain⟨rfl,rfl⟩:=zG F
     obtain⟨p,xs,⟨rfl,z1⟩,h1,d1⟩:=ha.tupZ
     have J:=hb.intE;subst J
     refine bz4 hK G s W H _ _ v u Q I Y Z ⟨p,xs,_,rfl,rfl,h1,⟨hc.1,hc.2.1,by rw[d1.length];exact hc.2.2⟩,λ t H' e ht hn=>?_⟩
     obtain⟨g,r'⟩:=R.same e
     unfold lr at na
     refine q _ _ _ g (ai _) (by unfold lr;exact ah1 na _) (RV.tupC ht (λ z=>?_) (RVL.repD (RVL.mono g _ _ na d1) _)) r'
     rcases hn with hn|⟨rfl,ex⟩
     .exact hn
     .rw[ex];exact e _ _ (z1 (bq2 z))
    .exact fb F
   | _=>exact fb F
  | ref a =>
   cases b with
   | int b =>
    change(match st[a]? with|some (DV.O.lst l)=>if 0<=b/\b<=1000000/\l.length*b.toNat<=ls then lZ (.lst (lU b.toNat l)) st else .bad|_=>.bad:lj lf)=_ at F
    split at F
    .rename_i l h1
     split at F
     .rename_i hc
      obtain⟨rfl,rfl⟩:=zW F
      obtain⟨xs,e1,d1⟩:=R.addr h1
      have ex:=ha.refE;have J:=hb.intE;subst ex;subst J
      have b1:=R.wf _ _ h1
      unfold ln at b1
      refine bN3 G s W H _ _ v u Q I Y Z ⟨C a,b,xs,rfl,rfl,e1,by omega,by omega,?_,λ p hp=>?_⟩
      .rw[d1.length];exact ak hc.2.2 zH
      .rw[<-at1];exact q.alloc R (RVL.repD d1 _) (ah1 b1 _) hp
     .exact fb F
    .exact fb F
   | _=>exact fb F
  | _=>exact fb F
 | fdiv =>
  cases a with
  | int a =>
   cases b with
   | int b =>
    change(if _ then _ else _:mw lf) st=_ at F
    split at F
    .rename_i hc
     obtain⟨rfl,rfl⟩:=zG F
     have ex:=ha.intE;have J:=hb.intE;subst ex;subst J
     refine ba6 G s W H _ _ v u Q I Y Z ⟨_,_,rfl,rfl,⟨hc.1,?_⟩,q.here R rfl RV.intI⟩
     have:=hc.2
     unfold DV.DIVL at this
     simpa using this
    .exact fb F
   | _=>exact fb F
  | _=>exact fb F
 | mod =>
  cases a with
  | int a =>
   cases b with
   | int b =>
    change(if _ then _ else _:mw lf) st=_ at F
    split at F
    .rename_i hc
     obtain⟨rfl,rfl⟩:=zG F
     have ex:=ha.intE;have J:=hb.intE;subst ex;subst J
     exact bG6 G s W H _ _ v u Q I Y Z ⟨_,_,rfl,rfl,hc,q.here R rfl RV.intI⟩
    .exact fb F
   | _=>exact fb F
  | _=>exact fb F
 | pow =>
  cases a with
  | int a =>
   cases b with
   | int b =>
    change(if _ then _ else _:mw lf) st=_ at F
    split at F
    .rename_i hc
     obtain⟨rfl,rfl⟩:=zG F
     have ex:=ha.intE;have J:=hb.intE;subst ex;subst J
     exact bC4 G s W H _ _ v u Q I Y Z ⟨_,_,rfl,rfl,hc,q.here R rfl RV.intI⟩
    .exact fb F
   | _=>exact fb F
  | _=>exact fb F
 | shl =>
  cases a with
  | int a =>
   cases b with
   | int b =>
    change(if _ then _ else _:mw lf) st=_ at F
    split at F
    .rename_i hc
     obtain⟨rfl,rfl⟩:=zG F
     have ex:=ha.intE;have J:=hb.intE;subst ex;subst J
     exact bH1 G s W H _ _ v u Q I Y Z ⟨_,_,rfl,rfl,hc,q.here R rfl RV.intI⟩
    .exact fb F
   | _=>exact fb F
  | _=>exact fb F
 | shr =>
  cases a with
  | int a =>
   cases b with
   | int b =>
    change(if _ then _ else _:mw lf) st=_ at F
    split at F
    .rename_i hc
     obtain⟨rfl,rfl⟩:=zG F
     have ex:=ha.intE;have J:=hb.intE;subst ex;subst J
     exact bN0 G s W H _ _ v u Q I Y Z ⟨_,_,rfl,rfl,hc,q.here R rfl RV.intI⟩
    .exact fb F
   | _=>exact fb F
  | _=>exact fb F
 | band =>
  cases a with
  | int a =>
   cases b with
   | int b =>
    change(if _ then _ else _:mw lf) st=_ at F
    split at F
    .rename_i hc
     obtain⟨rfl,rfl⟩:=zG F
     have ex:=ha.intE;have J:=hb.intE;subst ex;subst J
     exact bA6 G s W H _ _ v u Q I Y Z ⟨_,_,rfl,rfl,hc,q.here R rfl RV.intI⟩
    .exact fb F
   | _=>exact fb F
  | _=>exact fb F
 | bor =>
  cases a with
  | int a =>
   cases b with
   | int b =>
    change(if _ then _ else _:mw lf) st=_ at F
    split at F
    .rename_i hc
     obtain⟨rfl,rfl⟩:=zG F
     have ex:=ha.intE;have J:=hb.intE;subst ex;subst J
     exact bT4 G s W H _ _ v u Q I Y Z ⟨_,_,rfl,rfl,by show Q (V.int (fW a b)) H;rw[bf9 hc.1 hc.2];exact q.here R rfl RV.intI⟩
    .exact fb F
   | _=>exact fb F
  | _=>exact fb F
variable {Γ:Gm} {X:Cx} {pins:yA} {W:St} {H:Hp} {sh:af} {C:Nat->Addr} {s:lb}
theorem aC8 {n:Nat}{a b:lf}{z:Bool}(h:lu s n a b=some z):lE s a≠9:=by
 cases n with
 | zero=>unfold lu at h;exact(ab7 h).1
 | succ n =>
  unfold lu at h
  split at h
  .simp[lE]
  .split at h
   .rename_i p _;simp[lE,p]
   .cases h
  .exact(ab7 h).1
theorem aX2 (I:Inv X pins W H sh)(J:X.K=Γ.K)(R:Rp Γ C H s):∀(n:Nat) (a b c:lf) (x:V) (p q:Bool),RV Γ C H a x->RV Γ C H b x->lu s n a c=some p->lu s n b c=some q->p=q:=by
 intro n
 induction n with
 | zero =>
  intro a b c x p q z h e1 e2
  rcases rv_two I J R z h (aC8 e1) (aC8 e2)with e|⟨l,m,_,_,rfl,rfl,_⟩
  .subst e;rw[e1]at e2;exact av e2
  .unfold lu at e1 e2
   have:lG s (.tup l) c=lG s (.tup m) c:=by unfold lG;cases c<;>rfl
   rw[this,e2]at e1;exact(av e1).symm
 | succ n ih =>
  have G:∀(l m k:List lf) (F:List V) (p q:Bool),RVL Γ C H l F->RVL Γ C H m F->lC (lu s n) l k=some p->lC (lu s n) m k=some q->p=q:=by
   intro l
   induction l with
   | nil =>
    intro m k F p q z h e1 e2
    have:=z.unnil;subst this
    have hm:m=[]:=by have:=h.length;exact cV.mp this.symm
    subst hm
    rw[e1]at e2;exact av e2
   | cons a l ihl =>
    intro m k F p q z h e1 e2
    obtain⟨x,r,rfl,g1,g2⟩:=z.uncons
    cases m with
    | nil=>have:=h.unnil;cases this
    | cons b m =>
     obtain⟨x',r',e,g3,g4⟩:=h.uncons
     cases e
     cases k with
     | nil=>unfold lC at e1 e2;rw[<-av e1,<-av e2]
     | cons c k =>
      obtain⟨p1,p2,a1,a2,a3⟩:=af7 e1
      obtain⟨q1,q2,b1,b2,Z⟩:=af7 e2
      rw[a3,Z,ih a b c x p1 q1 g1 g3 a1 b1,ihl m k r p2 q2 g2 g4 a2 b2]
  intro a b c x p q z h e1 e2
  rcases rv_two I J R z h (aC8 e1) (aC8 e2)with e|⟨l,m,_,F,rfl,rfl,_,d1,Y⟩
  .subst e;rw[e1]at e2;exact av e2
  .cases c with
   | tup k=>unfold lu at e1 e2;exact G l m k F p q d1 Y e1 e2
   | _ =>
    unfold lu at e1 e2
    simp only at e1 e2
    have e3:lG s (.tup l)=lG s (.tup m):=by funext c;unfold lG;cases c<;>rfl
    rw[e3]at e1
    exact av (e1.symm.trans e2)
theorem bk4 {x:lf}:∀ {l:List lf} {z:Bool},l7 s x l=some z->∃ e:Nat->Bool,(∀ j d,l[j]?=some d->lu s lz d x=some (e j))/\(z=true↔∃ j,j<l.length/\e j=true)
 | [],z,h=>by
  unfold l7 at h
  cases h
  exact⟨λ _=>true,λ j d h=>by simp at h,by simp⟩
 | y::l,z,h=>by
  unfold l7 at h
  cases e1:lu s lz y x with
  | none=>rw[e1]at h;cases h
  | some a =>
   cases e2:l7 s x l with
   | none=>rw[e1,e2]at h;cases h
   | some b =>
    rw[e1,e2]at h
    obtain⟨e,p,F⟩:=bk4 e2
    refine⟨λ j=>match j with|0=>a|j+1=>e j,λ j d g=>?_,?_⟩
    .cases j with
     | zero=>simp at g;subst g;exact e1
     | succ j=>exact p j d (by simpa using g)
    .have hz:(a||b)=z:=av h
     rw[<-hz,bh,F]
     constructor
     .rintro(q|⟨j,hj,q⟩)
      .exact⟨0,by simp,q⟩
      .exact⟨j+1,by simpa using hj,q⟩
     .rintro⟨j,hj,q⟩
      cases j with
      | zero=>exact .inl q
      | succ j=>exact .inr ⟨j,by simpa using hj,q⟩
theorem bh9 (I:Inv X pins W H sh)(hK:X.K=Γ.K)(R:Rp Γ C H s){x:lf}{xv:V}{xu:Value}(hx:RV Γ C H x xv)(rx:RelV xv xu){l:List lf}{ys:List V}{its:yH}(hl:RVL Γ C H l ys)(hv:Vals ys its){z:Bool}(h:l7 s x l=some z){A:aQ}(hr:Room lz A) :
  ∃ e:Value->Bool,(∀ y,y∈its.toArray->gJ A sh y xu (e y))/\its.toArray.any e=z:=by
 obtain⟨e,Y,h2⟩:=bk4 h
 have len:its.length=l.length:=by rw[<-hv.length];exact hl.length
 have p:∀ j u,its[j]?=some u->∃ d y,l[j]?=some d/\ys[j]?=some y/\RV Γ C H d y/\RelV y u:=λ j u g=>by
  have hj:j<l.length:=by rw[<-len];exact(ac.mp g).1
  obtain⟨y,g1,g2⟩:=hl.get (ah hj)
  obtain⟨u',F,J⟩:=hv.get g1
  rw[g]at F;cases F
  exact⟨_,y,ah hj,g1,g2,J⟩
 classical
 let f:Value->Bool:=λ u=>decide (∃ j,its[j]?=some u/\e j=true)
 have Z:∀ j u,its[j]?=some u->f u=e j:=λ j u g=>by
  obtain⟨d,y,g1,g2,F,J⟩:=p j u g
  cases q:e j with
  | true=>exact decide_eq_true ⟨j,g,q⟩
  | false =>
   refine decide_eq_false λ⟨k,g',q'⟩=>?_
   obtain⟨d',y',k1,k2,k3,k4⟩:=p k u g'
   have ey:y'=y:=k4.inj J
   subst ey
   have:=aX2 I hK R _ d d' x _ _ _ F k3 (Y j d g1) (Y k d' k1)
   rw[q,q']at this;cases this
 refine⟨f,λ u hu=>?_,?_⟩
 .obtain⟨j,hj,g⟩:=cL.mp (by simpa using hu:u∈its)
  have g':its[j]?=some u:=by rw[ah hj,g]
  obtain⟨d,y,g1,g2,F,J⟩:=p j u g'
  rw[Z j u g']
  exact(aR6 I hK R _ d x y xv u xu A _ (Y j d g1) F hx J rx hr).1
 .have e1:its.toArray.any f=true↔z=true:=by
   rw[h2,List.any_toArray,dr]
   constructor
   .rintro⟨u,hu,q⟩
    obtain⟨j,hj,g⟩:=cL.mp hu
    have g':its[j]?=some u:=by rw[ah hj,g]
    exact⟨j,by omega,by rw[<-Z j u g'];exact q⟩
   .rintro⟨j,hj,q⟩
    have G:j<its.length:=by omega
    exact⟨its[j],eK G,by rw[Z j _ (ah G)];exact q⟩
  cases z<;>cases q:its.toArray.any f
  .rfl
  .have:=e1.mp q;cases this
  .rw[q]at e1;have:=e1.mpr rfl;cases this
  .rfl
variable {Γ:Gm} {X:Cx}
theorem aa0 {α β:Type}{r:lj α}{f:α->lb->lj β}{b:β}{t:lb}(h:r.bind f=.ok b t):∃ a s,r=.ok a s/\f a s=.ok b t:=DV.R.bind_inv h
theorem bi3 (hK:X.K=Γ.K)(hr:Room (lz+1) X.A)(F:Bool){J:yA}{sh:af}{W:St}{H:Hp}{x y:V}{v u:Value}{C:Nat->Addr}{st a0:lb}{a b:lf}{z:Bool}
  (I:Inv X J W H sh) (Y:RelV x v) (ry:RelV y u) (R:Rp Γ C H st) (ha:RV Γ C H a x) (hb:RV Γ C H b y) (h:nh a b st=.ok z a0) :
  a0=st/\∀ Q:Value->af->Prop,(∀ a2,Inv X J W H a2->Q (.bool (if F then !z else z)) a2)->wpAny (model X.prog X.w) X.A (dM (if F then .NotIn else .In) v u) Q X.xe sh:=by
 unfold nh at h
 cases b with
 | tup l =>
  simp only at h
  cases e:l7 st a l with
  | none=>rw[e]at h;cases h
  | some w =>
   rw[e]at h
   cases h
   obtain⟨p,ys,rfl,q,d⟩:=hb.tupE
   cases ry
   rw[<-hK]at q
   obtain⟨its,rv,t,_⟩:=I.tuple q
   obtain⟨f,h1,h2⟩:=bh9 I hK R ha Y d rv e (A:=X.A.in1) hr.in1
   refine⟨rfl,λ Q hq=>?_⟩
   cases F with
   | false=>exact SeqAt.in_tupleAt f t h1 (by rw[h2];exact hq _ I)
   | true=>exact SeqAt.notIn_tupleAt f t h1 (by rw[h2];exact hq _ I)
 | str y0 =>
  simp only at h
  split at h
  case h_2=>exact fb h
  rename_i c
  cases h
  refine⟨rfl,λ Q hq=>?_⟩
  have e1:=ha.strE
  have e2:=hb.strE
  subst e1 e2
  obtain⟨t1,rfl⟩:=Y
  obtain⟨t2,rfl⟩:=ry
  have Z:=kD (⟨y0.toArray⟩:Str) c
  cases F with
  | false=>exact in_str (by rw[show(⟨[c].toArray⟩:Str)=⟨#[c]⟩from rfl,Z];simpa using hq _ I)
  | true=>exact notIn_str (by rw[show(⟨[c].toArray⟩:Str)=⟨#[c]⟩from rfl,Z];simpa using hq _ I)
 | ref r =>
  simp only at h
  cases hs:st[r]? with
  | none=>rw[hs]at h;cases h
  | some o =>
   rw[hs]at h
   cases o with
   | lst l =>
    simp only at h
    cases e:l7 st a l with
    | none=>rw[e]at h;cases h
    | some w =>
     rw[e]at h
     cases h
     obtain⟨ys,e1,d⟩:=R.addr hs
     have ey:=hb.refE;subst ey
     cases ry
     obtain⟨its,rv,t,_⟩:=I.list (SqL.of e1)
     obtain⟨f,h1,h2⟩:=bh9 I hK R ha Y d rv e (A:=X.A.in1) hr.in1
     refine⟨rfl,λ Q hq=>?_⟩
     cases F with
     | false=>exact SeqAt.in_listAt f t.isList h1 (by rw[h2];exact hq _ I)
     | true=>exact SeqAt.notIn_listAt f t.isList h1 (by rw[h2];exact hq _ I)
   | dic l =>
    simp only at h
    split at h
    case isFalse=>exact fb h
    rename_i G
    cases h
    obtain⟨k,hk⟩:=ag4 G
    obtain⟨kvs,e1,d⟩:=R.obj r _ hs
    have ey:=hb.refE;subst ey
    cases ry
    have ex:=aG8 hk ha;subst ex
    have ez:(lB a l).isSome=(av5 kvs k).isSome:=by
     rcases d.val keyOf_inj hk with⟨q1,q2⟩|⟨_,_,q1,q2,_⟩<;>rw[q1,q2]<;>rfl
    refine⟨rfl,λ Q hq=>?_⟩
    rw[ez]at hq
    cases F with
    | false=>exact bZ3 (am3 hr) I (av6.k e1) Y hq
    | true=>exact aO4 (am3 hr) I (av6.k e1) Y hq
   | dit l =>
    simp only at h
    split at h
    case isFalse=>exact fb h
    rename_i G
    cases h
    obtain⟨k,hk⟩:=ah9 G
    obtain⟨kvs,e1,d⟩:=R.obj r _ hs
    have ey:=hb.refE;subst ey
    cases ry
    obtain⟨kb,ex,a1⟩:=aw9 hk ha;subst ex
    have ez:(lB a l).isSome=(av5 kvs k).isSome:=by
     rcases d.val keyT_inj hk with⟨q1,q2⟩|⟨_,_,q1,q2,_⟩<;>rw[q1,q2]<;>rfl
    refine⟨rfl,λ Q hq=>?_⟩
    rw[ez]at hq
    cases F with
    | false=>exact bZ3 (am3 hr) I (av6.t e1 a1) Y hq
    | true=>exact aO4 (am3 hr) I (av6.t e1 a1) Y hq
   | ro l=>exact fb h
   | ins c l=>exact fb h
   | dicF l=>exact fb h
 | _=>exact fb h
theorem bF2 {a b d:lf}{st p:lb}(h:DV.zf .le a b st=.ok d p):∃ i j,a=.int i/\b=.int j:=by
 cases a with
 | int i =>
  (cases b with
  | int j=>exact⟨i,j,rfl,rfl⟩
  | _=>exact fb h)
 | _=>exact fb h
theorem ar3 {a:lf}{i:Int}{x:List Nat}(h:DV.bc7 a=some (i,x)):a=.tup [.int i,.str x]:=by
 unfold DV.bc7 at h
 split at h
 .cases h;rfl
 .cases h
theorem bg5 {f:Int->List Nat->Int->List Nat->Bool}{a b d:lf}{st p:lb}(h:DV.bR2 f a b st=.ok d p):∃ i x j y,a=.tup [.int i,.str x]/\b=.tup [.int j,.str y]:=by
 unfold DV.bR2 at h
 split at h
 .rename_i i x j y e1 e2
  exact⟨i,x,j,y,ar3 e1,ar3 e2⟩
 .exact fb h
theorem ord_inv {op:m8}{a b d:lf}{st p:lb}(ho:op=.lt\/op=.gt\/op=.ge)(h:DV.zf op a b st=.ok d p):(∃ i j,a=.int i/\b=.int j)\/∃ i x j y,a=.tup [.int i,.str x]/\b=.tup [.int j,.str y]:=by
 rcases ho with rfl|rfl|rfl <;>
 (cases a with
 | int i =>
  (cases b with
  | int j=>exact .inl ⟨i,j,rfl,rfl⟩
  | _=>exact fb h)
 | tup l =>
  (cases b with
  | tup m=>first|exact .inr (bg5 h)|exact fb h
  | _=>exact fb h)
 | _=>exact fb h)
section
variable {pins:yA} {sh:af} {W:St} {H:Hp} {C:Nat->Addr} {st:lb}
end
theorem bO4 (hK:X.K=Γ.K)(hr:Room (lz+1) X.A)(op:m8):OpR X (dM (bs4 op)) (rOp Γ (DV.zf op)):=by
 intro F s W H x y v u Q I J Y h
 obtain⟨C,st,a,b,d,G,R,ha,hb,na,nb,p,q⟩:=h
 cases op with
 | eq =>
  have p:DV.eqM a b st=.ok d G:=p
  unfold DV.eqM at p
  cases e:lu st lz a b with
  | none=>rw[e]at p;cases p
  | some z =>
   rw[e]at p;cases p
   exact(aR6 I hK R _ a b x y v u X.A z e ha hb J Y (hr.mono (by omega))).2.rc X.prog X.w X.xe _ ⟨.bl z,H,I,rfl,q.here R rfl RV.blI⟩
 | ne =>
  have p:(match lu st lz a b with|some r=>.ok (.bl (!r)) st|none=>.bad:lj lf)=.ok d G:=p
  cases e:lu st lz a b with
  | none=>rw[e]at p;cases p
  | some z =>
   rw[e]at p;cases p
   exact(aR6 I hK R _ a b x y v u X.A z e ha hb J Y (hr.mono (by omega))).2.ne X.prog X.w X.xe _ ⟨.bl (!z),H,I,rfl,q.here R rfl RV.blI⟩
 | lt =>
  rcases ord_inv (.inl rfl) p with⟨i,j,rfl,rfl⟩|⟨i,x0,j,y0,rfl,rfl⟩
  .cases p
   have ex:=ha.intE;have Z:=hb.intE;subst ex;subst Z
   exact bT6 F s W H _ _ v u Q I J Y ⟨_,_,rfl,rfl,q.here R rfl RV.blI⟩
  .exact fb p
 | le =>
  obtain⟨i,j,rfl,rfl⟩:=bF2 p
  cases p
  have ex:=ha.intE;have Z:=hb.intE;subst ex;subst Z
  exact bY8 F s W H _ _ v u Q I J Y ⟨_,_,rfl,rfl,q.here R rfl RV.blI⟩
 | gt =>
  rcases ord_inv (.inr (.inl rfl)) p with⟨i,j,rfl,rfl⟩|⟨i,x0,j,y0,rfl,rfl⟩
  .cases p
   have ex:=ha.intE;have Z:=hb.intE;subst ex;subst Z
   exact bS6 F s W H _ _ v u Q I J Y ⟨_,_,rfl,rfl,q.here R rfl RV.blI⟩
  .exact fb p
 | ge=>exact fb p
 | isin =>
  have p:(nh a b st).bind (λ r s=>.ok (.bl r) s)=.ok d G:=p
  obtain⟨z,s1,e1,e2⟩:=aa0 p
  obtain⟨rfl,w⟩:=bi3 hK hr false I J Y R ha hb e1
  cases e2
  exact w _ λ s' I'=>⟨.bl z,H,I',rfl,q.here R rfl RV.blI⟩
 | notin =>
  have p:(nh a b st).bind (λ r s=>.ok (.bl (!r)) s)=.ok d G:=p
  obtain⟨z,s1,e1,e2⟩:=aa0 p
  obtain⟨rfl,w⟩:=bi3 hK hr true I J Y R ha hb e1
  cases e2
  exact w _ λ s' I'=>⟨.bl (!z),H,I',rfl,q.here R rfl RV.blI⟩
theorem aT3 {C:Nat->Addr}{H:Hp}{l:List lf}{p:List V}{i:Int}{d:lf}(h:RVL Γ C H l p)(e:((l8 l.length i).bind λ j=>l[j]?)=some d):∃ v,atI p i=some v/\RV Γ C H d v:=by
 cases hj:l8 l.length i with
 | none=>rw[hj]at e;cases e
 | some j =>
  rw[hj]at e
  obtain⟨v,e1,e2⟩:=h.get (show l[j]?=some d from e)
  refine⟨v,?_,e2⟩
  unfold atI
  have:ixN p.length i=some j:=by rw[h.length];exact hj
  rw[this];exact e1
theorem ax6 {l:List lf}{i:Int}{d:lf}(e:((l8 l.length i).bind λ j=>l[j]?)=some d):d∈l:=by
 cases hj:l8 l.length i with
 | none=>rw[hj]at e;cases e
 | some j=>rw[hj]at e;exact aY (show l[j]?=some d from e)
theorem bS3 (hK:X.K=Γ.K)(hu:X.A.units+2<cLine):IxR X (rOp Γ DV.ixM):=by
 intro F G J s W H x y v u Q I rx ry h hs
 obtain⟨C,st,a,b,d,a2,R,ha,hb,na,nb,z,q⟩:=h
 unfold DV.ixM at z
 cases a with
 | tup l =>
  cases b with
  | int i =>
   simp only at z
   split at z
   .rename_i d' e
    cases z
    obtain⟨p,xs,rfl,h1,d1⟩:=ha.tupE
    have Y:=hb.intE;subst Y
    obtain⟨w,e1,e2⟩:=aT3 d1 e
    unfold lr at na
    exact bw8 hK F G J s W H _ _ v u Q I rx ry ⟨p,xs,i,w,rfl,rfl,h1,e1,q.here R (aa2.mp na _ (ax6 e)) e2⟩ hs
   .exact fb z
  | _=>exact fb z
 | str l =>
  cases b with
  | int i =>
   simp only at z
   split at z
   .rename_i c e
    cases z
    have hl:=ha.strL
    have ex:=ha.strE;have Y:=hb.intE;subst ex;subst Y
    exact ix_str F G J s W H _ _ v u Q I rx ry ⟨⟨l.toArray⟩,i,c,rfl,rfl,by show l.toArray.size<=_;rw[aw];exact ak hl zH,e,q.here R rfl (RV.strI (by simp;decide))⟩ hs
   .exact fb z
  | _=>exact fb z
 | ref r =>
  have ex:=ha.refE;subst ex
  simp only at z
  cases hsr:st[r]? with
  | none=>rw[hsr]at z;cases z
  | some o =>
   rw[hsr]at z
   cases o with
   | lst l =>
    cases b with
    | int i =>
     simp only at z
     split at z
     .rename_i d' e
      cases z
      have Y:=hb.intE;subst Y
      obtain⟨xs,e1,d1⟩:=R.addr hsr
      obtain⟨w,e2,e3⟩:=aT3 d1 e
      have wf:=R.wf _ _ hsr
      unfold ln at wf
      exact aA9 hK F G J s W H _ _ v u Q I rx ry ⟨C r,xs,i,w,rfl,rfl,SqL.of e1,e2,q.here R (aa2.mp wf _ (ax6 e)) e3⟩ hs
     .exact fb z
    | _=>exact fb z
   | ro l =>
    cases b with
    | int i =>
     simp only at z
     split at z
     .rename_i d' e
      cases z
      have Y:=hb.intE;subst Y
      obtain⟨xs,e1,d1⟩:=R.obj _ _ hsr
      obtain⟨w,e2,e3⟩:=aT3 d1 e
      have wf:=R.wf _ _ hsr
      unfold ln at wf
      exact aA9 hK F G J s W H _ _ v u Q I rx ry ⟨C r,xs,i,w,rfl,rfl,e1.1,e2,q.here R (aa2.mp wf _ (ax6 e)) e3⟩ hs
     .exact fb z
    | _=>exact fb z
   | dic l =>
    simp only at z
    split at z
    case isFalse=>exact fb z
    rename_i Z
    obtain⟨k,hk⟩:=ag4 Z
    obtain⟨kvs,e1,d1⟩:=R.obj r _ hsr
    have Y:=aG8 hk hb;subst Y
    cases rx
    rcases d1.val keyOf_inj hk with⟨q1,_⟩|⟨e,v',q1,q2,q3,q4⟩
    .rw[q1]at z;cases z
    .rw[q1]at z
     cases z
     have wf:=R.wf _ _ hsr
     unfold ln at wf
     rw[ag]at wf
     have g:av6 H (C r) (kV k) (some v'):=by rw[<-q2];exact av6.k e1
     exact ka (ai6 I g) fG.lookup (ar6 hu I g ry λ w' s' I' a0=>⟨v',H,I',a0,q.here R (aa2.mp wf.2 _ q4) q3⟩) hs
   | dit l =>
    simp only at z
    split at z
    case isFalse=>exact fb z
    rename_i Z
    obtain⟨k,hk⟩:=ah9 Z
    obtain⟨kvs,e1,d1⟩:=R.obj r _ hsr
    obtain⟨kb,Y,a1⟩:=aw9 hk hb;subst Y
    cases rx
    rcases d1.val keyT_inj hk with⟨q1,_⟩|⟨e,v',q1,q2,q3,q4⟩
    .rw[q1]at z;cases z
    .rw[q1]at z
     cases z
     have wf:=R.wf _ _ hsr
     unfold ln at wf
     rw[ag]at wf
     have g:av6 H (C r) (.ref kb) (some v'):=by rw[<-q2];exact av6.t e1 a1
     exact ka (ai6 I g) fG.lookup (ar6 hu I g ry λ w' s' I' a0=>⟨v',H,I',a0,q.here R (aa2.mp wf.2 _ q4) q3⟩) hs
   | ins c l=>cases b<;>cases z
   | dicF l=>cases b<;>cases z
 | _=>cases b<;>cases z
theorem aR7 (n d:Nat)(i:Int):HT.sIx n d (some i)=lV n i:=by
 show(if i<0 then(i+(n:Int)).toNat else min i.toNat n)=_
 unfold lV
 by_cases h:i<0
 .rw[if_pos h,if_neg (by omega)]
 .rw[if_neg h,if_pos (by omega)]
theorem bi6 {C:Nat->Addr}{H:Hp}{l:List lf}{p:List V}(h:RVL Γ C H l p)(F z:Option Int):RVL Γ C H (lJ l F z) (aI6 p F z):=by
 unfold lJ aI6
 have e1:HT.sIx p.length 0 F=lY l.length F:=by
  cases F with
  | none=>rfl
  | some i=>rw[aR7,h.length];rfl
 have e2:HT.sIx p.length p.length z=mK l.length z:=by
  cases z with
  | none=>exact h.length
  | some i=>rw[aR7,h.length];rfl
 rw[e1,e2]
 exact(h.drop _).take _
theorem aD4 {α:Type}{l:List α}{p h:Option Int}:∀ d∈lJ l p h,d∈l:=λ d hd=>List.mem_of_mem_drop (List.mem_of_mem_take hd)
theorem bh7 {α:Type}(l:List α)(p h:Option Int):(lJ l p h).length<=l.length:=by
 unfold lJ
 rw[bK,cT]
 omega
theorem bU3 (p z:Option Int)(n:Nat):bv p z 1 n=(aS (mK n z - lY n p)).map (lY n p+·):=by
 rw[<-sliceRange_one]
 unfold bv
 have cl:∀ i:Int,max 0 (min (if i<0 then i+(n:Int)else i) (n:Int))=((lV n i:Nat):Int):=λ i=>by
  unfold lV
  by_cases h:i<0
  .rw[if_pos h,if_neg (by omega)];omega
  .rw[if_neg h,if_pos (by omega)];omega
 simp only[show((1:Int) > 0)=True by simp,if_true]
 cases p<;>cases z<;>simp only[cl,lY,mK]<;>rfl
theorem aD7 {l:List Nat}:∀(a k:Nat),a+k<=l.length->((aS k).map (a+·)).filterMap (λ x=>l.toArray[x]?)=(l.drop a).take k
 | a,0,_=>by simp
 | a,k+1,h=>by
  rw[List.range_succ,bJ,List.filterMap_append,aD7 a k (by omega)]
  have hk:a+k<l.length:=by omega
  rw[jy,List.getElem?_drop]
  simp[hk]
theorem aQ1 (l:List Nat)(p h:Option Int):eW ⟨l.toArray⟩ p h=⟨(lJ l p h).toArray⟩:=by
 unfold eW
 have hn:(⟨l.toArray⟩:Str).length=l.length:=by show l.toArray.size=_;simp
 rw[hn,bU3]
 have hb:mK l.length h<=l.length:=by
  cases h with
  | none=>exact ai _
  | some i=>show lV l.length i<=_;unfold lV;split<;>omega
 have ha:lY l.length p<=l.length:=by
  cases p with
  | none=>exact b9 _
  | some i=>show lV l.length i<=_;unfold lV;split<;>omega
 unfold lJ
 generalize mK l.length h=b at *
 generalize lY l.length p=a at *
 by_cases hc:((1:Int)==1&&((aS (b - a)).map (a+·)).length==l.length)=true
 .rw[if_pos hc]
  have:b - a=l.length:=by simpa using hc
  have h0:a=0\/l.length=0:=by omega
  rcases h0 with h0|h0
  .subst h0
   rw[this];simp
  .have:l=[]:=cV.mp h0
   subst this;simp
 .rw[if_neg hc]
  by_cases hab:a<=b
  .have e:=aD7 (l:=l) a (b - a) (by omega)
   show(⟨(ig (λ x=>l.toArray[x]?) _).toArray⟩:Str)=_
   rw[e]
  .rw[show b - a=0 by omega];simp
def rSl (Γ:Gm):V->Option Int->Option Int->Hp->VK->Prop:=λ x lo hi H Q=>∃ C s a d s',Rp Γ C H s/\RV Γ C H a x/\a.bnd s.length=true/\mM a lo hi s=.ok d s'/\ab2 Γ C s H d s' Q
theorem bx9 (hK:X.K=Γ.K):SlR X (rSl Γ):=by
 intro F s W H x v vl vu Y J sl Q I Z hs pl pu h
 obtain⟨C,st,a,d,a0,R,ha,na,G,q⟩:=h
 unfold mM at G
 cases a with
 | tup l =>
  cases G
  obtain⟨p,xs,⟨rfl,z1⟩,h1,d1⟩:=ha.tupZ
  unfold lr at na
  refine bn1 hK F s W H _ v vl vu Y J sl Q I Z hs pl pu ⟨p,xs,rfl,h1,λ t H' e ht hn=>?_⟩
  obtain⟨g,r'⟩:=R.same e
  have d2:=bi6 (RVL.mono g _ _ na d1) Y J
  refine q _ _ _ g (ai _) (by unfold lr;exact aG1 na aD4) (RV.tupC ht (λ z=>?_) d2) r'
  rcases hn with hn|⟨rfl,ex⟩
  .exact hn
  .rw[ex]
   refine e _ _ (z1 ?_)
   have hl:(lJ l Y J).length=l.length:=by rw[<-d2.length,ex,d1.length]
   rwa [aS0 hl]at z
 | str l =>
  cases G
  have hl:=ha.strL
  have ex:=ha.strE;subst ex
  refine bB3 F s W H _ v vl vu Y J sl Q I Z hs pl pu ⟨_,rfl,by show l.toArray.size<=_;rw[aw];exact ak hl zH,?_⟩
  rw[aQ1]
  exact q.here R rfl (RV.strI (ak (bh7 l Y J) hl))
 | ref r =>
  have ex:=ha.refE;subst ex
  simp only at G
  cases hsr:st[r]? with
  | none=>rw[hsr]at G;cases G
  | some o =>
   rw[hsr]at G
   cases o with
   | lst l =>
    obtain⟨rfl,rfl⟩:=zW G
    obtain⟨xs,e1,d1⟩:=R.addr hsr
    have wf:=R.wf _ _ hsr
    unfold ln at wf
    exact aZ1 hK F s W H _ v vl vu Y J sl Q I Z hs pl pu ⟨C r,xs,rfl,SqL.of e1,λ p hp=>q.alloc R (bi6 d1 Y J) (aG1 wf aD4) hp⟩
   | _=>exact fb G
 | _=>exact fb G
variable {Γ:Gm} {X:Cx}
def rCl (Γ:Gm)(f:List lf->lb->lj lf):List V->Hp->VK->Prop:=λ xs H Q=>∃ C s l d s',Rp Γ C H s/\RVL Γ C H l xs/\li s.length l=true/\f l s=.ok d s'/\ab2 Γ C s H d s' Q
theorem RVL.one {C:Nat->Addr}{H:Hp}{d:lf}{p:List V}(h:RVL Γ C H [d] p):∃ x,p=[x]/\RV Γ C H d x:=by
 obtain⟨x,r,rfl,z,F⟩:=h.uncons
 rw[F.unnil];exact⟨x,rfl,z⟩
noncomputable def biN:lS->Option (String×Nat)
 | .len=>some ("len",1)|.abs=>some ("abs",1)|.min2=>some ("min",2)|.max2=>some ("max",2)|_=>none
theorem qa:∀ {l:List lf} {is:List Int},lT l=some is->l=is.map DV.D.int
 | [],is,h=>by unfold lT at h;cases h;rfl
 | d::l,is,h=>by
  cases d with
  | int i =>
   have h:(lT l).map (i::·)=some is:=h
   cases e:lT l with
   | none=>rw[e]at h;cases h
   | some m=>rw[e]at h;cases h;rw[qa e];rfl
  | _=>cases h
theorem ai8:∀ {l:List lf} {is:List Bool},mB l=some is->l=is.map DV.D.bl
 | [],is,h=>by unfold mB at h;cases h;rfl
 | d::l,is,h=>by
  cases d with
  | bl i =>
   have h:(mB l).map (i::·)=some is:=h
   cases e:mB l with
   | none=>rw[e]at h;cases h
   | some m=>rw[e]at h;cases h;rw[ai8 e];rfl
  | _=>cases h
theorem RVL.ints {C:Nat->Addr}{H:Hp}:∀ {is:List Int} {p:List V},RVL Γ C H (is.map DV.D.int) p->p=is.map V.int
 | [],_,h=>h.unnil
 | i::is,_,h=>by
  obtain⟨x,r,rfl,z,F⟩:=RVL.uncons h
  rw[z.intE,RVL.ints F];rfl
theorem RVL.bls {C:Nat->Addr}{H:Hp}:∀ {is:List Bool} {p:List V},RVL Γ C H (is.map DV.D.bl) p->p=is.map V.bl
 | [],_,h=>h.unnil
 | i::is,_,h=>by
  obtain⟨x,r,rfl,z,F⟩:=RVL.uncons h
  rw[z.blE,RVL.bls F];rfl
theorem aS4 {f:lf->mw lf}{l:List lf}{s s':lb}{d:lf}(h:ni f l s=.ok d s'):∃ a,l=[a]/\f a s=.ok d s':=by
 match l,h with
 | [a],h=>exact⟨a,rfl,h⟩
 | [],h=>exact fb h
 | _::_::_,h=>exact fb h
theorem aY0 (J:X.K=Γ.K)(hc:X.calm=true){b:lS}{Y:String}{k:Nat}(hn:biN b=some (Y,k)):aa6 X (.builtin Y) (rCl Γ (mV b)):=by
 intro z s W H xs us Q I r h
 obtain⟨C,st,l,d,G,R,hl,nl,F,q⟩:=h
 cases b with
 | len =>
  cases hn
  have F:ni DV.bm7 l st=.ok d G:=F
  obtain⟨a,rfl,hg⟩:=aS4 F
  clear F
  obtain⟨x,rfl,hx⟩:=hl.one
  unfold DV.bm7 at hg
  cases a with
  | tup l =>
   cases hg
   obtain⟨p,ys,rfl,Z,d1⟩:=hx.tupE
   refine aj8 J z s W H _ us Q I r ⟨p,ys,rfl,.inr Z,?_⟩
   rw[d1.length];exact q.here R rfl RV.intI
  | str l =>
   cases hg
   have hL:=hx.strL
   have e:=hx.strE;subst e
   refine as7 z s W H _ us Q I r ⟨_,rfl,by show l.toArray.size<=_;rw[aw];exact ak hL zH,?_⟩
   show Q (.int ((l.toArray.size:Nat):Int)) H
   rw[aw]
   exact q.here R rfl RV.intI
  | ref n =>
   have e:=hx.refE;subst e
   simp only at hg
   cases hs:st[n]? with
   | none=>rw[hs]at hg;cases hg
   | some o =>
    rw[hs]at hg
    cases o with
    | lst l =>
     cases hg
     obtain⟨ys,e1,d1⟩:=R.addr hs
     refine aj8 J z s W H _ us Q I r ⟨C n,ys,rfl,.inl (SqL.of e1),?_⟩
     rw[d1.length];exact q.here R rfl RV.intI
    | ro l =>
     cases hg
     obtain⟨ys,e1,d1⟩:=R.obj _ _ hs
     refine aj8 J z s W H _ us Q I r ⟨C n,ys,rfl,.inl e1.1,?_⟩
     rw[d1.length];exact q.here R rfl RV.intI
    | dic l=>exact fb hg
    | dit l=>exact fb hg
    | ins c l=>exact fb hg
    | dicF l=>exact fb hg
  | _=>exact fb hg
 | abs =>
  cases hn
  have F:(match lT l with|some [i]=>.ok (.int (if i<0 then -i else i)) st|_=>.bad:lj lf)=.ok d G:=F
  split at F
  .rename_i i e
   cases F
   have:=qa e;subst this
   have:=RVL.ints hl;subst this
   exact bb6 z s W H _ us Q I r ⟨i,rfl,q.here R rfl RV.intI⟩
  .exact fb F
 | min2 =>
  cases hn
  have F:(match lT l with|some [a,b]=>.ok (.int (if b<a then b else a)) st|_=>.bad:lj lf)=.ok d G:=F
  split at F
  .rename_i a b e
   cases F
   have:=qa e;subst this
   have:=RVL.ints hl;subst this
   exact aO9 hc z s W H _ us Q I r ⟨_,_,rfl,q.here R rfl RV.intI⟩
  .exact fb F
 | max2 =>
  cases hn
  have F:(match lT l with|some [a,b]=>.ok (.int (if b > a then b else a)) st|_=>.bad:lj lf)=.ok d G:=F
  split at F
  .rename_i a b e
   cases F
   have:=qa e;subst this
   have:=RVL.ints hl;subst this
   exact aR9 hc z s W H _ us Q I r ⟨_,_,rfl,q.here R rfl RV.intI⟩
  .exact fb F
 | _=>cases hn
theorem aE7:∀ j:Nat,j<=9->bX (toString (j:Int))=(⟨[48+j].toArray⟩:Str):=by decide
theorem bN8:aa6 X (.type "int") (rCl Γ (mV .int)):=by
 intro z s W H Y us Q I r h
 obtain⟨C,st,l,d,F,R,hl,nl,p,q⟩:=h
 have p:(match mB l with|some [b]=>.ok (.int (if b then 1 else 0)) st|some _=>.bad|none=>DV.aH4 l st:lj lf)=.ok d F:=p
 split at p
 .rename_i b e
  cases p
  have:=ai8 e;subst this
  have:=RVL.bls hl;subst this
  exact aQ4 z s W H _ us Q I r (.inr ⟨b,rfl,q.here R rfl RV.intI⟩)
 .exact fb p
 .unfold DV.aH4 at p
  split at p
  .rename_i c _ _
   split at p
   .rename_i hc
    cases p
    obtain⟨x,G,rfl,r1,J⟩:=hl.uncons
    cases(show G=[]from J)
    have:=r1.strE
    subst this
    obtain⟨u,rfl,t,rfl⟩:=qv r
    obtain⟨j,hj,rfl⟩:∃ j:Nat,j<=9/\c=48+j:=⟨c - 48,by omega,by omega⟩
    rw[show(⟨[48+j].toArray⟩:Str)=bX (toString (j:Int))from(aE7 j hj).symm]
    refine PySem.W.KIN.call_num (by omega) (by omega) ⟨.int (j:Int),H,I.tok _,⟨_,rfl⟩,?_⟩
    have:=q.here R rfl (RV.intI (i:=((48+j - 48:Nat):Int)))
    rw[show 48+j - 48=j by omega]at this
    exact this
   .exact fb p
  .exact fb p
theorem bP5:aa6 X (.type "str") (rCl Γ (mV .str)):=by
 intro J s W H Z us Q I r h
 obtain⟨C,st,l,d,G,R,hl,nl,p,q⟩:=h
 have p:DV.aQ9 l st=.ok d G:=p
 unfold DV.aQ9 at p
 split at p
 .rename_i i _
  split at p
  .rename_i Y
   cases p
   obtain⟨x,z,rfl,r1,F⟩:=hl.uncons
   cases(show z=[]from F)
   have:=r1.intE
   subst this
   obtain⟨u,rfl,t,rfl⟩:=qv r
   obtain⟨j,rfl⟩:∃ j:Nat,i=(j:Int):=⟨i.toNat,by omega⟩
   have hj:j<=9:=by omega
   refine PySem.P.str_of_int ?_ ⟨.str ⟨[48+j].toArray⟩,H,I.tok _,⟨s.toks,?_⟩,?_⟩
   .have:(j:Int).natAbs.log2<=(j:Int).natAbs:=Nat.log2_le_self _
    omega
   .rw[<-aE7 j hj]
   .have:=q.here R rfl (RV.strI (x:=[48+(j:Int).toNat]) (by show 1<=ls;decide))
    rw[cM]at this
    exact this
  .exact fb p
 .rename_i w _
  cases p
  obtain⟨x,z,rfl,r1,F⟩:=hl.uncons
  cases(show z=[]from F)
  have e:=r1.strE
  subst e
  obtain⟨u,rfl,t,rfl⟩:=qv r
  refine PySem.P.str_of_str ⟨.str ⟨w.toArray⟩,H,I,⟨_,rfl⟩,?_⟩
  unfold li at nl
  exact q.here R rfl r1
 .exact fb p
noncomputable def ak5:Nat->String
 | 1 => "int" | 2 => "bool" | 3 => "str" | 4 => "tuple" | _ => "list"
theorem bm9 {K:ae}(k:Nat)(hk:1<=k/\k<=5):bT K (.type "NoneType") (.type (ak5 k))=some false/\bT K (.type "bool") (.type (ak5 k))=some (k==1||k==2) /\
  bT K (.type "int") (.type (ak5 k))=some (k==1)/\bT K (.type "str") (.type (ak5 k))=some (k==3)/\bT K (.type "tuple") (.type (ak5 k))=some (k==4)/\bT K (.type "list") (.type (ak5 k))=some (k==5):=by
 obtain⟨z,p⟩:=hk
 rcases(by omega:k=1\/k=2\/k=3\/k=4\/k=5)with h|h|h|h|h<;>subst h<;>refine⟨?_,?_,?_,?_,?_,?_⟩<;>with_unfolding_all rfl
theorem aL6 {p:yA}{W:St}{H:Hp}{s:af}{A:aQ}{E:yB}{Q:yB}{c:Value}{b:Bool}{a:Addr}{J:List V}(I:Inv X p W H s)(F:SqT X.K H a J)(e:bT X.K (.type "tuple") c=some b)
  (h:∀ tk,Q (.bool b) { s with toks:=tk }):wpAny (model X.prog X.w) A (call (.builtin "isinstance") [.ref a,c]) Q E s:=by
 obtain⟨its,_,⟨o,g1,G,_⟩,_⟩:=I.tuple F
 exact bC i8 I.kIn ⟨o,g1,G⟩ e (λ z=>nomatch z) h
theorem bN1 (hK:X.K=Γ.K){k:Nat}(hk:1<=k/\k<=5):aa6 X (.builtin "isinstance") (λ Y H Q=>∃ x,Y=[x,.ty (ak5 k)]/\rCl Γ (ni (nu k)) [x] H Q):=by
 intro F s W H Y us Q I r h
 obtain⟨x,rfl,C,st,l,d,z,R,hl,nl,G,q⟩:=h
 obtain⟨a,rfl,hg⟩:=aS4 G
 clear G
 obtain⟨u,w',rfl,r1,r2⟩:=bx6 r
 cases r2
 obtain⟨x',e',hx⟩:=hl.one
 cases e'
 obtain⟨k0,k1,k2,Z,k4,k5⟩:=bm9 (K:=X.K) k hk
 unfold nu at hg
 cases a with
 | non=>cases hg;have e:=hx.nonE;subst e;exact qi I r1 .non k0 λ tk=>⟨.bl _,H,I.tok _,rfl,q.here R rfl RV.blI⟩
 | bl b=>cases hg;have e:=hx.blE;subst e;exact qi I r1 (.bl b) k1 λ tk=>⟨.bl _,H,I.tok _,rfl,q.here R rfl RV.blI⟩
 | int b=>cases hg;have e:=hx.intE;subst e;exact qi I r1 (.int b) k2 λ tk=>⟨.bl _,H,I.tok _,rfl,q.here R rfl RV.blI⟩
 | str b=>cases hg;have e:=hx.strE;subst e;exact qi I r1 (.str _) Z λ tk=>⟨.bl _,H,I.tok _,rfl,q.here R rfl RV.blI⟩
 | tup l =>
  cases hg
  obtain⟨p,ys,rfl,J,d1⟩:=hx.tupE
  cases r1
  rw[<-hK]at J
  exact aL6 I J k4 λ tk=>⟨.bl _,H,I.tok _,rfl,q.here R rfl RV.blI⟩
 | ref n =>
  have e:=hx.refE;subst e
  have hg:(match st[n]? with|some (.lst _)=>.ok (.bl (k==5)) st|_=>.bad:lj lf)=.ok d z:=hg
  cases hs:st[n]? with
  | none=>rw[hs]at hg;cases hg
  | some o =>
   rw[hs]at hg
   cases o with
   | lst l =>
    cases hg
    obtain⟨ys,e1,d1⟩:=R.addr hs
    exact qi I r1 (.lst e1) k5 λ tk=>⟨.bl _,H,I.tok _,rfl,q.here R rfl RV.blI⟩
   | _=>exact fb hg
 | _=>exact fb hg
variable {X:Cx}
theorem bt4 {bs:List Bool}{its:yH}(r:Vals (bs.map V.bl) its){i:Nat}{v:Value}(h:its[i]?=some v):∃ z,bs[i]?=some z/\v=Value.bool z:=by
 induction bs generalizing its i with
 | nil=>rw[cX]at r;cases r;simp at h
 | cons b bs ih =>
  rw[a9]at r
  cases r with
  | cons r1 r2 =>
   cases i with
   | zero =>
    cases r1
    have:_=v:=av h
    exact⟨b,rfl,this.symm⟩
   | succ i=>exact ih r2 h
theorem aM8 {bs:List Bool}:(aS bs.length).any (λ i=>bs.getD i false)=bs.any id:=by
 rw[gN,dr,dr]
 constructor
 .rintro⟨i,h,e⟩
  have h:=bG.mp h
  rw[aM,ah h]at e
  exact⟨_,eK h,e⟩
 .rintro⟨b,hb,e⟩
  obtain⟨i,h,e2⟩:=cL.mp hb
  refine⟨i,bG.mpr h,?_⟩
  rw[aM,ah h]
  show bs[i]=true
  rw[e2];exact e
theorem aN4 {K:ae}(hc:X.calm=true)(hK:X.K=K):aa6 X (.builtin "any") (λ Y H Q=>∃(a:Addr) (bs:List Bool),Y=[.ref a]/\SqL K H a (bs.map V.bl)/\Q (.bl (bs.any id)) H):=by
 subst hK
 intro G s W H Y us Q I r h
 obtain⟨a,bs,rfl,hS,q⟩:=h
 obtain⟨u,rfl,ru⟩:=qv r
 cases ru
 obtain⟨its,J,pl,hz⟩:=I.list hS
 have hl:=J.length
 rw[aD]at hl
 refine call_any_walk (dX pl.isList ?_)
 have F:a<s.heap.objs.size:=by obtain⟨o,_,e,_⟩:=pl;exact aI e
 have Ww:=k8 (prog:=X.prog) (w:=X.w) (A:=X.A.in1) (I.ok.hd hc) s.heap.objs.size a (aE F) its.toArray
 refine⟨_,_,_,_,_,_,λ i=>bs.getD i false,rfl,Ww,⟨⟨_,aX _ rfl,rfl,rfl⟩,?_⟩,λ i v s' Q' E' p hQ=>?_,λ h' tk k=>?_⟩
 .obtain⟨o,e,r⟩:=pl.isList
  exact⟨o,ao _ e,r⟩
 .obtain⟨z,e1,e2⟩:=bt4 J (i:=i) (v:=v) (by have p:its.toArray[i]?=some v:=p;rw[eg]at p;exact p)
  subst e2
  refine cJ ?_
  have:bs.getD i false=z:=by rw[aM,e1];rfl
  rw[<-this];exact hQ
 .have es:its.toArray.size=bs.length:=by rw[aw];omega
  rw[es,aM8]
  refine⟨.bl (bs.any id),H,I.kept (h':=h') (t':=tk) λ b o q=>k b o ?_ (ao _ q),rfl,q⟩
  intro z
  have Z:b=s.heap.objs.size:=by simpa using z
  exact absurd (aI q) (by rw[Z];exact bA _)
theorem bS2:bn "any"=some (.builtin "any"):=by decide +kernel
noncomputable def sgV (x:List Nat):List V:=x.map λ c=>.str ⟨#[c]⟩
theorem bp7 {vs:List V}{p:yH}(hl:vs.length=p.length)(h:∀(i:Nat) (x:V) (u:Value),vs[i]?=some x->p[i]?=some u->RelV x u):Vals vs p:=by
 induction vs generalizing p with
 | nil=>cases p with
  | nil=>exact .nil
  | cons _ _=>cases hl
 | cons v vs ih=>cases p with
  | nil=>cases hl
  | cons a p=>exact .cons (h 0 v a rfl rfl) (ih (by simpa using hl) λ i x u e1 e2=>h (i+1) x u e1 e2)
theorem al2 {x:List Nat}{p:yK}(h:ItemsOf (SignAt ⟨x.toArray⟩) p x.length):Vals (sgV x) p.toList:=by
 have hl:(sgV x).length=p.toList.length:=by unfold sgV;rw[aD];simpa using h.1.symm
 refine bp7 hl λ i v u e1 e2=>?_
 obtain⟨c,t,z,F⟩:=h.2 i u (by rw[<-g7];exact e2)
 unfold sgV at e1
 rw[aC]at e1
 have z:x[i]?=some c:=by simpa using z
 rw[z]at e1
 cases e1
 exact⟨t,F⟩
theorem az9 (hc:X.calm=true):aa6 X (.type "tuple") (λ J H Q=>∃ x:List Nat,J=[.str ⟨x.toArray⟩]/\x.length<=ls/\∀ l,H l=none->Q (.ref l) (upd H l (.tup (sgV x)))):=by
 intro p s W H J us Q I r h
 obtain⟨x,rfl,hl,q⟩:=h
 obtain⟨u,rfl,Z⟩:=qv r
 obtain⟨t,rfl⟩:=Z
 have hz:(sgV x).length<=aG:=by unfold sgV;rw[aD];exact ak hl zH
 refine call_tuple_str (I.ok.hd hc) _ t (λ h' tk z kp F=>?_) (by show x.toArray.size<=_;rw[aw];exact ak hl zH)
 have F:ItemsOf (SignAt ⟨x.toArray⟩) z x.length:=by simpa using F
 have rv:=al2 F
 have G:Inv X p W H { s with heap:=h',toks:=tk }:=I.kept (t':=tk) kp
 have Y:Inv X p W (upd H h'.objs.size (.tup (sgV x))) { s with heap:=h'.push { cls:=.type "tuple",data:=.seq z },toks:=tk } :=
  G.laid (t':=tk) (λ b o e=>ao _ e) (ai _) (show aa4 X.prog X.w _ _ _ (.tup (sgV x))from⟨hz,z.toList,rv,jH _ _⟩)
 exact⟨.ref h'.objs.size,_,Y,rfl,q _ (G.hok.fresh (ai _))⟩
theorem aJ0 (hc:X.calm=true):aa6 X (.type "list") (λ G H Q=>∃ x:List Nat,G=[.str ⟨x.toArray⟩]/\x.length<=ls/\∀ l,H l=none->Q (.ref l) (upd H l (.lst (sgV x)))):=by
 intro F s W H G us Q I r h
 obtain⟨x,rfl,hl,q⟩:=h
 obtain⟨u,rfl,J⟩:=qv r
 obtain⟨t,rfl⟩:=J
 have hz:(sgV x).length<=aG:=by unfold sgV;rw[aD];exact ak hl zH
 refine call_list_str (I.ok.hd hc) _ t (λ h' tk p Z kp e z=>?_) (by show x.toArray.size<=_;rw[aw];exact ak hl zH)
 have z:ItemsOf (SignAt ⟨x.toArray⟩) p x.length:=by simpa using z
 have Y:=al2 z
 exact⟨.ref s.heap.objs.size,_,I.laid (t':=tk) kp (ai _) (show aa4 X.prog X.w _ h' _ (.lst (sgV x))from⟨hz,p.toList,Z,Y,e⟩),rfl,q _ (I.hok.fresh (ai _))⟩
section
variable {Γ:Gm} {C C':Nat->Addr} {H H' H1 H2 H3:Hp} {clos:yC} {s s':lb}
theorem zy (hc:Cells clos H){a:Addr}{u:HO}(e:H a=some u)(hu:∀ o,u≠.frz o (.own a)):isC clos a≠true:=λ z=>by
 obtain⟨o,v,q,_⟩:=hc.at z
 rw[e]at q;cases q;exact hu o rfl
theorem SqT.dropC {K:ae}{a:Addr}{p:List V}(hc:Cells clos H)(h:SqT K H a p):SqT K (aa5 clos H) a p:=by
 rcases h with(h|⟨o,h⟩)|h
 .exact .inl (.inl (by rw[aa5.ne (zy hc h (λ _ z=>by cases z))];exact h))
 .exact .inl (.inr ⟨o,by rw[aa5.ne (zy hc h (λ _ z=>by cases z))];exact h⟩)
 .exact .inr h
theorem SqL.dropC {K:ae}{a:Addr}{p:List V}(hc:Cells clos H)(h:SqL K H a p):SqL K (aa5 clos H) a p:=by
 rcases h with(h|⟨o,h⟩)|h
 .exact .inl (.inl (by rw[aa5.ne (zy hc h (λ _ z=>by cases z))];exact h))
 .exact .inl (.inr ⟨o,by rw[aa5.ne (zy hc h (λ _ z=>by cases z))];exact h⟩)
 .exact .inr h
theorem SqF.dropC {K:ae}{a:Addr}{F:List V}(hc:Cells clos H)(h:SqF K H a F):SqF K (aa5 clos H) a F:=by
 refine⟨SqL.dropC hc h.1,λ p k=>?_⟩
 have hk:Kp H (λ b=>if isC clos b=true then H b else p b):=λ b o e f=>by
  by_cases z:isC clos b=true
  .show(if isC clos b=true then H b else p b)=_;rw[if_pos z];exact e
  .show(if isC clos b=true then H b else p b)=_
   rw[if_neg z]
   exact k b o (by rw[aa5.ne z];exact e) f
 have q:=h.2 _ hk
 have at_:∀ u,(if isC clos a=true then H a else p a)=some u->(∀ o,u≠.frz o (.own a))->p a=some u:=λ u e hu=>by
  by_cases z:isC clos a=true
  .rw[if_pos z]at e
   exact absurd z (zy hc e hu)
  .rw[if_neg z]at e;exact e
 rcases q with(q|⟨o,q⟩)|q
 .exact .inl (.inl (at_ _ q (λ _ z=>by cases z)))
 .exact .inl (.inr ⟨o,at_ _ q (λ _ z=>by cases z)⟩)
 .exact .inr q
mutual
theorem RV.dropC (hc:Cells clos H):∀(d:lf) (v:V),d.ncl=true->RV Γ C H d v->RV Γ C (aa5 clos H) d v
 | .non,_,_,h=>by unfold RV at h ⊢;exact h
 | .bl _,_,_,h=>by unfold RV at h ⊢;exact h
 | .int _,_,_,h=>by unfold RV at h ⊢;exact h
 | .str _,_,_,h=>by unfold RV at h ⊢;exact h
 | .tup l,_,n,h=>by
  unfold RV at h ⊢
  unfold nv at n
  obtain⟨a,p,e,q,r⟩:=h
  exact⟨a,p,e,⟨SqT.dropC hc q.1,λ z=>by rw[aa5.ne (zy hc (q.2 z) (λ _ z=>by cases z))];exact q.2 z⟩,RVL.dropC hc l p n r⟩
 | .ref k,_,_,h=>by unfold RV at h ⊢;exact h
 | .fn _,_,_,h=>by unfold RV at h ⊢;exact h
 | .clo id cs,_,n,h=>by unfold nv at n;cases n
theorem RVL.dropC (hc:Cells clos H):∀(l:List lf) (p:List V),l9 l=true->RVL Γ C H l p->RVL Γ C (aa5 clos H) l p
 | [],_,_,h=>by unfold RVL at h ⊢;exact h
 | d::l,_,n,h=>by
  unfold l9 at n
  rw[ag]at n
  obtain⟨x,r,e,z,F⟩:=h.uncons
  subst e
  exact .cons (RV.dropC hc d x n.1 z) (RVL.dropC hc l r n.2 F)
end
theorem RVD.dropC {κ:Type}{p:lf->Option κ}(hc:Cells clos H):∀(l:List (lf×lf)) (kvs:List (κ×V)),l9 (l.map (·.2))=true->RVD p Γ C H l kvs->RVD p Γ C (aa5 clos H) l kvs
 | [],_,_,h=>h
 | (d,e)::l,_,n,h=>by
  obtain⟨k,v,r,e1,e2,z,F⟩:=h
  rw[a9]at n
  unfold l9 at n
  rw[ag]at n
  exact⟨k,v,r,e1,e2,RV.dropC hc e v n.1 z,RVD.dropC hc l r n.2 F⟩
theorem RO.dropC {a:Addr}{o:lI}(hc:Cells clos H)(h:RO Γ C H a o)(n:o.ncl=true):RO Γ C (aa5 clos H) a o:=by
 cases o with
 | lst l =>
  obtain⟨p,e,r⟩:=h
  exact⟨p,by rw[aa5.ne (zy hc e (λ _ z=>by cases z))];exact e,RVL.dropC hc l p n r⟩
 | ro l =>
  obtain⟨p,e,r⟩:=h
  exact⟨p,SqF.dropC hc e,RVL.dropC hc l p n r⟩
 | dic l =>
  obtain⟨p,e,r⟩:=h
  exact⟨p,by rw[aa5.ne (zy hc e (λ _ z=>by cases z))];exact e,RVD.dropC hc l p n r⟩
 | dit l =>
  obtain⟨p,e,r⟩:=h
  exact⟨p,by rw[aa5.ne (zy hc e (λ _ z=>by cases z))];exact e,RVD.dropC hc l p n r⟩
 | dicF l =>
  obtain⟨ob,p,e,r⟩:=h
  exact⟨ob,p,by rw[aa5.ne (zy hc e (λ _ z=>by cases z))];exact e,RVD.dropC hc l p n r⟩
 | ins c l =>
  obtain⟨Cc,G,gs,F,J,e,r⟩:=h
  exact⟨Cc,G,gs,F,J,by rw[aa5.ne (zy hc e (λ _ z=>by cases z))];exact e,RVD.dropC hc l gs n r⟩
theorem TabsH.dropC {T:List (Addr×Str)}(hc:Cells clos H)(h:TabsH T H):TabsH T (aa5 clos H):=λ y hy=>by
 obtain⟨ps,e,t,c⟩:=h y hy
 refine⟨ps,by rw[aa5.ne (zy hc e (λ _ z=>by cases z))];exact e,t,λ pos F q=>?_⟩
 obtain⟨p,e1,e2⟩:=c pos F q
 exact⟨p,e1,by rw[aa5.ne (zy hc e2 (λ _ z=>by unfold au3 at z;cases z))];exact e2⟩
theorem Rp.dropC (hc:Cells clos H)(r:Rp Γ C H s)(n:s.all DV.O.ncl=true):Rp Γ C (aa5 clos H) s :=
 ⟨r.inj,λ i o e=>RO.dropC hc (r.obj i o e) (aL.mp n o (aY e)),r.wf,TabsH.dropC hc r.tab⟩
theorem aX4 (h:∀ b,isC clos b=true->H' b=none):ab4 H' (Put clos H H'):=λ b o e=>by
 rw[Put.ne (λ z=>by rw[h b z]at e;cases e)];exact e
theorem Gr.put (hc:Cells clos H)(p:∀ b,isC clos b=true->H' b=none)(hK:∀ b o,Γ.K.lookup b=some o->H b=none)(R':Rp Γ C' H' s')(g:Gr C s (aa5 clos H) C' s' H'):Gr C s H C' s' (Put clos H H'):=by
 refine⟨⟨g.w.map,λ b o e f=>?_⟩,g.le,λ i Z G=>?_,g.kd,λ b e=>?_,λ b o kvs e=>?_,λ b o e nt Y=>?_⟩
 .by_cases z:isC clos b=true
  .rw[Put.cell z];exact e
  .rw[Put.ne z];exact g.w.kp b o (by rw[aa5.ne z];exact e) f
 .have hd:=g.new i Z G
  by_cases z:isC clos (C' i)=true
  .have hg:=p _ z
   obtain⟨o,J⟩:∃ o,s'[i]?=some o:=⟨s'[i],ah G⟩
   have h:=R'.obj i o J
   cases o with
   | lst l=>obtain⟨F,e,_⟩:=h;rw[hg]at e;cases e
   | ro l =>
    obtain⟨F,e,_⟩:=h
    rcases e.1 with(e|⟨_,e⟩)|⟨ob,its,n,e,_⟩
    .rw[hg]at e;cases e
    .rw[hg]at e;cases e
    .exact hK _ _ e
   | dic l=>obtain⟨F,e,_⟩:=h;rw[hg]at e;cases e
   | dit l=>obtain⟨F,e,_⟩:=h;rw[hg]at e;cases e
   | dicF l=>obtain⟨_,F,e,_⟩:=h;rw[hg]at e;cases e
   | ins _ _=>obtain⟨_,_,_,_,_,e,_⟩:=h;rw[hg]at e;cases e
  .rw[aa5.ne z]at hd;exact hd
 .by_cases z:isC clos b=true
  .rw[Put.cell z];exact e
  .rw[Put.ne z];exact g.st b (by rw[aa5.ne z];exact e)
 .by_cases z:isC clos b=true
  .rw[Put.cell z];exact e
  .rw[Put.ne z];exact g.fz b o kvs (by rw[aa5.ne z];exact e)
 .by_cases z:isC clos b=true
  .rw[Put.cell z];exact e
  .rw[Put.ne z];exact g.fr b o (by rw[aa5.ne z];exact e) nt Y
theorem bA5 {P:aB}{w:World}{K:ae}{mg:yD}{base:Heap}{k:Nat}{f:Addr}{N ps fr:yI}{name qual:Str}{params:bV}{body:yM}{scope:Scope}{h:yC}{cap:List V}{sp:Sp}
  (S:LamScope N ps fr scope) (len:∀ vs H Q E,sp vs H Q E->vs.length=ps.length) (a4:cap.length=fr.length)
  (G:∀(Z pm:Value) (c':Addr) (Y:Value) (us:yH),us.length=ps.length->dA (fR name qual params body scope h .none .none Z pm none (.ref c') Y) ⟨us,[]⟩=pure (ps.zip us))
  (a0:∀(A:aQ) (p:List Env) (s:af) (H:Hp) (cd:Value) (vs:List V) (Q:VK),Room k (A.deeper (cY qual scope s.heap.objs.size f cd (aK (s.heap.objs.size+1) scope.names h)))->ak6 H f name qual params body scope fr cap h->(∀ b o,K.lookup b=some o->H b=none)->sp vs H Q E0 ->
   ∃ t,PSs (ax9 P w K mg base N qual scope f cd h A p s H) body t/\t { nx:=λ _ H'=>(∀ b,isC h b=true->H' b=none)->Q .non (Put h H H'),rt:=λ v H'=>(∀ b,isC h b=true->H' b=none)->Q v (Put h H H') } (vs.map some++cap.map some) (aa5 h H)) :
  ClOk P w K mg base (k+1) (λ H=>ak6 H f name qual params body scope fr cap h) f sp:=by
 refine⟨λ A p s H us vs Q hr F hR r a2=>?_⟩
 have hl:=len _ _ _ _ a2
 obtain⟨Z,pm,c',Y,h1,h2,h3,h4,h5,h6⟩:=id hR
 have a5:s.heap.NoLimit:=F.mod.nolimit.keeps λ b o e=>(F.bs b o e).1
 refine gY hr.depth (ap2 F.hok h1) rfl S.co S.gen rfl (as6 F.hok h2) ?_
 rw[G Z pm c' Y us (by rw[<-r.length];exact hl)]
 refine ay (am5 S.kind (λ y hy=>?_) λ env he s1 x=>?_)
 .rcases S.par y.1 (dG (show(y.1,y.2)∈ps.zip us from hy)).1 with q|q
  .exact .inl q
  .exact .inr ⟨q,zM q⟩
 .subst he
  refine⟨a5.keeps x.toInCall.keep,codeAny_func ?_⟩
  obtain⟨t,ht,hq⟩:=a0 A p s H (.ref c') vs Q (hr.deeper _) hR (λ b o e=>(F.bs b o (F.mod.kin b o e)).2) a2
  have I:=aW7 S hr.hd F hl a4 r h3 h4 h5 h6 x
  refine bP (ht [] s1 _ _ _ I hq) (λ fl s' hs=>?_) λ e s' hs=>hs.elim
  have fin:∀ {W':St} {H':Hp} {v:V} {u:Value},Inv (ax9 P w K mg base N qual scope f (.ref c') h A p s H) [] W' H' s'->RelV v u->((∀ b,isC h b=true->H' b=none)->Q v (Put h H H'))->CE p P w H s Q u s':=λ {W' H' v u} J rv q=>by
   obtain⟨un,a3⟩:=aL9 F.hok h3 F.frf J.base J.hok
   have a1:∀ b,isC h b=true->H' b=none:=λ b y=>by
    obtain⟨o,v,z,_⟩:=h3.at y
    exact(show Un (frs p) [] (aa5 h H) H' s.heap s'.heap from J.base).free b o (F.hok b _ z).1 (aa5.cell y) (by simp)
   exact⟨v,_,J.os,J.bare,un,a3,rv,q a1⟩
  cases fl with
  | ret u =>
   obtain⟨v,W',H',J,rv,q⟩:=hs
   exact fin J rv q
  | next =>
   obtain⟨W',H',J,q⟩:=hs
   exact fin (v:=V.non) (u:=Value.none) J rfl q
  | brk =>
   obtain⟨_,_,_,q⟩:=hs
   exact bM q
  | cont =>
   obtain⟨_,_,_,q⟩:=hs
   exact bM q
theorem by2 {P:aB}{w:World}{K:ae}{mg:yD}{base:Heap}{k:Nat}{f:Addr}{N ps fr:yI}{qual:Str}{params:bV}{body:Expr}{scope:Scope}{h:yC}{cap:List V}{sp:Sp}
  (S:LamScope N ps fr scope) (len:∀ vs H Q E,sp vs H Q E->vs.length=ps.length) (a3:cap.length=fr.length)
  (Y:∀(pm:Value) (c':Addr) (G:Value) (us:yH),us.length=ps.length->dA (dj "<lambda>" qual params body scope h pm (.ref c') G) ⟨us,[]⟩=pure (ps.zip us))
  (Z:∀(A:aQ) (p:List Env) (s:af) (H:Hp) (cd:Value) (vs:List V) (Q:VK),Room k (A.deeper (cY qual scope s.heap.objs.size f cd (aK (s.heap.objs.size+1) scope.names h)))->av7 H f qual params body scope fr cap h->(∀ b o,K.lookup b=some o->H b=none)->sp vs H Q E0 ->
   ∃ t,PE (ax9 P w K mg base N qual scope f cd h A p s H) body t/\t (vs.map some++cap.map some) (aa5 h H) λ v H'=>(∀ b,isC h b=true->H' b=none)->Q v (Put h H H')) :
  ClOk P w K mg base (k+1) (λ H=>av7 H f qual params body scope fr cap h) f sp:=by
 refine⟨λ A p s H us vs Q hr F hR r a1=>?_⟩
 have hl:=len _ _ _ _ a1
 obtain⟨pm,c',G,h1,h2,h3,h4,h5,h6⟩:=id hR
 have a4:s.heap.NoLimit:=F.mod.nolimit.keeps λ b o e=>(F.bs b o e).1
 refine PySem.W.kla_callFunE hr.depth (ap2 F.hok h1) rfl S.co S.gen rfl (as6 F.hok h2) ?_
 rw[Y pm c' G us (by rw[<-r.length];exact hl)]
 refine ay (am5 S.kind (λ y hy=>?_) λ env he s1 x=>?_)
 .rcases S.par y.1 (dG (show(y.1,y.2)∈ps.zip us from hy)).1 with q|q
  .exact .inl q
  .exact .inr ⟨q,zM q⟩
 .subst he
  refine⟨a4.keeps x.toInCall.keep,PySem.W.kla_codeExpr ?_⟩
  obtain⟨t,ht,hq⟩:=Z A p s H (.ref c') vs Q (hr.deeper _) hR (λ b o e=>(F.bs b o (F.mod.kin b o e)).2) a1
  have I:=aW7 S hr.hd F hl a3 r h3 h4 h5 h6 x
  refine bP (ht [] s1 _ _ _ I hq) (λ u s' hs=>?_) λ e s' hs=>hs.elim
  obtain⟨v,H',J,rv,q⟩:=hs
  obtain⟨un,a2⟩:=aL9 F.hok h3 F.frf J.base J.hok
  have a0:∀ b,isC h b=true->H' b=none:=λ b y=>by
   obtain⟨o,v,z,_⟩:=h3.at y
   exact(show Un (frs p) [] (aa5 h H) H' s.heap s'.heap from J.base).free b o (F.hok b _ z).1 (aa5.cell y) (by simp)
  exact⟨v,_,J.os,J.bare,un,a2,rv,q a0⟩
theorem Cells.kp {H H':Hp}(h:Cells clos H)(k:Kp H H'):Cells clos H':=λ x c e=>by
 obtain⟨o,v,q,d⟩:=h x c e
 exact⟨o,v,k _ _ q rfl,d⟩
def PVp (Γ:Gm)(cells:yC)(N:yI)(W:St)(C:Nat->Addr)(H:Hp)(d:lf)(v:V):Prop:=RV Γ C H d v\/∃ id cs,d=.clo id cs/\∃ f J,v=.ref f/\Γ.lg id J/\at0 H f J (ak4 cells J.scope.names []) /\
  cs.length=J.fr.length/\(∀ x,J.scope.names.lookup x=some .free->∃ c,cells.lookup x=some c) /\
  ∃ cap,RVL Γ C H cs cap/\∀(i:Nat) (x:Str) (v:V),J.fr[i]?=some x->cap[i]?=some v->J.scope.names.lookup x=some .free/\∃ j:Nat,N[j]?=some x/\W[j]?=some (some v)
inductive PVL (Γ:Gm)(cells:yC)(N:yI)(W:St)(C:Nat->Addr)(H:Hp):List lf->List V->Prop where
 | nil:PVL Γ cells N W C H [] []
 | cons {d v l vs} (a:PVp Γ cells N W C H d v) (b:PVL Γ cells N W C H l vs):PVL Γ cells N W C H (d::l) (v::vs)
theorem PVp.mono {cells:yC}{N:yI}{W:St}{C C':Nat->Addr}{s s':lb}{H H':Hp}(g:Gr C s H C' s' H'){d:lf}{v:V}(b:d.bnd s.length=true)(h:PVp Γ cells N W C H d v):PVp Γ cells N W C' H' d v:=by
 rcases h with h|⟨id,cs,rfl,h⟩
 .exact .inl (RV.mono g _ _ b h)
 .obtain⟨f,J,e,F,Y,p,Z,cap,G,z⟩:=h
  unfold lr at b
  exact .inr ⟨id,cs,rfl,f,J,e,F,Y.kp g.w.kp,p,Z,cap,RVL.mono g cs cap b G,z⟩
end
variable {Γ:Gm} {X:Cx}
def TEv (Γ:Gm)(m:lh->lb->lj lf):TE:=λ W H Q=>∃ C U s d s',RE Γ C H s.length U W/\Rp Γ C H s/\m U s=.ok d s'/\ab2 Γ C s H d s' Q
def bP2 (Γ:Gm)(C:Nat->Addr)(s:lb)(H:Hp)(l:List lf)(s':lb)(Q:List V->Hp->Prop):Prop :=
 ∀ vs C' H',Gr C s H C' s' H'->s.length<=s'.length->li s'.length l=true->RVL Γ C' H' l vs->Rp Γ C' H' s'->Q vs H'
def TAv (Γ:Gm)(m:lh->lb->lj (List lf)):TA:=λ W H Q=>∃ C U s l s',RE Γ C H s.length U W/\Rp Γ C H s/\m U s=.ok l s'/\bP2 Γ C s H l s' Q
def aG7 (Γ:Gm)(C:Nat->Addr)(s:lb)(H:Hp)(b:Bool)(s':lb)(Q:Bool->Hp->Prop):Prop :=
 ∀ C' H',Gr C s H C' s' H'->s.length<=s'.length->Rp Γ C' H' s'->Q b H'
def TTv (Γ:Gm)(m:lh->lb->lj lf):TT:=λ W H Q=>∃ C U s b s',RE Γ C H s.length U W/\Rp Γ C H s/\m U s=.ok (.bl b) s'/\aG7 Γ C s H b s' Q
theorem PE.imp {e:Expr}{t t':TE}(h:PE X e t)(i:∀ W H Q,t' W H Q->t W H Q):PE X e t':=λ p s W H Q I q=>h p s W H Q I (i W H Q q)
theorem PT.imp {e:Expr}{t t':TT}(h:PT X e t)(i:∀ W H Q,t' W H Q->t W H Q):PT X e t':=λ p s W H Q I q=>h p s W H Q I (i W H Q q)
theorem PA.imp {e:yL}{t t':TA}(h:PA X e t)(i:∀ W H Q,t' W H Q->t W H Q):PA X e t':=λ pos p s W H Q I q=>h pos p s W H Q I (i W H Q q)
theorem aG7.trans {C C1:Nat->Addr}{s s1 s':lb}{H z:Hp}{b:Bool}{Q:Bool->Hp->Prop}(h:aG7 Γ C s H b s' Q)(g:Gr C s H C1 s1 z)(l:s.length<=s1.length):aG7 Γ C1 s1 z b s' Q :=
 λ C' H' g' F p=>h C' H' (g.trans g' l) (ak l F) p
theorem bP6 (i:Nat){W:St}{H:Hp}{Q:VK}(h:TEv Γ (λ U s=>DV.aX8 U i s) W H Q):cb4 i W H Q:=by
 obtain⟨C,U,s,d,s',E,R,p,q⟩:=h
 simp only[DV.aX8]at p
 split at p
 .rename_i d' e
  cases p
  obtain⟨b,v,e1,e2⟩:=E.val i _ e
  exact⟨v,e1,q.here R b e2⟩
 .exact fb p
theorem as0 {c:lf}{v:V}(hb:∀ n,c.bnd n=true)(hv:∀ C H,RV Γ C H c v){W:St}{H:Hp}{Q:VK}(h:TEv Γ (λ U s=>.ok c s) W H Q):tC v W H Q:=by
 obtain⟨C,U,s,d,s',E,R,p,q⟩:=h
 cases p
 exact q.here R (hb _) (hv _ _)
theorem be2 {F G:lh->lb->lj lf}{f:lf->lf->lb->lj lf}{W:St}{H:Hp}{Q:VK}(h:TEv Γ (λ U s=>(F U s).bind λ x s=>(G U s).bind λ y s=>f x y s) W H Q):tOp (rOp Γ f) (TEv Γ F) (TEv Γ G) W H Q:=by
 obtain⟨C,U,s,d,s',E,R,p,q⟩:=h
 obtain⟨x,s1,e1,p⟩:=aa0 p
 obtain⟨y,s2,e2,p⟩:=aa0 p
 refine⟨C,U,s,x,s1,E,R,e1,λ v1 C1 H1 g1 l1 J r1 R1=>?_⟩
 refine⟨C1,U,s1,y,s2,E.mono g1 l1,R1,e2,λ v2 C2 H2 Y z b2 Z R2=>?_⟩
 exact⟨C2,s2,x,y,d,s',R2,RV.mono Y x v1 J r1,Z,zg z x J,b2,p,q.trans (g1.trans Y l1) (ak l1 z)⟩
theorem zE {α:Type}{r:lj lf}{f:Bool->lb->lj α}{a:α}{t:lb}(h:lw r f=.ok a t):∃ b s,r=.ok (.bl b) s/\f b s=.ok a t:=by
 unfold lw at h
 obtain⟨d,s,e,h⟩:=aa0 h
 cases d with
 | bl b=>exact⟨b,s,e,h⟩
 | _=>exact fb h
theorem bk8 {m:lh->lb->lj lf}{W:St}{H:Hp}{Q:Bool->Hp->Prop}(h:TTv Γ m W H Q):tB (TEv Γ m) W H Q:=by
 obtain⟨C,U,s,b,s',E,R,p,q⟩:=h
 refine⟨C,U,s,.bl b,s',E,R,p,λ v C' H' g l F r z=>?_⟩
 exact⟨b,r.blE,q C' H' g l z⟩
theorem by4 {m:lh->lb->lj lf}{W:St}{H:Hp}{Q:Bool->Hp->Prop}(h:TTv Γ m W H Q):bN2 (TEv Γ m) W H Q:=bk8 h
theorem bG8 {m:lh->lb->lj lf}{W:St}{H:Hp}{Q:Bool->Hp->Prop}(h:TTv Γ (λ U s=>lw (m U s) λ b s=>.ok (.bl (!b)) s) W H Q):cb5 (TTv Γ m) W H Q:=by
 obtain⟨C,U,s,b,s',E,R,p,q⟩:=h
 obtain⟨c,s1,e1,p⟩:=zE p
 cases p
 exact⟨C,U,s,c,_,E,R,e1,q⟩
theorem bj5 {z F:lh->lb->lj lf}{W:St}{H:Hp}{Q:Bool->Hp->Prop}(h:TTv Γ (λ U s=>lw (z U s) λ c s=>if c then lw (F U s) λ c s=>.ok (.bl c) s else .ok (.bl false) s) W H Q):ca6 (TTv Γ z) (TTv Γ F) W H Q:=by
 obtain⟨C,U,s,b,s',E,R,p,q⟩:=h
 obtain⟨c,s1,e1,p⟩:=zE p
 refine⟨C,U,s,c,s1,E,R,e1,λ C1 G g1 l1 R1=>?_⟩
 cases c with
 | true =>
  rw[if_pos rfl]at p ⊢
  obtain⟨J,s2,e2,p⟩:=zE p
  cases p
  exact⟨C1,U,s1,_,_,E.mono g1 l1,R1,e2,q.trans g1 l1⟩
 | false =>
  rw[if_neg aU]at p ⊢
  cases p
  exact q C1 G g1 l1 R1
theorem bC7 {z F:lh->lb->lj lf}{W:St}{H:Hp}{Q:Bool->Hp->Prop}(h:TTv Γ (λ U s=>lw (z U s) λ c s=>if c then .ok (.bl true) s else lw (F U s) λ c s=>.ok (.bl c) s) W H Q):tOr (TTv Γ z) (TTv Γ F) W H Q:=by
 obtain⟨C,U,s,b,s',E,R,p,q⟩:=h
 obtain⟨c,s1,e1,p⟩:=zE p
 refine⟨C,U,s,c,s1,E,R,e1,λ C1 G g1 l1 R1=>?_⟩
 cases c with
 | true =>
  rw[if_pos rfl]at p ⊢
  cases p
  exact q C1 G g1 l1 R1
 | false =>
  rw[if_neg aU]at p ⊢
  obtain⟨J,s2,e2,p⟩:=zE p
  cases p
  exact⟨C1,U,s1,_,_,E.mono g1 l1,R1,e2,q.trans g1 l1⟩
theorem bG4 {m:lh->lb->lj lf}{W:St}{H:Hp}{Q:VK}(h:TEv Γ (λ U s=>lw (m U s) λ b s=>.ok (.bl (!b)) s) W H Q):bP1 (TEv Γ m) W H Q:=by
 obtain⟨C,U,s,d,s',E,R,p,q⟩:=h
 obtain⟨c,s1,e1,p⟩:=zE p
 cases p
 exact⟨C,U,s,.bl c,_,E,R,e1,λ v C1 z g l b r R1=>⟨c,r.blE,q _ C1 z g l rfl RV.blI R1⟩⟩
theorem bk1 {z F:lh->lb->lj lf}{W:St}{H:Hp}{Q:VK}(h:TEv Γ (λ U s=>lw (z U s) λ c s=>if c then lw (F U s) λ c s=>.ok (.bl c) s else .ok (.bl false) s) W H Q):bK7 (TEv Γ z) (TEv Γ F) W H Q:=by
 obtain⟨C,U,s,d,s',E,R,p,q⟩:=h
 obtain⟨c,s1,e1,p⟩:=zE p
 refine⟨C,U,s,.bl c,s1,E,R,e1,λ v C1 G g1 l1 J r1 R1=>⟨c,r1.blE,?_⟩⟩
 cases c with
 | true =>
  rw[if_pos rfl]at p ⊢
  obtain⟨c,s2,e2,p⟩:=zE p
  cases p
  exact⟨C1,U,s1,.bl c,_,E.mono g1 l1,R1,e2,q.trans g1 l1⟩
 | false =>
  rw[if_neg aU]at p ⊢
  cases p
  exact q _ C1 G g1 l1 rfl RV.blI R1
theorem bL1 {z F:lh->lb->lj lf}{W:St}{H:Hp}{Q:VK}(h:TEv Γ (λ U s=>lw (z U s) λ c s=>if c then .ok (.bl true) s else lw (F U s) λ c s=>.ok (.bl c) s) W H Q):cc0 (TEv Γ z) (TEv Γ F) W H Q:=by
 obtain⟨C,U,s,d,s',E,R,p,q⟩:=h
 obtain⟨c,s1,e1,p⟩:=zE p
 refine⟨C,U,s,.bl c,s1,E,R,e1,λ v C1 G g1 l1 J r1 R1=>⟨c,r1.blE,?_⟩⟩
 cases c with
 | true =>
  rw[if_pos rfl]at p ⊢
  cases p
  exact q _ C1 G g1 l1 rfl RV.blI R1
 | false =>
  rw[if_neg aU]at p ⊢
  obtain⟨c,s2,e2,p⟩:=zE p
  cases p
  exact⟨C1,U,s1,.bl c,_,E.mono g1 l1,R1,e2,q.trans g1 l1⟩
theorem bB6 {mc z F:lh->lb->lj lf}{W:St}{H:Hp}{Q:VK}(h:TEv Γ (λ U s=>lw (mc U s) λ k s=>if k then z U s else F U s) W H Q):tIf (TTv Γ mc) (TEv Γ z) (TEv Γ F) W H Q:=by
 obtain⟨C,U,s,d,s',E,R,p,q⟩:=h
 obtain⟨c,s1,e1,p⟩:=zE p
 refine⟨C,U,s,c,s1,E,R,e1,λ C1 G g1 l1 R1=>?_⟩
 cases c with
 | true =>
  rw[if_pos rfl]at p ⊢
  exact⟨C1,U,s1,d,s',E.mono g1 l1,R1,p,q.trans g1 l1⟩
 | false =>
  rw[if_neg aU]at p ⊢
  exact⟨C1,U,s1,d,s',E.mono g1 l1,R1,p,q.trans g1 l1⟩
theorem am0 {W:St}{H:Hp}{Q:List V->Hp->Prop}(h:TAv Γ (λ U s=>.ok [] s) W H Q):aI0 W H Q:=by
 obtain⟨C,U,s,d,s',E,R,p,q⟩:=h
 cases p
 exact q [] C H (Gr.refl _ _ _) (ai _) rfl .nil R
theorem bA3 {m:lh->lb->lj lf}{G:lh->lb->lj (List lf)}{W:St}{H:Hp}{Q:List V->Hp->Prop}(h:TAv Γ (λ U s=>(m U s).bind λ d s=>(G U s).bind λ l s=>.ok (d::l) s) W H Q):ak2 (TEv Γ m) (TAv Γ G) W H Q:=by
 obtain⟨C,U,s,l,s',E,R,p,q⟩:=h
 obtain⟨x,s1,e1,p⟩:=aa0 p
 obtain⟨y,s2,e2,p⟩:=aa0 p
 cases p
 refine⟨C,U,s,x,s1,E,R,e1,λ v1 C1 H1 g1 l1 F r1 R1=>?_⟩
 refine⟨C1,U,s1,y,_,E.mono g1 l1,R1,e2,λ v2 C2 Z J z b2 Y R2=>?_⟩
 refine q (v1::v2) C2 Z (g1.trans J l1) (ak l1 z) ?_ (.cons (RV.mono J x v1 F r1) Y) R2
 unfold li
 rw[zg z x F,b2];rfl
theorem aw8 {z:lh->lb->lj (List lf)}{f:List lf->lb->lj lf}{W:St}{H:Hp}{Q:VK}(h:TEv Γ (λ U s=>(z U s).bind λ l s=>f l s) W H Q):tCB (rCl Γ f) (TAv Γ z) W H Q:=by
 obtain⟨C,U,s,d,s',E,R,p,q⟩:=h
 obtain⟨l,s1,e1,p⟩:=aa0 p
 exact⟨C,U,s,l,s1,E,R,e1,λ vs C1 G g1 l1 F r1 R1=>⟨C1,s1,l,d,s',R1,r1,F,p,q.trans g1 l1⟩⟩
theorem bp4 {m:lh->lb->lj lf}{ml mh:lh->lb->lj lf}{W:St}{H:Hp}{Q:VK} :
  (TEv Γ (λ U s=>(m U s).bind λ x s=>(ml U s).bind λ y s=>match y with|.int i=>mM x (some i) none s|_=>.bad) W H Q->tSl (rSl Γ) (TEv Γ m) (aN2 (TEv Γ ml)) aA7 W H Q) /\
  (TEv Γ (λ U s=>(m U s).bind λ x s=>(mh U s).bind λ y s=>match y with|.int i=>mM x none (some i) s|_=>.bad) W H Q->tSl (rSl Γ) (TEv Γ m) aA7 (aN2 (TEv Γ mh)) W H Q) /\
  (TEv Γ (λ U s=>(m U s).bind λ x s=>(ml U s).bind λ y s=>match y with|.int i=>(mh U s).bind (λ z s=>match z with|.int j=>mM x (some i) (some j) s|_=>.bad)|_=>.bad) W H Q->tSl (rSl Γ) (TEv Γ m) (aN2 (TEv Γ ml)) (aN2 (TEv Γ mh)) W H Q):=by
 refine⟨λ h=>?_,λ h=>?_,λ h=>?_⟩
 .obtain⟨C,U,s,d,s',E,R,p,q⟩:=h
  obtain⟨x,s1,e1,p⟩:=aa0 p
  obtain⟨y,s2,e2,p⟩:=aa0 p
  refine⟨C,U,s,x,s1,E,R,e1,λ v1 C1 H1 g1 l1 J r1 R1=>?_⟩
  refine⟨C1,U,s1,y,s2,E.mono g1 l1,R1,e2,λ v2 C2 H2 G F b2 Y R2=>?_⟩
  cases y with
  | int i=>exact⟨i,Y.intE,C2,s2,x,d,s',R2,RV.mono G x v1 J r1,zg F x J,p,q.trans (g1.trans G l1) (ak l1 F)⟩
  | _=>exact fb p
 .obtain⟨C,U,s,d,s',E,R,p,q⟩:=h
  obtain⟨x,s1,e1,p⟩:=aa0 p
  obtain⟨y,s2,e2,p⟩:=aa0 p
  refine⟨C,U,s,x,s1,E,R,e1,λ v1 C1 H1 g1 l1 J r1 R1=>?_⟩
  refine⟨C1,U,s1,y,s2,E.mono g1 l1,R1,e2,λ v2 C2 H2 G F b2 Y R2=>?_⟩
  cases y with
  | int i=>exact⟨i,Y.intE,C2,s2,x,d,s',R2,RV.mono G x v1 J r1,zg F x J,p,q.trans (g1.trans G l1) (ak l1 F)⟩
  | _=>exact fb p
 .obtain⟨C,U,s,d,s',E,R,p,q⟩:=h
  obtain⟨x,s1,e1,p⟩:=aa0 p
  obtain⟨y,s2,e2,p⟩:=aa0 p
  refine⟨C,U,s,x,s1,E,R,e1,λ v1 C1 H1 g1 l1 J r1 R1=>?_⟩
  refine⟨C1,U,s1,y,s2,E.mono g1 l1,R1,e2,λ v2 C2 H2 G F b2 Y R2=>?_⟩
  cases y with
  | int i =>
   obtain⟨z,s3,e3,p⟩:=aa0 p
   refine⟨i,Y.intE,C2,U,s2,z,s3,E.mono (g1.trans G l1) (ak l1 F),R2,e3,λ v3 C3 H3 g3 Z b3 r3 R3=>?_⟩
   cases z with
   | int j=>exact⟨j,r3.intE,C3,s3,x,d,s',R3,RV.mono (G.trans g3 F) x v1 J r1,zg (ak F Z) x J,p,q.trans ((g1.trans G l1).trans g3 (ak l1 F)) (ak (ak l1 F) Z)⟩
   | _=>exact fb p
  | _=>exact fb p
variable {Γ:Gm} {X:Cx}
def af1 (Γ:Gm)(J:It)(C0:Nat->Addr)(H0:Hp)(s0:lb)(q:mq):Prop :=
 ∀ C H s,Gr C0 s0 H0 C s H->s0.length<=s.length->Rp Γ C H s->lM s0 s q.src=true->∀ i:Nat,
  (i<q.its.length->J.go i H/\∀ x H',J.yld i H x H'->ab4 H H'/\∀ d,q.its[i]?=some d->RV Γ C H' d x)/\(q.its.length<=i->J.stop i H)
def TIv (Γ:Gm)(m:lh->lb->lj mq):TI:=λ W H R=>∃ C U s q s',RE Γ C H s.length U W/\Rp Γ C H s/\m U s=.ok q s' /\
 ∀ J C' H',Gr C s H C' s' H'->s.length<=s'.length->li s'.length q.its=true->Rp Γ C' H' s'->af1 Γ J C' H' s' q->R J H'
theorem PI.imp {tg e:Expr}{t t':TI}(h:PI X tg e t)(i:∀ W H R,t' W H R->t W H R):PI X tg e t':=λ p s W H R I q=>h p s W H R I (i W H R q)
theorem PI.or {tg e:Expr}{t t':TI}(h:PI X tg e t)(h':PI X tg e t'):PI X tg e (λ W H R=>t W H R\/t' W H R):=λ p s W H R I q=>q.elim (h p s W H R I) (h' p s W H R I)
theorem bf0 {C0:Nat->Addr}{H0:Hp}{s0:lb}{a:Addr}{z:List V}{l:List lf}(h:SqT Γ.K H0 a z)(hl:RVL Γ C0 H0 l z)(hb:li s0.length l=true):af1 Γ (Itt Γ.K a) C0 H0 s0 ⟨l,[]⟩:=by
 intro C H s g _ R _ i
 have h':=g.w.kp.sqT h
 have p:=RVL.mono g l z hb hl
 refine⟨λ hlt=>⟨⟨z,z[i]'(by rw[p.length];exact hlt),h',ah _⟩,λ x H' y=>?_⟩,λ F=>⟨z,h',by rw[p.length];exact F⟩⟩
 obtain⟨e,y⟩:=y
 subst e
 refine⟨ab4.refl _,λ d hd=>?_⟩
 obtain⟨v,e1,e2⟩:=p.get hd
 rw[y z h']at e1;cases e1
 exact e2
theorem bv0 {C0:Nat->Addr}{H0:Hp}{s0:lb}{a:Addr}{z:List V}{l:List lf}(h:SqF Γ.K H0 a z)(hl:RVL Γ C0 H0 l z)(hb:li s0.length l=true):af1 Γ (Itl Γ.K a) C0 H0 s0 ⟨l,[]⟩:=by
 intro C H s g _ R _ i
 have h':=h.2 _ g.w.kp
 have p:=RVL.mono g l z hb hl
 refine⟨λ hlt=>⟨⟨z,z[i]'(by rw[p.length];exact hlt),h',ah _⟩,λ x H' y=>?_⟩,λ F=>⟨z,h',by rw[p.length];exact F⟩⟩
 obtain⟨e,y⟩:=y
 subst e
 refine⟨ab4.refl _,λ d hd=>?_⟩
 obtain⟨v,e1,e2⟩:=p.get hd
 rw[y z h']at e1;cases e1
 exact e2
theorem aY5 {C0:Nat->Addr}{H0:Hp}{s0:lb}{r:Nat}{l:List lf}(hr:s0[r]?=some (.lst l)):af1 Γ (Itl Γ.K (C0 r)) C0 H0 s0 ⟨l,[r]⟩:=by
 intro C H s g _ R G i
 have p:r<s0.length:=(ac.mp hr).1
 have hs:s[r]?=some (.lst l):=by
  unfold lM at G
  simp only[bI,kM,iU,decide_eq_true_eq]at G
  rw[G];exact hr
 obtain⟨z,e,h⟩:=R.addr hs
 rw[g.w.map r p]at e
 have h':SqL Γ.K H (C0 r) z:=SqL.of e
 refine⟨λ hlt=>⟨⟨z,z[i]'(by rw[h.length];exact hlt),h',ah _⟩,λ x H' y=>?_⟩,λ F=>⟨z,h',by rw[h.length];exact F⟩⟩
 obtain⟨e,y⟩:=y
 subst e
 refine⟨ab4.refl _,λ d hd=>?_⟩
 obtain⟨v,e1,e2⟩:=h.get hd
 rw[y z h']at e1;cases e1
 exact e2
theorem ba3 {C0:Nat->Addr}{H0:Hp}{s0:lb}{l:List Nat}:af1 Γ (Its ⟨l.toArray⟩) C0 H0 s0 ⟨l.map λ c=>.str [c],[]⟩:=by
 intro C H s g _ R _ i
 have hsz:(⟨l.toArray⟩:Str).cps.size=l.length:=by simp
 refine⟨λ hlt=>?_,λ h=>?_⟩
 .simp only[aD]at hlt
  refine⟨show i<(⟨l.toArray⟩:Str).cps.size by rw[hsz];exact hlt,λ x H' y=>?_⟩
  obtain⟨e,c,hc,rfl⟩:=y
  subst e
  refine⟨ab4.refl _,λ d hd=>?_⟩
  have p:l[i]?=some c:=by simpa using hc
  rw[aC,p]at hd
  cases hd
  exact RV.strI (by simp;decide)
 .simp only[aD]at h
  show(⟨l.toArray⟩:Str).cps.size<=i
  rw[hsz];exact h
theorem aF3 {C0:Nat->Addr}{H0:Hp}{s0:lb}{a b:Int}:af1 Γ (Itr a (b - a).toNat) C0 H0 s0 ⟨lW a b,[]⟩:=by
 intro C H s g _ R _ i
 have hn:(lW a b).length=(b - a).toNat:=by simp[lW]
 refine⟨λ hlt=>⟨show i<(b - a).toNat by rw[<-hn];exact hlt,λ x H' y=>?_⟩,λ h=>show(b - a).toNat<=i by rw[<-hn];exact h⟩
 obtain⟨e,rfl⟩:=y
 subst e
 refine⟨ab4.refl _,λ d hd=>?_⟩
 simp only[lW]at hd hlt
 rw[aC,cu (by simpa using hlt)]at hd
 cases hd
 exact RV.intI
theorem aN9 {C0:Nat->Addr}{H0:Hp}{s0:lb}{a:Int}:af1 Γ (bX6 a (a+1).toNat) C0 H0 s0 ⟨mD a,[]⟩:=by
 intro C H s g _ R _ i
 have hn:(mD a).length=(a+1).toNat:=by unfold mD;simp
 refine⟨λ hlt=>⟨show i<(a+1).toNat by rw[<-hn];exact hlt,λ x H' y=>?_⟩,λ p=>show(a+1).toNat<=i by rw[<-hn];exact p⟩
 obtain⟨e,rfl⟩:=y
 subst e
 refine⟨ab4.refl _,λ d hd=>?_⟩
 have h:i<(a+1).toNat:=by rw[<-hn];exact hlt
 simp only[mD]at hd
 rw[aC,cu h]at hd
 cases hd
 exact RV.intI
theorem bv7 {z:lh->lb->lj lf}{W:St}{H:Hp}{R:It->Hp->Prop}(h:TIv Γ (λ U s=>(z U s).bind λ x s=>match x with|.int i=>if 0<=i/\i<1048576 then .ok ⟨mD i,[]⟩ s else .bad|_=>.bad) W H R) :
  bF4 (ak2 (TEv Γ z) (ak2 (tC (.int (-1))) (ak2 (tC (.int (-1))) aI0))) W H R:=by
 obtain⟨C,U,s,q,s',E,P,p,k⟩:=h
 obtain⟨x,s1,e1,p⟩:=aa0 p
 refine⟨C,U,s,x,s1,E,P,e1,λ v C1 J g l b r G=>?_⟩
 cases x with
 | int i =>
  simp only at p
  split at p
  .rename_i F
   cases p
   refine⟨i,by rw[r.intE],⟨F.1,F.2⟩,k _ C1 J g l ?_ G aN9⟩
   refine aa2.mpr λ d hd=>?_
   unfold mD at hd
   rw[bf]at hd
   obtain⟨_,_,rfl⟩:=hd
   rfl
  .exact fb p
 | _=>exact fb p
theorem bo7 {m:lh->lb->lj lf}{W:St}{H:Hp}{R:It->Hp->Prop}(h:TIv Γ (λ U s=>(m U s).bind λ x s=>match x with|.int i=>if -lX<=i/\i<lX then .ok ⟨lW 0 i,[]⟩ s else .bad|_=>.bad) W H R) :
  bD0 (ak2 (TEv Γ m) aI0) W H R:=by
 obtain⟨C,U,s,q,s',E,P,p,k⟩:=h
 obtain⟨x,s1,e1,p⟩:=aa0 p
 refine⟨C,U,s,x,s1,E,P,e1,λ v C1 F g l b r G=>?_⟩
 cases x with
 | int i =>
  simp only at p
  split at p
  .rename_i z
   cases p
   have hw:lX=2^62:=by decide
   rw[hw]at z
   refine⟨i,by rw[r.intE],z.1,z.2,k _ C1 F g l ?_ G ?_⟩
   .refine aa2.mpr λ d hd=>?_
    simp only[lW,bf]at hd
    obtain⟨_,_,rfl⟩:=hd
    rfl
   .have:=aF3 (Γ:=Γ) (C0:=C1) (H0:=F) (s0:=s') (a:=0) (b:=i)
    rwa [kN]at this
  .exact fb p
 | _=>exact fb p
theorem bn5 {F G:lh->lb->lj lf}{W:St}{H:Hp}{R:It->Hp->Prop}(h:TIv Γ (λ U s=>(F U s).bind λ x s=>(G U s).bind λ y s=>match x,y with|.int i,.int j=>if(-lX<=i/\i<lX)/\-lX<=j/\j<lX then .ok ⟨lW i j,[]⟩ s else .bad|_,_=>.bad) W H R) :
  bL0 (ak2 (TEv Γ F) (ak2 (TEv Γ G) aI0)) W H R:=by
 obtain⟨C,U,s,q,s',E,P,p,k⟩:=h
 obtain⟨x,s1,e1,p⟩:=aa0 p
 obtain⟨y,s2,e2,p⟩:=aa0 p
 refine⟨C,U,s,x,s1,E,P,e1,λ v C1 H1 g l b r Y=>?_⟩
 refine⟨C1,U,s1,y,s2,E.mono g l,Y,e2,λ v2 C2 H2 g2 J b2 Z P2=>?_⟩
 cases x with
 | int i =>
  cases y with
  | int j =>
   simp only at p
   split at p
   .rename_i z
    cases p
    have hw:lX=2^62:=by decide
    rw[hw]at z
    refine⟨i,j,by rw[r.intE,Z.intE],⟨z.1.1,z.1.2,z.2.1,z.2.2⟩,k _ C2 H2 (g.trans g2 l) (ak l J) ?_ P2 aF3⟩
    refine aa2.mpr λ d hd=>?_
    simp only[lW,bf]at hd
    obtain⟨_,_,rfl⟩:=hd
    rfl
   .exact fb p
  | _=>exact fb p
 | _=>cases y<;>cases p
theorem bL7 {m:lh->lb->lj lf}{W:St}{H:Hp}{R:It->Hp->Prop}(h:TIv Γ (λ U s=>(m U s).bind λ d s=>DV.al9 d s) W H R) :
  bS4 Γ.K (TEv Γ m) W H R\/bt6 Γ.K (TEv Γ m) W H R\/ca7 (TEv Γ m) W H R:=by
 obtain⟨C,U,s,q,s',E,P,p,k⟩:=h
 obtain⟨x,s1,e1,p⟩:=aa0 p
 unfold DV.al9 at p
 cases x with
 | tup l =>
  cases p
  refine .inl ⟨C,U,s,_,_,E,P,e1,λ v C1 F g l b r z=>?_⟩
  obtain⟨a,J,rfl,Z,d1⟩:=r.tupE
  unfold lr at b
  exact⟨a,rfl,⟨J,Z⟩,k _ C1 F g l b z (bf0 Z d1 b)⟩
 | str l =>
  cases p
  refine .inr (.inr ⟨C,U,s,_,_,E,P,e1,λ v C1 F g G b r z=>?_⟩)
  refine⟨_,r.strE,k _ C1 F g G ?_ z ba3⟩
  refine aa2.mpr λ d hd=>?_
  simp only[bf]at hd
  obtain⟨_,_,rfl⟩:=hd
  rfl
 | ref r =>
  simp only at p
  cases hs:s1[r]? with
  | none=>rw[hs]at p;cases p
  | some o =>
   rw[hs]at p
   cases o with
   | lst l =>
    cases p
    refine .inr (.inl ⟨C,U,s,_,_,E,P,e1,λ v C1 F g G b Y z=>?_⟩)
    have e:=Y.refE;subst e
    obtain⟨J,e2,d1⟩:=z.addr hs
    have wf:=z.wf _ _ hs
    unfold ln at wf
    exact⟨C1 r,rfl,⟨J,SqL.of e2⟩,k _ C1 F g G wf z (aY5 hs)⟩
   | ro l =>
    cases p
    refine .inr (.inl ⟨C,U,s,_,_,E,P,e1,λ v C1 F g G b Y z=>?_⟩)
    have e:=Y.refE;subst e
    obtain⟨J,e2,d1⟩:=z.obj _ _ hs
    have wf:=z.wf _ _ hs
    unfold ln at wf
    exact⟨C1 r,rfl,⟨J,e2.1⟩,k _ C1 F g G wf z (bv0 e2 d1 wf)⟩
   | dic l=>exact fb p
   | dit l=>exact fb p
   | ins c l=>exact fb p
   | dicF l=>exact fb p
 | _=>exact fb p
theorem aQ5 {C:Nat->Addr}{H:Hp}{d:lf}{k:Key}(h:aj5 d=some k)(hl:d.keyF=true):RV Γ C H d (kV k):=by
 cases d with
 | int i=>cases h;exact RV.intI
 | str x=>cases h;exact RV.strI (ak (of_decide_eq_true hl) (by decide))
 | _=>cases h
theorem RVD.keyAt {C:Nat->Addr}{H:Hp}:∀ {l:List (lf×lf)} {kvs:List (Key×V)} {i:Nat} {k:Key} {v:V},RVD aj5 Γ C H l kvs->kvs[i]?=some (k,v)->∃ p,l[i]?=some p/\aj5 p.1=some k
 | [],_,_,_,_,h,e=>by cases(show _=[]from h);simp at e
 | (d,e0)::l,_,0,_,_,h,e=>by
  obtain⟨F,v',r,rfl,e2,G,z⟩:=h
  cases(av e:(F,v')=_)
  exact⟨_,rfl,e2⟩
 | (d,e0)::l,_,i+1,_,_,h,e=>by
  obtain⟨F,v',r,rfl,e2,G,z⟩:=h
  exact RVD.keyAt (i:=i) z (by simpa using e)
theorem aN8 {C0:Nat->Addr}{H0:Hp}{s0:lb}{a:Addr}{o:Obj}{r:Nat}{l:List (lf×lf)}{kvs:List (Key×V)}(h:H0 a=some (.frz o (.dK kvs)))(hl:RVD aj5 Γ C0 H0 l kvs)(hk:l.all (λ p=>p.1.keyF)=true):af1 Γ (Jk a o kvs) C0 H0 s0 ⟨l.map (·.1),[r]⟩:=by
 intro C H s g _ R _ i
 have h':=g.fz _ _ _ h
 have len:kvs.length=l.length:=hl.length
 refine⟨λ hlt=>⟨⟨h',by rw[len];simpa using hlt⟩,λ x H' y=>?_⟩,λ z=>⟨h',by rw[len];simpa using z⟩⟩
 obtain⟨e,k,v,F,rfl⟩:=y
 subst e
 refine⟨ab4.refl _,λ d hd=>?_⟩
 obtain⟨p,e1,e2⟩:=hl.keyAt F
 have hd:(l.map (·.1))[i]?=some d:=hd
 rw[aC,e1]at hd
 cases hd
 exact aQ5 e2 (aL.mp hk p (aY e1))
theorem aQ8 {d:lf}{q:mq}{s s':lb}(h:ny d s=.ok q s'):∃ r l,d=.ref r/\s[r]?=some (.dic l)/\l.all (λ p=>p.1.keyF)=true/\q=⟨l.map (·.1),[r]⟩/\s'=s.set r (.dicF l):=by
 unfold ny at h
 split at h
 .split at h
  .rename_i l e
   split at h
   .rename_i hk;cases h;exact⟨_,l,rfl,e,hk,rfl,rfl⟩
   .exact fb h
  .exact fb h
 .exact fb h
theorem br7 {m:lh->lb->lj lf}{W:St}{H:Hp}{R:It->Hp->Prop}(h:TIv Γ (λ U s=>(m U s).bind λ d s=>ny d s) W H R):bM9 (TEv Γ m) W H R:=by
 obtain⟨C,U,s,q,s',E,P,F,k⟩:=h
 obtain⟨x,s1,e1,F⟩:=aa0 F
 obtain⟨r,l,rfl,hs,hk,rfl,rfl⟩:=aQ8 F
 refine⟨C,U,s,_,s1,E,P,e1,λ v C1 Z g G b Y z=>?_⟩
 obtain⟨kvs,e2,d1⟩:=z.obj r _ hs
 have wf:=z.wf _ _ hs
 have p:=wf
 unfold ln at p
 rw[ag]at p
 refine⟨C1 r,kvs,Y.refE,e2,λ o=>?_⟩
 obtain⟨J,R2⟩:=z.set (o:=.dicF l) (u:=.frz o (.dK kvs)) hs rfl wf λ H' g e=>⟨o,kvs,e,RVD.monoW g l kvs p.2 d1⟩
 exact k _ C1 _ (g.trans J G) (by rw[aW];exact G) (by rw[aW];exact p.1) R2 (aN8 zq (RVD.monoW J.w l kvs p.2 d1) hk)
variable {Γ:Gm} {X:Cx}
noncomputable def bR5:List Nat->TGs
 | []=>bZ7
 | i::is=>bJ4 (av0 i) (bR5 is)
noncomputable def gOf (K:ae):lN->TG
 | .one i=>av0 i
 | .tup is=>bX3 K is.length (bR5 is)
theorem bj6 {C:Nat->Addr}{H:Hp}{n:Nat}{U U':lh}{W:St}{i:Nat}{d:lf}{v:V}(E:RE Γ C H n U W)(r:RV Γ C H d v)(b:d.bnd n=true)(h:mF U i d=some U'):RE Γ C H n U' (W.set i (some v)):=by
 unfold mF at h
 split at h
 .rename_i p
  cases h
  refine⟨by rw[aW,aW];exact E.len,λ j e hj=>?_⟩
  by_cases hij:j=i
  .subst hij
   rw[a8 p]at hj
   cases hj
   exact⟨b,v,by rw[a8 (by rw[<-E.len];exact p)],r⟩
  .rw[am (bS hij)]at hj
   obtain⟨z,w,F,h3⟩:=E.val j e hj
   exact⟨z,w,by rw[am (bS hij)];exact F,h3⟩
 .cases h
theorem bI7 {C:Nat->Addr}{H:Hp}{n:Nat}{Q:St->Hp->Prop}:∀(is:List Nat) (l:List lf) (p:List V) (U U':lh) (W:St),RE Γ C H n U W->RVL Γ C H l p->li n l=true->mO U is l=some U'->(∀ W',RE Γ C H n U' W'->Q W' H)->bR5 is p W H Q
 | [],[],p,U,U',W,E,r,_,h,k=>by
  cases h
  exact⟨r.unnil,k W E⟩
 | [],d::l,_,_,_,_,_,_,_,h,_=>by cases h
 | i::is,[],_,_,_,_,_,_,_,h,_=>by cases h
 | i::is,d::l,p,U,U',W,E,r,b,h,k=>by
  have h:(mF U i d).bind (λ U=>mO U is l)=some U':=h
  obtain⟨x,r',rfl,z,F⟩:=r.uncons
  unfold li at b
  rw[ag]at b
  cases e:mF U i d with
  | none=>rw[e]at h;cases h
  | some U1 =>
   rw[e]at h
   exact⟨x,r',rfl,bI7 is l r' U1 U' _ (bj6 E z b.1 e) F b.2 h k⟩
theorem aV2 {l:List lf}:∀ {is:List Nat} {U U':lh},mO U is l=some U'->is.length=l.length:=by
 induction l with
 | nil=>intro is U U' h;cases is with
  | nil=>rfl
  | cons i is=>cases h
 | cons d l ih=>intro is U U' h;cases is with
  | nil=>cases h
  | cons i is =>
   have h:(mF U i d).bind (λ U=>mO U is l)=some U':=h
   cases e:mF U i d with
   | none=>rw[e]at h;cases h
   | some U1=>rw[e]at h;rw[aP,aP,ih h]
theorem bu1 {C:Nat->Addr}{H:Hp}{n:Nat}{Q:St->Hp->Prop}{tg:lN}{d:lf}{v:V}{U U':lh}{W:St}(E:RE Γ C H n U W)(r:RV Γ C H d v)(b:d.bnd n=true)(h:lL U tg d=some U')(k:∀ W',RE Γ C H n U' W'->Q W' H):gOf Γ.K tg v W H Q:=by
 cases tg with
 | one i=>exact k _ (bj6 E r b h)
 | tup is =>
  cases d with
  | tup l =>
   have h:mO U is l=some U':=h
   obtain⟨a,p,rfl,z,d1⟩:=r.tupE
   unfold lr at b
   exact⟨a,p,rfl,z,by rw[d1.length,aV2 h],bI7 is l p U U' W E d1 b h k⟩
  | _=>cases h
def Off (C:Nat->Addr)(s:lb)(b:Addr):Prop:=∀(i:Nat) (ob:lI),s[i]?=some ob->isMut ob=true->C i≠b
theorem Off.mono {C C':Nat->Addr}{s s':lb}{H H':Hp}{b:Addr}{o:HO}(h:Off C s b)(g:Gr C s H C' s' H')(hb:H b=some o):Off C' s' b:=λ i ob e m z=>by
 by_cases G:i<s.length
 .obtain⟨p,F⟩:∃ p,s[i]?=some p:=⟨s[i],ah G⟩
  exact h i p F (g.mu i p ob F e m) (by rw[<-g.w.map i G];exact z)
 .have:=g.new i (by omega) (ac.mp e).1
  rw[z,hb]at this;cases this
theorem Off.new {C:Nat->Addr}{s:lb}{H:Hp}{b:Addr}(r:Rp Γ C H s)(h:H b=none):Off C s b:=λ i ob e m z=>by
 obtain⟨u,hu,_⟩:=(r.obj i ob e).there m
 rw[z,h]at hu;cases hu
theorem Rp.foreign {C:Nat->Addr}{s:lb}{H:Hp}{b:Addr}{ys h:List V}(r:Rp Γ C H s)(hb:H b=some (.lst ys))(ho:Off C s b):Rp Γ C (upd H b (.lst h)) s:=by
 have g:Gw C s.length H C (upd H b (.lst h)):=⟨λ _ _=>rfl,(Kp.refl H).put hb rfl⟩
 exact⟨r.inj,λ i o e=>(r.obj i o e).mono g (r.wf i o e) λ m u hu=>by rw[zc (ho i o e m)];exact hu,r.wf,r.tab.put hb⟩
theorem Gr.foreign {C C':Nat->Addr}{s s':lb}{H H':Hp}{b:Addr}{ys h:List V}(g:Gr C s H C' s' H')(h0:H b=none)(hb:H' b=some (.lst ys)):Gr C s H C' s' (upd H' b (.lst h)):=by
 have ne:∀ c o,H c=some o->c≠b:=λ c o e=>zt e h0
 refine⟨⟨g.w.map,λ c o e f=>?_⟩,g.le,g.new,g.kd,λ c hc=>?_,λ c o kvs e=>by rw[zc (ne c _ e)];exact g.fz c o kvs e,λ c o e z p=>?_⟩
 .rw[zc (ne c o e)];exact g.w.kp c o e f
 .unfold upd;split
  .simp
  .exact g.st c hc
 .rw[zc (ne c o e)];exact g.fr c o e z p
def bG9 (Γ:Gm)(C:Nat->Addr)(s:lb)(H:Hp)(l:List lf)(s':lb)(Q:VK):Prop :=
 ∀ p ys C' H',Gr C s H C' s' H'->s.length<=s'.length->li s'.length l=true->H' p=some (.lst ys)->H p=none->Off C' s' p->RVL Γ C' H' l ys->Rp Γ C' H' s'->Q (.ref p) H'
def TFv (Γ:Gm)(m:lh->lb->lj (List lf)):TE:=λ W H Q=>∃ C U s l s',RE Γ C H s.length U W/\Rp Γ C H s/\m U s=.ok l s'/\bG9 Γ C s H l s' Q
theorem aS1 {m:lh->lb->lj (List lf)}{W:St}{H:Hp}{Q:VK}(h:TEv Γ (λ U s=>(m U s).bind λ l s=>lZ (.lst l) s) W H Q):TFv Γ m W H Q:=by
 obtain⟨C,U,s,d,s',E,R,hm,q⟩:=h
 obtain⟨l,s1,e1,hm⟩:=aa0 hm
 obtain⟨rfl,rfl⟩:=zW hm
 refine⟨C,U,s,l,s1,E,R,e1,λ p ys C' H' g hl hb hp h0 ho r J=>?_⟩
 have gw:Gw C' s1.length H' (λ i=>if i=s1.length then p else C' i) H':=⟨λ i z=>if_neg (aE z),Kp.refl _⟩
 have key:∀(i:Nat) (F:lI),(s1++[DV.O.lst l])[i]?=some F->(i<s1.length/\s1[i]?=some F)\/(i=s1.length/\F=.lst l):=λ i F e=>by
  rcases d7 i s1.length with h|h|h
  .rw[ax h]at e;exact .inl ⟨h,e⟩
  .subst h;simp at e;exact .inr ⟨rfl,e.symm⟩
  .rw[bW (by simp;omega)]at e;cases e
 have G:Gr C s H (λ i=>if i=s1.length then p else C' i) (s1++[.lst l]) H':=by
  refine⟨⟨λ i z=>by show(if i=s1.length then p else C' i)=_;rw[if_neg (by omega)];exact g.w.map i z,g.w.kp⟩,by simp;omega,λ i h1 h2=>?_,λ i o F e e'=>?_,g.st,g.fz,g.fr⟩
  .by_cases z:i=s1.length
   .show H (if i=s1.length then p else C' i)=none
    rw[if_pos z];exact h0
   .show H (if i=s1.length then p else C' i)=none
    rw[if_neg z];exact g.new i h1 (by simp at h2;omega)
  .rcases key i F e' with⟨_,e2⟩|⟨z,_⟩
   .exact g.kd i o F e e2
   .have:=(ac.mp e).1;omega
 have P:Rp Γ (λ i=>if i=s1.length then p else C' i) H' (s1++[.lst l]):=by
  refine⟨λ i j Z oj Y ej mi mj e=>?_,λ i o e=>?_,λ i o e=>?_,J.tab⟩
  .rcases key i Z Y with⟨z,Y⟩|⟨z,_⟩<;>rcases key j oj ej with⟨hj,ej⟩|⟨hj,_⟩
   .rw[if_neg (aE z),if_neg (aE hj)]at e
    exact J.inj i j Z oj Y ej mi mj e
   .rw[if_neg (aE z),if_pos hj]at e
    exact absurd e (ho i Z Y mi)
   .rw[if_neg (aE hj),if_pos z]at e
    exact absurd e.symm (ho j oj ej mj)
   .rw[z,hj]
  .rcases key i o e with⟨z,e⟩|⟨z,rfl⟩
   .show RO Γ _ _ (if i=s1.length then p else C' i) o
    rw[if_neg (aE z)]
    exact(J.obj i o e).mono gw (J.wf i o e) λ _ u hu=>hu
   .show RO Γ _ _ (if i=s1.length then p else C' i) _
    rw[if_pos z]
    exact⟨ys,hp,RVL.monoW gw l ys hb r⟩
  .rw[ar,db]
   rcases key i o e with⟨_,e⟩|⟨_,rfl⟩
   .exact zQ (cb _) _ (J.wf i o e)
   .exact zQ (cb _) _ (by unfold ln;exact hb)
 exact q (.ref p) _ H' G (by simp;omega) (by unfold lr;simp) (by unfold RV;simp) P
theorem bO3 {C:Nat->Addr}{H:Hp}{n:Nat}{U:lh}{W:St}(E:RE Γ C H n U W)(h:yE):RE Γ C H n (mG U h) (av4 h W):=by
 refine⟨by unfold mG av4;simp,λ i d e=>?_⟩
 unfold mG at e
 rw[aC]at e
 cases q:h[i]? with
 | none=>rw[q]at e;cases e
 | some o =>
  rw[q]at e
  cases o with
  | none=>cases e
  | some j =>
   have e':(U[j]?).join=some d:=av e
   have ej:U[j]?=some (some d):=by
    cases q2:U[j]? with
    | none=>rw[q2]at e';cases e'
    | some o2=>rw[q2]at e';exact congrArg some e'
   obtain⟨b,v,p,z⟩:=E.val j d ej
   refine⟨b,v,?_,z⟩
   unfold av4
   rw[aC,q]
   show some ((W[j]?).join)=_
   rw[p];rfl
theorem aW2 {mI:lh->lb->lj mq}{mc me:lh->lb->lj lf}{tg:lN}{Y:yE}{W:St}{H:Hp}{Q:VK}
  (h:TFv Γ (λ U s=>(mI U s).bind λ q s0=>if q.its.length<=ls then mW (λ s=>lM s0 s q.src) (λ d U s=>match lL U tg d with
   | some U=>lw (mc U s) λ k s=>if k then(me U s).bind λ v s=>.ok (some v,U) s else .ok (none,U) s
   | none=>.bad) q.its (mG U Y) s0 else .bad) W H Q):tComp Y (TIv Γ mI) (gOf Γ.K tg) (TTv Γ mc) (TEv Γ me) W H Q:=by
 obtain⟨C,U,s,l,s',E,R,hm,k⟩:=h
 obtain⟨q,s0,e1,hm⟩:=aa0 hm
 split at hm
 case isFalse=>exact fb hm
 rename_i b6
 refine⟨C,U,s,q,s0,E,R,e1,λ J C1 H1 g1 l1 b1 R1 wk D hD=>?_⟩
 have h0:H D=none:=by
  cases e:H D with
  | none=>rfl
  | some o=>exact absurd hD (g1.st D (by rw[e];simp))
 refine⟨λ i m W' H'=>∃ C' U' t F ys rest,Gr C1 s0 H1 C' t H'/\Rp Γ C' H' t/\RE Γ C' H' t.length U' W'/\H' D=some (.lst ys)/\Off C' t D/\RVL Γ C' H' F ys/\li t.length F=true/\F.length<=i/\i<=q.its.length/\m=q.its.length - i /\
  mW (λ s=>lM s0 s q.src) (λ d U s=>match lL U tg d with
   | some U=>lw (mc U s) λ k s=>if k then(me U s).bind λ v s=>.ok (some v,U) s else .ok (none,U) s
   | none=>.bad) (q.its.drop i) U' t=.ok rest s'/\l=F++rest,⟨q.its.length,?_⟩,?_⟩
 .obtain⟨g2,R2⟩:=R1.same (H':=upd H1 D (.lst [])) ((ab4.refl H1).new hD)
  exact⟨C1,mG U Y,s0,[],[],l,g2,R2,bO3 ((E.mono g1 l1).mono g2 (ai _)) Y,zq,Off.new R1 hD,.nil,rfl,ai _,b9 _,by simp,by rw[io];exact hm,rfl⟩
 .rintro i m W' H' ⟨C',U',t,F,ys,rest,g,R',E',hy,a4,ra,ba,c1,c0,rfl,hc,hl⟩
  have G:=g.le
  rcases kO i q.its.length with hlt|hge
  .have hd:q.its[i]?=some q.its[i]:=ah hlt
   rw[dv hlt]at hc
   unfold mW at hc
   split at hc
   case isFalse=>exact fb hc
   rename_i a2
   obtain⟨b4,b0⟩:=(wk C' H' t g G R' a2 i).1 hlt
   refine .inr ⟨b4,_,λ W2 H2 n=>⟨q.its.length - (i+1),by omega,n⟩,λ x H2 b2=>?_⟩
   obtain⟨sm,rv⟩:=b0 x H2 b2
   obtain⟨g2,R2⟩:=R'.same sm
   have rd:=rv _ hd
   have bd:(q.its[i]).bnd t.length=true:=zg G _ (af6 b1 hd)
   obtain⟨p,t3,hs,hc⟩:=aa0 hc
   obtain⟨r2,t4,a6,hc⟩:=aa0 hc
   cases hb:lL U' tg q.its[i]with
   | none=>rw[hb]at hs;cases hs
   | some U3 =>
    rw[hb]at hs
    refine bu1 (E'.mono g2 (ai _)) rd bd hb λ W3 E3=>?_
    obtain⟨c,t1,ec,hs⟩:=zE hs
    refine⟨C',U3,t,c,t1,E3,R2,ec,λ C2 H4 g4 l4 R4=>?_⟩
    have a5:H2 D=some (.lst ys):=sm _ _ hy
    have a3:H4 D=some (.lst ys):=g4.fr D _ a5 (by nofun) a4
    have Z:Off C2 t1 D:=a4.mono g4 a5
    have G4:=(g.trans g2 G).trans g4 G
    cases c with
    | true =>
     rw[if_pos rfl]at hs
     refine iteT ?_
     obtain⟨v,t2,ev,hs⟩:=aa0 hs
     cases hs
     refine⟨C2,U3,t1,v,t3,E3.mono g4 l4,R4,ev,λ w C3 H5 g5 l5 b5 r5 R5=>?_⟩
     have a0:H5 D=some (.lst ys):=g5.fr D _ a3 (by nofun) Z
     have a1:Off C3 t3 D:=Z.mono g5 a3
     refine⟨ys,a0,?_,?_⟩
     .rw[ra.length]
      have:=zH
      omega
     .have gw:Gw C3 t3.length H5 C3 (upd H5 D (.lst (ys++[w]))):=⟨λ _ _=>rfl,(Kp.refl H5).put a0 rfl⟩
      have G5:=G4.trans g5 (ak G l4)
      have GG:=g2.trans (g4.trans g5 l4) (ai _)
      have b3:RVL Γ C3 H5 F ys:=RVL.mono GG _ _ ba ra
      have bb:li t3.length (F++[v])=true:=zJ (aa3 GG.le _ ba) (by unfold li;rw[b5];rfl)
      refine⟨C3,U3,t3,F++[v],ys++[w],r2,G5.foreign hD a0,R5.foreign a0 a1,?_,zq,a1,RVL.monoW gw _ _ bb (b3.append (.cons r5 .nil)),bb,by simp;omega,hlt,rfl,?_,?_⟩
      .have E5:=(E3.mono g4 l4).mono g5 l5
       exact⟨E5.len,λ j e hj=>by
        obtain⟨h1,z,h2,h3⟩:=E5.val j e hj
        exact⟨h1,z,h2,RV.monoW gw _ _ h1 h3⟩⟩
      .cases hc;exact a6
      .cases hc;rw[hl];simp
    | false =>
     rw[if_neg aU]at hs
     refine cd5 ?_
     cases hs
     have GG:=g2.trans g4 (ai _)
     exact⟨C2,U3,t3,F,ys,r2,G4,R4,E3.mono g4 l4,a3,Z,RVL.mono GG _ _ ba ra,aa3 l4 _ ba,by omega,hlt,rfl,by cases hc;exact a6,by cases hc;exact hl⟩
  .have hi:i=q.its.length:=by omega
   rw[cZ hge]at hc
   unfold mW at hc
   split at hc
   case isFalse=>exact fb hc
   rename_i a2
   cases hc
   refine .inl ⟨(wk C' H' s' g G R' a2 i).2 hge,?_⟩
   rw[aN]at hl
   subst hl
   exact k D ys C' H' (g1.trans g l1) (ak l1 G) ba hy h0 a4 ra R'
variable {Γ:Gm} {X:Cx}
noncomputable def bZ6 (Γ:Gm)(C:Nat->Addr)(H:Hp)(n:Nat)(D:Ends):lO->Prop
 | .next U=>∀ W,RE Γ C H n U W->D.nx W H
 | .ret d=>∀ v,d.bnd n=true->RV Γ C H d v->D.rt v H
 | .cont U=>∀ W,RE Γ C H n U W->D.ct W H
 | .brk U=>∀ W,RE Γ C H n U W->D.bk W H
def ah0 (Γ:Gm)(C:Nat->Addr)(s:lb)(H:Hp)(c:lO)(s':lb)(D:Ends):Prop :=
 ∀ C' H',Gr C s H C' s' H'->s.length<=s'.length->Rp Γ C' H' s'->bZ6 Γ C' H' s'.length D c
def TSv (Γ:Gm)(m:lh->lb->lj lO):TS:=λ D W H=>∃ C U s c s',RE Γ C H s.length U W/\Rp Γ C H s/\m U s=.ok c s'/\ah0 Γ C s H c s' D
theorem PS.imp {e:Stmt}{t t':TS}(h:PS X e t)(i:∀ D W H,t' D W H->t D W H):PS X e t':=λ p s W H Q I q=>h p s W H Q I (i Q W H q)
theorem PSs.imp {e:yM}{t t':TS}(h:PSs X e t)(i:∀ D W H,t' D W H->t D W H):PSs X e t':=λ p s W H Q I q=>h p s W H Q I (i Q W H q)
theorem ah0.trans {C C1:Nat->Addr}{s s1 s':lb}{H z:Hp}{c:lO}{D:Ends}(h:ah0 Γ C s H c s' D)(g:Gr C s H C1 s1 z)(l:s.length<=s1.length):ah0 Γ C1 s1 z c s' D :=
 λ C' H' g' F p=>h C' H' (g.trans g' l) (ak l F) p
theorem ah0.here {C:Nat->Addr}{s:lb}{H:Hp}{c:lO}{D:Ends}(h:ah0 Γ C s H c s D)(p:Rp Γ C H s):bZ6 Γ C H s.length D c:=h C H (Gr.refl C s H) (ai _) p
variable {D:Ends} {W:St} {H:Hp}
theorem bu7 {m:lh->lb->lj lO}(p:∀ U s,m U s=.ok (.next U) s)(h:TSv Γ m D W H):bI8 D W H:=by
 obtain⟨C,U,s,c,s',E,R,e,q⟩:=h
 rw[p]at e;cases e
 exact q.here R W E
theorem bF8 {m:lh->lb->lj lf}(h:TSv Γ (λ U s=>(m U s).bind λ d s=>.ok (.ret d) s) D W H):ca8 (TEv Γ m) D W H:=by
 obtain⟨C,U,s,c,s',E,R,e,q⟩:=h
 obtain⟨x,s1,e1,e⟩:=aa0 e
 cases e
 exact⟨C,U,s,x,_,E,R,e1,λ v C1 p g1 l1 z r1 R1=>q C1 p g1 l1 R1 v z r1⟩
theorem bq3 {m:lh->lb->lj lf}(h:TSv Γ (λ U s=>(m U s).bind λ _ s=>.ok (.next U) s) D W H):bP9 (TEv Γ m) D W H:=by
 obtain⟨C,U,s,c,s',E,R,e,q⟩:=h
 obtain⟨x,s1,e1,e⟩:=aa0 e
 cases e
 exact⟨C,U,s,x,_,E,R,e1,λ v C1 p g1 l1 z r1 R1=>q C1 p g1 l1 R1 W (E.mono g1 l1)⟩
theorem aU4 {m:lh->lb->lj lf}{tg:lN}(h:TSv Γ (λ U s=>(m U s).bind λ d s=>match lL U tg d with|some U=>.ok (.next U) s|none=>.bad) D W H):bf2 (TEv Γ m) (gOf Γ.K tg) D W H:=by
 obtain⟨C,U,s,c,s',E,R,e,q⟩:=h
 obtain⟨x,s1,e1,e⟩:=aa0 e
 refine⟨C,U,s,x,s1,E,R,e1,λ v C1 z g1 l1 p r1 R1=>?_⟩
 cases hb:lL U tg x with
 | none=>rw[hb]at e;cases e
 | some U1 =>
  rw[hb]at e
  cases e
  exact bu1 (E.mono g1 l1) r1 p hb λ W' F=>q C1 z g1 l1 R1 W' F
theorem bb7 {m:lh->lb->lj (List lf)}(h:TSv Γ (λ U s=>((m U s).bind λ l s=>lZ (.lst l) s).bind λ d s=>match lL U tg d with|some U=>.ok (.next U) s|none=>.bad) D W H):bf2 (TFv Γ m) (gOf Γ.K tg) D W H :=
 aS1 (aU4 h)
def bF9 (Γ:Gm):bR1:=λ o i v H Q=>∃ C s x y d s',Rp Γ C H s/\RV Γ C H x o/\RV Γ C H y i/\RV Γ C H d v/\x.bnd s.length=true/\y.bnd s.length=true/\d.bnd s.length=true/\DV.setIx x y d s=.ok () s' /\
 ∀ C' H',Gr C s H C' s' H'->s.length<=s'.length->Rp Γ C' H' s'->Q H'
theorem aY2 {Z Y mi:lh->lb->lj lf}(h:TSv Γ (λ U s=>(Z U s).bind λ d s=>(Y U s).bind λ x s=>(mi U s).bind λ y s=>(DV.setIx x y d s).bind λ _ s=>.ok (.next U) s) D W H) :
  bf2 (TEv Γ Z) (bZ8 (TEv Γ Y) (TEv Γ mi) (bF9 Γ)) D W H:=by
 obtain⟨C,U,s,c,s',E,R,e,q⟩:=h
 obtain⟨d,s1,e1,e⟩:=aa0 e
 obtain⟨x,s2,e2,e⟩:=aa0 e
 obtain⟨y,s3,e3,e⟩:=aa0 e
 obtain⟨u,s4,e4,e⟩:=aa0 e
 cases e
 refine⟨C,U,s,d,s1,E,R,e1,λ v1 C1 H1 g1 l1 J r1 R1=>?_⟩
 refine⟨C1,U,s1,x,s2,E.mono g1 l1,R1,e2,λ v2 C2 H2 g2 p b2 r2 R2=>?_⟩
 have G2:=g1.trans g2 l1
 have L2:=ak l1 p
 refine⟨C2,U,s2,y,s3,E.mono G2 L2,R2,e3,λ v3 C3 H3 F z b3 r3 R3=>?_⟩
 refine⟨C3,s3,x,y,d,_,R3,RV.mono F x v2 b2 r2,r3,RV.mono (g2.trans F p) d v1 J r1,zg z x b2,b3,zg (ak p z) d J,e4,λ C4 H4 g4 G R4=>?_⟩
 have G3:=G2.trans F L2
 have L3:=ak L2 z
 exact q C4 H4 (G3.trans g4 L3) (ak L3 G) R4 W (E.mono (G3.trans g4 L3) (ak L3 G))
theorem bK3 (hu:X.A.units+2<cLine):bW6 X (bF9 Γ):=by
 intro J sh W H o i v ov iv u Q I ro ri rv h
 obtain⟨C,s,x,y,d,s',R,rx,ry,rd,bx,Y,bd,p,q⟩:=h
 cases x with
 | ref r =>
  have p:(match s[r]? with
   | some (.lst l)=>(match y with
    | .int i=>(match l8 l.length i with|some j=>DV.R.ok () (s.set r (.lst (l.set j d)))|none=>.bad)
    | _=>.bad)
   | some (.dic l)=>if y.key&&decide (l.length<ls)then .ok () (s.set r (.dic (lA y d l)))else .bad
   | some (.dit l)=>if y.keyT&&decide (l.length<ls)then .ok () (s.set r (.dit (lA y d l)))else .bad
   | _=>.bad)=.ok () s':=p
  cases e:s[r]? with
  | none=>rw[e]at p;cases p
  | some ob =>
   rw[e]at p
   cases ob with
   | lst l =>
    cases y with
    | int k =>
     have p:(match l8 l.length k with|some j=>DV.R.ok () (s.set r (.lst (l.set j d)))|none=>.bad)=.ok () s':=p
     cases ej:l8 l.length k with
     | none=>rw[ej]at p;cases p
     | some j =>
      rw[ej]at p
      cases p
      obtain⟨xs,Z,F⟩:=R.addr e
      have hb:li s.length (l.set j d)=true:=aa2.mpr λ z hz=>by
       rcases List.mem_or_eq_of_mem_set hz with h|h
       .exact aa2.mp (by have:=R.wf r _ e;unfold ln at this;exact this) z h
       .subst h;exact bd
      refine be9 J sh W H o i v ov iv u Q I ro ri rv ⟨C r,xs,k,j,rx.refE,ry.intE,Z,?_,?_⟩
      .rw[F.length];exact ej
      .obtain⟨g,R'⟩:=R.set (o:=.lst (l.set j d)) (u:=.lst (xs.set j v)) e rfl hb λ H' g e=>⟨_,e,RVL.monoW g _ _ hb (F.set j rd)⟩
       exact q _ _ g (by simp) R'
    | _=>exact fb p
   | dic l =>
    have p:(if y.key&&decide (l.length<ls)then DV.R.ok () (s.set r (.dic (lA y d l)))else .bad)=.ok () s':=p
    split at p
    case isFalse=>exact fb p
    rename_i hc
    cases p
    rw[ag]at hc
    obtain⟨k,hk⟩:=ag4 hc.1
    have hlt:=of_decide_eq_true hc.2
    obtain⟨kvs,Z,F⟩:=R.obj r _ e
    have ex:=rx.refE;subst ex
    cases ro
    have ey:=aG8 hk ry;subst ey
    have hb:(DV.O.dic (lA y d l)).bnd s.length=true:=aF6 (R.wf r _ e) Y bd
    have G:li s.length ((lA y d l).map (·.2))=true:=by
     unfold ln at hb
     rw[ag]at hb
     exact hb.2
    obtain⟨g,R'⟩:=R.set (o:=.dic (lA y d l)) (u:=.dK (ak9 kvs k v)) e rfl hb λ H' g e=>⟨_,e,RVD.monoW g _ _ G (F.put keyOf_inj hk rd)⟩
    exact at7 hu I (bz2.k Z (by rw[F.length];exact az hlt zH)) ri rv λ s4 I4=>⟨_,I4,q _ _ g (by simp) R'⟩
   | dit l =>
    have p:(if y.keyT&&decide (l.length<ls)then DV.R.ok () (s.set r (.dit (lA y d l)))else .bad)=.ok () s':=p
    split at p
    case isFalse=>exact fb p
    rename_i hc
    cases p
    rw[ag]at hc
    obtain⟨k,hk⟩:=ah9 hc.1
    have hlt:=of_decide_eq_true hc.2
    obtain⟨kvs,Z,F⟩:=R.obj r _ e
    have ex:=rx.refE;subst ex
    cases ro
    obtain⟨kb,ey,a0⟩:=aw9 hk ry;subst ey
    have hb:(DV.O.dit (lA y d l)).bnd s.length=true:=ba7 (R.wf r _ e) Y bd
    have G:li s.length ((lA y d l).map (·.2))=true:=by
     unfold ln at hb
     rw[ag]at hb
     exact hb.2
    obtain⟨g,R'⟩:=R.set (o:=.dit (lA y d l)) (u:=.dT (ak9 kvs k v)) e rfl hb λ H' g e=>⟨_,e,RVD.monoW g _ _ G (F.put keyT_inj hk rd)⟩
    exact at7 hu I (bz2.t Z a0 (by rw[F.length];exact az hlt zH)) ri rv λ s4 I4=>⟨_,I4,q _ _ g (by simp) R'⟩
   | _=>exact fb p
 | _=>exact fb p
theorem bU0 {mc:lh->lb->lj lf}{z F:lh->lb->lj lO}(h:TSv Γ (λ U s=>lw (mc U s) λ k s=>if k then z U s else F U s) D W H):bZ1 (TTv Γ mc) (TSv Γ z) (TSv Γ F) D W H:=by
 obtain⟨C,U,s,d,s',E,R,p,q⟩:=h
 obtain⟨c,s1,e1,p⟩:=zE p
 refine⟨C,U,s,c,s1,E,R,e1,λ C1 G g1 l1 R1=>?_⟩
 cases c with
 | true =>
  rw[if_pos rfl]at p ⊢
  exact⟨C1,U,s1,d,s',E.mono g1 l1,R1,p,q.trans g1 l1⟩
 | false =>
  rw[if_neg aU]at p ⊢
  exact⟨C1,U,s1,d,s',E.mono g1 l1,R1,p,q.trans g1 l1⟩
theorem bC9 {F G:lh->lb->lj lO}(h:TSv Γ (λ U s=>(F U s).bind λ c s=>match c with|.next U=>G U s|c=>.ok c s) D W H):ca2 (TSv Γ F) (TSv Γ G) D W H:=by
 obtain⟨C,U,s,c,s',E,R,p,q⟩:=h
 obtain⟨J,s1,e1,p⟩:=aa0 p
 refine⟨C,U,s,J,s1,E,R,e1,λ C1 z g1 l1 R1=>?_⟩
 cases J with
 | next U1=>exact λ W1 Y=>⟨C1,U1,s1,c,s',Y,R1,p,q.trans g1 l1⟩
 | ret d=>cases p;exact q C1 z g1 l1 R1
 | cont U=>cases p;exact q C1 z g1 l1 R1
 | brk U=>cases p;exact q C1 z g1 l1 R1
theorem bc3 {mc:lh->lb->lj lf}{z:lh->lb->lj lO}(h:TSv Γ (DV.whl mc z) D W H):bj1 (TTv Γ mc) (TSv Γ z) D W H:=by
 obtain⟨C,U,s,c,s',E,R,p,q⟩:=h
 unfold DV.whl at p
 split at p
 case isFalse=>exact fb p
 rename_i hn
 generalize hn.choose=n at p
 refine⟨λ n W H=>∃ C U s,RE Γ C H s.length U W/\Rp Γ C H s/\DV.qH mc z n U s=.ok c s'/\ah0 Γ C s H c s' D,⟨n,C,U,s,E,R,p,q⟩,?_⟩
 clear E R p q hn
 rintro n W H ⟨C,U,s,E,R,p,q⟩
 cases n with
 | zero=>exact fb p
 | succ n =>
  unfold DV.qH at p
  obtain⟨b,s1,e1,p⟩:=zE p
  refine⟨C,U,s,b,s1,E,R,e1,λ C1 H1 g1 l1 R1=>?_⟩
  cases b with
  | false =>
   rw[if_neg aU]at p ⊢
   cases p
   exact q C1 H1 g1 l1 R1 W (E.mono g1 l1)
  | true =>
   rw[if_pos rfl]at p ⊢
   obtain⟨J,s2,e2,p⟩:=aa0 p
   refine⟨_,λ W' H' w=>⟨n,bR n,w⟩,C1,U,s1,J,s2,E.mono g1 l1,R1,e2,λ C2 Y g2 Z R2=>?_⟩
   have G:=g1.trans g2 l1
   have L:=ak l1 Z
   cases J with
   | next U1=>exact λ W1 F=>⟨C2,U1,s2,F,R2,p,q.trans G L⟩
   | cont U1=>exact λ W1 F=>⟨C2,U1,s2,F,R2,p,q.trans G L⟩
   | ret d=>cases p;exact q C2 Y G L R2
   | brk U=>cases p;exact q C2 Y G L R2
theorem bi4 {mI:lh->lb->lj mq}{mb:lh->lb->lj lO}{tg:lN} (h:TSv Γ (λ U s=>(mI U s).bind λ q s0=>mP (λ s=>lM s0 s q.src) (λ d U s=>match lL U tg d with
  | some U=>mb U s
  | none=>.bad) q.its U s0) D W H):bV3 (TIv Γ mI) (gOf Γ.K tg) (TSv Γ mb) D W H:=by
 obtain⟨C,U,s,c,s',E,R,hm,k⟩:=h
 obtain⟨q,s0,e1,hm⟩:=aa0 hm
 refine⟨C,U,s,q,s0,E,R,e1,λ J C1 H1 g1 l1 b1 R1 wk=>?_⟩
 refine⟨λ i m W' H'=>∃ C' U' t,Gr C1 s0 H1 C' t H'/\Rp Γ C' H' t/\RE Γ C' H' t.length U' W'/\i<=q.its.length/\m=q.its.length - i /\
  mP (λ s=>lM s0 s q.src) (λ d U s=>match lL U tg d with
   | some U=>mb U s
   | none=>.bad) (q.its.drop i) U' t=.ok c s',⟨q.its.length,?_⟩,?_⟩
 .exact⟨C1,U,s0,Gr.refl _ _ _,R1,E.mono g1 l1,b9 _,by simp,by rw[io];exact hm⟩
 .rintro i m W' H' ⟨C',U',t,g,G,E',a1,rfl,hc⟩
  have p:=g.le
  rcases kO i q.its.length with hlt|hge
  .have hd:q.its[i]?=some q.its[i]:=ah hlt
   rw[dv hlt]at hc
   unfold mP at hc
   split at hc
   case isFalse=>exact fb hc
   rename_i z
   obtain⟨Z,Y⟩:=(wk C' H' t g p G z i).1 hlt
   refine .inr ⟨Z,_,λ W2 H2 n=>⟨q.its.length - (i+1),by omega,n⟩,λ x H2 a0=>?_⟩
   obtain⟨sm,rv⟩:=Y x H2 a0
   obtain⟨g2,R2⟩:=G.same sm
   have rd:=rv _ hd
   have bd:(q.its[i]).bnd t.length=true:=zg p _ (af6 b1 hd)
   obtain⟨c1,t3,hs,hc⟩:=aa0 hc
   cases hb:lL U' tg q.its[i]with
   | none=>rw[hb]at hs;cases hs
   | some U3 =>
    rw[hb]at hs
    refine bu1 (E'.mono g2 (ai _)) rd bd hb λ W3 E3=>?_
    refine⟨C',U3,t,c1,t3,E3,R2,hs,λ C2 H4 g4 l4 F=>?_⟩
    have G4:=(g.trans g2 p).trans g4 p
    have L4:=ak p l4
    have GG:=g1.trans G4 l1
    cases c1 with
    | next U1=>exact λ W1 E1=>⟨C2,U1,t3,G4,F,E1,hlt,rfl,hc⟩
    | cont U1=>exact λ W1 E1=>⟨C2,U1,t3,G4,F,E1,hlt,rfl,hc⟩
    | ret d=>cases hc;exact k C2 H4 GG (ak l1 L4) F
    | brk U=>cases hc;exact k C2 H4 GG (ak l1 L4) F
  .rw[cZ hge]at hc
   unfold mP at hc
   split at hc
   case isFalse=>exact fb hc
   rename_i z
   cases hc
   exact .inl ⟨(wk C' H' s' g p G z i).2 hge,k C' H' (g1.trans g l1) (ak l1 p) G W' E'⟩
noncomputable def bN4 (H0:Hp)(D:Ends):Ends where
 nx:=λ W H=>∃ a o kvs,H a=some (.frz o (.dK kvs))/\(∀ o u,H0 a≠some (.frz o u))/\D.nx W (upd H a (.dK kvs))
 rt:=λ v H=>∃ a o kvs,H a=some (.frz o (.dK kvs))/\(∀ o u,H0 a≠some (.frz o u))/\D.rt v (upd H a (.dK kvs))
 bk:=λ W H=>∃ a o kvs,H a=some (.frz o (.dK kvs))/\(∀ o u,H0 a≠some (.frz o u))/\D.bk W (upd H a (.dK kvs))
 ct:=λ W H=>∃ a o kvs,H a=some (.frz o (.dK kvs))/\(∀ o u,H0 a≠some (.frz o u))/\D.ct W (upd H a (.dK kvs))
theorem bA1 {st:Stmt}{t:TS}(h:PS X st t):PS X st (λ D W H=>t (bN4 H D) W H):=by
 intro F s W H D I q
 have G:∀ {a:Addr},(∀ o u,H a≠some (.frz o u))->∀ o u,X.H₀ a≠some (.frz o u):=λ n o u z=>n o u (I.base.frzs _ _ _ z)
 refine thn (h F s W H _ I q) λ f s' hs=>?_
 cases f with
 | next=>obtain⟨W',H',p,a,o,kvs,e,n,q⟩:=hs;exact⟨W',_,p.thawK e (G n),q⟩
 | brk=>obtain⟨W',H',p,a,o,kvs,e,n,q⟩:=hs;exact⟨W',_,p.thawK e (G n),q⟩
 | cont=>obtain⟨W',H',p,a,o,kvs,e,n,q⟩:=hs;exact⟨W',_,p.thawK e (G n),q⟩
 | ret u=>obtain⟨v,W',H',p,r,a,o,kvs,e,n,q⟩:=hs;exact⟨v,W',_,p.thawK e (G n),r,q⟩
theorem aW5 {α:Type}{src:List Nat}{a b:α}{s s':lb}(h:nA src a s=.ok b s'):∃ r l,src=[r]/\s[r]?=some (.dicF l)/\b=a/\s'=s.set r (.dic l):=by
 unfold nA at h
 split at h
 .split at h
  .rename_i l e;cases h;exact⟨_,l,rfl,e,rfl,rfl⟩
  .exact fb h
 .exact fb h
theorem bv8 {mI:lh->lb->lj mq}{mb:lh->lb->lj lO}{tg:lN} (h:TSv Γ (λ U s=>(mI U s).bind λ q s0=>if DV.aJ1 s q.src then(mP (λ s=>lM s0 s q.src) (λ d U s=>match lL U tg d with
  | some U=>mb U s
  | none=>.bad) q.its U s0).bind (λ c s=>nA q.src c s)else .bad) D W H):bV3 (TIv Γ mI) (gOf Γ.K tg) (TSv Γ mb) (bN4 H D) W H:=by
 obtain⟨C,U,s,c,s',E,R,J,k⟩:=h
 obtain⟨q,s0,e1,J⟩:=aa0 J
 split at J
 case isFalse=>exact fb J
 rename_i hz
 obtain⟨c',s1,e2,J⟩:=aa0 J
 obtain⟨r,l,hq,hr,rfl,rfl⟩:=aW5 J
 refine bi4 ⟨C,U,s,c,s1,E,R,(by show(mI U s).bind _=_;rw[e1];exact e2),λ C' H' g hl R'=>?_⟩
 obtain⟨o,kvs,Z,rd⟩:=R'.obj r _ hr
 have wf:=R'.wf _ _ hr
 have G:=wf
 unfold ln at G
 rw[ag]at G
 have p:∀ o u,H (C' r)≠some (.frz o u):=λ o2 u z=>by
  by_cases hi:r<s.length
  .obtain⟨ob,eo⟩:∃ ob,s[r]?=some ob:=⟨s[r],ah hi⟩
   have ho:=R.obj r ob eo
   rw[g.w.map r hi]at z
   have kd:=g.kd r ob _ eo hr
   rw[hq]at hz
   unfold DV.aJ1 at hz
   rw[bI,eo]at hz
   cases ob with
   | dic l2=>obtain⟨_,e,_⟩:=ho;rw[z]at e;cases e
   | dicF l2=>cases hz
   | _=>cases kd
  .have:=g.new r (by omega) (ac.mp hr).1
   rw[z]at this;cases this
 have R2:=(R'.set1 (o:=.dic l) (u:=.dK kvs) hr rfl wf (λ H' g e=>⟨kvs,e,RVD.monoW g l kvs G.2 rd⟩) rfl).2
 have gw:Gw C' s1.length H' C' (upd H' (C' r) (.dK kvs)):=⟨λ _ _=>rfl,(Kp.refl H').put Z rfl⟩
 have ne:∀ b u,H b=some u->(bD9 u=true\/(∃ ob kv,u=.frz ob (.dK kv))\/H' b=some u)->H' b=some u->b≠C' r:=λ b u hb hu a0 zz=>by
  subst zz
  rw[Z]at a0;cases a0
  exact p _ _ hb
 have g2:Gr C s H C' (s1.set r (.dic l)) (upd H' (C' r) (.dK kvs)):=by
  refine⟨⟨g.w.map,λ b u hb hu=>?_⟩,by rw[aW];exact g.le,λ i h1 Y=>g.new i h1 (by rw[aW]at Y;exact Y),λ i o1 o2 h1 Y=>?_,λ b hb=>?_,λ b ob kv hb=>?_,λ b u hb nt no=>?_⟩
  .have:=g.w.kp b u hb hu
   rw[zc (ne b u hb (.inl hu) this)];exact this
  .by_cases hi:i=r
   .subst hi
    rw[a8 (ac.mp hr).1]at Y
    cases Y
    have kd:=g.kd i o1 (.dicF l) h1 hr
    exact kd
   .rw[am (bS hi)]at Y;exact g.kd i o1 o2 h1 Y
  .unfold upd;split
   .simp
   .exact g.st b hb
  .have:=g.fz b ob kv hb
   rw[zc (ne b _ hb (.inr (.inl ⟨_,_,rfl⟩)) this)];exact this
  .have:=g.fr b u hb nt no
   rw[zc (ne b u hb (.inr (.inr this)) this)];exact this
 have fin:=k C' _ g2 (by rw[aW];exact hl) R2
 rw[aW]at fin
 have re:∀ {U1:lh} {W1:St},RE Γ C' H' s1.length U1 W1->RE Γ C' (upd H' (C' r) (.dK kvs)) s1.length U1 W1:=λ F=>⟨F.len,λ i d e=>by
  obtain⟨b,v,e1,e2⟩:=F.val i d e
  exact⟨b,v,e1,RV.monoW gw d v b e2⟩⟩
 cases c with
 | next U1=>exact λ W1 F=>⟨_,_,_,Z,p,fin W1 (re F)⟩
 | ret d=>exact λ v b rv=>⟨_,_,_,Z,p,fin v b (RV.monoW gw d v b rv)⟩
 | cont U1=>exact λ W1 F=>⟨_,_,_,Z,p,fin W1 (re F)⟩
 | brk U1=>exact λ W1 F=>⟨_,_,_,Z,p,fin W1 (re F)⟩
structure Ck where
 N:List Str
 sc:Scope
 lk:String->List Nat->Expr->Bool
noncomputable abbrev ck0 (N:yI)(sc:Scope):Ck:=⟨N,sc,λ _ _ _=>false⟩
noncomputable def Ck.vis (c:Ck)(x:Str):Bool:=match c.sc.names.lookup x with|some .local=>true|some .cell=>true|some .free=>true|_=>false
noncomputable def Ck.loc (c:Ck)(x:Str):Bool:=match c.sc.names.lookup x with|some .local=>true|some .cell=>true|_=>false
noncomputable def Ck.gl (c:Ck)(x:Str):Bool:=(match c.sc.names.lookup x with|some .globalImplicit=>true|_=>false)&&!(x==("__debug__":Str))&&!decide (x=("__name__":Str))
noncomputable def Ck.var (c:Ck)(i:Nat)(x:Str):Bool:=decide (c.N[i]?=some x)&&c.vis x&&!(x==("__debug__":Str))&&!(x==("__classdict__":Str))
noncomputable def shp:Expr->Bool
 | .Starred ..=>false
 | .Set ..=>false
 | .SetComp ..=>false
 | .DictComp ..=>false
 | .GeneratorExp ..=>false
 | .Slice ..=>false
 | .NamedExpr ..=>false
 | _=>true
noncomputable def aj6:Expr->Bool
 | .ListComp ..=>false
 | .SetComp ..=>false
 | .DictComp ..=>false
 | _=>true
noncomputable def bE4:Expr->Bool
 | .Tuple ..=>false
 | _=>true
noncomputable def bq7:Expr->Bool
 | .Call _ [] [] _=>false
 | _=>true
noncomputable def mC:DV.Cn->Const->Bool
 | .non,.none=>true
 | .bl b,.bool c=>b==c
 | .int i,.int j=>decide (i=j)
 | .str x,.str y=>decide (y=⟨x.toArray⟩)&&decide (x.length<=1000)
 | _,_=>false
noncomputable def bQ8 (ck:Ck):List Nat->List Expr->Bool
 | [],[]=>true
 | i::is,.Name x _::es=>decide (ck.N[i]?=some x)&&ck.loc x&&bQ8 ck is es
 | _,_=>false
noncomputable def mTg (ck:Ck):lN->Expr->Bool
 | .one i,.Name x _=>decide (ck.N[i]?=some x)&&ck.loc x
 | .tup is,.Tuple es _ _=>bQ8 ck is es
 | _,_=>false
noncomputable def tgN:Expr->List Str
 | .Name x _=>[x]
 | .Tuple es _ _=>es.filterMap λ e=>match e with|.Name x _=>some x|_=>none
 | _=>[]
structure ItT where
 x:Str
 y:Str
 ob:Expr
 sc:Scope
 p1:Pos
 p2:Pos
 p3:Pos
 p4:Pos
 p5:Pos
 p6:Pos
 p7:Pos
 k1:Nat
 k2:Nat
 ap:Pos
 cp:Pos
 pos:Pos
noncomputable def ItT.tg (q:ItT):Expr:=.Tuple [.Name q.x q.p5,.Name q.y q.p6] q.k2 q.p7
noncomputable def ItT.it (q:ItT):Expr:=.Call (.Attribute q.ob "items" q.ap) [] [] q.cp
noncomputable def ItT.text (q:ItT):Expr:=.ListComp (.BinOp (.Name q.x q.p1) .Add (.Tuple [.Name q.y q.p2] q.k1 q.p3) q.p4) [⟨q.tg,q.it,[],0⟩] q.sc q.pos
noncomputable def ckC (ck:Ck)(tgt:Expr)(caps:yE)(scope:Scope):Ck:=⟨tgN tgt++(caps.filterMap id).map λ j=>ck.N.getD j "",scope,λ _ _ _=>false⟩
noncomputable def aH7 (ck:Ck)(tg:lN)(tgt iter:Expr)(caps:yE)(scope:Scope):Bool :=
 zN (ckC ck tgt caps scope).N caps scope ck.N ck.sc&&decide ((ckC ck tgt caps scope).N.Nodup)&&mTg (ckC ck tgt caps scope) tg tgt&&shp iter
noncomputable def biT:lS->Option Str
 | .len=>some "len" | .abs=>some "abs" | .min2=>some "min" | .max2=>some "max" | .int=>some "int" | .str=>some "str" | _=>none
noncomputable def biK:lS->Option (Nat×Str)
 | .isInt=>some (1, "int")|.isBool=>some (2, "bool")|.isStr=>some (3, "str")|.isTup=>some (4, "tuple")|.isList=>some (5, "list")|_=>none
noncomputable def mkT:mY->Option Str
 | .tuple=>some "tuple" | .list=>some "list" | _=>none
noncomputable def mkF:mY->Option Str
 | .any=>some "any" | .min=>some "min" | _=>none
noncomputable def mtT:mZ->Option (Str×Nat)
 | .append=>some ("append",1)|_=>none
noncomputable def bQ6 (ck:Ck)(b:lS)(x:Str)(xs:yL)(m1 m2:Bool):Bool:=match biK b with
 | some p=>(match xs with|[_,.Name y _]=>decide (x=("isinstance":Str))&&ck.gl x&&decide (y=p.2)&&ck.gl y&&m2|_=>false)
 | none=>(match xs with|_::_=>decide (biT b=some x)&&ck.gl x&&m1|[]=>false)
noncomputable def lamArgs:bV->Option (List Str)
 | ⟨[],args,none,[],[],none,[]⟩=>some (args.map (·.arg))
 | _=>none
mutual
noncomputable def mE (ck:Ck):my->Expr->Bool
 | .var i,E=>match E with|.Name x _=>ck.var i x|_=>false
 | .cst c,E=>match E with|.Constant v _ _=>mC c v|_=>false
 | .glob g,E=>match E with|.Name x _=>decide (x=(g:Str))&&ck.gl x|_=>false
 | .bin op a b,E=>match E with|.BinOp l o r _=>decide (o=bT2 op)&&mE ck a l&&mE ck b r|_=>false
 | .not a,E=>match E with|.UnaryOp .Not l _=>mE ck a l|_=>false
 | .cmp op a b,E=>match E with|.Compare l [o] [r] _=>decide (o=bs4 op)&&mE ck a l&&mE ck b r|_=>false
 | .and a b,E=>match E with
  | .BoolOp .And [l,r] _=>mE ck a l&&mE ck b r
  | .BoolOp .And (l::m::r::es) p=>mE ck a l&&mE ck b (.BoolOp .And (m::r::es) p)
  | _=>false
 | .or a b,E=>match E with
  | .BoolOp .Or [l,r] _=>mE ck a l&&mE ck b r
  | .BoolOp .Or (l::m::r::es) p=>mE ck a l&&mE ck b (.BoolOp .Or (m::r::es) p)
  | _=>false
 | .ite c a b,E=>match E with|.IfExp t l r _=>mE ck c t&&mE ck a l&&mE ck b r|_=>false
 | .tup es,E=>match E with|.Tuple xs _ _=>mEs ck es xs&&decide (xs.length<=1000)|_=>false
 | .lst es,E=>match E with|.List xs _=>mEs ck es xs&&decide (xs.length<=1000)|_=>false
 | .dic ks vs,E=>match E with|.Dict a b _=>(match a,b with|[],[]=>mEs ck ks []&&mEs ck vs []|[some x],[y]=>mEs ck ks [x]&&mEs ck vs [y]|_,_=>false)|_=>false
 | .slL a lo,E=>match E with|.Subscript o (.Slice (some l) none none _) _=>mE ck a o&&mE ck lo l|_=>false
 | .slU a hi,E=>match E with|.Subscript o (.Slice none (some h) none _) _=>mE ck a o&&mE ck hi h|_=>false
 | .slLU a lo hi,E=>match E with|.Subscript o (.Slice (some l) (some h) none _) _=>mE ck a o&&mE ck lo l&&mE ck hi h|_=>false
 | .bitl o,E=>match E with|.Call (.Attribute ob x ap) [] [] cp=>decide (x=("bit_length":Str))&&bq7 ob&&(ap.endLine==cp.line)&&mE ck o ob|_=>false
 | .ix a b,E=>match E with|.Subscript o i _=>mE ck a o&&mE ck b i|_=>false
 | .call f as,E=>match E with|.Call (.Name x _) xs [] _=>decide (x=(f:Str))&&ck.gl x&&mAs ck as xs|_=>false
 | .bi b es,E=>match E with|.Call (.Name x _) xs [] _=>bQ6 ck b x xs (mEs ck es xs) (mEs ck es (xs.take 1))|_=>false
 | .mk k l,E=>match E with
  | .Call (.Name x _) [a] [] _=>ck.gl x&&shp a&&((decide (mkT k=some x)&&mL ck 2 l a)||(decide (mkF k=some x)&&mL ck 1 l a))
  | .ListComp e gs sc p=>decide (k=.list)&&mL ck 0 l (.ListComp e gs sc p)
  | _=>false
 | .meth m o es,E=>match E with
  | .Call (.Attribute ob x ap) xs [] cp=>decide (mtT m=some (x,xs.length))&&bq7 ob&&(ap.endLine==cp.line)&&mE ck o ob&&mEs ck es xs
  | _=>false
 | .attr o f,E=>match E with|.Attribute ob x _=>decide (x=⟨f.toArray⟩)&&bq7 ob&&mE ck o ob|_=>false
 | .keysL e,E=>match E with|.Call (.Name x _) [a] [] _=>decide (x=("list":Str))&&ck.gl x&&shp a&&mE ck e a|_=>false
 | .srt e,E=>match E with|.Call (.Name x _) [a] [] _=>decide (x=("sorted":Str))&&ck.gl x&&shp a&&mE ck e a|_=>false
 | .new c as,E=>match E with|.Call (.Name x _) xs [] _=>decide (x=(c:Str))&&ck.gl x&&mAs ck as xs|_=>false
 | .mcall o m as,E=>match E with|.Call (.Attribute ob x ap) xs [] cp=>(match ob with|.Name y py=>decide (x=(m:Str))&&mE ck o (.Name y py)&&(ap.endLine==cp.line)&&decide (xs.length<29)&&mAs ck as xs|_=>false)|_=>false
noncomputable def mEs (ck:Ck):lH->List Expr->Bool
 | .nil,xs=>match xs with|[]=>true|_=>false
 | .cons e es,xs=>match xs with|x::xs=>mE ck e x&&shp x&&mEs ck es xs|_=>false
noncomputable def mFs (ck:Ck):lH->List Expr->Bool
 | .nil,xs=>match xs with|[]=>true|_=>false
 | .cons e es,xs=>match xs with
  | .FormattedValue v c none _::xs=>decide (c=-1)&&mE ck e v&&mFs ck es xs
  | .Constant v j p::xs=>mE ck e (.Constant v j p)&&mFs ck es xs
  | _=>false
noncomputable def mAs (ck:Ck):mr->List Expr->Bool
 | .nil,xs=>match xs with|[]=>true|_=>false
 | .ex e es,xs=>match xs with|x::xs=>mE ck e x&&shp x&&mAs ck es xs|_=>false
 | .fn _ _,_=>false
noncomputable def ca9 (ck:Ck):mr->List Expr->Bool
 | .nil,xs=>match xs with|[]=>true|_=>false
 | .ex e es,xs=>match xs with|x::xs=>mE ck e x&&shp x&&ca9 ck es xs|_=>false
 | .fn _ _,_=>false
noncomputable def mI (ck:Ck)(tgt:Expr):DV.I->Expr->Bool
 | .rng1 a,E=>match E with|.Call (.Name x _) [l] [] _=>decide (x=("range":Str))&&ck.gl x&&mE ck a l&&shp l|_=>false
 | .rng2 a b,E=>match E with|.Call (.Name x _) [l,r] [] _=>decide (x=("range":Str))&&ck.gl x&&mE ck a l&&shp l&&mE ck b r&&shp r|_=>false
 | .seq e,x=>mE ck e x&&shp x
 | .rngD a,E=>match E with|.Call (.Name x _) [l,.UnaryOp .USub (.Constant v _ _) _,.UnaryOp .USub (.Constant u _ _) _] [] _=>decide (x=("range":Str))&&ck.gl x&&mE ck a l&&shp l&&decide (v=.int 1)&&decide (u=.int 1)|_=>false
 | .keys e,x=>mE ck e x&&shp x
noncomputable def mL (ck:Ck)(k:Nat):DV.L->Expr->Bool
 | .comp tg it e caps,E=>match E with|.ListComp elt [⟨tgt,iter,[],z⟩] scope _=>decide (z=0)&&aH7 ck tg tgt iter caps scope&&mI ck tgt it iter&&mE (ckC ck tgt caps scope) e elt|_=>false
 | .compIf tg it c e caps,E=>match E with|.ListComp elt [⟨tgt,iter,[i],z⟩] scope _=>decide (z=0)&&aH7 ck tg tgt iter caps scope&&mI ck tgt it iter&&mE (ckC ck tgt caps scope) c i&&mE (ckC ck tgt caps scope) e elt|_=>false
 | .disp es,E=>match E with|.List xs _=>decide (1<=k)&&mEs ck es xs&&decide (xs.length<=1000)|_=>false
 | .seq e,x=>decide (k=2)&&mE ck e x
end
theorem ff {p:Prop}(h:false=true):p:=Bool.noConfusion h
mutual
noncomputable def mS (ck:Ck):DV.S->Stmt->Bool
 | .asg tg e,S=>match S with
  | .Assign [t] v _=>mTg ck tg t&&mE ck e v&&(match tg with|.one _=>true|.tup _=>bE4 v&&aj6 v)
  | _=>false
 | .setIx o i e,S=>match S with|.Assign [.Subscript ob ix _] v _=>mE ck o ob&&mE ck i ix&&mE ck e v&&aj6 v|_=>false
 | .ex e,S=>match S with|.Expr v _=>mE ck e v&&aj6 v|_=>false
 | .ret e,S=>match S with|.Return (some v) _=>mE ck e v|_=>false
 | .ite c a b,S=>match S with|.If t l r _=>mE ck c t&&mSs ck a l&&mSs ck b r|_=>false
 | .whl c b,S=>match S with|.While t l [] _=>mE ck c t&&mSs ck b l|_=>false
 | .for_ tg it b,S=>match S with|.For tgt iter l [] _=>mTg ck tg tgt&&mI ck tgt it iter&&mSs ck b l|_=>false
 | .setA o f e,S=>match S with|.Assign [.Attribute ob x _] v _=>decide (x=⟨f.toArray⟩)&&mE ck o ob&&mE ck e v&&aj6 v|_=>false
 | .forK tg e b,S=>match S with|.For tgt iter l [] _=>mTg ck tg tgt&&(mE ck e iter&&shp iter)&&mSs ck b l|_=>false
noncomputable def mSs (ck:Ck):DV.Ss->List Stmt->Bool
 | .nil,xs=>match xs with|[]=>true|_=>false
 | .cons s ss,xs=>match xs with|x::xs=>(mS ck s x&&mSs ck ss xs)|_=>false
end
theorem aD3 {p:Ck}{e:my}{E:Expr}(h:mE p e E=true):shp E=true:=by
 cases E<;>first|rfl|(exfalso;cases e<;>exact ff h)
theorem bJ7 {z:Ck}{p:Expr}{e:DV.I}{E:Expr}(h:mI z p e E=true):shp E=true:=by
 cases e with
 | seq e=>have h:(mE z e E&&shp E)=true:=h;rw[ag]at h;exact h.2
 | keys e=>have h:(mE z e E&&shp E)=true:=h;rw[ag]at h;exact h.2
 | _=>cases E<;>first|rfl|exact ff h
theorem zb {e:Expr}{es:yL}{env:Env}(h:shp e=true):a7 (e::es) env=(false,eval e env)::a7 es env:=by
 cases e<;>first|rfl|cases h
theorem zx {env:Env}{pos:Pos}:∀ {es:yL},(∀ e∈es,shp e=true)->(cR pos (a7 es env)).any (·.1)=false/\(cR pos (a7 es env)).all (λ x=>!x.1)=true
 | [],_=>⟨rfl,rfl⟩
 | e::es,h=>by
  have z:=zb (es:=es) (env:=env) (h e (aA ..))
  obtain⟨p,h3⟩:=zx (env:=env) (pos:=pos) (es:=es) λ x hx=>h x (au _ hx)
  rw[z]
  unfold cR at p h3 ⊢
  simp only[a9,fZ,bI,p,h3]
  exact⟨rfl,rfl⟩
theorem ap7 {e:Expr}{env:Env}(h:shp e=true)(x:Value):de e env x=pure x:=by
 cases e<;>first|rfl|cases h
theorem au0 {e:Expr}{op:CmpOp}(h:shp e=true):iQ op e=false:=by
 cases e<;>first|rfl|cases h
theorem ai3 {e:Expr}{t:Option Expr}{l:Nat}{env:Env}(h:aj6 e=true):eG e t l env=pure false:=by
 cases e<;>first|rfl|cases h
theorem ak1 {e:Expr}{f:Str}{env:Env}(h:bq7 e=true):dz e f env (eval e env)=eval e env:=by
 cases e with
 | Call g a k p =>
  cases g with
  | Name x p' =>
   cases a with
   | nil=>cases k with
    | nil=>cases h
    | cons _ _=>rfl
   | cons _ _=>rfl
  | _=>rfl
 | _=>rfl
theorem aK4 {es:yL}{k:Nat}{p:Pos}{e:Expr}{env:Env}(h:bE4 e=true):iP [.Tuple es k p] e env=pure none:=by
 cases e<;>first|rfl|cases h
theorem aK7 {o i:Expr}{p:Pos}{e:Expr}{env:Env}:iP [.Subscript o i p] e env=pure none:=by
 cases e<;>rfl
theorem aJ4 {e:Expr}(h:shp e=true):aM2 e:=by
 intro o i
 cases e<;>first|rfl|cases h
def spV (Γ:Gm)(c:List lf->lb->lj lf):Sp:=λ vs H Q _=>rCl Γ c vs H Q
noncomputable def bNames:List Str:=["len", "abs", "min", "max", "int", "isinstance", "bool", "str", "tuple", "list", "range", "sum", "all", "any", "sorted", "zip", "enumerate", "ord"]
def spL (Γ:Gm)(c:List lf->List lf->lb->lj lf)(cap:List V):Sp:=λ vs H Q _=>∃ C s cs l d s',Rp Γ C H s/\RVL Γ C H l vs/\RVL Γ C H cs cap/\li s.length l=true/\li s.length cs=true/\c cs l s=.ok d s'/\ab2 Γ C s H d s' Q
noncomputable def LamI.own (J:LamI):Str:=match J.nm with|none => "<lambda>" | some p=>p.1
noncomputable def lamText (J:LamI)(params:bV)(body:Expr)(scope:Scope)(pos:Pos):Expr:=match J.nm with
 | none=>.Lambda params body scope pos
 | some p=>.NamedExpr (.Name p.1 p.2) (.Lambda params body scope pos) pos
structure LamHere (Γ:Gm)(X:Cx)(N:yI)(id:String)(caps:List Nat)(params:bV)(body:Expr)(scope:Scope)(c P:Addr)(J:LamI):Prop where
 code:X.env.code=.ref c
 hd:bU X.base c P
 bm:BM X.mg X.base
 ck:lamCheck scope X.env.scope=true
 df:defaultsOf params X.env=([],[])
 lg:Γ.lg id J
 q:J.qual=X.env.qual++J.own
 p:J.params=params
 b:J.body=body
 s:J.scope=scope
 len:J.fr.length=caps.length
 at_:∀(i j:Nat) (x:Str),caps[i]?=some j->J.fr[i]?=some x->N[j]?=some x
 fr:∀ x∈J.fr,scope.names.lookup x=some .free
 cl:∀ x,scope.names.lookup x=some .free->∃ c,X.env.cells.lookup x=some c
 tab:(P,J.qual)∈Γ.T
 nd:(Γ.T.map (·.1)).Nodup
 fn:∀ x,X.fn x=true
 kd:∀ x c,X.env.cells.lookup x=some c->X.env.kindOf x=some .cell\/X.env.kindOf x=some .free
 gs:LamScope (J.ps++J.fr) J.ps J.fr J.scope
 gp:lamArgs J.params=some J.ps
 gb:∀(clos:yC) (pm:Value) (c':Addr) (ctv:Value) (us:yH),us.length=J.ps.length->dA (dj "<lambda>" J.qual J.params J.body J.scope clos pm (.ref c') ctv) ⟨us,[]⟩=pure (J.ps.zip us)
noncomputable def strD (kvs:List (List Nat×List Nat)):List (PyData×PyData):=kvs.map λ p=>(.str ⟨p.1.toArray⟩,.str ⟨p.2.toArray⟩)
structure ObOk (Γ:Gm)(prog:aB)(w:World)(K:ae)(mg:yD)(base:Heap)(F:lx)(n:Nat):Prop where
 att:∀(c:String) (f:List Nat) (Cc:Addr),F.att c f=true->Γ.cls c=some Cc->NoAttr K Cc ⟨f.toArray⟩
 mc:∀ c m:String,(∀ l s,F.mcall c m l s=.bad)\/∃ Cc a fd ps,Γ.cls c=some Cc/\Cls K Cc/\Meth K Cc (m:Str) a/\FnOk prog w K mg base CX0 n a fd ps (spV Γ (F.mcall c m))/\Binds K fd ps []
 nw:∀ c:String,(∀ l s,F.new c l s=.bad)\/∃ k Cc a fd ps,k+1<=n/\(Γ.cls c=some Cc/\Cls K Cc)/\mg (c:Str)=some (.ref Cc)/\Mk K Cc a/\FnOk prog w K mg base CX0 k a fd ps (spV Γ (F.new c))/\Binds K fd ps []
structure CG (Γ:Gm)(F:lx)(n:Nat)(X:Cx)(ck:Ck):Prop where
 K:X.K=Γ.K
 N:X.N=ck.N
 nd:ck.N.Nodup
 xe:X.xe=λ _ _=>False
 calm:X.calm=true
 deep:lz+1<=n
 room:Room n X.A
 sc:∀ x k,ck.sc.names.lookup x=some k->X.env.scope.names.lookup x=some k\/(k=.free/\X.env.scope.names.lookup x=some .cell)
 fn:∀ x,ck.sc.names.lookup x=some .cell->X.fn x=true
 bi:∀ x∈bNames,X.mg x=none
 call:∀ f:String,(∀ l s,F.call f l s=.bad)\/∃ a fd ps,FnOk X.prog X.w X.K X.mg X.base CX0 n a fd ps (spV Γ (F.call f))/\X.mg (f:Str)=some (.ref a)/\bz X.K (.ref a)=true/\Binds X.K fd ps []
 con:∀ x d,F.con x=some d->∃ v u,X.mg (x:Str)=some u/\RelV v u/\(∀ m,d.bnd m=true)/\∀ C H,RV Γ C H d v
 lam:∀ id caps E,ck.lk id caps E=true->∃ c P params body scope pos J,E=lamText J params body scope pos/\LamHere Γ X ck.N id caps params body scope c P J
 cl:∀(id:String) (J:LamI) (f:Addr) (cap:List V) (clos:yC),Γ.lg id J->cap.length=J.fr.length->ClOk X.prog X.w X.K X.mg X.base n (λ H=>CloAt H f J cap clos) f (spL Γ (F.lam id) cap)
 fa:∀(f:String) (a:Addr),Γ.fa f=some a->X.mg (f:Str)=some (.ref a)/\∃ oc od fd sl,X.K.lookup a=some ⟨oc,od,.func fd,sl⟩
 fk:DV.FK F
 cdc:∀ c kvs,F.cdc c=some kvs->∃ a,X.mg (c:Str)=some (.ref a)/\∀ h:Heap,X.K.In h->StrTab X.prog X.w h a (strD kvs)
 ob:ObOk Γ X.prog X.w X.K X.mg X.base F n
section
variable {Γ:Gm} {F:lx} {n:Nat} {X:Cx} {ck:Ck}
theorem CG.vis (G:CG Γ F n X ck){x:Str}(h:ck.vis x=true):Vis X.env.scope x:=by
 unfold Ck.vis at h
 split at h
 .rename_i e;rcases G.sc _ _ e with z|⟨z,_⟩
  .exact .inl z
  .cases z
 .rename_i e;rcases G.sc _ _ e with z|⟨z,_⟩
  .exact .inr (.inl z)
  .cases z
 .rename_i e;rcases G.sc _ _ e with z|⟨_,z⟩
  .exact .inr (.inr z)
  .exact .inr (.inl z)
 .cases h
theorem CG.loc (G:CG Γ F n X ck){x:Str}(h:ck.loc x=true):Loc X.env.scope x/\(X.fn x=true\/X.env.scope.names.lookup x=some .local):=by
 unfold Ck.loc at h
 split at h
 .rename_i e;rcases G.sc _ _ e with z|⟨z,_⟩
  .exact⟨.inl z,.inr z⟩
  .cases z
 .rename_i e;rcases G.sc _ _ e with z|⟨z,_⟩
  .exact⟨.inr z,.inl (G.fn _ e)⟩
  .cases z
 .cases h
theorem CG.gl (G:CG Γ F n X ck){x:Str}(h:ck.gl x=true):Gl X x/\(x==("__debug__":Str))=false/\x ≠ "__name__":=by
 unfold Ck.gl at h
 simp only[ag,fT]at h
 obtain⟨⟨p,J⟩,h3⟩:=h
 refine⟨?_,J,of_decide_eq_false h3⟩
 split at p
 .rename_i e;rcases G.sc _ _ e with z|⟨z,_⟩
  .exact z
  .cases z
 .cases p
theorem bk3 (G:CG Γ F n X ck):∀ {is:List Nat} {es:yL},bQ8 ck is es=true->PGs X es (bR5 is)/\(cC es X.env).length=is.length/\(cC es X.env).findIdx? (·.1)=none
 | [],[],_=>⟨bt9,rfl,rfl⟩
 | [],_::_,h=>by cases h
 | i::is,[],h=>by cases h
 | i::is,e::es,h=>by
  cases e with
  | Name x p =>
   unfold bQ8 at h
   simp only[ag,decide_eq_true_eq]at h
   obtain⟨⟨J,Y⟩,h3⟩:=h
   obtain⟨l1,z⟩:=G.loc Y
   obtain⟨a,b,c⟩:=bk3 G h3
   have hs:cC (.Name x p::es) X.env=(false,gj (.Name x p) X.env)::cC es X.env:=rfl
   refine⟨bh3 (aR8 (by rw[G.N];exact G.nd) (by rw[G.N];exact J) l1 z) a (by rw[hs];rfl),by rw[hs,aP,aP,b],?_⟩
   rw[hs,List.findIdx?_cons]
   simp[c]
  | _=>cases h
theorem bc0 (G:CG Γ F n X ck){tg:lN}{e:Expr}(h:mTg ck tg e=true):PG X e (gOf Γ.K tg):=by
 unfold mTg at h
 split at h
 .simp only[ag,decide_eq_true_eq]at h
  obtain⟨l1,p⟩:=G.loc h.2
  exact aR8 (by rw[G.N];exact G.nd) (by rw[G.N];exact h.1) l1 p
 .obtain⟨a,b,c⟩:=bk3 G h
  exact by7 G.K G.calm a b c
 .cases h
theorem CG.comp (G:CG Γ F n X ck){tg:lN}{J iter:Expr}{p:yE}{scope:Scope}(h:aH7 ck tg J iter p scope=true) :
  zN (ckC ck J p scope).N p scope X.N X.env.scope=true/\shp iter=true /\
  ∀(Cc:Addr) (cells:yC) (s:af) (H:Hp) (ex:List Addr),CG Γ F n (zB X (ckC ck J p scope).N scope Cc cells s H ex) (ckC ck J p scope)/\PG (zB X (ckC ck J p scope).N scope Cc cells s H ex) J (gOf Γ.K tg):=by
 unfold aH7 at h
 simp only[ag,decide_eq_true_eq]at h
 obtain⟨⟨⟨Y,h2⟩,h3⟩,h4⟩:=h
 refine⟨?_,h4,λ Cc cells s H ex=>?_⟩
 .rw[G.N]
  unfold zN at Y ⊢
  simp only[ag]at Y ⊢
  obtain⟨⟨⟨⟨⟨a1,a2⟩,a3⟩,a4⟩,a5⟩,a6⟩:=Y
  refine⟨⟨⟨⟨⟨a1,?_⟩,a3⟩,a4⟩,a5⟩,a6⟩
  rw[aL]at a2 ⊢
  intro y hy
  have:=a2 y hy
  rw[bh]at this ⊢
  rcases this with q|q
  .exact .inl q
  .right
   rw[bh]at q ⊢
   rcases q with q|q
   .rcases G.sc _ _ (eq_of_beq q)with z|⟨z,_⟩
    .left;rw[z];exact beq_self_eq_true _
    .cases z
   .rcases G.sc _ _ (eq_of_beq q)with z|⟨_,z⟩
    .right;rw[z];exact beq_self_eq_true _
    .left;rw[z];exact beq_self_eq_true _
 .have Z:CG Γ F n (zB X (ckC ck J p scope).N scope Cc cells s H ex) (ckC ck J p scope):=by
   refine⟨G.K,rfl,h2,rfl,G.calm,G.deep,G.room,λ x k e=>?_,λ x e=>?_,G.bi,G.call,G.con,λ _ _ _ h=>(by cases h),G.cl,G.fa,G.fk,G.cdc,G.ob⟩
   .have q:=z6 (env:=X.env) e
    have q':(eO scope X.env).names.lookup x=some (if(k==NameKind.free&&X.env.scope.kind==.function&&X.env.kindOf x==some .cell)then NameKind.cell else k):=q
    show(eO scope X.env).names.lookup x=some k\/_
    rw[q']
    split
    .rename_i hc
     simp only[ag]at hc
     exact .inr ⟨eq_of_beq hc.1.1,rfl⟩
    .exact .inl rfl
   .show(scope.names.lookup x==some .cell)=true
    rw[show scope.names.lookup x=some .cell from e];rfl
  exact⟨Z,bc0 Z h3⟩
end
section
variable {Γ:Gm} {F:lx} {n:Nat} {X:Cx} {ck:Ck} {W:St} {H:Hp} {Q:VK}
theorem TEv.eq {m m':lh->lb->lj lf}(e:∀ U s,m U s=m' U s)(q:TEv Γ m W H Q):TEv Γ m' W H Q:=by
 have:m=m':=funext λ U=>funext λ s=>e U s
 subst this;exact q
theorem TTv.eq {m m':lh->lb->lj lf}{Q:Bool->Hp->Prop}(e:∀ U s,m U s=m' U s)(q:TTv Γ m W H Q):TTv Γ m' W H Q:=by
 have:m=m':=funext λ U=>funext λ s=>e U s
 subst this;exact q
theorem TAv.eq {m m':lh->lb->lj (List lf)}{Q:List V->Hp->Prop}(e:∀ U s,m U s=m' U s)(q:TAv Γ m W H Q):TAv Γ m' W H Q:=by
 have:m=m':=funext λ U=>funext λ s=>e U s
 subst this;exact q
theorem TFv.eq {m m':lh->lb->lj (List lf)}(e:∀ U s,m U s=m' U s)(q:TFv Γ m W H Q):TFv Γ m' W H Q:=by
 have:m=m':=funext λ U=>funext λ s=>e U s
 subst this;exact q
theorem TIv.eq {m m':lh->lb->lj mq}{R:It->Hp->Prop}(e:∀ U s,m U s=m' U s)(q:TIv Γ m W H R):TIv Γ m' W H R:=by
 have:m=m':=funext λ U=>funext λ s=>e U s
 subst this;exact q
theorem TSv.eq {m m':lh->lb->lj lO}{D:Ends}(e:∀ U s,m U s=m' U s)(q:TSv Γ m D W H):TSv Γ m' D W H:=by
 have:m=m':=funext λ U=>funext λ s=>e U s
 subst this;exact q
def EvT (Γ:Gm)(X:Cx)(E:Expr)(m:lh->lb->lj lf):Prop:=PE X E (TEv Γ m)/\PT X E (TTv Γ m)
theorem EvT.val {E:Expr}{m:lh->lb->lj lf}(h:PE X E (TEv Γ m))(z:∀ p,dJ E X.env p=(do let v <- p;ji E.pos;gi [v] (truthy v)):=by intro _;rfl):EvT Γ X E m :=
 ⟨h,(bE1 h z).imp λ W H Q q=>bk8 q⟩
theorem bf3 {c a b:Expr}{pos:Pos}{G tb Y:TT}(hc:PT X c G)(ha:PT X a tb)(hb:PT X b Y):PT X (.IfExp c a b pos) (λ W H Q=>G W H λ k z=>if k=true then tb W z Q else Y W z Q):=by
 intro p s W H Q I h
 have e:dJ (.IfExp c a b pos) X.env (eval (.IfExp c a b pos) X.env)=(do if <- dJ c X.env (eval c X.env)then dJ a X.env (eval a X.env)else dJ b X.env (eval b X.env)):=by rw[dJ]
 rw[e]
 refine aj (thn (hc p s W H _ I h) λ k s1 ⟨z,F,J⟩=>?_)
 cases k with
 | true=>exact ha p s1 W z Q F J
 | false=>exact hb p s1 W z Q F J
theorem bO7 {mc F G:lh->lb->lj lf}{Q:Bool->Hp->Prop}(h:TTv Γ (λ U s=>lw (mc U s) λ k s=>if k then F U s else G U s) W H Q):TTv Γ mc W H λ k z=>if k=true then TTv Γ F W z Q else TTv Γ G W z Q:=by
 obtain⟨C,U,s,d,s',E,R,p,q⟩:=h
 obtain⟨c,s1,e1,p⟩:=zE p
 refine⟨C,U,s,c,s1,E,R,e1,λ C1 z g1 l1 R1=>?_⟩
 cases c with
 | true =>
  rw[if_pos rfl]at p ⊢
  exact⟨C1,U,s1,d,s',E.mono g1 l1,R1,p,q.trans g1 l1⟩
 | false =>
  rw[if_neg aU]at p ⊢
  exact⟨C1,U,s1,d,s',E.mono g1 l1,R1,p,q.trans g1 l1⟩
section
variable {a b c:my} {l r t:Expr} {pos:Pos}
theorem bn8 (G:CG Γ F n X ck)(op:nq)(ha:EvT Γ X l (lp F a))(hb:EvT Γ X r (lp F b)):EvT Γ X (.BinOp l (bT2 op) r pos) (lp F (.bin op a b)) :=
 .val ((bW5 (bL6 G.K op) ha.1 hb.1).imp λ W H Q q=>be2 (TEv.eq (λ U s=>rfl) q))
theorem bq1 (ha:EvT Γ X l (lp F a)):EvT Γ X (.UnaryOp .Not l pos) (lp F (.not a)) :=
 ⟨(bK4 ha.1).imp λ W H Q q=>bG4 (TEv.eq (λ U s=>rfl) q),(bI4 ha.2).imp λ W H Q q=>bG8 (TTv.eq (λ U s=>rfl) q)⟩
theorem bu5 (G:CG Γ F n X ck)(op:m8)(hs:shp r=true)(ha:EvT Γ X l (lp F a))(hb:EvT Γ X r (lp F b)):EvT Γ X (.Compare l [bs4 op] [r] pos) (lp F (.cmp op a b)):=by
 have ho:=bO4 (Γ:=Γ) G.K (G.room.mono G.deep) op
 refine⟨(bw6 ho ha.1 hb.1 (au0 hs)).imp λ W H Q q=>be2 (TEv.eq (λ U s=>rfl) q),(bx7 ho ha.1 hb.1 (au0 hs)).imp λ W H Q q=>?_⟩
 have q:=by4 q
 exact be2 (TEv.eq (λ U s=>rfl) q)
theorem aW1 {op:BoolOp}{es:yL}{t:TT}(h:PT X (.BoolOp op es pos) t):PW X (.BoolOp op es pos) t:=by
 intro z p s W H Q I q
 have:=h p s W H Q I q
 have e:∀ w,dJ (.BoolOp op es pos) X.env w=allTrue op es X.env:=λ w=>by rw[dJ]
 rw[e]at this ⊢
 exact this
theorem by5 (ha:EvT Γ X l (lp F a))(hb:EvT Γ X r (lp F b)):EvT Γ X (.BoolOp .And [l,r] pos) (lp F (.and a b)) :=
 ⟨(bm1 ha.1 (bj4 hb.1)).imp λ W H Q q=>bk1 (TEv.eq (λ U s=>rfl) q),(bk6 ha.2 (bn4 hb.2)).pt.imp λ W H Q q=>bj5 (TTv.eq (λ U s=>rfl) q)⟩
theorem bv6 {es:yL}(ha:EvT Γ X l (lp F a))(hb:EvT Γ X (.BoolOp .And (r::es) pos) (lp F b)):EvT Γ X (.BoolOp .And (l::r::es) pos) (lp F (.and a b)) :=
 ⟨(bm1 ha.1 hb.1).imp λ W H Q q=>bk1 (TEv.eq (λ U s=>rfl) q),(bk6 ha.2 (aW1 hb.2)).pt.imp λ W H Q q=>bj5 (TTv.eq (λ U s=>rfl) q)⟩
theorem bE3 (ha:EvT Γ X l (lp F a))(hb:EvT Γ X r (lp F b)):EvT Γ X (.BoolOp .Or [l,r] pos) (lp F (.or a b)) :=
 ⟨(bO5 ha.1 (bj4 hb.1)).imp λ W H Q q=>bL1 (TEv.eq (λ U s=>rfl) q),(bH3 ha.2 (bI1 hb.2)).pt.imp λ W H Q q=>bC7 (TTv.eq (λ U s=>rfl) q)⟩
theorem bK9 {es:yL}(ha:EvT Γ X l (lp F a))(hb:EvT Γ X (.BoolOp .Or (r::es) pos) (lp F b)):EvT Γ X (.BoolOp .Or (l::r::es) pos) (lp F (.or a b)) :=
 ⟨(bO5 ha.1 hb.1).imp λ W H Q q=>bL1 (TEv.eq (λ U s=>rfl) q),(bH3 ha.2 (aW1 hb.2)).pt.imp λ W H Q q=>bC7 (TTv.eq (λ U s=>rfl) q)⟩
theorem br1 (hc:EvT Γ X t (lp F c))(ha:EvT Γ X l (lp F a))(hb:EvT Γ X r (lp F b)):EvT Γ X (.IfExp t l r pos) (lp F (.ite c a b)) :=
 ⟨(ba2 hc.2 ha.1 hb.1).imp λ W H Q q=>bB6 (TEv.eq (λ U s=>rfl) q),(bf3 hc.2 ha.2 hb.2).imp λ W H Q q=>bO7 (TTv.eq (λ U s=>rfl) q)⟩
theorem bE9 (G:CG Γ F n X ck)(hs:shp r=true)(ha:EvT Γ X l (lp F a))(hb:EvT Γ X r (lp F b)):EvT Γ X (.Subscript l r pos) (lp F (.ix a b)) :=
 .val ((bX2 (bS3 G.K (am3 G.room)) ha.1 hb.1 (aJ4 hs)).imp λ W H Q q=>be2 (TEv.eq (λ U s=>rfl) q))
theorem bz0 {h:Pos}(G:CG Γ F n X ck)(ha:EvT Γ X l (lp F a))(hb:EvT Γ X r (lp F b)):EvT Γ X (.Subscript l (.Slice (some r) none none h) pos) (lp F (.slL a b)) :=
 .val ((an9 (bx9 G.K) ha.1 (ao8 hb.1) aV4).imp λ W H Q q=>(bp4 (mh:=lp F b)).1 (TEv.eq (λ U s=>rfl) q))
theorem bw3 {h:Pos}(G:CG Γ F n X ck)(ha:EvT Γ X l (lp F a))(hb:EvT Γ X r (lp F b)):EvT Γ X (.Subscript l (.Slice none (some r) none h) pos) (lp F (.slU a b)) :=
 .val ((an9 (bx9 G.K) ha.1 aV4 (ao8 hb.1)).imp λ W H Q q=>(bp4 (ml:=lp F b)).2.1 (TEv.eq (λ U s=>rfl) q))
theorem bd9 {h:Pos}(G:CG Γ F n X ck)(ha:EvT Γ X l (lp F a))(hb:EvT Γ X r (lp F b))(hc:EvT Γ X t (lp F c)):EvT Γ X (.Subscript l (.Slice (some r) (some t) none h) pos) (lp F (.slLU a b c)) :=
 .val ((an9 (bx9 G.K) ha.1 (ao8 hb.1) (ao8 hc.1)).imp λ W H Q q=>bp4.2.2 (TEv.eq (λ U s=>rfl) q))
end
end
section
variable {Γ:Gm} {F:lx} {n:Nat} {X:Cx} {ck:Ck} {W:St} {H:Hp} {Q:VK}
theorem an7:∀ {es:lH} {U:lh} {s s':lb} {l:List lf} {p:yL} {z:Ck},lK F es U s=.ok l s'->mEs z es p=true->l.length=p.length
 | .nil,U,s,s',l,p,z,h,m=>by
  cases h
  cases p with
  | nil=>rfl
  | cons _ _=>rw[mEs]at m<;>first|cases m|(intros;simp_all)
 | .cons e es,U,s,s',l,p,z,h,m=>by
  obtain⟨d,s1,e1,h⟩:=aa0 h
  obtain⟨r,s2,e2,h⟩:=aa0 h
  cases h
  cases p with
  | nil=>rw[mEs]at m<;>first|cases m|(intros;simp_all)
  | cons x p =>
   rw[mEs,ag]at m
   rw[aP,aP,an7 e2 m.2]
theorem ax2:∀ {es:lH} {p:yL},mEs ck es p=true->∀ x∈p,shp x=true
 | .nil,[],_,x,hx=>by cases hx
 | .nil,_::_,m,_,_=>by rw[mEs]at m<;>first|cases m|(intros;simp_all)
 | .cons e es,[],m,x,hx=>by cases hx
 | .cons e es,y::p,m,x,hx=>by
  rw[mEs,ag,ag]at m
  rcases aH.mp hx with h|h
  .rw[h];exact m.1.2
  .exact ax2 m.2 x h
theorem ah4:∀ {es:mr} {p:yL},mAs ck es p=true->∀ x∈p,shp x=true
 | .nil,[],_,x,hx=>by cases hx
 | .nil,_::_,m,_,_=>by rw[mAs]at m<;>first|cases m|(intros;simp_all)
 | .ex e es,[],m,x,hx=>by cases hx
 | .fn _ _,_,m,_,_=>by rw[mAs]at m<;>first|cases m|(intros;simp_all)
 | .ex e es,y::p,m,x,hx=>by
  rw[mAs,ag,ag]at m
  rcases aH.mp hx with h|h
  .rw[h];exact m.1.2
  .exact ah4 m.2 x h
theorem aD8 {e:my}{x:Expr}{p:yL}{h:lh->lb->lj (List lf)}(hs:shp x=true)(z:PE X x (TEv Γ (lp F e)))(G:PA X p (TAv Γ h)) :
  PA X (x::p) (TAv Γ (λ U s=>(lp F e U s).bind λ d s=>(h U s).bind λ l s=>.ok (d::l) s)) :=
 (zD z G (zb hs)).imp λ W H Q q=>bA3 q
theorem aM4 {k:Nat}(h:k<=1000):k<=aG:=by rw[dN];omega
theorem bt1 {es:lH}{z:yL}{k:Nat}{pos:Pos}(m:mEs ck es z=true)(hz:z.length<=1000)(h:PA X z (TAv Γ (lK F es))):EvT Γ X (.Tuple z k pos) (lp F (.tup es)) :=
 .val ((bB5 h).imp λ W H Q q=>tv_tup' hz m q)
where
 tv_tup' {es:lH} {z:yL} {W:St} {H:Hp} {Q:VK} (hz:z.length<=1000) (m:mEs ck es z=true) (q:TEv Γ (lp F (.tup es)) W H Q):ca0 (TAv Γ (lK F es)) W H Q:=by
  obtain⟨C,U,s,d,s',E,R,G,q⟩:=q
  obtain⟨l,s1,e1,G⟩:=aa0 G
  cases G
  refine⟨C,U,s,l,_,E,R,e1,λ vs C1 Z g1 l1 J r1 R1=>⟨by rw[r1.length,an7 e1 m];exact aM4 hz,λ p Y=>?_⟩⟩
  exact(q.trans g1 l1).tup R1 r1 J Y
theorem bz8 {es:lH}{z:yL}{pos:Pos}(m:mEs ck es z=true)(hz:z.length<=1000)(h:PA X z (TAv Γ (lK F es))):EvT Γ X (.List z pos) (lp F (.lst es)):=by
 refine .val ((bl9 h).imp λ W H Q q=>?_)
 obtain⟨C,U,s,d,s',E,R,G,q⟩:=q
 obtain⟨l,s1,e1,G⟩:=aa0 G
 obtain⟨rfl,rfl⟩:=zW G
 refine⟨C,U,s,l,_,E,R,e1,λ vs C1 Z g1 l1 J r1 R1=>⟨by rw[r1.length,an7 e1 m];exact aM4 hz,λ p Y=>?_⟩⟩
 exact(q.trans g1 l1).alloc R1 r1 J Y
theorem bc9 {f:String}{z:mr}{Y:yL}{p pos:Pos}(G:CG Γ F n X ck)(hg:ck.gl (f:Str)=true)(m:mAs ck z Y=true)(h:PA X Y (TAv Γ (lP F z))):EvT Γ X (.Call (.Name (f:Str) p) Y [] pos) (lp F (.call f z)):=by
 refine .val ?_
 obtain⟨g1,g2,g3⟩:=G.gl hg
 rcases G.call f with hbad|⟨a,fd,ps,hF,J,hk,hb⟩
 .intro a0 s W H Q I q
  obtain⟨C,U,s,d,s',E,R,Z,q⟩:=q
  obtain⟨l,s1,e1,Z⟩:=aa0 Z
  rw[hbad]at Z
  cases Z
 have key:∀ W H Q,TEv Γ (lp F (.call f z)) W H Q->aJ9 (spV Γ (F.call f)) [] E0 (TAv Γ (lP F z)) W H Q:=λ W H Q q=>by
  have:=aw8 (TEv.eq (m':=λ U s=>(lP F z U s).bind λ l s=>F.call f l s) (λ U s=>rfl) q)
  unfold tCB at this
  unfold aJ9 spV
  simpa only[aN]using this
 cases Y with
 | nil =>
  have h0:PE X (.Call (.Name (f:Str) p) [] [] pos) (aJ9 (spV Γ (F.call f)) [] E0 aI0):=bg9 hF G.room g1 J hk hb .nil aK6 g2
  cases z with
  | nil =>
   refine h0.imp λ W H Q q=>?_
   have q1:=key W H Q q
   unfold aJ9 at q1 ⊢
   exact am0 (TAv.eq (λ U s=>rfl) q1)
  | _=>rw[mAs]at m<;>first|cases m|(intros;simp_all)
 | cons x Y =>
  have hs:=ah4 m
  exact(by0 hF G.room g1 J hk hb .nil aK6 h g2 (zb (hs x (aA ..))) (zx λ e he=>hs e (au _ he)).1).imp key
def BiC (Γ:Gm)(X:Cx)(b:lS)(x:Str):Prop:=(∃ id,bn x=some (.builtin id)/\aa6 X (.builtin id) (rCl Γ (mV b)))\/∃ T,bn x=some (.type T)/\aa6 X (.type T) (rCl Γ (mV b))
theorem bK1 (G:CG Γ F n X ck){b:lS}{x:Str}(h:biT b=some x):x∈bNames/\BiC Γ X b x:=by
 cases b<;>first|cases h|skip
 .exact⟨by decide,.inl ⟨_,bU4,aY0 G.K G.calm (k:=1) rfl⟩⟩
 .exact⟨by decide,.inl ⟨_,bX0,aY0 G.K G.calm (k:=1) rfl⟩⟩
 .exact⟨by decide,.inr ⟨_,bJ9,bN8⟩⟩
 .exact⟨by decide,.inr ⟨_,bI3,bP5⟩⟩
 .exact⟨by decide,.inl ⟨_,bO0,aY0 G.K G.calm (k:=2) rfl⟩⟩
 .exact⟨by decide,.inl ⟨_,bW3,aY0 G.K G.calm (k:=2) rfl⟩⟩
theorem bL4 {b:lS}{es:lH}{x:Str}{y:Expr}{z:yL}{p pos:Pos}(G:CG Γ F n X ck)(hb:biT b=some x)(hg:ck.gl x=true)(m:mEs ck es (y::z)=true)(h:PA X (y::z) (TAv Γ (lK F es))) :
  EvT Γ X (.Call (.Name x p) (y::z) [] pos) (lp F (.bi b es)):=by
 refine .val ?_
 obtain⟨g1,g2,g3⟩:=G.gl hg
 obtain⟨Z,hc⟩:=bK1 G hb
 have hs:=ax2 m
 have s1:=zb (es:=z) (env:=X.env) (hs y (aA ..))
 have s2:=(zx (env:=X.env) (pos:=pos) λ e he=>hs e (au _ he)).1
 rcases hc with⟨id,J,Y⟩|⟨T,J,Y⟩
 .exact(ag3 Y g1 (G.bi _ Z) J h g3 g2 s1 s2).imp λ W H Q q=>aw8 (TEv.eq (λ U s=>rfl) q)
 .exact(ac1 Y g1 (G.bi _ Z) J h g3 g2 s1 s2).imp λ W H Q q=>aw8 (TEv.eq (λ U s=>rfl) q)
theorem bH0 {b:lS}{k:Nat}{t:Str}(h:biK b=some (k,t)):(1<=k/\k<=5)/\t∈bNames/\bn t=some (.type (ak5 k))/\mV b=ni (nu k):=by
 cases b<;>cases h
 .exact⟨by omega,by decide,bJ9,rfl⟩
 .exact⟨by omega,by decide,bO9,rfl⟩
 .exact⟨by omega,by decide,bI3,rfl⟩
 .exact⟨by omega,by decide,aW0,rfl⟩
 .exact⟨by omega,by decide,aU3,rfl⟩
noncomputable def PEs (Γ:Gm)(F:lx)(X:Cx):lH->List Expr->Prop
 | .nil,[]=>True
 | .cons e es,x::xs=>(shp x=true/\EvT Γ X x (lp F e))/\PEs Γ F X es xs
 | _,_=>False
theorem al3:∀ {es:lH} {p:yL},PEs Γ F X es p->PA X p (TAv Γ (lK F es))
 | .nil,[],_=>ab0.imp λ W H Q q=>am0 (TAv.eq (λ U s=>rfl) q)
 | .nil,_::_,h=>h.elim
 | .cons _ _,[],h=>h.elim
 | .cons e es,x::p,h=>(aD8 h.1.1 h.1.2.1 (al3 h.2)).imp λ W H Q q=>TAv.eq (λ U s=>rfl) q
theorem by9 {b:lS}{es:lH}{k:Nat}{t:Str}{a:Expr}{p Z pos:Pos}(G:CG Γ F n X ck)(hb:biK b=some (k,t))(hg:ck.gl "isinstance"=true)(a0:ck.gl t=true)(h:PEs Γ F X es [a]) :
  EvT Γ X (.Call (.Name "isinstance" p) [a,.Name t Z] [] pos) (lp F (.bi b es)):=by
 refine .val ?_
 obtain⟨g1,g2,g3⟩:=G.gl hg
 obtain⟨t1,t2,t3⟩:=G.gl a0
 obtain⟨hk,z,hv,Y⟩:=bH0 hb
 have J:PE X (.Name t Z) (tC (.ty (ak5 k))):=bu3 t1 (G.bi _ z) hv rfl t3 t2
 cases es with
 | nil=>exact h.elim
 | cons e es =>
  cases es with
  | cons _ _=>exact h.2.elim
  | nil =>
   obtain⟨⟨hs,ha,_⟩,_⟩:=h
   have hA:PA X [a,.Name t Z] (ak2 (TEv Γ (lp F e)) (ak2 (tC (.ty (ak5 k))) aI0)):=zD ha (zD J ab0 (zb rfl)) (zb hs)
   refine(ag3 (bN1 G.K hk) g1 (G.bi _ (by decide)) au5 hA g3 g2 (zb hs) (zx λ e he=>by rw[aR.mp he];rfl).1).imp λ W H Q q=>?_
   obtain⟨C,U,s,d,s',E,R,z,q⟩:=q
   obtain⟨l,s1,e1,z⟩:=aa0 z
   obtain⟨x,s2,e2,e1⟩:=aa0 e1
   obtain⟨l2,s3,e3,e1⟩:=aa0 e1
   cases e3
   cases e1
   rw[Y]at z
   refine⟨C,U,s,x,_,E,R,e2,λ v C1 H1 g1 l1 b1 r1 R1=>?_⟩
   exact⟨v,rfl,C1,_,[x],d,s',R1,.cons r1 .nil,by unfold li;rw[b1];rfl,z,q.trans g1 l1⟩
end
section
variable {Γ:Gm} {F:lx} {n:Nat} {X:Cx} {ck:Ck} {W:St} {H:Hp}
def TAp (Γ:Gm)(cells:yC)(N:yI)(m:lh->lb->lj (List lf)):TA:=λ W H Q=>∃ C U s l s',RE Γ C H s.length U W/\Rp Γ C H s/\m U s=.ok l s' /\
 ∀ vs C' H',Gr C s H C' s' H'->s.length<=s'.length->li s'.length l=true->PVL Γ cells N W C' H' l vs->Rp Γ C' H' s'->Q vs H'
theorem TAp.eq {cells:yC}{N:yI}{m m':lh->lb->lj (List lf)}{Q:List V->Hp->Prop}(e:∀ U s,m U s=m' U s)(q:TAp Γ cells N m W H Q):TAp Γ cells N m' W H Q:=by
 obtain⟨C,U,s,l,s',E,R,h,q⟩:=q
 exact⟨C,U,s,l,s',E,R,by rw[<-e];exact h,q⟩
theorem bv2 {cells:yC}{N:yI}{Q:List V->Hp->Prop}(h:TAp Γ cells N (λ U s=>.ok [] s) W H Q):aI0 W H Q:=by
 obtain⟨C,U,s,l,s',E,R,p,q⟩:=h
 cases p
 exact q [] C H (Gr.refl _ _ _) (ai _) rfl .nil R
theorem bJ3 {cells:yC}{N:yI}{m:lh->lb->lj lf}{G:lh->lb->lj (List lf)}{Q:List V->Hp->Prop}(h:TAp Γ cells N (λ U s=>(m U s).bind λ d s=>(G U s).bind λ l s=>.ok (d::l) s) W H Q):ak2 (TEv Γ m) (TAp Γ cells N G) W H Q:=by
 obtain⟨C,U,s,l,s',E,R,p,q⟩:=h
 obtain⟨x,s1,e1,p⟩:=aa0 p
 obtain⟨y,s2,e2,p⟩:=aa0 p
 cases p
 refine⟨C,U,s,x,s1,E,R,e1,λ v C1 H1 g1 l1 F r1 R1=>?_⟩
 refine⟨C1,U,s1,y,s',E.mono g1 l1,R1,e2,λ vs C2 Z J z b2 Y R2=>?_⟩
 exact q (v::vs) C2 Z (g1.trans J l1) (ak l1 z) (by unfold li;rw[zg z x F,b2];rfl) (.cons (PVp.mono J F (.inl r1)) Y) R2
end
section
variable {Γ:Gm} {F:lx} {n:Nat} {X:Cx} {ck:Ck} {W:St} {H:Hp} {Q:VK}
def ce2 (K:ae)(H:Hp)(v:V)(ys:List V)(z:Bool):Prop:=(∃ a,v=.ref a/\(SqL K H a ys\/(SqT K H a ys/\(z=true->H a=some (.tup ys)))))\/∃ x:List Nat,v=.str ⟨x.toArray⟩/\x.length<=ls/\ys=sgV x
def TLv (Γ:Gm)(m:lh->lb->lj (List lf)):TE:=λ W H Q=>∃ C U s l s',RE Γ C H s.length U W/\Rp Γ C H s/\m U s=.ok l s' /\
 ∀ v ys C' H',Gr C s H C' s' H'->s.length<=s'.length->li s'.length l=true->ce2 Γ.K H' v ys (lv l)->RVL Γ C' H' l ys->Rp Γ C' H' s'->Q v H'
theorem aF2 {m:lh->lb->lj (List lf)}(h:TLv Γ m W H Q):TFv Γ m W H Q:=by
 obtain⟨C,U,s,l,s',E,R,F,q⟩:=h
 exact⟨C,U,s,l,s',E,R,F,λ p ys C' H' g hl hb G h0 ho r z=>q (.ref p) ys C' H' g hl hb (.inl ⟨p,rfl,.inl (SqL.of G)⟩) r z⟩
theorem ar0 {C:Nat->Addr}:∀ x:List Nat,RVL Γ C H (x.map λ c=>.str [c]) (sgV x)
 | []=>.nil
 | c::x=>.cons (RV.strI (by unfold ls;simp)) (ar0 x)
theorem al0 {k:Nat}:∀ x:List Nat,li k (x.map λ c=>.str [c])=true
 | []=>rfl
 | c::x=>by rw[a9];unfold li;rw[al0 x];rfl
theorem bK0 {m:lh->lb->lj lf}(h:TLv Γ (λ U s=>(m U s).bind λ d s=>DV.bF3 d s) W H Q):TEv Γ m W H Q:=by
 obtain⟨C,U,s,l,s',E,R,p,q⟩:=h
 obtain⟨d,s1,e1,p⟩:=aa0 p
 refine⟨C,U,s,d,s1,E,R,e1,λ v C1 J g1 l1 Y r1 R1=>?_⟩
 cases d with
 | tup l' =>
  cases p
  obtain⟨a,F,⟨rfl,z1⟩,z,G⟩:=r1.tupZ
  unfold lr at Y
  exact q _ F C1 J g1 l1 Y (.inl ⟨a,rfl,.inr ⟨z,z1⟩⟩) G R1
 | str x =>
  cases p
  exact q v (sgV x) C1 J g1 l1 (al0 x) (.inr ⟨x,r1.strE,r1.strL,rfl⟩) (ar0 x) R1
 | ref k =>
  have p:(match s1[k]? with
   | some (.lst l)=>DV.R.ok l s1
   | some (.ro l)=>.ok l s1
   | _=>.bad)=.ok l s':=p
  rw[r1.refE]
  cases e:s1[k]? with
  | none=>rw[e]at p;exact fb p
  | some ob =>
   rw[e]at p
   cases ob with
   | lst l' =>
    cases p
    obtain⟨F,z,G⟩:=R1.addr e
    have:=R1.wf k _ e
    unfold ln at this
    exact q _ F C1 J g1 l1 this (.inl ⟨_,rfl,.inl (SqL.of z)⟩) G R1
   | ro l' =>
    cases p
    obtain⟨F,z,G⟩:=R1.obj k _ e
    have:=R1.wf k _ e
    unfold ln at this
    exact q _ F C1 J g1 l1 this (.inl ⟨_,rfl,.inl z.1⟩) G R1
   | _=>exact fb p
 | _=>exact fb p
theorem TLv.eq {m m':lh->lb->lj (List lf)}(e:∀ U s,m U s=m' U s)(q:TLv Γ m W H Q):TLv Γ m' W H Q:=by
 have:m=m':=funext λ U=>funext λ s=>e U s
 subst this;exact q
theorem aH0 {m:lh->lb->lj (List lf)}{a:Expr}{p pos:Pos}(G:CG Γ F n X ck)(hg:ck.gl "tuple"=true)(hs:shp a=true)(h:PE X a (TLv Γ m)) :
  PE X (.Call (.Name "tuple" p) [a] [] pos) (TEv Γ (λ U s=>(m U s).bind λ l s=>mH .tuple l s)):=by
 obtain⟨g1,g2,g3⟩:=G.gl hg
 refine(ac1 ((aw7 G.K).or (az9 G.calm)) g1 (G.bi _ (by decide)) aW0 (zD h ab0 (zb hs)) g3 g2 (zb hs) rfl).imp λ W H Q q=>?_
 obtain⟨C,U,s,d,s',E,R,J,q⟩:=q
 obtain⟨l,s1,e1,J⟩:=aa0 J
 cases J
 refine⟨C,U,s,l,_,E,R,e1,λ v ys C1 Z g1 l1 z hq r1 R1=>?_⟩
 rcases hq with⟨a,rfl,hq|hq⟩|⟨x,rfl,hx,rfl⟩
 .exact .inl ⟨a,ys,rfl,.inl ⟨hq,λ p Y=>(q.trans g1 l1).tup R1 r1 z Y⟩⟩
 .exact .inl ⟨a,ys,rfl,.inr ⟨hq.1,q _ C1 Z g1 l1 (by unfold lr;exact z) (RV.tupC hq.1 hq.2 r1) R1⟩⟩
 .exact .inr ⟨x,rfl,hx,λ p Y=>(q.trans g1 l1).tup R1 r1 z Y⟩
theorem aS7 {m:lh->lb->lj (List lf)}{a:Expr}{p pos:Pos}(G:CG Γ F n X ck)(hg:ck.gl "list"=true)(hs:shp a=true)(h:PE X a (TLv Γ m)) :
  PE X (.Call (.Name "list" p) [a] [] pos) (TEv Γ (λ U s=>(m U s).bind λ l s=>mH .list l s)):=by
 obtain⟨g1,Z,g3⟩:=G.gl hg
 refine(ac1 ((aG9 G.K).or (aJ0 G.calm)) g1 (G.bi _ (by decide)) aU3 (zD h ab0 (zb hs)) g3 Z (zb hs) rfl).imp λ W H Q q=>?_
 obtain⟨C,U,s,d,s',E,R,z,q⟩:=q
 obtain⟨l,s1,e1,z⟩:=aa0 z
 obtain⟨rfl,rfl⟩:=zW z
 refine⟨C,U,s,l,_,E,R,e1,λ v ys C1 H1 g1 l1 Y hq r1 R1=>?_⟩
 rcases hq with⟨a,rfl,hq⟩|⟨x,rfl,hx,rfl⟩
 .exact .inl ⟨a,ys,rfl,hq.imp id (·.1),λ p J=>(q.trans g1 l1).alloc R1 r1 Y J⟩
 .exact .inr ⟨x,rfl,hx,λ p J=>(q.trans g1 l1).alloc R1 r1 Y J⟩
theorem bI2 {m:lh->lb->lj (List lf)}{k:mY}{x:Str}{a:Expr}{p pos:Pos}(G:CG Γ F n X ck)(hk:mkT k=some x)(hg:ck.gl x=true)(hs:shp a=true)(h:PE X a (TLv Γ m)) :
  PE X (.Call (.Name x p) [a] [] pos) (TEv Γ (λ U s=>(m U s).bind λ l s=>mH k l s)):=by
 cases k<;>cases hk
 .exact aH0 G hg hs h
 .exact aS7 G hg hs h
def FrC (Γ:Gm)(X:Cx)(x:Str)(k:mY):Prop:=∃ id r,bn x=some (.builtin id)/\x∈bNames/\aa6 X (.builtin id) r/\∀ C H s l ys p d s' Q,Rp Γ C H s->RVL Γ C H l ys->H p=some (.lst ys)->mH k l s=.ok d s'->ab2 Γ C s H d s' Q->r [.ref p] H Q
theorem aB5:∀(l:List Int) (a:Int),(l.foldl min a=a\/l.foldl min a∈l)/\l.foldl min a<=a/\∀ y∈l,l.foldl min a<=y
 | [],a=>⟨.inl rfl,jN _,λ y hy=>by cases hy⟩
 | b::l,a=>by
  obtain⟨p,F,h3⟩:=aB5 l (min a b)
  rw[dH]
  refine⟨?_,by omega,λ y hy=>?_⟩
  .rcases p with h|h
   .rw[h]
    rcases Int.le_total a b with z|z
    .left;omega
    .right;rw[show min a b=b by omega];exact aA ..
   .exact .inr (au _ h)
  .rcases aH.mp hy with z|z
   .rw[z];omega
   .exact h3 y z
theorem aZ4 {l:List Int}{m:Int}(h:nB l=some m):m∈l/\∀ y∈l,m<=y:=by
 cases l with
 | nil=>cases h
 | cons a l =>
  cases h
  obtain⟨p,F,h3⟩:=aB5 l a
  refine⟨?_,λ y hy=>?_⟩
  .rcases p with h|h
   .rw[h];exact aA ..
   .exact au _ h
  .rcases aH.mp hy with z|z
   .rw[z];exact F
   .exact h3 y z
theorem bt5 (G:CG Γ F n X ck){k:mY}{x:Str}(hk:mkF k=some x):FrC Γ X x k:=by
 cases k<;>cases hk
 .refine⟨_,_,bS2,by decide,aN4 G.calm G.K,λ C H s l ys p d s' Q R r Y h q=>?_⟩
  unfold mH at h
  dsimp only at h
  cases e:mB l with
  | none=>rw[e]at h;exact fb h
  | some bs =>
   rw[e]at h
   cases h
   have:=ai8 e
   subst this
   exact⟨p,bs,rfl,SqL.of (by rw[<-r.bls];exact Y),q.here R rfl RV.blI⟩
 .refine⟨_,_,bO0,by decide,aQ7 G.calm G.K,λ C H s l ys p d s' Q R r Y h q=>?_⟩
  unfold mH at h
  dsimp only at h
  cases e:lT l with
  | none=>rw[e]at h;exact fb h
  | some is =>
   rw[e]at h
   have h:(match nB is with|some m=>DV.R.ok (DV.D.int m) s|none=>.bad)=.ok d s':=h
   cases e2:nB is with
   | none=>rw[e2]at h;exact fb h
   | some mm =>
    rw[e2]at h
    cases h
    have:=qa e
    subst this
    refine⟨p,is,rfl,SqL.of (by rw[<-r.ints];exact Y),(λ(z:is=[])=>by rw[z]at e2;cases e2),λ m h J=>?_⟩
    obtain⟨a,b⟩:=aZ4 e2
    have:m=mm:=Int.le_antisymm (J mm a) (b m h)
    rw[this]
    exact q.here R rfl RV.intI
theorem bC8 {m:lh->lb->lj (List lf)}{k:mY}{x:Str}{a:Expr}{p pos:Pos}(G:CG Γ F n X ck)(hk:mkF k=some x)(hg:ck.gl x=true)(hs:shp a=true)(h:PE X a (TFv Γ m)) :
  PE X (.Call (.Name x p) [a] [] pos) (TEv Γ (λ U s=>(m U s).bind λ l s=>mH k l s)):=by
 obtain⟨g1,Z,g3⟩:=G.gl hg
 obtain⟨id,r,hb,hx,hc,hr⟩:=bt5 (Γ:=Γ) G hk
 refine(ag3 hc g1 (G.bi _ hx) hb (zD h ab0 (zb hs)) g3 Z (zb hs) rfl).imp λ W H Q q=>?_
 obtain⟨C,U,s,d,s',E,R,z,q⟩:=q
 obtain⟨l,s1,e1,z⟩:=aa0 z
 exact⟨C,U,s,l,_,E,R,e1,λ p ys C1 J g1 l1 b1 Y h0 ho r1 R1=>hr C1 J s1 l ys p d s' Q R1 r1 Y z (q.trans g1 l1)⟩
theorem bc6 {x:lf}{s s':lb}{l:List lf}(h:nD x s=.ok l s'):s'=s/\∃ r,x=.ref r/\s[r]?=some (.lst l):=by
 unfold nD at h
 split at h
 .rename_i r
  split at h
  .rename_i p e;cases h;exact⟨rfl,r,rfl,e⟩
  .exact fb h
 .exact fb h
theorem bd7 {C C':Nat->Addr}{s s':lb}{H':Hp}{r:Nat}{l:List lf}(R:Rp Γ C H s)(g:Gr C s H C' s' H')(hb:r<s.length)(e:s'[r]?=some (.lst l)):tyV Γ.K "list" (.ref (C r)) H:=by
 obtain⟨h,p⟩:∃ h,s[r]?=some h:=⟨s[r],ah hb⟩
 have G:=g.mu r h _ p e rfl
 have ho:=R.obj r h p
 cases h with
 | lst l0 =>
  obtain⟨F,z,_⟩:=ho
  exact .inl ⟨rfl,F,SqL.of z⟩
 | ro _=>cases G
 | _=>have:=g.kd r _ _ p e;cases this
def mtR (Γ:Gm)(m:mZ):V->List V->Hp->VK->Prop:=λ x vs H Q=>∃ C s a l d s',Rp Γ C H s/\RV Γ C H a x/\RVL Γ C H l vs/\a.bnd s.length=true/\li s.length l=true/\nj m a l s=.ok d s'/\ab2 Γ C s H d s' Q
theorem bB8:ls<aG:=by rw[dN];decide
theorem aF9 {m:mZ}{x:Str}{k:Nat}(z:mtT m=some (x,k)){a:lf}{l:List lf}{s s':lb}{d:lf}(h:nj m a l s=.ok d s'):∃ r l0,a=.ref r/\s[r]?=some (.lst l0):=by
 have go:∀ {r:Nat} {f:List lf->lj lf},(match s[r]? with|some (.lst l)=>f l|_=>.bad)=.ok d s'->∃ l0,s[r]?=some (.lst l0):=λ {r f} h=>by
  cases e:s[r]? with
  | none=>rw[e]at h;exact fb h
  | some ob =>
   cases ob with
   | lst l0=>exact⟨l0,rfl⟩
   | _=>rw[e]at h;exact fb h
 cases a with
 | ref r =>
  have p:∀ {f:List lf->lj lf},(match s[r]? with|some (.lst l)=>f l|_=>.bad)=.ok d s'->∃ r' l0,DV.D.ref r=.ref r'/\s[r']?=some (.lst l0):=λ h=>by obtain⟨l0,e⟩:=go h;exact⟨_,l0,rfl,e⟩
  cases m with
  | append=>match l with
   | [d]=>exact p h
   | []=>exact fb h
   | _::_::_=>exact fb h
  | _=>exact fb h
 | _=>cases m<;>exact fb h
theorem be5:MtR X "list.append" (mtR Γ .append):=by
 intro F sh W H x vs v us Q I rx rv h
 obtain⟨C,s,a,l,d,s',R,Z,rl,ba,bl,p,q⟩:=h
 obtain⟨r,l0,rfl,e⟩:=aF9 (m:=.append) rfl p
 cases l with
 | nil=>exact fb p
 | cons y t =>
  cases t with
  | cons _ _=>exact fb p
  | nil =>
   simp only[nj,e]at p
   split at p
   case isFalse=>exact fb p
   rename_i hlt
   cases p
   obtain⟨z,rfl,Y⟩:=rl.one
   obtain⟨xs,h1,J⟩:=R.addr e
   have G:li s.length l0=true:=by have:=R.wf r _ e;unfold ln at this;exact this
   refine at4 F sh W H x [z] v us Q I rx rv ⟨C r,xs,z,Z.refE,rfl,h1,by rw[J.length];have:=bB8;omega,?_⟩
   exact q.put R e (J.append (.cons Y .nil)) (zJ G bl) rfl RV.nonI
structure MtOk (Γ:Gm)(X:Cx)(m:mZ)(x:Str):Prop where
 ex:∃ id,PySem.Slot "list" x id/\typeOf (.builtin id)=pure (.type "method_descriptor")/\MtR X id (mtR Γ m)
theorem bI9 (z:X.K=Γ.K)(p:Room (lz+1) X.A){m:mZ}{x:Str}{k:Nat}(h:mtT m=some (x,k)):MtOk Γ X m x:=by
 cases m<;>cases h
 .exact⟨_,g6,PySem.F.type_list_append,be5⟩
theorem aZ8 {m:mZ}{o:my}{es:lH}{ob:Expr}{z:yL}{x:Str}{ap cp:Pos}(G:CG Γ F n X ck)(Z:mtT m=some (x,z.length))(hab:bq7 ob=true)(hl:(ap.endLine==cp.line)=true)(ho:PE X ob (TEv Γ (lp F o)))
  (a2:mEs ck es z=true) (h:PEs Γ F X es z):EvT Γ X (.Call (.Attribute ob x ap) z [] cp) (lp F (.meth m o es)):=by
 refine .val ?_
 obtain⟨id,slot,a0,hr⟩:=(bI9 (Γ:=Γ) (X:=X) G.K (G.room.mono G.deep) Z).ex
 have hs:=ax2 a2
 have key:∀ W H Q,TEv Γ (lp F (.meth m o es)) W H Q->tBM Γ.K "list" (mtR Γ m) (TEv Γ (lp F o)) (TAv Γ (lK F es)) W H Q:=λ W H Q q=>by
  obtain⟨C,U,s,d,s',E,R,p,q⟩:=q
  obtain⟨a,s1,e1,p⟩:=aa0 p
  obtain⟨l,s2,e2,p⟩:=aa0 p
  refine⟨C,U,s,a,s1,E,R,e1,λ v C1 H1 g1 l1 J r1 R1=>?_⟩
  obtain⟨r,l0,rfl,er⟩:=aF9 Z p
  rw[r1.refE]
  have hk:∀ C2 H2,Gr C1 s1 H1 C2 s2 H2->tyV Γ.K "list" (.ref (C1 r)) H1:=λ C2 H2 g2=>bd7 R1 g2 (by unfold lr at J;exact of_decide_eq_true J) er
  have Y:TAv Γ (lK F es) W H1 λ z H2=>mtR Γ m (.ref (C1 r)) z H2 Q:=by
   refine⟨C1,U,s1,l,s2,E.mono g1 l1,R1,e2,λ vs C2 H2 g2 l2 b2 r2 R2=>?_⟩
   refine⟨C2,s2,.ref r,l,d,s',R2,?_,r2,zg l2 _ J,b2,p,q.trans (g1.trans g2 l1) (ak l1 l2)⟩
   have:=RV.mono g2 _ _ J r1
   rw[r1.refE]at this
   exact this
  refine⟨?_,Y⟩
  have hlt:r<s1.length:=by unfold lr at J;exact of_decide_eq_true J
  obtain⟨o0,e0⟩:∃ o0,s1[r]?=some o0:=⟨s1[r],ah hlt⟩
  have a1:=R1.obj r o0 e0
  cases o0 with
  | lst l0 =>
   obtain⟨z,h1,_⟩:=a1
   exact .inl ⟨rfl,z,SqL.of h1⟩
  | ro l0 =>
   obtain⟨z,h1,_⟩:=a1
   exact .inl ⟨rfl,z,h1.1⟩
  | _ =>
   obtain⟨o',eo,ek⟩:=DV.aj0 G.fk es U s1 _ _ e2 r _ e0
   rw[er]at eo;cases eo;cases ek
 cases z with
 | nil =>
  have p0:PE X (.Call (.Attribute ob x ap) [] [] cp) (cb1 X.K "list" (mtR Γ m) (TEv Γ (lp F o))):=bk7 ga slot a0 hr ho (ak1 hab) hl
  rw[G.K]at p0
  refine p0.imp λ W H Q q=>?_
  cases es with
  | cons _ _=>exact h.elim
  | nil =>
   obtain⟨C,U,s,d,s',E,R,p,k⟩:=key W H Q q
   refine⟨C,U,s,d,s',E,R,p,λ v C1 H1 g1 l1 J r1 R1=>?_⟩
   obtain⟨h1,h2⟩:=k v C1 H1 g1 l1 J r1 R1
   exact⟨h1,am0 (TAv.eq (λ U s=>rfl) h2)⟩
 | cons y ys =>
  refine(bN6 G.K ga slot a0 hr ho (al3 h) (ak1 hab) ?_ hl (zb (hs y (aA ..))) (zx λ e he=>hs e (au _ he)).1).imp key
  rw[(zx hs).2]
  have:(y::ys).length<=1:=by
   unfold mtT at Z
   split at Z<;>first|(have:=av Z;have:=congrArg Prod.snd this;simp at this;simp;omega)|cases Z
  simp only[eP,eY,d9]
  show(true&&decide ((y::ys).length+0+0<30))=true
  rw[eP]
  exact decide_eq_true (by omega)
end
section
variable {Γ:Gm} {F:lx} {n:Nat} {X:Cx} {ck:Ck} {W:St} {H:Hp} {Q:VK}
theorem PIf.imp {e:yL}{t t':TT}(h:PIf X e t)(i:∀ W H Q,t' W H Q->t W H Q):PIf X e t':=λ p s W H Q I q=>h p s W H Q I (i W H Q q)
structure CompF (Γ:Gm)(X:Cx)(m:lh->lb->lj (List lf))(E:Expr):Prop where
 ex:∃ elt tgt iter ifs scope pos N' caps wi g tc te,E=.ListComp elt [⟨tgt,iter,ifs,0⟩] scope pos/\zN N' caps scope X.N X.env.scope=true/\PI X tgt iter wi /\
  (∀(Cc:Addr) (cells:yC) (s:af) (H:Hp) (ex:List Addr),PG (zB X N' scope Cc cells s H ex) tgt g/\PIf (zB X N' scope Cc cells s H ex) ifs tc/\PE (zB X N' scope Cc cells s H ex) elt te) /\
  (∀ x,de iter X.env x=pure x)/\∀ W H Q,TFv Γ m W H Q->tComp caps wi g tc te W H Q
theorem CompF.pe {m:lh->lb->lj (List lf)}{E:Expr}(h:CompF Γ X m E)(hc:X.calm=true):PE X E (TFv Γ m):=by
 obtain⟨J,z,iter,Z,scope,pos,F,p,wi,g,tc,te,rfl,Y,h2,h3,G,h5⟩:=h.ex
 exact(aS2 F p Y h2 hc h3 G).imp h5
theorem bq9 {tg:lN}{mI:lh->lb->lj mq}{mc J:lh->lb->lj lf}{h:yE}{z p iter i:Expr}{scope:Scope}{pos:Pos}(G:CG Γ F n X ck)(hm:aH7 ck tg p iter h scope=true)
  (Z:PI X p iter (TIv Γ mI)) (hc:∀ Cc cells s H ex,PT (zB X (ckC ck p h scope).N scope Cc cells s H ex) i (TTv Γ mc)) (he:∀ Cc cells s H ex,PE (zB X (ckC ck p h scope).N scope Cc cells s H ex) z (TEv Γ J)) :
  CompF Γ X (λ U s=>(mI U s).bind λ q s0=>if q.its.length<=ls then mW (λ s=>lM s0 s q.src) (λ d U s=>match lL U tg d with
   | some U=>lw (mc U s) λ k s=>if k then(J U s).bind λ v s=>.ok (some v,U) s else .ok (none,U) s
   | none=>.bad) q.its (mG U h) s0 else .bad) (.ListComp z [⟨p,iter,[i],0⟩] scope pos):=by
 obtain⟨c1,Y,c3⟩:=G.comp hm
 exact⟨z,p,iter,[i],scope,pos,_,h,_,_,_,_,rfl,c1,Z,λ Cc cells s H ex=>⟨(c3 Cc cells s H ex).2,bt2 (hc Cc cells s H ex),he Cc cells s H ex⟩,ap7 Y,λ W H Q q=>aW2 q⟩
theorem aZ5 {tg:lN}{mI:lh->lb->lj mq}{Y:lh->lb->lj lf}{h:yE}{z p iter:Expr}{scope:Scope}{pos:Pos}(G:CG Γ F n X ck)(J:aH7 ck tg p iter h scope=true)
  (hi:PI X p iter (TIv Γ mI)) (he:∀ Cc cells s H ex,PE (zB X (ckC ck p h scope).N scope Cc cells s H ex) z (TEv Γ Y)) :
  CompF Γ X (λ U s=>(mI U s).bind λ q s0=>if q.its.length<=ls then mW (λ s=>lM s0 s q.src) (λ d U s=>match lL U tg d with
   | some U=>(Y U s).bind λ v s=>.ok (some v,U) s
   | none=>.bad) q.its (mG U h) s0 else .bad) (.ListComp z [⟨p,iter,[],0⟩] scope pos):=by
 obtain⟨c1,Z,c3⟩:=G.comp J
 refine⟨z,p,iter,[],scope,pos,_,h,_,_,TTv Γ (λ U s=>.ok (.bl true) s),_,rfl,c1,hi,λ Cc cells s H ex=>⟨(c3 Cc cells s H ex).2,bv4.imp λ W H Q q=>?_,he Cc cells s H ex⟩,ap7 Z,λ W H Q q=>aW2 (TFv.eq (λ U s=>?_) q)⟩
 .obtain⟨C,U,s,b,s',E,R,J,q⟩:=q
  cases J
  exact q C H (Gr.refl _ _ _) (ai _) R
 .congr 1
theorem br0 {tg:Expr}{e:my}{E:Expr}(G:CG Γ F n X ck)(h:PE X E (TEv Γ (lp F e))):PI X tg E (TIv Γ (mQ F (.seq e))):=by
 refine(PI.or (bm4 G.K h) (PI.or (bh1 G.K h) (bL2 h))).imp λ W H R q=>bL7 (TIv.eq (λ U s=>rfl) q)
theorem aY7 {tg:Expr}{a:my}{l:Expr}{p pos:Pos}(G:CG Γ F n X ck)(hg:ck.gl "range"=true)(hs:shp l=true)(h:PE X l (TEv Γ (lp F a))):PI X tg (.Call (.Name "range" p) [l] [] pos) (TIv Γ (mQ F (.rng1 a))) :=
 (aQ2 (G.gl hg).1 (G.bi _ (by decide)) (zD h ab0 (zb hs)) (zb hs)).imp λ W H R q=>bo7 (TIv.eq (λ U s=>rfl) q)
theorem ba4 {tg:Expr}{a b:my}{l r:Expr}{p pos:Pos}(G:CG Γ F n X ck)(hg:ck.gl "range"=true)(hs:shp l=true)(z:shp r=true)(h:PE X l (TEv Γ (lp F a)))(J:PE X r (TEv Γ (lp F b))):PI X tg (.Call (.Name "range" p) [l,r] [] pos) (TIv Γ (mQ F (.rng2 a b))) :=
 (aR4 (G.gl hg).1 (G.bi _ (by decide)) (zD h (zD J ab0 (zb z)) (zb hs)) (by rw[zb hs,zb z];rfl) (zb z)).imp λ W H R q=>bn5 (TIv.eq (λ U s=>rfl) q)
theorem aY9 {tg:Expr}{a:my}{l:Expr}{p pos cp Z Y z:Pos}{ck0 J:Nat}(G:CG Γ F n X ck)(hg:ck.gl "range"=true)(hs:shp l=true)(h:PE X l (TEv Γ (lp F a))):PI X tg (.Call (.Name "range" p) [l,.UnaryOp .USub (.Constant (.int 1) ck0 cp) Z,.UnaryOp .USub (.Constant (.int 1) J Y) z] [] pos) (TIv Γ (mQ F (.rngD a))) :=
 (aP7 (G.gl hg).1 (G.bi _ (by decide)) (zD h (zD as8 (zD as8 ab0 rfl) rfl) (zb hs)) (zb hs) rfl).imp λ W H R q=>bv7 (TIv.eq (λ U s=>rfl) q)
theorem bB4 (h:TEv Γ (λ U s=>lZ (.dic []) s) W H Q):bi0 W H Q:=by
 obtain⟨C,U,s,d,s',E,R,z,q⟩:=h
 obtain⟨rfl,rfl⟩:=zW z
 intro p F
 obtain⟨g,G⟩:=R.new (o:=.dic []) (u:=.dK []) F rfl λ C' H' g e=>⟨[],e,rfl⟩
 exact q (.ref p) _ _ g (by simp) (by unfold lr;simp) (by unfold RV;simp) G
theorem bP4 {mk mv:lh->lb->lj lf}(h:TEv Γ (λ U s=>(mk U (s++[.dic []])).bind λ kd s1=>(mv U s1).bind λ G s2=>if kd.key=true/\s2[s.length]?=some (.dic [])then .ok (.ref s.length) (s2.set s.length (.dic [(kd,G)]))else .bad) W H Q):bE5 [(TEv Γ mk,TEv Γ mv)] W H Q:=by
 obtain⟨C,U,s,d,s',E,R,z,q⟩:=h
 obtain⟨kd,s1,e1,z⟩:=aa0 z
 obtain⟨G,s2,e2,z⟩:=aa0 z
 split at z
 case isFalse=>exact fb z
 rename_i hc
 cases z
 intro p hp
 obtain⟨g0,R0⟩:=R.new (o:=.dic []) (u:=.dK []) hp rfl λ C' H' g e=>⟨[],e,rfl⟩
 have l0:s.length<=(s++[DV.O.dic []]).length:=by simp
 refine⟨_,U,s++[DV.O.dic []],kd,s1,E.mono g0 l0,R0,e1,λ v1 C1 H1 g1 l1 b1 r1 R1=>?_⟩
 refine⟨C1,U,s1,G,s2,(E.mono g0 l0).mono g1 l1,R1,e2,λ Y C2 H2 Z J b2 r2 R2=>?_⟩
 have F:C2 s.length=p:=by
  rw[Z.w.map s.length (az (by simp) l1),g1.w.map s.length (by simp)];simp
 obtain⟨k,hk⟩:=ag4 hc.1
 have ek:=aG8 hk (RV.mono Z kd v1 b1 r1)
 obtain⟨kvs,z1,z2⟩:=R2.obj s.length _ hc.2
 have z2:kvs=[]:=z2
 subst z2
 rw[F]at z1
 refine⟨z1,[(k,Y)],by rw[ek];rfl,by simp,?_⟩
 have hb:(DV.O.dic [(kd,G)]).bnd s2.length=true:=by
  unfold ln
  simp only[a9,cX,li,iU,ag]
  exact⟨zg J _ b1,b2⟩
 obtain⟨g3,R3⟩:=R2.set (o:=.dic [(kd,G)]) (u:=.dK [(k,Y)]) hc.2 rfl hb λ H' g e=>⟨_,e,k,Y,[],rfl,hk,RV.monoW g _ _ b2 r2,rfl⟩
 rw[F]at g3 R3
 have L:s.length<=s2.length:=ak l0 (ak l1 J)
 have lt:s.length<s2.length:=az (by simp) (ak l1 J)
 exact q (.ref p) _ _ (((g0.trans g1 l0).trans Z (ak l0 l1)).trans g3 L) (by rw[aW];exact L) (by unfold lr;rw[aW];exact decide_eq_true lt) (by unfold RV;rw[F]) R3
section
variable {c:String} {kvs:List (List Nat×List Nat)} {a:Addr}
end
theorem ev_bitl' {o:my}{ob:Expr}{ap cp:Pos}(G:CG Γ F n X ck)(hab:bq7 ob=true)(hl:(ap.endLine==cp.line)=true)(ho:PE X ob (TEv Γ (lp F o))) :
  EvT Γ X (.Call (.Attribute ob "bit_length" ap) [] [] cp) (lp F (.bitl o)):=by
 refine .val ((bk7 PySem.F.plainAttrs_int fg PySem.F.type_int_bit_length bs9 ho (ak1 hab) hl).imp λ W H Q q=>?_)
 obtain⟨C,U,s,d,s',E,R,z,q⟩:=q
 obtain⟨x,J,e1,p⟩:=aa0 z
 unfold DV.aJ8 at p
 refine⟨C,U,s,_,J,E,R,e1,λ v1 C1 Z g1 l1 Y r1 R1=>?_⟩
 cases x with
 | int i =>
  cases p
  rw[r1.intE]
  refine⟨rfl,i,rfl,rfl,?_⟩
  have e:e9 i=DV.bitsN i:=by
   unfold e9 DV.bitsN
   by_cases h:i=0
   .subst h;rfl
   .rw[if_neg h,if_neg (by simpa using h)]
  rw[e]
  exact(q.trans g1 l1).here R1 rfl RV.intI
 | _=>exact fb p
end
section
variable {Γ:Gm} {F:lx} {n:Nat} {X:Cx} {ck:Ck}
end
section
variable {Γ:Gm} {F:lx} {n:Nat} {X:Cx} {ck:Ck}
def TJv (Γ:Gm)(m:lh->lb->lj (List lf))(out:List Nat):TE:=λ W H Q=>∃ C U s l s' ws,RE Γ C H s.length U W/\Rp Γ C H s/\m U s=.ok l s'/\mR l=some ws/\(out++ws.flatten).length<=ls /\
 ∀ C' H',Gr C s H C' s' H'->s.length<=s'.length->Rp Γ C' H' s'->Q (.str ⟨(out++ws.flatten).toArray⟩) H'
def PF (Γ:Gm)(X:Cx)(vs:yL)(m:lh->lb->lj (List lf)):Prop :=
 ∀(out:List Nat) (pins:yA) (s:af) (W:St) (H:Hp) (Q:VK),Inv X pins W H s->TJv Γ m out W H Q->wpAny (model X.prog X.w) X.A (joinParts ⟨out.toArray⟩ (evalEach vs X.env)) (EP X pins W Q) X.xe s
theorem PF.eq {vs:yL}{m m':lh->lb->lj (List lf)}(e:∀ U s,m U s=m' U s)(h:PF Γ X vs m):PF Γ X vs m':=λ out p s W H Q I q=>by
 obtain⟨C,U,s0,l,s',ws,E,R,z,q⟩:=q
 exact h out p s W H Q I ⟨C,U,s0,l,s',ws,E,R,by rw[e];exact z,q⟩
theorem az8 (w:List Nat):(⟨w.toArray⟩:Str).length=w.length:=by simp[Str.length]
theorem bO2:PF Γ X [] (λ _ s=>.ok [] s):=λ out h s W H Q I q=>by
 obtain⟨C,U,s0,l,s',ws,E,R,p,hw,hl,q⟩:=q
 cases p
 cases hw
 rw[List.flatten_nil,aN]at q hl
 exact joinParts_nilE (joinParts_nil ⟨.str ⟨out.toArray⟩,H,I.tok _,⟨_,rfl⟩,q C H (Gr.refl _ _ _) (ai _) R⟩ (by rw[az8];exact ak hl zH))
theorem aT0 {d:lf}{l:List lf}{ws:List (List Nat)}(h:mR (d::l)=some ws):∃ w p,d=.str w/\mR l=some p/\ws=w::p:=by
 cases d with
 | str w =>
  have h:(mR l).map (w::·)=some ws:=h
  cases e:mR l with
  | none=>rw[e]at h;cases h
  | some p=>rw[e]at h;cases h;exact⟨w,p,rfl,rfl,rfl⟩
 | _=>cases h
theorem aU5 {v:Expr}{vs:yL}{m1:lh->lb->lj lf}{m2:lh->lb->lj (List lf)}(h2:PF Γ X vs m2)
  (h1:∀(h:yA) (s:af) (W:St) (H:Hp) (w:List Nat) (Q:VK),w.length<=ls->Inv X h W H s->TEv Γ m1 W H (λ x p=>x=.str ⟨w.toArray⟩/\Q x p) ->
   wpAny (model X.prog X.w) X.A (eval v X.env) (λ u s1=>∃ t p,u=.str ⟨w.toArray⟩ t/\Inv X h W p s1/\Q (.str ⟨w.toArray⟩) p) X.xe s) :
  PF Γ X (v::vs) (λ U s=>(m1 U s).bind λ d s=>(m2 U s).bind λ l s=>.ok (d::l) s):=λ out h s W H Q I q=>by
 obtain⟨C,U,s0,l,s',ws,E,R,z,hw,hl,q⟩:=q
 obtain⟨d,s1,e1,z⟩:=aa0 z
 obtain⟨J,s2,e2,z⟩:=aa0 z
 cases z
 obtain⟨w,a0,rfl,Z,rfl⟩:=aT0 hw
 rw[cK,<-bo]at hl q
 have F:(out++w).length<=ls:=by rw[ar]at hl;omega
 have G:w.length<=ls:=by rw[ar]at F;omega
 refine joinParts_consE (joinParts_cons (bP (h1 h s W H w (λ x p=>∃ C1,Gr C s0 H C1 s1 p/\s0.length<=s1.length/\Rp Γ C1 p s1) G I ⟨C,U,s0,.str w,s1,E,R,e1,λ v C1 p g1 l1 b1 r1 R1=>⟨r1.strE,C1,g1,l1,R1⟩⟩) (λ u Y hu=>?_) λ _ _ x=>x))
 obtain⟨t,p,rfl,I1,C1,g1,l1,R1⟩:=hu
 show(_++_:Str).length<=aG/\_
 rw[aM5]
 refine⟨by rw[az8];exact ak F zH,h2 (out++w) h Y W p Q I1 ⟨C1,U,s1,J,s',a0,E.mono g1 l1,R1,e2,Z,hl,λ C2 H2 g2 J R2=>q C2 H2 (g1.trans g2 l1) (ak l1 J) R2⟩⟩
theorem bj7 {v:Expr}{z:lh->lb->lj lf}(hv:PE X v (TEv Γ z))(h:yA)(s:af)(W:St)(H:Hp)(w:List Nat)(Q:VK)(I:Inv X h W H s)(q:TEv Γ z W H (λ x p=>x=.str ⟨w.toArray⟩/\Q x p)) :
  wpAny (model X.prog X.w) X.A (eval v X.env) (λ u s1=>∃ t p,u=.str ⟨w.toArray⟩ t/\Inv X h W p s1/\Q (.str ⟨w.toArray⟩) p) X.xe s :=
 bP (hv h s W H _ I q) (λ u s1 hu=>by
  obtain⟨x,p,F,J,ex,G⟩:=hu
  subst ex
  obtain⟨t,rfl⟩:=(show ∃ t,u=Value.str ⟨w.toArray⟩ t from J)
  exact⟨t,p,rfl,F,G⟩) λ _ _ x=>x
theorem bG7 {v:Expr}{p:Pos}{vs:yL}{z:lh->lb->lj lf}{F:lh->lb->lj (List lf)}(hv:PE X v (TEv Γ z))(Z:PF Γ X vs F) :
  PF Γ X (.FormattedValue v (-1) none p::vs) (λ U s=>(z U s).bind λ d s=>(F U s).bind λ l s=>.ok (d::l) s) :=
 aU5 Z λ h s W H w Q hw I q=>FormattedValue_plain (bP (bj7 hv h s W H w Q I q) (λ u s1 hu=>by
  obtain⟨t,J,rfl,G,Y⟩:=hu
  exact formatField_str (λ t' tk=>⟨t',J,rfl,G.tok tk,Y⟩) (by rw[az8];exact ak hw zH)) λ _ _ x=>x)
theorem bB9 {v:Expr}{vs:yL}{p:lh->lb->lj lf}{z:lh->lb->lj (List lf)}(hv:PE X v (TEv Γ p))(F:PF Γ X vs z) :
  PF Γ X (v::vs) (λ U s=>(p U s).bind λ d s=>(z U s).bind λ l s=>.ok (d::l) s) :=
 aU5 F λ h s W H w Q hw I q=>bj7 hv h s W H w Q I q
end
section
variable {Γ:Gm} {F:lx} {n:Nat} {X:Cx} {ck:Ck} {W:St} {H:Hp} {Q:VK}
theorem aE0:bc1 bC2:=λ {a b k} ha hb=>by
 cases a with
 | str x =>
  cases ha
  cases b with
  | str y =>
   have h:=av hb
   injection h with h
   have p:y=x:=by simpa using h
   rw[p]
  | _=>cases hb
 | _=>cases ha
theorem RVD.lk {C:Nat->Addr}{f:List Nat}{d:lf}:∀ {l:List (lf×lf)} {gs:List (Str×V)},RVD bC2 Γ C H l gs->lB (.str f) l=some d->∃ v,gs.lookup ⟨f.toArray⟩=some v/\RV Γ C H d v/\((⟨f.toArray⟩,v):Str×V)∈gs/\d∈l.map (·.2)
 | [],_,_,e=>by cases e
 | (a,e0)::l,_,h,e=>by
  obtain⟨G,v',r,rfl,e2,p,F⟩:=h
  unfold lB at e
  split at e
  .rename_i ha
   subst ha
   cases e2
   cases e
   exact⟨v',by simp[aV],p,by simp,by simp⟩
  .rename_i ha
   obtain⟨v,J,q2,q3,q4⟩:=RVD.lk F e
   refine⟨v,?_,q2,au _ q3,by simp at q4 ⊢;exact .inr q4⟩
   have ne:((⟨f.toArray⟩:Str)==G)=false:=beq_eq_false_iff_ne.mpr λ z=>ha (aE0 e2 (by rw[<-z];rfl))
   rw[aV,ne];exact J
theorem RVD.putA {C:Nat->Addr}{f:List Nat}{d:lf}{v:V}(hv:RV Γ C H d v):∀ {l:List (lf×lf)} {gs:List (Str×V)},RVD bC2 Γ C H l gs->RVD bC2 Γ C H (lQ (.str f) d l) (aj1 ⟨f.toArray⟩ v gs)
 | [],_,h=>by cases(show _=[]from h);exact⟨_,v,[],rfl,rfl,hv,rfl⟩
 | (a,e0)::l,_,h=>by
  obtain⟨p,v',r,rfl,e2,G,F⟩:=h
  rw[show aj1 ⟨f.toArray⟩ v ((p,v')::r)=(if p=⟨f.toArray⟩then(p,v)::r else(p,v')::aj1 ⟨f.toArray⟩ v r)from rfl]
  unfold lQ
  by_cases ha:a=.str f
  .subst ha
   cases e2
   rw[if_pos rfl,if_pos rfl]
   exact⟨_,v,r,rfl,rfl,hv,F⟩
  .rw[if_neg ha,if_neg λ z=>ha (aE0 e2 (by rw[z];rfl))]
   exact⟨p,v',_,rfl,e2,G,RVD.putA hv F⟩
theorem putA_mem {k v:lf}{p:lf×lf}:∀ {l:List (lf×lf)},p∈lQ k v l->p∈l\/(p.1=k/\p.2=v)
 | [],h=>by simp[lQ]at h;exact .inr (by rw[h];exact⟨rfl,rfl⟩)
 | (a,e)::l,h=>by
  unfold lQ at h
  split at h
  .rename_i ha
   rcases aH.mp h with z|z
   .subst z;exact .inr ⟨ha,rfl⟩
   .exact .inl (au _ z)
  .rcases aH.mp h with z|z
   .subst z;exact .inl (aA ..)
   .rcases putA_mem z with z|z
    .exact .inl (au _ z)
    .exact .inr z
theorem bb4 {n:Nat}{c:String}{f:List Nat}{d:lf}{l:List (lf×lf)}(h:(DV.O.ins c l).bnd n=true)(hd:d.bnd n=true):(DV.O.ins c (lQ (.str f) d l)).bnd n=true:=by
 unfold ln at h ⊢
 rw[ag]at h ⊢
 have g1:=aa2.mp h.1
 have G:=aa2.mp h.2
 refine⟨aa2.mpr λ x hx=>?_,aa2.mpr λ x hx=>?_⟩
 .obtain⟨p,F,rfl⟩:=bf.mp hx
  rcases putA_mem F with z|⟨z,_⟩
  .exact g1 _ (bw (f:=(·.1)) z)
  .rw[z];rfl
 .obtain⟨p,F,rfl⟩:=bf.mp hx
  rcases putA_mem F with z|⟨_,z⟩
  .exact G _ (bw (f:=(·.2)) z)
  .rw[z];exact hd
theorem aT7 {f:List Nat}{x d:lf}{s s':lb}(h:nE f x s=.ok d s'):∃ r c fs,x=.ref r/\s[r]?=some (.ins c fs)/\lB (.str f) fs=some d/\s'=s:=by
 unfold nE at h
 split at h
 .split at h
  .rename_i c fs e
   split at h
   .rename_i e2;cases h;exact⟨_,c,fs,rfl,e,e2,rfl⟩
   .exact fb h
  .exact fb h
 .exact fb h
theorem bf6 {m:lh->lb->lj lf}{o:Expr}{f:List Nat}{pos:Pos}(G:CG Γ F n X ck)(hab:bq7 o=true)(h:PE X o (TEv Γ m)):PE X (.Attribute o ⟨f.toArray⟩ pos) (TEv Γ (λ U s=>(m U s).bind λ x s=>nE f x s)):=by
 refine(bL5 h (ak1 hab)).imp λ W H Q q=>?_
 obtain⟨C,U,s,d,s',E,R,p,q⟩:=q
 obtain⟨x,s1,e1,p⟩:=aa0 p
 obtain⟨r,c,fs,rfl,hs,hl,rfl⟩:=aT7 p
 refine⟨C,U,s,.ref r,_,E,R,e1,λ v C1 H1 g1 l1 b1 r1 R1=>?_⟩
 obtain⟨Cc,dx,gs,⟨hc,J⟩,z,ea,Y⟩:=R1.obj r _ hs
 obtain⟨v',Z,q2,q3,q4⟩:=Y.lk hl
 have wf:=R1.wf _ _ hs
 unfold ln at wf
 rw[ag]at wf
 rw[G.K]
 exact⟨C1 r,Cc,dx,gs,v',r1.refE,ea,J,z _ q3,Z,(q.trans g1 l1).here R1 (aa2.mp wf.2 _ q4) q2⟩
theorem aM7 {ok:String->Bool}{f:List Nat}{x v:lf}{u:Unit}{s s':lb}(h:nF ok f x v s=.ok u s'):∃ r c fs,x=.ref r/\s[r]?=some (.ins c fs)/\ok c=true/\fs.length<1000/\s'=s.set r (.ins c (lQ (.str f) v fs)):=by
 unfold nF at h
 split at h
 .split at h
  .rename_i c fs e
   split at h
   .rename_i hc
    rw[ag]at hc
    cases h
    exact⟨_,c,fs,rfl,e,hc.1,of_decide_eq_true hc.2,rfl⟩
   .exact fb h
  .exact fb h
 .exact fb h
theorem bf7 {me mo:lh->lb->lj lf}{o h:Expr}{f:List Nat}{pos a0:Pos}(G:CG Γ F n X ck)(ho:PE X o (TEv Γ mo))(hv:PE X h (TEv Γ me))(hn:aj6 h=true) :
  PS X (.Assign [.Attribute o ⟨f.toArray⟩ a0] h pos) (TSv Γ (λ U s=>(me U s).bind λ d s=>(mo U s).bind λ x s=>(nF (λ c=>F.att c f) f x d s).bind λ _ s=>.ok (.next U) s)):=by
 refine(bH7 ho hv (ai3 hn)).imp λ D W H q=>?_
 obtain⟨C,U,s,c,s',E,R,e,q⟩:=q
 obtain⟨d,s1,e1,e⟩:=aa0 e
 obtain⟨x,s2,e2,e⟩:=aa0 e
 obtain⟨u,s4,e4,e⟩:=aa0 e
 cases e
 obtain⟨r,cn,fs,rfl,hs,hat,Z,rfl⟩:=aM7 e4
 refine⟨C,U,s,d,s1,E,R,e1,λ v1 C1 H1 g1 l1 b1 r1 R1=>?_⟩
 refine⟨C1,U,s1,.ref r,s2,E.mono g1 l1,R1,e2,λ v2 C2 H2 g2 l2 b2 r2 R2=>?_⟩
 obtain⟨Cc,dx,gs,⟨hc,a2⟩,a3,ea,rd⟩:=R2.obj r _ hs
 have a1:NoAttr Γ.K Cc ⟨f.toArray⟩:=by rw[<-G.K];exact G.ob.att cn f Cc hat hc
 have wf:=R2.wf _ _ hs
 have bd:=zg l2 d b1
 have rv:=RV.mono g2 d v1 b1 r1
 have hb:=bb4 (f:=f) wf bd
 have Y:=hb
 unfold ln at Y
 rw[ag]at Y
 have key:∀ {l:List (Str×V)},(∀ p∈l,NoAttr Γ.K Cc p.1)->∀ p∈aj1 ⟨f.toArray⟩ v1 l,NoAttr Γ.K Cc p.1:=by
  intro l
  induction l with
  | nil=>intro _ p J;cases(show p∈[_]from J)with
   | head=>exact a1
   | tail _ z=>cases z
  | cons a l ih =>
   intro hl p J
   obtain⟨k,x⟩:=a
   rw[show aj1 ⟨f.toArray⟩ v1 ((k,x)::l)=(if k=⟨f.toArray⟩then(k,v1)::l else(k,x)::aj1 ⟨f.toArray⟩ v1 l)from rfl]at J
   split at J
   .rcases aH.mp J with z|z
    .subst z;exact hl (k,x) (aA ..)
    .exact hl _ (au _ z)
   .rcases aH.mp J with z|z
    .subst z;exact hl _ (aA ..)
    .exact ih (λ p J=>hl p (au _ J)) p z
 obtain⟨g3,R3⟩:=R2.set (o:=.ins cn (lQ (.str f) d fs)) (u:=.ins Cc dx (aj1 ⟨f.toArray⟩ v1 gs)) hs rfl hb λ H' g e=>⟨Cc,dx,_,⟨hc,a2⟩,key a3,e,RVD.monoW g _ _ Y.2 (RVD.putA rv rd)⟩
 have G2:=g1.trans g2 l1
 have L2:=ak l1 l2
 have L3:s.length<=(s2.set r (.ins cn (lQ (.str f) d fs))).length:=by rw[aW];exact L2
 rw[G.K]
 refine⟨C2 r,Cc,dx,gs,r2.refE,ea,a2,a1,by rw[rd.length];exact Z,q C2 _ (G2.trans g3 L2) L3 R3 W (E.mono (G2.trans g3 L2) L3)⟩
theorem aV8 {c:String}{Cc:Addr}{as:mr}(hc:Γ.cls c=some Cc/\Cls Γ.K Cc)(q:TEv Γ (lp F (.new c as)) W H Q):aU9 Cc (spV Γ (F.new c)) [] E0 (TAv Γ (lP F as)) W H Q:=by
 obtain⟨C,U,s,d,s',E,R,h,q⟩:=q
 obtain⟨l,s1,e1,h⟩:=aa0 h
 obtain⟨d0,s2,e2,h⟩:=aa0 h
 split at h
 case isFalse=>exact fb h
 rename_i J
 subst J
 cases h
 refine⟨C,U,s,l,s1,E,R,e1,λ vs C1 H1 g1 l1 b1 r1 R1 x G hx Z ne=>?_⟩
 obtain⟨g2,R2⟩:=R1.same (H':=upd H1 G (.own x)) ((ab4.refl H1).new Z)
 have a0:upd H1 G (.own x) x=none:=by rw[zc (bS ne)];exact hx
 obtain⟨g3,R3⟩:=R2.new (o:=.ins c []) (u:=.ins Cc G []) a0 rfl λ C' H' g e=>⟨Cc,G,[],hc,(λ p hp=>by cases hp),e,rfl⟩
 have g4:=g2.trans g3 (ai _)
 have Y:s1.length<=(s1++[DV.O.ins c []]).length:=by simp
 have z:(if s1.length=s1.length then x else C1 s1.length)=x:=if_pos rfl
 refine⟨_,s1++[.ins c []],.ref s1.length::l,.non,_,R3,.cons (by unfold RV;show V.ref x=V.ref (if s1.length=s1.length then x else C1 s1.length);rw[z]) (by rw[aN];exact RVL.mono g4 l vs b1 r1),by unfold li;rw[aa3 Y l b1];unfold lr;simp,e2,λ v C' H' g l' b r R'=>⟨r.nonE,?_⟩⟩
 have l5:=az (show s1.length<(s1++[DV.O.ins c []]).length by simp) l'
 refine q (.ref x) C' H' ((g1.trans g4 l1).trans g (ak l1 Y)) (ak l1 (ak Y l')) (by unfold lr;exact decide_eq_true l5) ?_ R'
 unfold RV
 rw[g.w.map s1.length (by simp)]
 show V.ref x=V.ref (if s1.length=s1.length then x else C1 s1.length)
 rw[z]
theorem bn0 {c:String}{Z:mr}{Y:yL}{p pos:Pos}(G:CG Γ F n X ck)(hg:ck.gl (c:Str)=true)(m:mAs ck Z Y=true)(h:PA X Y (TAv Γ (lP F Z))):EvT Γ X (.Call (.Name (c:Str) p) Y [] pos) (lp F (.new c Z)):=by
 refine .val ?_
 obtain⟨g1,g2,g3⟩:=G.gl hg
 rcases G.ob.nw c with hbad|⟨k,Cc,a,fd,ps,hk,hc,z,M,hF,hb⟩
 .intro a0 s W H Q I q
  obtain⟨C,U,s,d,s',E,R,hm,q⟩:=q
  obtain⟨l,s1,e1,hm⟩:=aa0 hm
  obtain⟨d0,s2,e2,hm⟩:=aa0 hm
  rw[hbad]at e2
  cases e2
 have hr:Room (k+1) X.A:=G.room.mono hk
 have J:Γ.cls c=some Cc/\Cls Γ.K Cc:=by rw[<-G.K];exact hc
 cases Y with
 | nil =>
  have h0:PE X (.Call (.Name (c:Str) p) [] [] pos) (aU9 Cc (spV Γ (F.new c)) [] E0 aI0):=bg3 M hF hr g1 z hb .nil aK6 g2
  cases Z with
  | nil =>
   refine h0.imp λ W H Q q=>?_
   have q1:=aV8 J q
   unfold aU9 at q1 ⊢
   exact am0 (TAv.eq (λ U s=>rfl) q1)
  | _=>rw[mAs]at m<;>first|cases m|(intros;simp_all)
 | cons x Y =>
  have hs:=ah4 m
  exact(br6 M hF hr g1 z hb .nil aK6 h g2 (zb (hs x (aA ..))) (zx λ e he=>hs e (au _ he)).1).imp λ W H Q q=>aV8 J q
theorem ba1 {x:lf}{c:String}{s s':lb}(h:DV.bj0 x s=.ok c s'):∃ r fs,x=.ref r/\s[r]?=some (.ins c fs)/\s'=s:=by
 unfold DV.bj0 at h
 split at h
 .split at h
  .rename_i c fs e;cases h;exact⟨_,fs,rfl,e,rfl⟩
  .exact fb h
 .exact fb h
theorem aU1 {K:ae}{Cc a:Addr}{m:Str}(F:Meth K Cc m a):∀ {gs:List (Str×V)},(∀ p∈gs,NoAttr K Cc p.1)->gs.lookup m=none
 | [],_=>rfl
 | (k,v)::gs,h=>by
  rw[aV]
  cases e:m==k with
  | true =>
   have e':=eq_of_beq e
   subst e'
   have z:=h (m,v) (aA ..)
   unfold NoAttr at z
   rw[F.at_]at z;cases z
  | false=>exact aU1 F λ p G=>h p (au _ G)
theorem aS5 {x:Str}{px:Pos}{m:Str}{h pos:Pos}{args:yL}{env:Env}(z:methodCallForm (args.length+([]:List fM).length) (cR pos (a7 args env)) (fw pos (di [] env))=true)(hl:(h.endLine==pos.line)=true):∃ pl,eval (.Call (.Attribute (.Name x px) m h) args [] pos) env=(do
  let ov <- eval (.Name x px) env
  ji h.atName
  let(f,first) <- gi [ov] (iy ov m pl)
  callWith pos f first (cR pos (a7 args env)) (fw pos (di [] env))):=by
 have p:methodCallPos true (.Name x px) env h pos=pure pos:=by unfold methodCallPos;simp[hl]
 rw[arm_eval_Call,ak1 (e:=.Name x px) rfl]
 unfold methodCall
 rw[z]
 simp only[p,pure_bind]
 exact⟨_,rfl⟩
theorem aO6 {mo:my}{m:String}{as:mr}{z:yL}{y:Str}{py ap pos:Pos}(G:CG Γ F n X ck)(ho:PE X (.Name y py) (TEv Γ (lp F mo)))(ma:mAs ck as z=true)(hl:(ap.endLine==pos.line)=true)(hx:z.length<29)(h:PA X z (TAv Γ (lP F as))):EvT Γ X (.Call (.Attribute (.Name y py) (m:Str) ap) z [] pos) (lp F (.mcall mo m as)):=by
 refine .val ?_
 intro J sh W H Q I q
 obtain⟨C,U,s,d,s',E,R,Y,q⟩:=q
 obtain⟨x,s1,e1,a3⟩:=aa0 Y
 obtain⟨c,s2,e2,a4⟩:=aa0 a3
 obtain⟨l,s3,e3,Y⟩:=aa0 a4
 obtain⟨r,fs,rfl,hs,rfl⟩:=ba1 e2
 rcases G.ob.mc c m with hbad|⟨Cc,a,fd,ps,hc,Z,p,hF,hb⟩
 .rw[hbad]at Y;exact fb Y
 have key:aY8 Cc (m:Str) (spV Γ (F.mcall c m)) [] E0 (TEv Γ (lp F mo)) (TAv Γ (lP F as)) W H Q:=by
  refine⟨C,U,s,.ref r,s2,E,R,e1,λ v1 C1 H1 g1 l1 b1 r1 R1=>?_⟩
  obtain⟨Cc',dx,gs,⟨a0,a5⟩,a2,ea,rd⟩:=R1.obj r _ hs
  rw[hc]at a0;cases a0
  rw[<-G.K]at a2
  refine⟨C1 r,dx,gs,r1.refE,ea,aU1 p a2,C1,U,s2,l,s3,E.mono g1 l1,R1,e3,λ vs C2 H2 g2 l2 b2 r2 R2=>?_⟩
  refine⟨C2,s3,.ref r::l,d,s',R2,.cons (RV.mono g2 _ _ b1 r1) (by rw[aN];exact r2),by unfold li;rw[b2,zg l2 _ b1];rfl,Y,q.trans (g1.trans g2 l1) (ak l1 l2)⟩
 have hf:methodCallForm (z.length+([]:List fM).length) (cR pos (a7 z X.env)) (fw pos (di [] X.env))=true:=by
  show((cR pos (a7 z X.env)).all (λ x=>!x.1)&&(fw pos (di [] X.env)).all (λ x=>x.1.isSome)&&decide (z.length+([]:List fM).length+(if([]:List fM).isEmpty then 0 else 1)<30))=true
  rw[(zx (ah4 ma)).2]
  simp only[eP,ag,decide_eq_true_eq]
  exact⟨rfl,by simp;omega⟩
 obtain⟨pl,ht⟩:=aS5 (x:=y) (px:=py) (m:=(m:Str)) hf hl
 cases z with
 | nil =>
  have h0:PE X (.Call (.Attribute (.Name y py) (m:Str) ap) [] [] pos) (aY8 Cc (m:Str) (spV Γ (F.mcall c m)) [] E0 (TEv Γ (lp F mo)) aI0):=bg4 (pl:=pl) ho Z p hF G.room hb .nil aK6 ht
  refine h0 J sh W H Q I ?_
  cases as with
  | nil =>
   obtain⟨C,U,s,d,s',E,R,Y,k⟩:=key
   refine⟨C,U,s,d,s',E,R,Y,λ v1 C1 H1 g1 l1 b1 r1 R1=>?_⟩
   obtain⟨a,dx,fs,w1,w2,w3,w4⟩:=k v1 C1 H1 g1 l1 b1 r1 R1
   exact⟨a,dx,fs,w1,w2,w3,am0 (TAv.eq (λ U s=>rfl) w4)⟩
  | _=>rw[mAs]at ma<;>first|cases ma|(intros;simp_all)
 | cons e es =>
  have a1:=ah4 ma
  exact bo3 (pl:=pl) ho Z p hF G.room hb .nil aK6 h (zb (a1 e (aA ..))) (zx λ e he=>a1 e (au _ he)).1 ht J sh W H Q I key
theorem aH2 {x d:lf}{s s':lb}(h:nG x s=.ok d s'):∃ r l,x=.ref r/\s[r]?=some (.dic l)/\l.all (λ p=>p.1.keyF)=true/\d=.ref s.length/\s'=s++[.lst (l.map (·.1))]:=by
 unfold nG at h
 split at h
 .split at h
  .rename_i l e
   split at h
   .rename_i hk;cases h;exact⟨_,l,rfl,e,hk,rfl,rfl⟩
   .exact fb h
  .exact fb h
 .exact fb h
theorem aB3 {C:Nat->Addr}:∀ {l:List (lf×lf)} {kvs:List (Key×V)},RVD aj5 Γ C H l kvs->l.all (λ p=>p.1.keyF)=true->RVL Γ C H (l.map (·.1)) (kvs.map λ F=>kV F.1)
 | [],_,h,_=>by cases(show _=[]from h);exact .nil
 | (a,e)::l,_,h,hk=>by
  obtain⟨J,v',r,rfl,e2,G,z⟩:=h
  rw[bI,ag]at hk
  exact .cons (aQ5 e2 hk.1) (aB3 z hk.2)
theorem aP0 {m:lh->lb->lj lf}{a:Expr}{p pos:Pos}(G:CG Γ F n X ck)(hg:ck.gl "list"=true)(hs:shp a=true)(h:PE X a (TEv Γ m)) :
  PE X (.Call (.Name "list" p) [a] [] pos) (TEv Γ (λ U s=>(m U s).bind λ x s=>nG x s)):=by
 obtain⟨g1,g2,g3⟩:=G.gl hg
 refine(ac1 (aJ7 G.calm) g1 (G.bi _ (by decide)) aU3 (zD h ab0 (zb hs)) g3 g2 (zb hs) rfl).imp λ W H Q q=>?_
 obtain⟨C,U,s,d,s',E,R,z,q⟩:=q
 obtain⟨x,s1,e1,z⟩:=aa0 z
 obtain⟨r,l,rfl,J,hk,rfl,rfl⟩:=aH2 z
 refine⟨C,U,s,_,_,E,R,e1,λ v C1 H1 g1 l1 b1 r1 R1=>?_⟩
 obtain⟨kvs,ea,Y⟩:=R1.obj r _ J
 have wf:=R1.wf _ _ J
 unfold ln at wf
 rw[ag]at wf
 exact⟨C1 r,kvs,by rw[r1.refE],ea,λ p Z=>(q.trans g1 l1).alloc R1 (aB3 Y hk) wf.1 Z⟩
theorem an1 (a:Int):∀ l:List Int,(mU a l).Perm (a::l)
 | []=>.refl _
 | b::l=>by
  unfold mU
  split
  .exact .refl _
  .exact((an1 a l).cons b).trans (.swap a b l)
theorem al7:∀ l:List Int,(nI l).Perm l
 | []=>.refl _
 | a::l=>(an1 a _).trans ((al7 l).cons a)
theorem al8 {a:Int}:∀ {l:List Int},l.Pairwise (·<=·)->(mU a l).Pairwise (·<=·)
 | [],_=>by unfold mU;exact List.pairwise_singleton _ _
 | b::l,h=>by
  unfold mU
  rw[cG]at h
  split
  .rename_i hab
   exact cG.mpr ⟨λ c hc=>(aH.mp hc).elim (λ z=>z▸hab) λ z=>kP hab (h.1 c z),cG.mpr h⟩
  .rename_i hab
   refine cG.mpr ⟨λ c hc=>?_,al8 h.2⟩
   rcases aH.mp ((an1 a l).mem_iff.mp hc)with z|z
   .omega
   .exact h.1 c z
theorem af2:∀ l:List Int,(nI l).Pairwise (·<=·)
 | []=>.nil
 | a::l=>al8 (af2 l)
theorem ar5:∀ {l m:List Int},l.Perm m->l.Pairwise (·<=·)->m.Pairwise (·<=·)->l=m
 | [],m,p,_,_=>(List.nil_perm.mp p).symm
 | a::l,[],p,_,_=>absurd (List.perm_nil.mp p) (by simp)
 | a::l,b::m,p,h1,h2=>by
  have g1:=cG.mp h1
  have h:=cG.mp h2
  have hab:a=b:=by
   have x1:a<=b:=by
    rcases aH.mp (p.symm.mem_iff.mp (aA ..):b∈a::l)with z|z
    .omega
    .exact g1.1 b z
   have x2:b<=a:=by
    rcases aH.mp (p.mem_iff.mp (aA ..):a∈b::m)with z|z
    .omega
    .exact h.1 a z
   omega
  subst hab
  rw[ar5 (List.Perm.cons_inv p) g1.2 h.2]
theorem bg7 {l:List lf}{d:lf}{s s':lb}(h:nJ l s=.ok d s'):∃ is,lT l=some is/\is.length<64/\d=.ref s.length/\s'=s++[.lst ((nI is).map DV.D.int)]:=by
 unfold nJ at h
 split at h
 .rename_i is e
  split at h
  .cases h;exact⟨is,e,‹_›,rfl,rfl⟩
  .exact fb h
 .exact fb h
theorem aE6 {C:Nat->Addr}:∀ {l:List lf} {is:List Int} {p:List V},lT l=some is->RVL Γ C H l p->p=is.map V.int
 | [],is,p,h,r=>by cases h;exact r.unnil
 | d::l,is,p,h,r=>by
  cases d with
  | int i =>
   obtain⟨F,e,rfl⟩:=bt.mp (show(lT l).map (i::·)=some is from h)
   obtain⟨x,ys,rfl,r1,z⟩:=r.uncons
   rw[r1.intE,aE6 e z];rfl
  | _=>cases h
theorem aq8 {C:Nat->Addr}{H:Hp}:∀ ns:List Int,RVL Γ C H (ns.map DV.D.int) (ns.map V.int)
 | []=>.nil
 | n::ns=>.cons RV.intI (aq8 ns)
theorem al1 {m:Nat}:∀ ns:List Int,li m (ns.map DV.D.int)=true
 | []=>rfl
 | n::ns=>by rw[a9];unfold li;rw[al1 ns];rfl
theorem bu8 {m:lh->lb->lj lf}{a:Expr}{p pos:Pos}(G:CG Γ F n X ck)(hg:ck.gl "sorted"=true)(hs:shp a=true)(h:PE X a (TEv Γ m)) :
  PE X (.Call (.Name "sorted" p) [a] [] pos) (TEv Γ (λ U s=>(m U s).bind λ x s=>(nD x s).bind λ q s=>nJ q s)):=by
 obtain⟨g1,g2,g3⟩:=G.gl hg
 refine(ag3 ay1 g1 (G.bi _ (by decide)) (by decide +kernel) (zD h ab0 (zb hs)) g3 g2 (zb hs) rfl).imp λ W H Q q=>?_
 obtain⟨C,U,s,d,s',E,R,hm,q⟩:=q
 obtain⟨x,s1,e1,J⟩:=aa0 hm
 obtain⟨l,s2,e2,Z⟩:=aa0 J
 obtain⟨z,r,rfl,er⟩:=bc6 e2
 subst z
 obtain⟨is,ei,Y,rfl,rfl⟩:=bg7 Z
 refine⟨C,U,s,_,_,E,R,e1,λ v C1 H1 g1 l1 b1 r1 R1=>?_⟩
 obtain⟨xs,ea,rd⟩:=R1.addr er
 rw[aE6 ei rd]at ea
 refine⟨C1 r,is,by rw[r1.refE],ea,Y,λ p ms hp pm so=>?_⟩
 rw[ar5 (pm.trans (al7 is).symm) so (af2 is)]
 exact(q.trans g1 l1).alloc R1 (aq8 _) (al1 _) hp
end
section
variable {Γ:Gm} {F:lx} {n:Nat}
theorem bM3 {X:Cx}{c:DV.Cn}{v:Const}{k:Nat}{pos:Pos}(h:mC c v=true):EvT Γ X (.Constant v k pos) (lp F (.cst c)):=by
 refine .val ?_
 unfold mC at h
 split at h
 .exact bG3.imp λ W H Q q=>as0 (c:=.non) (λ _=>rfl) (λ _ _=>RV.nonI) (TEv.eq (λ U s=>rfl) q)
 .rename_i b c
  have e:=eq_of_beq h
  subst e
  exact bV1.imp λ W H Q q=>as0 (c:=.bl b) (λ _=>rfl) (λ _ _=>RV.blI) (TEv.eq (λ U s=>rfl) q)
 .rename_i i j
  have e:=of_decide_eq_true h
  subst e
  exact bi2.imp λ W H Q q=>as0 (c:=.int i) (λ _=>rfl) (λ _ _=>RV.intI) (TEv.eq (λ U s=>rfl) q)
 .rename_i x y
  rw[ag]at h
  have e:=of_decide_eq_true h.1
  have e2:=of_decide_eq_true h.2
  subst e
  exact bK5.imp λ W H Q q=>as0 (c:=.str x) (λ _=>rfl) (λ _ _=>RV.strI (by unfold ls;omega)) (TEv.eq (λ U s=>rfl) q)
 .cases h
theorem bt8 {X:Cx}{ck:Ck}{es:lH}{z:yL}{pos:Pos}(m:mEs ck es z=true)(hz:z.length<=1000)(h:PA X z (TAv Γ (lK F es))):PE X (.List z pos) (TFv Γ (DV.evL F (.disp es))):=by
 refine(bl9 h).imp λ W H Q q=>?_
 obtain⟨C,U,s,l,s',E,R,Y,q⟩:=q
 refine⟨C,U,s,l,s',E,R,Y,λ vs C1 Z g1 l1 J r1 R1=>⟨by rw[r1.length,an7 Y m];exact aM4 hz,λ p G=>?_⟩⟩
 obtain⟨g2,R2⟩:=R1.same (H':=upd Z p (.lst vs)) ((ab4.refl Z).new G)
 refine q p vs C1 _ (g1.trans g2 l1) l1 J zq ?_ (Off.new R1 G) (RVL.mono g2 _ _ J r1) R2
 cases e:H p with
 | none=>rfl
 | some o=>exact absurd G (g1.st p (by rw[e];simp))
theorem CompF.eq {X:Cx}{m m':lh->lb->lj (List lf)}{E:Expr}(c:CompF Γ X m E)(e:∀ U s,m' U s=m U s):CompF Γ X m' E:=by
 have:m'=m:=funext λ U=>funext λ s=>e U s
 subst this;exact c
theorem zh {a b:Bool}(h:(a&&b)=true):a=true/\b=true:=by rw[ag]at h;exact h
theorem by6 {X:Cx}{Y:Ck}{g:String}{p:Pos}(G:CG Γ F n X Y)(h:Y.gl (g:Str)=true):EvT Γ X (.Name (g:Str) p) (lp F (.glob g)):=by
 refine .val ?_
 obtain⟨g1,g2,g3⟩:=G.gl h
 cases e:F.con g with
 | none =>
  intro J s W H Q I q
  obtain⟨C,U,s,d,s',E,R,z,q⟩:=q
  have z:(match F.con g with|some d=>DV.R.ok d s|none=>.bad)=.ok d s':=z
  rw[e]at z
  cases z
 | some d =>
  obtain⟨v,u,h1,h2,h3,Z⟩:=G.con g d e
  exact(bA0 g1 h1 h2 g2).imp λ W H Q q=>as0 (c:=d) h3 Z (TEv.eq (λ U s=>by show(match F.con g with|some d=>DV.R.ok d s|none=>.bad)=DV.R.ok d s;rw[e]) q)
theorem bJ1 {X:Cx}{z:Ck}{i:Nat}{x:Str}{p:Pos}(G:CG Γ F n X z)(h:z.var i x=true):EvT Γ X (.Name x p) (lp F (.var i)):=by
 refine .val ?_
 unfold Ck.var at h
 obtain⟨h,Y⟩:=zh h
 obtain⟨h,h3⟩:=zh h
 obtain⟨J,Z⟩:=zh h
 have e1:(x==("__debug__":Str))=false:=by simpa using h3
 have e2:(x==("__classdict__":Str))=false:=by simpa using Y
 exact(bD3 (by rw[G.N];exact of_decide_eq_true J) (G.vis Z) e1 e2).imp λ W H Q q=>bP6 i (TEv.eq (λ U s=>rfl) q)
theorem aE3 {X:Cx}{E:Expr}{m:lh->lb->lj lf}(h:∀ U s,m U s=.bad):EvT Γ X E m:=by
 refine⟨λ z s W H Q I q=>?_,λ z s W H Q I q=>?_⟩
 .obtain⟨C,U,s,d,s',E,R,p,q⟩:=q
  rw[h]at p;exact fb p
 .obtain⟨C,U,s,d,s',E,R,p,q⟩:=q
  rw[h]at p;exact fb p
inductive LK (Γ:Gm)(X:Cx)(m:lh->lb->lj (List lf))(E:Expr)(k:Nat):Prop where
 | c (h:CompF Γ X m E):LK Γ X m E k
 | f (hk:1<=k) (h:PE X E (TFv Γ m)):LK Γ X m E k
 | s (hk:k=2) (h:PE X E (TLv Γ m)):LK Γ X m E k
theorem bC1 {X:Cx}{m:lh->lb->lj (List lf)}{E:Expr}(h:LK Γ X m E 0):CompF Γ X m E:=by
 cases h with
 | c h=>exact h
 | f hk h=>omega
 | s hk h=>omega
theorem bV0 {X:Cx}{p:Ck}{m:lh->lb->lj (List lf)}{E:Expr}(G:CG Γ F n X p)(h:LK Γ X m E 1):PE X E (TFv Γ m):=by
 cases h with
 | c h=>exact h.pe G.calm
 | f hk h=>exact h
 | s hk h=>omega
theorem bU2 {X:Cx}{p:Ck}{m:lh->lb->lj (List lf)}{E:Expr}(G:CG Γ F n X p)(h:LK Γ X m E 2):PE X E (TLv Γ m):=by
 cases h with
 | c h=>exact(h.pe G.calm).imp λ W H Q q=>aF2 q
 | f hk h=>exact h.imp λ W H Q q=>aF2 q
 | s hk h=>exact h
theorem biOk_inv {z:Ck}{b:lS}{x:Str}{F:yL}{es:lH}(h:bQ6 z b x F (mEs z es F) (mEs z es (F.take 1))=true) :
  (∃ k t a y G,biK b=some (k,t)/\F=[a,.Name y G]/\x=("isinstance":Str)/\y=t/\z.gl x=true/\z.gl y=true/\mEs z es [a]=true)\/∃ a ys,F=a::ys/\biT b=some x/\z.gl x=true/\mEs z es (a::ys)=true:=by
 unfold bQ6 at h
 cases hk:biK b with
 | none =>
  rw[hk]at h
  cases F with
  | nil=>exact ff h
  | cons a ys =>
   obtain⟨h,h3⟩:=zh h
   obtain⟨J,Y⟩:=zh h
   exact .inr ⟨a,ys,rfl,of_decide_eq_true J,Y,h3⟩
 | some p =>
  rw[hk]at h
  cases F with
  | nil=>exact ff h
  | cons a ys=>cases ys with
   | nil=>exact ff h
   | cons b ys=>cases b with
    | Name y G=>cases ys with
     | nil =>
      obtain⟨h,h5⟩:=zh h
      obtain⟨h,Z⟩:=zh h
      obtain⟨h,h3⟩:=zh h
      obtain⟨J,Y⟩:=zh h
      exact .inl ⟨p.1,p.2,a,y,G,rfl,rfl,of_decide_eq_true J,of_decide_eq_true h3,Y,Z,h5⟩
     | cons _ _=>exact ff h
    | _=>exact ff h
mutual
theorem sE:∀(e:my) (E:Expr) (X:Cx) (z:Ck),CG Γ F n X z->mE z e E=true->EvT Γ X E (lp F e)
 | .var i,E,X,z,G,h=>by
  cases E with
  | Name x p =>
   exact bJ1 G h
  | _=>exact ff h
 | .cst c,E,X,z,G,h=>by
  cases E with
  | Constant v k p =>
   exact bM3 h
  | _=>exact ff h
 | .glob g,E,X,z,G,h=>by
  cases E with
  | Name x p =>
   obtain⟨Y,J⟩:=zh h
   have e:=of_decide_eq_true Y
   subst e
   exact by6 G J
  | _=>exact ff h
 | .bin op a b,E,X,z,G,h=>by
  cases E with
  | BinOp l o r pE =>
   obtain⟨h,h3⟩:=zh h
   obtain⟨Y,J⟩:=zh h
   have e:=of_decide_eq_true Y
   subst e
   exact bn8 G op (sE a _ X z G J) (sE b _ X z G h3)
  | _=>exact ff h
 | .not a,E,X,z,G,h=>by
  cases E with
  | UnaryOp o l p =>
   cases o with
   | Not =>
    exact bq1 (sE a _ X z G h)
   | _=>exact ff h
  | _=>exact ff h
 | .cmp op a b,E,X,z,G,h=>by
  cases E with
  | Compare l os rs pE =>
   cases os with
   | cons o os_0 =>
    cases os_0 with
    | nil =>
     cases rs with
     | cons r rs_0 =>
      cases rs_0 with
      | nil =>
       obtain⟨h,h3⟩:=zh h
       obtain⟨Y,J⟩:=zh h
       have e:=of_decide_eq_true Y
       subst e
       exact bu5 G op (aD3 h3) (sE a _ X z G J) (sE b _ X z G h3)
      | _=>exact ff h
     | _=>exact ff h
    | _=>exact ff h
   | _=>exact ff h
  | _=>exact ff h
 | .and a b,E,X,z,G,h=>by
  cases E with
  | BoolOp op vs p=>cases op with
   | And =>
    cases vs with
    | nil=>exact ff h
    | cons l vs=>cases vs with
     | nil=>exact ff h
     | cons r vs=>cases vs with
      | nil =>
       obtain⟨Y,J⟩:=zh h
       exact by5 (sE a _ X z G Y) (sE b _ X z G J)
      | cons r2 vs =>
       obtain⟨Y,J⟩:=zh h
       exact bv6 (sE a _ X z G Y) (sE b _ X z G J)
   | _=>exact ff h
  | _=>exact ff h
 | .or a b,E,X,z,G,h=>by
  cases E with
  | BoolOp op vs p=>cases op with
   | Or =>
    cases vs with
    | nil=>exact ff h
    | cons l vs=>cases vs with
     | nil=>exact ff h
     | cons r vs=>cases vs with
      | nil =>
       obtain⟨Y,J⟩:=zh h
       exact bE3 (sE a _ X z G Y) (sE b _ X z G J)
      | cons r2 vs =>
       obtain⟨Y,J⟩:=zh h
       exact bK9 (sE a _ X z G Y) (sE b _ X z G J)
   | _=>exact ff h
  | _=>exact ff h
 | .ite c a b,E,X,z,G,h=>by
  cases E with
  | IfExp tE l r pE =>
   obtain⟨h,h3⟩:=zh h
   obtain⟨Y,J⟩:=zh h
   exact br1 (sE c _ X z G Y) (sE a _ X z G J) (sE b _ X z G h3)
  | _=>exact ff h
 | .tup es,E,X,z,G,h=>by
  cases E with
  | Tuple xs k p =>
   obtain⟨Y,J⟩:=zh h
   exact bt1 Y (of_decide_eq_true J) (al3 (sEs es _ X z G Y))
  | _=>exact ff h
 | .lst es,E,X,z,G,h=>by
  cases E with
  | List xs p =>
   obtain⟨Y,J⟩:=zh h
   exact bz8 Y (of_decide_eq_true J) (al3 (sEs es _ X z G Y))
  | _=>exact ff h
 | .dic .nil .nil,E,X,z,G,h=>by
  cases E with
  | Dict a b p=>cases a with
   | nil=>cases b with
    | nil=>exact .val (bg0.imp λ W H Q q=>bB4 (TEv.eq (λ U s=>rfl) q))
    | _=>exact ff h
   | cons x a=>cases x with
    | none=>exact ff h
    | some x=>cases a with
     | nil=>cases b with
      | nil=>exact ff h
      | cons y b=>cases b with
       | nil=>exact ff h
       | _=>exact ff h
     | _=>exact ff h
  | _=>exact ff h
 | .dic (.cons k .nil) (.cons v .nil),E,X,z,G,h=>by
  cases E with
  | Dict a b p=>cases a with
   | nil=>cases b with
    | nil=>exact ff h
    | _=>exact ff h
   | cons x a=>cases x with
    | none=>exact ff h
    | some x=>cases a with
     | nil=>cases b with
      | nil=>exact ff h
      | cons y b=>cases b with
       | nil =>
        obtain⟨Y,J⟩:=zh h
        obtain⟨Y,_⟩:=zh Y
        obtain⟨Y,_⟩:=zh Y
        obtain⟨J,_⟩:=zh J
        obtain⟨J,_⟩:=zh J
        exact .val ((bo4 (bb0 (sE k _ X z G Y).1 (sE v _ X z G J).1 bo1) rfl rfl (by nofun) (by show 1<=15;decide)).imp λ W H Q q=>bP4 (TEv.eq (λ U s=>rfl) q))
       | _=>exact ff h
     | _=>exact ff h
  | _=>exact ff h
 | .dic .nil (.cons _ _),E,X,z,G,h=>aE3 λ _ _=>rfl
 | .dic (.cons _ .nil) .nil,E,X,z,G,h=>aE3 λ _ _=>rfl
 | .dic (.cons _ .nil) (.cons _ (.cons _ _)),E,X,z,G,h=>aE3 λ _ _=>rfl
 | .dic (.cons _ (.cons _ _)) _,E,X,z,G,h=>aE3 λ _ _=>rfl
 | .attr o f,E,X,z,G,h=>by
  cases E with
  | Attribute ob x p =>
   obtain⟨h,h3⟩:=zh h
   obtain⟨Y,J⟩:=zh h
   have e:=of_decide_eq_true Y
   subst e
   exact .val ((bf6 G J (sE o _ X z G h3).1).imp λ W H Q q=>TEv.eq (λ U s=>rfl) q)
  | _=>exact ff h
 | .new c as,E,X,z,G,h=>by
  cases E with
  | Call fE xs kw p =>
   cases fE with
   | Name x pN =>
    cases kw with
    | nil =>
     obtain⟨h,h3⟩:=zh h
     obtain⟨Y,J⟩:=zh h
     have e:=of_decide_eq_true Y
     subst e
     exact bn0 G J h3 (sAs as _ X z G h3)
    | _=>exact ff h
   | _=>exact ff h
  | _=>exact ff h
 | .mcall o m as,E,X,z,G,h=>by
  cases E with
  | Call fE xs kw p =>
   cases fE with
   | Attribute ob x ap =>
    cases kw with
    | nil =>
     cases ob with
     | Name y py =>
      obtain⟨h,h5⟩:=zh h
      obtain⟨h,Z⟩:=zh h
      obtain⟨h,h3⟩:=zh h
      obtain⟨Y,J⟩:=zh h
      have e:=of_decide_eq_true Y
      subst e
      exact aO6 G (sE o _ X z G J).1 h5 h3 (of_decide_eq_true Z) (sAs as _ X z G h5)
     | _=>exact ff h
    | _=>exact ff h
   | _=>exact ff h
  | _=>exact ff h
 | .keysL e,E,X,z,G,h=>by
  cases E with
  | Call fE xs kw p =>
   cases fE with
   | Name x pN =>
    cases xs with
    | cons a ys =>
     cases ys with
     | nil =>
      cases kw with
      | nil =>
       obtain⟨h,Z⟩:=zh h
       obtain⟨h,h3⟩:=zh h
       obtain⟨Y,J⟩:=zh h
       have e1:=of_decide_eq_true Y
       subst e1
       exact .val ((aP0 G J h3 (sE e _ X z G Z).1).imp λ W H Q q=>TEv.eq (λ U s=>rfl) q)
      | _=>exact ff h
     | _=>exact ff h
    | _=>exact ff h
   | _=>exact ff h
  | _=>exact ff h
 | .srt e,E,X,z,G,h=>by
  cases E with
  | Call fE xs kw p =>
   cases fE with
   | Name x pN =>
    cases xs with
    | cons a ys =>
     cases ys with
     | nil =>
      cases kw with
      | nil =>
       obtain⟨h,Z⟩:=zh h
       obtain⟨h,h3⟩:=zh h
       obtain⟨Y,J⟩:=zh h
       have e1:=of_decide_eq_true Y
       subst e1
       exact .val ((bu8 G J h3 (sE e _ X z G Z).1).imp λ W H Q q=>TEv.eq (λ U s=>rfl) q)
      | _=>exact ff h
     | _=>exact ff h
    | _=>exact ff h
   | _=>exact ff h
  | _=>exact ff h
 | .bitl o,E,X,z,G,h=>by
  cases E with
  | Call fE xs kw cp =>
   cases fE with
   | Attribute ob x ap =>
    cases xs with
    | nil =>
     cases kw with
     | nil =>
      obtain⟨h,Z⟩:=zh h
      obtain⟨h,h3⟩:=zh h
      obtain⟨Y,J⟩:=zh h
      have e:=of_decide_eq_true Y
      subst e
      exact ev_bitl' G J h3 (sE o _ X z G Z).1
     | _=>exact ff h
    | _=>exact ff h
   | _=>exact ff h
  | _=>exact ff h
 | .ix a b,E,X,z,G,h=>by
  cases E with
  | Subscript o i p =>
   obtain⟨Y,J⟩:=zh h
   exact bE9 G (aD3 J) (sE a _ X z G Y) (sE b _ X z G J)
  | _=>exact ff h
 | .slL a lo,E,X,z,G,h=>by
  cases E with
  | Subscript o i p =>
   cases i with
   | Slice lo hi st p2 =>
    cases lo with
    | some l =>
     cases hi with
     | none =>
      cases st with
      | none =>
       obtain⟨Y,J⟩:=zh h
       exact bz0 G (sE a _ X z G Y) (sE lo _ X z G J)
      | _=>exact ff h
     | _=>exact ff h
    | _=>exact ff h
   | _=>exact ff h
  | _=>exact ff h
 | .slU a hi,E,X,z,G,h=>by
  cases E with
  | Subscript o i p =>
   cases i with
   | Slice lo hi st p2 =>
    cases lo with
    | none =>
     cases hi with
     | some l =>
      cases st with
      | none =>
       obtain⟨Y,J⟩:=zh h
       exact bw3 G (sE a _ X z G Y) (sE hi _ X z G J)
      | _=>exact ff h
     | _=>exact ff h
    | _=>exact ff h
   | _=>exact ff h
  | _=>exact ff h
 | .slLU a lo hi,E,X,z,G,h=>by
  cases E with
  | Subscript o i p =>
   cases i with
   | Slice lo hi st p2 =>
    cases lo with
    | some l =>
     cases hi with
     | some l2 =>
      cases st with
      | none =>
       obtain⟨h,h3⟩:=zh h
       obtain⟨Y,J⟩:=zh h
       exact bd9 G (sE a _ X z G Y) (sE lo _ X z G J) (sE hi _ X z G h3)
      | _=>exact ff h
     | _=>exact ff h
    | _=>exact ff h
   | _=>exact ff h
  | _=>exact ff h
 | .call f as,E,X,z,G,h=>by
  cases E with
  | Call fE xs kw p =>
   cases fE with
   | Name x pN =>
    cases kw with
    | nil =>
     obtain⟨h,h3⟩:=zh h
     obtain⟨Y,J⟩:=zh h
     have e:=of_decide_eq_true Y
     subst e
     exact bc9 G J h3 (sAs as _ X z G h3)
    | _=>exact ff h
   | _=>exact ff h
  | _=>exact ff h
 | .bi b es,E,X,z,G,h=>by
  cases E with
  | Call fE xs kw p =>
   cases fE with
   | Name x pN =>
    cases kw with
    | nil =>
     have h:bQ6 z b x xs (mEs z es xs) (mEs z es (xs.take 1))=true:=h
     rcases biOk_inv h with⟨k,t,a,y,py,hk,rfl,rfl,rfl,J,Z,h5⟩|⟨a,ys,rfl,Y,J,h3⟩
     .exact by9 G hk J Z (sEs es _ X z G h5)
     .exact bL4 G Y J h3 (al3 (sEs es _ X z G h3))
    | _=>exact ff h
   | _=>exact ff h
  | _=>exact ff h
 | .mk k l,E,X,z,G,h=>by
  cases E with
  | ListComp e gs sc p =>
   obtain⟨Y,J⟩:=zh h
   have e:=of_decide_eq_true Y
   subst e
   exact .val (((bC1 (sL l _ X z G 0 J)).pe G.calm).imp λ W H Q q=>aS1 (TEv.eq (λ U s=>rfl) q))
  | Call fE xs kw p =>
   cases fE with
   | Name x pN =>
    cases xs with
    | cons a xs_0 =>
     cases xs_0 with
     | nil =>
      cases kw with
      | nil =>
       obtain⟨h,Z⟩:=zh h
       obtain⟨J,h3⟩:=zh h
       rw[bh]at Z
       rcases Z with Z|Z
       .obtain⟨h5,h6⟩:=zh Z
        exact .val ((bI2 G (of_decide_eq_true h5) J h3 (bU2 G (sL l _ X z G 2 h6))).imp λ W H Q q=>TEv.eq (λ U s=>rfl) q)
       .obtain⟨h5,h6⟩:=zh Z
        exact .val ((bC8 G (of_decide_eq_true h5) J h3 (bV0 G (sL l _ X z G 1 h6))).imp λ W H Q q=>TEv.eq (λ U s=>rfl) q)
      | _=>exact ff h
     | _=>exact ff h
    | _=>exact ff h
   | _=>exact ff h
  | _=>exact ff h
 | .meth m o es,E,X,z,G,h=>by
  cases E with
  | Call fE xs kw p =>
   cases fE with
   | Attribute ob x ap =>
    cases kw with
    | nil =>
     obtain⟨h,h5⟩:=zh h
     obtain⟨h,Z⟩:=zh h
     obtain⟨h,h3⟩:=zh h
     obtain⟨Y,J⟩:=zh h
     exact aZ8 G (of_decide_eq_true Y) J h3 (sE o _ X z G Z).1 h5 (sEs es _ X z G h5)
    | _=>exact ff h
   | _=>exact ff h
  | _=>exact ff h
theorem sEs:∀(es:lH) (p:yL) (X:Cx) (z:Ck),CG Γ F n X z->mEs z es p=true->PEs Γ F X es p
 | .nil,p,X,z,G,h=>by
  cases p with
  | nil =>
   exact trivial
  | _=>exact ff h
 | .cons e es,p,X,z,G,h=>by
  cases p with
  | cons x p =>
   obtain⟨h,h3⟩:=zh h
   obtain⟨J,Y⟩:=zh h
   exact⟨⟨Y,sE e _ X z G J⟩,sEs es _ X z G h3⟩
  | _=>exact ff h
theorem sFs:∀(es:lH) (J:yL) (X:Cx) (z:Ck),CG Γ F n X z->mFs z es J=true->PF Γ X J (lK F es)
 | .nil,J,X,z,G,h=>by
  cases J with
  | nil=>exact(bO2).eq λ _ _=>rfl
  | _=>exact ff h
 | .cons e es,J,X,z,G,h=>by
  cases J with
  | cons x J =>
   cases x with
   | FormattedValue v c sp p =>
    cases sp with
    | none =>
     obtain⟨h,h3⟩:=zh h
     obtain⟨Y,Z⟩:=zh h
     have e1:=of_decide_eq_true Y
     subst e1
     exact(bG7 (sE e _ X z G Z).1 (sFs es _ X z G h3)).eq λ _ _=>rfl
    | _=>exact ff h
   | Constant v j p =>
    obtain⟨Y,Z⟩:=zh h
    exact(bB9 (sE e _ X z G Y).1 (sFs es _ X z G Z)).eq λ _ _=>rfl
   | _=>exact ff h
  | _=>exact ff h
theorem sAs:∀(es:mr) (p:yL) (X:Cx) (z:Ck),CG Γ F n X z->mAs z es p=true->PA X p (TAv Γ (lP F es))
 | .nil,p,X,z,G,h=>by
  cases p with
  | nil =>
   exact ab0.imp λ W H Q q=>am0 (TAv.eq (λ U s=>rfl) q)
  | _=>exact ff h
 | .ex e es,p,X,z,G,h=>by
  cases p with
  | cons x p =>
   obtain⟨h,h3⟩:=zh h
   obtain⟨J,Y⟩:=zh h
   exact(aD8 Y (sE e _ X z G J).1 (sAs es _ X z G h3)).imp λ W H Q q=>TAv.eq (λ U s=>rfl) q
  | _=>exact ff h
 | .fn _ _,p,X,z,G,h=>ff h
theorem ce3:∀(es:mr) (p:yL) (X:Cx) (z:Ck),CG Γ F n X z->ca9 z es p=true->PA X p (TAp Γ X.env.cells X.N (lP F es))
 | .nil,p,X,z,G,h=>by
  cases p with
  | nil =>
   exact ab0.imp λ W H Q q=>bv2 (TAp.eq (λ U s=>rfl) q)
  | _=>exact ff h
 | .ex e es,p,X,z,G,h=>by
  cases p with
  | cons x p =>
   obtain⟨h,h3⟩:=zh h
   obtain⟨J,Y⟩:=zh h
   exact(zD (sE e _ X z G J).1 (ce3 es _ X z G h3) (zb Y)).imp λ W H Q q=>bJ3 (TAp.eq (λ U s=>rfl) q)
  | _=>exact ff h
 | .fn _ _,p,X,z,G,h=>ff h
theorem sI:∀(i:DV.I) (E tg:Expr) (X:Cx) (z:Ck),CG Γ F n X z->mI z tg i E=true->PI X tg E (TIv Γ (mQ F i))
 | .seq e,E,tg,X,z,G,h=>by
  obtain⟨J,Y⟩:=zh h
  exact br0 G (sE e _ X z G J).1
 | .keys e,E,tg,X,z,G,h=>by
  obtain⟨J,Y⟩:=zh h
  exact(bw1 (sE e _ X z G J).1).imp λ W H R q=>br7 (TIv.eq (λ U s=>rfl) q)
 | .rng1 a,E,tg,X,z,G,h=>by
  cases E with
  | Call fE xs kw p =>
   cases fE with
   | Name x pN =>
    cases xs with
    | cons l xs_0 =>
     cases xs_0 with
     | nil =>
      cases kw with
      | nil =>
       obtain⟨h,Z⟩:=zh h
       obtain⟨h,h3⟩:=zh h
       obtain⟨J,Y⟩:=zh h
       have e:=of_decide_eq_true J
       subst e
       exact aY7 G Y Z (sE a _ X z G h3).1
      | _=>exact ff h
     | _=>exact ff h
    | _=>exact ff h
   | _=>exact ff h
  | _=>exact ff h
 | .rng2 a b,E,tg,X,z,G,h=>by
  cases E with
  | Call fE xs kw p =>
   cases fE with
   | Name x pN =>
    cases xs with
    | cons l xs_0 =>
     cases xs_0 with
     | cons r xs_1 =>
      cases xs_1 with
      | nil =>
       cases kw with
       | nil =>
        obtain⟨h,h6⟩:=zh h
        obtain⟨h,h5⟩:=zh h
        obtain⟨h,Z⟩:=zh h
        obtain⟨h,h3⟩:=zh h
        obtain⟨J,Y⟩:=zh h
        have e:=of_decide_eq_true J
        subst e
        exact ba4 G Y Z h6 (sE a _ X z G h3).1 (sE b _ X z G h5).1
       | _=>exact ff h
      | _=>exact ff h
     | _=>exact ff h
    | _=>exact ff h
   | _=>exact ff h
  | _=>exact ff h
 | .rngD a,E,tg,X,z,G,h=>by
  cases E with
  | Call fE xs kw p =>
   cases fE with
   | Name x pN =>
    cases xs with
    | cons l xs1 =>
     cases xs1 with
     | cons r xs2 =>
      cases r with
      | UnaryOp o1 c1 p1 =>
       cases o1 with
       | USub =>
        cases c1 with
        | Constant v k1 p2 =>
         cases xs2 with
         | cons cc xs3 =>
          cases cc with
          | UnaryOp o2 c2 p3 =>
           cases o2 with
           | USub =>
            cases c2 with
            | Constant u k2 p4 =>
             cases xs3 with
             | nil =>
              cases kw with
              | nil =>
               obtain⟨h,h6⟩:=zh h
               obtain⟨h,h5⟩:=zh h
               obtain⟨h,Z⟩:=zh h
               obtain⟨h,h3⟩:=zh h
               obtain⟨J,Y⟩:=zh h
               have e:=of_decide_eq_true J
               have e2:=of_decide_eq_true h5
               have e3:=of_decide_eq_true h6
               subst e e2 e3
               exact aY9 G Y Z (sE a _ X z G h3).1
              | _=>exact ff h
             | _=>exact ff h
            | _=>exact ff h
           | _=>exact ff h
          | _=>exact ff h
         | _=>exact ff h
        | _=>exact ff h
       | _=>exact ff h
      | _=>exact ff h
     | _=>exact ff h
    | _=>exact ff h
   | _=>exact ff h
  | _=>exact ff h
theorem sL:∀(l:DV.L) (E:Expr) (X:Cx) (Y:Ck),CG Γ F n X Y->∀ k,mL Y k l E=true->LK Γ X (DV.evL F l) E k
 | .comp tg it e caps,E,X,Y,G,k,h=>by
  cases E with
  | ListComp elt gs scope p =>
   cases gs with
   | cons g gs1 =>
    cases g with
    | mk tgt iter ifs z =>
     cases ifs with
     | nil =>
      cases gs1 with
      | nil =>
       obtain⟨h,h3⟩:=zh h
       obtain⟨h,Z⟩:=zh h
       obtain⟨h0,J⟩:=zh h
       have e0:=of_decide_eq_true h0
       subst e0
       have c:=aZ5 (pos:=p) G J (sI it _ _ X Y G Z) λ Cc cells s H ex=>(sE e _ _ _ ((G.comp J).2.2 Cc cells s H ex).1 h3).1
       exact .c (c.eq λ U s=>rfl)
      | _=>exact ff h
     | _=>exact ff h
   | _=>exact ff h
  | _=>exact ff h
 | .compIf tg it i e caps,E,X,Y,G,k,h=>by
  cases E with
  | ListComp elt gs scope p =>
   cases gs with
   | cons g gs1 =>
    cases g with
    | mk tgt iter ifs z =>
     cases ifs with
     | cons i1 ifs1 =>
      cases ifs1 with
      | nil =>
       cases gs1 with
       | nil =>
        obtain⟨h,h4⟩:=zh h
        obtain⟨h,h3⟩:=zh h
        obtain⟨h,Z⟩:=zh h
        obtain⟨h0,J⟩:=zh h
        have e0:=of_decide_eq_true h0
        subst e0
        have c:=bq9 (pos:=p) G J (sI it _ _ X Y G Z) (λ Cc cells s H ex=>(sE i _ _ _ ((G.comp J).2.2 Cc cells s H ex).1 h3).2) λ Cc cells s H ex=>(sE e _ _ _ ((G.comp J).2.2 Cc cells s H ex).1 h4).1
        exact .c (c.eq λ U s=>rfl)
       | _=>exact ff h
      | _=>exact ff h
     | _=>exact ff h
   | _=>exact ff h
  | _=>exact ff h
 | .disp es,E,X,Y,G,k,h=>by
  cases E with
  | List xs p =>
   obtain⟨h,Z⟩:=zh h
   obtain⟨h0,J⟩:=zh h
   exact .f (of_decide_eq_true h0) (bt8 J (of_decide_eq_true Z) (al3 (sEs es _ X Y G J)))
  | _=>exact ff h
 | .seq e,E,X,Y,G,k,h=>by
  obtain⟨h0,J⟩:=zh h
  exact .s (of_decide_eq_true h0) ((sE e _ X Y G J).1.imp λ W H Q q=>bK0 (TLv.eq (λ U s=>rfl) q))
end
end
section
variable {Γ:Gm} {F:lx} {n:Nat}
theorem bf1 {X:Cx}{ck:Ck}{m:lh->lb->lj (List lf)}{E:Expr}{x:Str}{i:Nat}{px pos:Pos}(G:CG Γ F n X ck)(c:CompF Γ X m E)(hi:ck.N[i]?=some x)(hl:ck.loc x=true) :
  PS X (.Assign [.Name x px] E pos) (bf2 (TFv Γ m) (av0 i)):=by
 obtain⟨J,p,iter,a0,scope,p2,N',h,wi,g,tc,te,rfl,h1,h2,h3,h4,h5⟩:=c.ex
 obtain⟨l1,l2⟩:=G.loc hl
 have nd:X.N.Nodup:=by rw[G.N];exact G.nd
 have Z:X.N[i]?=some x:=by rw[G.N];exact hi
 generalize hb:((X.env.blockKind==.function&&X.env.kindOf x==some .local&&px.line==(Expr.ListComp J [⟨p,iter,a0,0⟩] scope p2).pos.line&&!(scope.names.any λ(n,k)=>n==x&&(k==.local||k==.cell))))=b
 have Y:eG (.ListComp J [⟨p,iter,a0,0⟩] scope p2) (some (.Name x px)) pos.line X.env=pure b:=by rw[<-hb];rfl
 have imp:∀ D W H,bf2 (TFv Γ m) (av0 i) D W H->bf2 (tComp h wi g tc te) (av0 i) D W H:=λ D W H q=>h5 _ _ _ q
 cases b with
 | true =>
  have z:X.env.scope.names.lookup x=some .local:=by
   simp only[ag]at hb
   exact eq_of_beq hb.1.1.2
  exact(aK8 N' h nd Z z h1 h2 G.calm h3 h4 Y).imp imp
 | false=>exact(bk2 nd Z l1 (aS2 N' h h1 h2 G.calm h3 h4) Y l2).imp imp
theorem bw5 {X:Cx}{z:Ck}{e:my}{v:Expr}{x:Str}{i:Nat}{px pos:Pos}(G:CG Γ F n X z)(Y:z.N[i]?=some x)(hl:z.loc x=true)(h:mE z e v=true) :
  PS X (.Assign [.Name x px] v pos) (TSv Γ (DV.ex F (.asg (.one i) e))):=by
 obtain⟨l1,Z⟩:=G.loc hl
 have nd:X.N.Nodup:=by rw[G.N];exact G.nd
 have J:X.N[i]?=some x:=by rw[G.N];exact Y
 by_cases hc:aj6 v=true
 .exact(bk2 nd J l1 (sE e v X z G h).1 (ai3 hc) Z).imp λ D W H q=>aU4 (tg:=.one i) (TSv.eq (λ U s=>rfl) q)
 .have hs:=aD3 h
  cases v with
  | ListComp elt gs sc p =>
   cases e with
   | mk k l =>
    obtain⟨h1,h2⟩:=zh h
    have e:=of_decide_eq_true h1
    subst e
    exact(bf1 G (bC1 (sL l _ X z G 0 h2)) Y hl).imp λ D W H q=>bb7 (tg:=.one i) (TSv.eq (λ U s=>rfl) q)
   | _=>exact ff h
  | SetComp _ _ _ _=>cases hs
  | DictComp _ _ _ _ _=>cases hs
  | _=>exact absurd rfl hc
mutual
theorem sS:∀(st:DV.S) (S:Stmt) (X:Cx) (z:Ck),CG Γ F n X z->mS z st S=true->PS X S (TSv Γ (DV.ex F st))
 | .asg tg e,S,X,z,G,h=>by
  cases S with
  | Assign ts v p =>
   cases ts with
   | cons t ts1 =>
    cases ts1 with
    | nil =>
     obtain⟨h,h3⟩:=zh h
     obtain⟨Y,J⟩:=zh h
     cases tg with
     | one i =>
      have h:=Y
      cases t with
      | Name x px =>
       obtain⟨a1,a2⟩:=zh h
       exact bw5 G (of_decide_eq_true a1) a2 J
      | _=>exact ff h
     | tup is =>
      obtain⟨a1,a2⟩:=zh h3
      have h:=Y
      cases t with
      | Tuple te tk tp=>exact(bm2 (sE e _ X z G J).1 (bc0 G Y) (show eG v (some (.Tuple te tk tp)) p.line X.env=pure false from ai3 a2) (aK4 a1) rfl).imp λ D W H q=>aU4 (TSv.eq (λ U s=>rfl) q)
      | _=>exact ff h
    | _=>exact ff h
   | _=>exact ff h
  | _=>exact ff h
 | .setIx o i e,S,X,z,G,h=>by
  cases S with
  | Assign ts v p2 =>
   cases ts with
   | cons tt ts1 =>
    cases tt with
    | Subscript ob ix p1 =>
     cases ts1 with
     | nil =>
      obtain⟨h,h4⟩:=zh h
      obtain⟨h,h3⟩:=zh h
      obtain⟨Y,J⟩:=zh h
      have Z:=aD3 J
      refine(bm2 (sE e _ X z G h3).1 (bM4 (sE o _ X z G Y).1 (sE i _ X z G J).1 (bK3 (am3 G.room)) ?_) (show eG v (some (.Subscript ob ix p1)) p2.line X.env=pure false from ai3 h4) aK7 ?_).imp λ D W H q=>aY2 (TSv.eq (λ U s=>rfl) q)
      .intro w
       cases ix<;>first|rfl|cases Z
      .rfl
     | _=>exact ff h
    | _=>exact ff h
   | _=>exact ff h
  | _=>exact ff h
 | .ex e,S,X,z,G,h=>by
  cases S with
  | Expr v p =>
   obtain⟨Y,J⟩:=zh h
   exact(bx3 (sE e _ X z G Y).1 (ai3 J)).imp λ D W H q=>bq3 (TSv.eq (λ U s=>rfl) q)
  | _=>exact ff h
 | .ret e,S,X,z,G,h=>by
  cases S with
  | Return vo p =>
   cases vo with
   | some v =>
    exact(bl0 (sE e _ X z G h).1).imp λ D W H q=>bF8 (TSv.eq (λ U s=>rfl) q)
   | _=>exact ff h
  | _=>exact ff h
 | .ite c a b,S,X,z,G,h=>by
  cases S with
  | If t l r p =>
   obtain⟨h,h3⟩:=zh h
   obtain⟨Y,J⟩:=zh h
   exact(bS1 (sE c _ X z G Y).2 (sSs a _ X z G J) (sSs b _ X z G h3)).imp λ D W H q=>bU0 (TSv.eq (λ U s=>rfl) q)
  | _=>exact ff h
 | .whl c b,S,X,z,G,h=>by
  cases S with
  | While t l o p =>
   cases o with
   | nil =>
    obtain⟨Y,J⟩:=zh h
    exact(bh2 (by rw[G.xe];exact gO) (sE c _ X z G Y).2 (sSs b _ X z G J)).imp λ D W H q=>bc3 (TSv.eq (λ U s=>rfl) q)
   | _=>exact ff h
  | _=>exact ff h
 | .for_ tg it b,S,X,z,G,h=>by
  cases S with
  | For tgt iter l o p =>
   cases o with
   | nil =>
    obtain⟨h,h3⟩:=zh h
    obtain⟨Y,J⟩:=zh h
    exact(bk5 (by rw[G.xe];exact gO) G.calm (sI it _ _ X z G J) (bc0 G Y) (sSs b _ X z G h3) (ap7 (bJ7 J))).imp λ D W H q=>bi4 (TSv.eq (λ U s=>rfl) q)
   | _=>exact ff h
  | _=>exact ff h
 | .setA o f e,S,X,z,G,h=>by
  cases S with
  | Assign ts v p =>
   cases ts with
   | cons t0 ts =>
    cases t0 with
    | Attribute ob x ap =>
     cases ts with
     | nil =>
      obtain⟨h,h4⟩:=zh h
      obtain⟨h,h3⟩:=zh h
      obtain⟨Y,J⟩:=zh h
      have e1:=of_decide_eq_true Y
      subst e1
      exact(bf7 G (sE o _ X z G J).1 (sE e _ X z G h3).1 h4).imp λ D W H q=>TSv.eq (λ U s=>rfl) q
     | _=>exact ff h
    | _=>exact ff h
   | _=>exact ff h
  | _=>exact ff h
 | .forK tg e b,S,X,z,G,h=>by
  cases S with
  | For tgt iter l o p =>
   cases o with
   | nil =>
    obtain⟨h,h3⟩:=zh h
    obtain⟨Y,J⟩:=zh h
    exact(bA1 (bk5 (by rw[G.xe];exact gO) G.calm (sI (.keys e) _ _ X z G J) (bc0 G Y) (sSs b _ X z G h3) (ap7 (zh J).2))).imp λ D W H q=>bv8 (TSv.eq (λ U s=>rfl) q)
   | _=>exact ff h
  | _=>exact ff h
theorem sSs:∀(st:DV.Ss) (S:yM) (X:Cx) (p:Ck),CG Γ F n X p->mSs p st S=true->PSs X S (TSv Γ (DV.exs F st))
 | .nil,S,X,p,G,h=>by
  cases S with
  | nil =>
   exact aP9.imp λ D W H q=>bu7 (m:=DV.exs F .nil) (λ U s=>rfl) q
  | _=>exact ff h
 | .cons s ss,S,X,p,G,h=>by
  cases S with
  | cons x xs =>
   obtain⟨z,J⟩:=zh h
   exact(aC0 (sS s _ X p G z) (sSs ss _ X p G J)).imp λ D W H q=>bC9 (TSv.eq (λ U s=>rfl) q)
  | _=>exact ff h
end
end
noncomputable def ca4 (ck:Ck):List String->List Expr->Bool
 | [],xs=>match xs with|[]=>true|_=>false
 | c::cs,xs=>match xs with|.Name x _::es=>decide (x=(c:Str))&&ck.gl x&&ca4 ck cs es|_=>false
noncomputable def mHT (ck:Ck)(n:Str):DV.HT->Expr->Bool
 | .isi cs,E=>match E with|.Call (.Name g _) [.Name x _,.Tuple es _ _] [] _=>decide (g=("isinstance":Str))&&ck.gl g&&decide (x=n)&&ca4 ck cs es&&decide (cs.length<=1000)|_=>false
 | .one c,E=>match E with|.Call (.Name g _) [.Name x _,.Name d _] [] _=>decide (g=("isinstance":Str))&&ck.gl g&&decide (x=n)&&decide (d=(c:Str))&&ck.gl d|_=>false
 | .not t,E=>match E with|.UnaryOp .Not e _=>mHT ck n t e|_=>false
 | .ve,E=>match E with|.Call (.Name g _) [.Name x _,.Name d _] [] _=>decide (g=("isinstance":Str))&&ck.gl g&&decide (x=n)&&decide (d=("ValueError":Str))&&ck.gl d|_=>false
 | .or a b,E=>match E with|.BoolOp .Or [x,y] _=>mHT ck n a x&&mHT ck n b y|_=>false
noncomputable def mHd (ck:Ck)(n:Str):DV.Hd->List Stmt->Bool
 | .ret t,S=>match S with|[.Return (some e) _]=>mHT ck n t e|_=>false
 | .iff t b h,S=>match S with|.If e [.Return (some (.Constant (.bool b') _ _)) _] [] _::rest=>mHT ck n t e&&decide (b'=b)&&mHd ck n h rest|_=>false
 | .nob _,_=>false
 | .noe,_=>false
 | .iffN t h,S=>match S with|.If e [.Return (some (.Constant .none _ _)) _] [] _::rest=>mHT ck n t e&&mHd ck n h rest|_=>false
 | .aoN a b,S=>match S with|[.Return (some (.BoolOp .Or [.BoolOp .And [x,y] _,.Constant .none _ _] _)) _]=>mHT ck n a x&&mHT ck n b y|_=>false
 | .sup _ h,S=>mHd ck n h S
 | .kin _ _,_=>false
section
variable {Γ:Gm} {F:lx} {n:Nat} {X:Cx} {ck:Ck} {a Cc:Addr} {oe:Obj}
end
noncomputable def bU8 (ck:Ck)(nm:Str):List String->List Expr->Bool
 | [],es=>match es with|[]=>true|_=>false
 | c::cs,es=>match es with|e::es=>mHT ck nm (.one c) e&&bU8 ck nm cs es|_=>false
noncomputable def bH5:List (List Nat)->List Expr->Bool
 | [],es=>match es with|[]=>true|_=>false
 | t::ts,es=>match es with|.Constant (.str y) _ _::es=>decide (y=⟨t.toArray⟩)&&bH5 ts es|_=>false
noncomputable def ce4 (ck:Ck)(nm ks:Str)(e1 e4:Expr)(y1 y5 m4 m5 m6:Str)(es2 es3 es6:yL)(l4 l5 l6:Bool):Bool :=
 (ck.sc.names.lookup nm==some .local)&&((ck.sc.names.lookup ks==some .local)&&(!(nm==("__debug__":Str))&&(!(nm==("__classdict__":Str))&&(!(ks==("__debug__":Str))&&(!(ks==("__classdict__":Str))&&(mHT ck nm (.not .ve) e1&&(decide (y1=⟨DV.ao0.toArray⟩)&&(decide (y5=⟨DV.ao0.toArray⟩)&&(decide (m4=("append":Str))&&(decide (m5=("count":Str))&&(decide (m6=("index":Str))&&(l4&&(l5&&(l6&&(bU8 ck nm (DV.aG3.take 4) es2&&(bU8 ck nm ((DV.aG3.drop 4).take 4) es3&&(mHT ck nm (.one "NoName") e4&&bH5 DV.bi9 es6)))))))))))))))))
def bR8 (ck:Ck)(S:yM):Prop:=∃(nm ks:Str) (e1 e4:Expr) (y1 y5 m4 m5 m6:Str) (es2 es3 es6:yL) (j1 j5 i5 k5 j6:Nat) (p1 q1 r1 a2 b2 c2 a3 b3 c3 d3 f3 a4 ap4 cp4 p4 a5 ap5 pj5 cp5 pi5 pc5 pk5 q5 p5 pl6 a6 ap6 pj6 cp6 ps6 p6:Pos),
 S=[.If e1 [.Return (some (.Constant (.str y1) j1 p1)) q1] [] r1,.Assign [.Name ks a2] (.List es2 b2) c2,.Assign [.Name ks a3] (.BinOp (.Name ks b3) .Add (.List es3 c3) d3) f3,.Expr (.Call (.Attribute (.Name ks a4) m4 ap4) [e4] [] cp4) p4,
  .If (.Compare (.Call (.Attribute (.Name ks a5) m5 ap5) [.Constant (.bool true) j5 pj5] [] cp5) [.NotEq] [.Constant (.int 1) i5 pi5] pc5) [.Return (some (.Constant (.str y5) k5 pk5)) q5] [] p5,.Return (some (.Subscript (.List es6 pl6) (.Call (.Attribute (.Name ks a6) m6 ap6) [.Constant (.bool true) j6 pj6] [] cp6) ps6)) p6]/\ck.N=[nm,ks] /\
 ce4 ck nm ks e1 e4 y1 y5 m4 m5 m6 es2 es3 es6 (ap4.endLine==cp4.line) (ap5.endLine==cp5.line) (ap6.endLine==cp6.line)=true
noncomputable def mX (ck:Ck):DV.XB->List Stmt->Bool
 | .no,_=>true
 | .kind,S=>@decide (bR8 ck S) (dS _)
 | .alt a b,S=>mX ck a S&&mX ck b S
 | .rais c,S=>match S with|.Raise (some (.Call (.Name x _) [.Constant (.str _) _ _] [] _)) none _::_=>decide (x=(c:Str))&&ck.gl x|_=>false
 | .call f as,S=>match S with
  | .Return (some (.Call (.Name x _) (e::es) [] _)) _::_=>decide (x=(f:Str))&&ck.gl x&&mAs ck as (e::es)
  | .Expr (.Call (.Name x _) (e::es) [] _) _::_=>decide (x=(f:Str))&&ck.gl x&&mAs ck as (e::es)
  | .Return (some (.List [.Call (.Name x _) (e::es) [] _] _)) _::_=>decide (x=(f:Str))&&ck.gl x&&mAs ck as (e::es)
  | .Assign [.Name _ _] (.Call (.Name x _) (e::es) [] _) _::_=>decide (x=(f:Str))&&ck.gl x&&mAs ck as (e::es)
  | .Assign [.Name _ _] (.Subscript (.Call (.Name x _) (e::es) [] _) ix _) _::_=>decide (x=(f:Str))&&ck.gl x&&mAs ck as (e::es)&&shp ix
  | _=>false
 | .iteT c a r,S=>match S with|.If t l [] _::rest=>mE ck c t&&mX ck a l&&mX ck r rest|_=>false
 | .iteE c a r,S=>match S with|.If t l o _::_=>mE ck c t&&mX ck a l&&mX ck r o|_=>false
 | .seq s b,S=>match S with|x::rest=>mS ck s x&&mX ck b rest|_=>false
 | .forX tg it b x,S=>match S with|.For tgt iter l [] _::_=>mTg ck tg tgt&&mI ck tgt it iter&&mSs ck b l&&mX ck x l|_=>false
 | .whlX c b x,S=>match S with|.While t l [] _::_=>mE ck c t&&mSs ck b l&&mX ck x l|_=>false
noncomputable def noL:DV.XB->Bool
 | .alt a b=>noL a&&noL b
 | .iteT _ a r=>noL a&&noL r
 | .iteE _ a r=>noL a&&noL r
 | .seq _ b=>noL b
 | .forX _ _ _ _=>false
 | .whlX _ _ _=>false
 | _=>true
noncomputable def noR:DV.XB->Bool
 | .alt a b=>noR a&&noR b
 | .rais _=>false
 | .iteT _ a r=>noR a&&noR r
 | .iteE _ a r=>noR a&&noR r
 | .seq _ b=>noR b
 | .forX _ _ _ x=>noR x
 | .whlX _ _ x=>noR x
 | _=>true
section
variable {Γ:Gm} {F:lx} {n:Nat} {X:Cx} {ck:Ck} {a Cc:Addr} {oe:Obj}
noncomputable def mHn (h:DV.Hd)(S:yM):Bool:=match h with
 | .nob b=>(match S with|[.Return (some (.Constant (.bool b') _ _)) _]=>decide (b'=b)|_=>false)
 | .noe=>(match S with|[.Return (some (.List [] _)) _]=>true|_=>false)
 | _=>false
end
section
variable {F:lx} {X:Cx} {ck:Ck} {a Cc:Addr} {oe:Obj}
end
section
variable {Γ:Gm}
theorem aA2 {C C1:Nat->Addr}{H p:Hp}{s s1:lb}(R:Rp Γ C H s)(g:Gr C s H C1 s1 p)(ho:nK s s1=true){i:Nat}{o:lI}(z:i<s.length)(e:s1[i]?=some o):o.bnd s.length=true:=by
 unfold nK at ho
 have:=aL.mp ho i (bG.mpr z)
 rw[e,bh]at this
 rcases this with h|h
 .exact R.wf i o (of_decide_eq_true h).symm
 .exact h
theorem qe {s1:lb}{k i:Nat}{o:lI}(e:(s1.take k)[i]?=some o):i<k/\s1[i]?=some o:=by
 rw[fD]at e
 split at e
 .exact⟨‹_›,e⟩
 .cases e
theorem aJ5 {C C1:Nat->Addr}{H h:Hp}{s s1:lb}(R:Rp Γ C H s)(g:Gr C s H C1 s1 h)(R1:Rp Γ C1 h s1)(ho:nK s s1=true):Gr C s H C1 (s1.take s.length) h/\Rp Γ C1 h (s1.take s.length):=by
 have hl:(s1.take s.length).length=s.length:=by rw[bK];have:=g.le;omega
 refine⟨⟨g.w,by rw[hl];exact ai _,λ i G F=>by rw[hl]at F;omega,λ i o p e e'=>g.kd i o p e (qe e').2,g.st,g.fz,g.fr⟩,λ i j o p e e' m m' z=>R1.inj i j o p (qe e).2 (qe e').2 m m' z,λ i o e=>R1.obj i o (qe e).2,λ i o e=>?_,R1.tab⟩
 rw[hl]
 exact aA2 R g ho (qe e).1 (qe e).2
theorem aq2 {C C1:Nat->Addr}{H F:Hp}{s s1 s':lb}{v0 d:lf}{v:V}(R:Rp Γ C H s)(g:Gr C s H C1 s1 F)(R1:Rp Γ C1 F s1)(hb:v0.bnd s1.length=true)(r:RV Γ C1 F v0 v)(h:DV.zn s v0 s1=.ok d s') :
  ∃ C',Gr C s H C' s' F/\s.length<=s'.length/\d.bnd s'.length=true/\RV Γ C' F d v/\Rp Γ C' F s':=by
 have all:d=v0->s'=s1->∃ C',Gr C s H C' s' F/\s.length<=s'.length/\d.bnd s'.length=true/\RV Γ C' F d v/\Rp Γ C' F s':=λ e1 e2=>by
  subst e1;subst e2
  exact⟨C1,g,g.le,hb,r,R1⟩
 unfold DV.zn at h
 split at h
 case isFalse=>cases h;exact all rfl rfl
 rename_i ho
 obtain⟨gt,Rt⟩:=aJ5 R g R1 ho
 have hl:(s1.take s.length).length=s.length:=by rw[bK];have:=g.le;omega
 have tk:d=v0->s'=s1.take s.length->v0.bnd s.length=true->∃ C',Gr C s H C' s' F/\s.length<=s'.length/\d.bnd s'.length=true/\RV Γ C' F d v/\Rp Γ C' F s':=λ e1 e2 b=>by
  subst e1;subst e2
  exact⟨C1,gt,by rw[hl];exact ai _,by rw[hl];exact b,r,Rt⟩
 split at h
 .rename_i k
  split at h
  .cases h
   exact tk rfl rfl (by unfold lr;exact decide_eq_true ‹_›)
  .rename_i hk
   split at h
   .rename_i o Y
    split at h
    .rename_i J
     cases h
     have gw:Gw C1 s.length F (λ i=>if i=s.length then C1 k else C1 i) F:=⟨λ i p=>if_neg (aE p),Kp.refl _⟩
     have key:∀(i:Nat) (G:lI),(s1.take s.length++[o])[i]?=some G->(i<s.length/\s1[i]?=some G)\/(i=s.length/\G=o):=λ i G e=>by
      rcases d7 i s.length with h|h|h
      .rw[ax (by rw[hl];exact h)]at e;exact .inl (qe e)
      .subst h
       rw[aJ (by rw[hl];exact ai _),hl,jz]at e
       exact .inr ⟨rfl,(av e).symm⟩
      .rw[bW (by rw[ar,hl];simp;omega)]at e;cases e
     have z:(s1.take s.length++[o]).length=s.length+1:=by rw[ar,hl];rfl
     refine⟨λ i=>if i=s.length then C1 k else C1 i,⟨⟨λ i p=>?_,g.w.kp⟩,by rw[z];omega,λ i h1 h2=>?_,λ i oo G e e'=>?_,g.st,g.fz,g.fr⟩,by rw[z];omega,by unfold lr;rw[z];exact decide_eq_true (bR _),?_,⟨λ i j Z oj a1 a0 mi mj e=>?_,λ i G e=>?_,λ i G e=>?_,R1.tab⟩⟩
     .show(if i=s.length then C1 k else C1 i)=C i
      rw[if_neg (aE p)];exact g.w.map i p
     .rw[z]at h2
      show H (if i=s.length then C1 k else C1 i)=none
      rw[if_pos (by omega)]
      exact g.new k (by omega) (ac.mp Y).1
     .rcases key i G e' with⟨_,e2⟩|⟨p,_⟩
      .exact g.kd i oo G e e2
      .have:=(ac.mp e).1;omega
     .rw[r.refE]
      unfold RV
      show V.ref (C1 k)=V.ref (if s.length=s.length then C1 k else C1 s.length)
      rw[if_pos rfl]
     .rcases key i Z a1 with⟨p,ei⟩|⟨p,zi⟩<;>rcases key j oj a0 with⟨hj,ej⟩|⟨hj,zj⟩
      .rw[if_neg (aE p),if_neg (aE hj)]at e
       exact R1.inj i j Z oj ei ej mi mj e
      .rw[if_neg (aE p),if_pos hj]at e
       subst zj
       have:=R1.inj i k Z _ ei Y mi mj e
       omega
      .rw[if_neg (aE hj),if_pos p]at e
       subst zi
       have:=R1.inj k j _ oj Y ej mi mj e
       omega
      .rw[p,hj]
     .rcases key i G e with⟨p,e⟩|⟨p,rfl⟩
      .show RO Γ _ _ (if i=s.length then C1 k else C1 i) G
       rw[if_neg (aE p)]
       exact(R1.obj i G e).mono gw (aA2 R g ho p e) λ _ u hu=>hu
      .show RO Γ _ _ (if i=s.length then C1 k else C1 i) G
       rw[if_pos p]
       exact(R1.obj k _ Y).mono gw J λ _ u hu=>hu
     .rw[z]
      rcases key i G e with⟨p,e⟩|⟨_,rfl⟩
      .exact zQ (cb _) _ (aA2 R g ho p e)
      .exact zQ (cb _) _ J
    .cases h;exact all rfl rfl
   .exact fb h
 .split at h
  .cases h;exact tk rfl rfl ‹_›
  .cases h;exact all rfl rfl
structure LamGood (J:LamI)(L:mJ):Prop where
 sc:LamScope (J.ps++J.fr) J.ps J.fr J.scope
 ps:J.ps.length=L.ps
 fr:J.fr.length=L.cs
 m:mE (ck0 (J.ps++J.fr) J.scope) L.body J.body=true
 pa:lamArgs J.params=some J.ps
 bind:∀(clos:yC) (doc pm:Value) (c':Addr) (ctv:Value) (us:yH),us.length=J.ps.length->dA (dj "<lambda>" J.qual J.params J.body J.scope clos pm (.ref c') ctv) ⟨us,[]⟩=pure (J.ps.zip us) /\
  ∀(nm:Str) (rp:Pos),dA (fR nm J.qual J.params [.Return (some J.body) rp] J.scope clos .none .none doc pm none (.ref c') ctv) ⟨us,[]⟩=pure (J.ps.zip us)
structure LkAt (Γ:Gm)(cds:yG)(f:Str)(sc:Scope)(N:yI)(fd:bH)(id:String)(caps:List Nat)(params:bV)(body:Expr)(scope:Scope)(c P:Addr)(J:LamI):Prop where
 code:fd.code=.ref c
 cd:(c,P)∈cds
 ck:lamCheck scope sc=true
 fre:∀ x,scope.names.lookup x=some .free->sc.names.lookup x=some .cell
 cel:∀ y∈sc.names,y.2=.cell->sc.names.lookup y.1=some .cell
 df:∀ env,defaultsOf params env=([],[])
 lg:Γ.lg id J
 q:J.qual=f ++ ".<locals>."++J.own
 p:J.params=params
 b:J.body=body
 s:J.scope=scope
 len:J.fr.length=caps.length
 at_:∀(i j:Nat) (x:Str),caps[i]?=some j->J.fr[i]?=some x->N[j]?=some x
 fr:∀ x∈J.fr,scope.names.lookup x=some .free
 tab:(P,J.qual)∈Γ.T
def bo9 (Γ:Gm)(cds:yG)(f:Str)(sc:Scope)(N:yI)(fd:bH)(lk:String->List Nat->Expr->Bool):Prop :=
 ∀ id caps E,lk id caps E=true->∃ c P params body scope pos J,E=lamText J params body scope pos/\LkAt Γ cds f sc N fd id caps params body scope c P J
def GoodB (Γ:Gm)(cds:yG)(mg:yD)(f:String)(pc vc:Nat)(m:Ck->List Stmt->Bool):Prop:=∃ st N ps a fd lk,DefAt Γ.K mg (f:Str) st ps a fd/\FnScope N ps (defScope st)/\ps.length=pc/\N.length=pc+vc/\m ⟨N,defScope st,lk⟩ (defBody st)=true/\bo9 Γ cds (f:Str) (defScope st) N fd lk
def Good (Γ:Gm)(cds:yG)(mg:yD)(f:String)(d:lR):Prop:=GoodB Γ cds mg f d.ps d.vs λ ck S=>mSs ck d.body S
noncomputable def mKc (ck:Ck)(nm:Str)(f:String)(E:Expr):Bool:=match E with|.Call (.Name g _) [.Name x _] [] _=>decide (g=(f:Str))&&(ck.gl g&&decide (x=nm))|_=>false
noncomputable def cc8 (ck:Ck)(nm:Str)(f:String)(l:Bool)(S:yM):Bool:=match S with
 | [.Return (some e) _]=>(match l with|true=>(match e with|.List [c] _=>mKc ck nm f c|_=>false)|false=>mKc ck nm f e)
 | _=>false
noncomputable def mHk (ck:Ck)(nm:Str)(h:DV.Hd)(S:yM):Bool:=match h.kn with|some (f,l)=>cc8 ck nm f l S|none=>mHd ck nm h S
noncomputable def mT0 (ck:Ck)(d:DV.Tf)(S:yM):Bool:=match S with
 | st::rest=>(match st with|.Try tb hs [] [] _=>(match hs with|[eh]=>(match eh with|.ExceptHandler (some en) (some nm) hb _=>(match en,hb with|.Name x _,b::su=>mSs ck d.body tb&&(mX ck d.xb tb&&(noR d.xb&&(noL d.xb&&(d.h.supOk d.c&&(decide (x=((d.h.cls d.c:String):Str))&&(ck.gl x&&(decide (ck.N[d.i]?=some nm)&&((ck.sc.names.lookup nm==some .local)&&(!(nm==("__debug__":Str))&&(!(nm==("__classdict__":Str))&&(mHk ck nm d.h (b::su)&&mSs ck d.tl rest)))))))))))|_,_=>false)|.ExceptHandler (some en) none hb _=>(match en,hb with|.Name x _,b::su=>mSs ck d.body tb&&(mX ck d.xb tb&&(noR d.xb&&(noL d.xb&&(decide (x=(d.c:Str))&&(ck.gl x&&(mHn d.h (b::su)&&mSs ck d.tl rest))))))|_,_=>false)|_=>false)|_=>false)|_=>false)
 | _=>false
noncomputable def bZ9 (ck:Ck):DV.Ss->List Stmt->Option (List Stmt)
 | .nil,S=>some S
 | .cons s ss,S=>match S with|x::xs=>(match mS ck s x with|true=>bZ9 ck ss xs|false=>none)|[]=>none
noncomputable def mT (ck:Ck)(d:DV.Tf)(S:yM):Bool:=match bZ9 ck d.pre S with
 | some S1=>mT0 ck d S1
 | none=>false
def GoodM (Γ:Gm)(c m:String)(d:lR):Prop:=∃ st N ps a fd Cc,(Γ.cls c=some Cc/\Cls Γ.K Cc)/\Meth Γ.K Cc (m:Str) a/\Fun Γ.K (m:Str) ((c ++ "."++m:String):Str) st a fd/\Binds Γ.K fd ps []/\FnScope N ps (defScope st)/\ps.length=d.ps/\N.length=d.ps+d.vs/\mSs ⟨N,defScope st,λ _ _ _=>false⟩ d.body (defBody st)=true
structure PrOk (Γ:Gm)(cds:yG)(P:ly)(mg:yD)(w:World):Prop where
 df:∀ f d,P.df f=some d->Good Γ cds mg f d
 con:∀ x d,P.con x=some d->∃ v u,mg (x:Str)=some u/\RelV v u/\(∀ m,d.bnd m=true)/\∀ C H,RV Γ C H d v
 bi:∀ x∈bNames,mg x=none
 fa:∀(f:String) (a:Addr),Γ.fa f=some a->mg (f:Str)=some (.ref a)/\∃ oc od fd sl,Γ.K.lookup a=some ⟨oc,od,.func fd,sl⟩
 lg:∀ id J,Γ.lg id J->∃ L,P.lm id=some L/\LamGood J L
 nd:(Γ.T.map (·.1)).Nodup
 xf:∀ f d,P.xf f=some d->GoodB Γ cds mg f d.ps d.vs λ ck S=>mX ck d.body S
 tf:∀ f d,P.tf f=some d->GoodB Γ cds mg f d.ps d.vs λ ck S=>mT ck d S
 xc:∀ c:String,P.xc c=true->∃ Cc,mg (c:Str)=some (.ref Cc)/\ExcCls Γ.K Cc/\excI Γ.K Cc=true
 xt:∀ c:String,P.xt c=true->∃ Cc,mg (c:Str)=some (.ref Cc)
 xs:∀(c d:String) (Cc D:Addr),P.xc c=true->P.xt d=true->mg (c:Str)=some (.ref Cc)->mg (d:Str)=some (.ref D)->bT Γ.K (.ref Cc) (.ref D)=some (DV.subC c d)
 xm:∀(c d:String) (Cc D:Addr),P.xc c=true->P.xt d=true->mg (c:Str)=some (.ref Cc)->mg (d:Str)=some (.ref D)->km Γ.K (.ref Cc) (.ref D)=some (DV.subC c d)
 xe:∀(c:String) (Cc:Addr),P.xc c=true->mg (c:Str)=some (.ref Cc)->km Γ.K (.ref Cc) (.ref Cc)=some true
 v0:∀ c:String,P.xc c=true->mg ("ValueError":Str)=none
 v1:∀(c:String) (Cc:Addr),P.xc c=true->mg (c:Str)=some (.ref Cc)->bT Γ.K (.ref Cc) (.type "ValueError")=some true
 cdc:∀(c:String) kvs,P.cdc c=some kvs->∃ a,mg (c:Str)=some (.ref a)/\∀(prog:aB) (h:Heap),Γ.K.In h->StrTab prog w h a (strD kvs)
 mt:∀ c m d,P.mt c m=some d->GoodM Γ c m d
 att:∀(c:String) (f:List Nat) (Cc:Addr),P.att c f=true->Γ.cls c=some Cc->NoAttr Γ.K Cc ⟨f.toArray⟩
 nwc:∀(c:String) (Cc:Addr),Γ.cls c=some Cc->mg (c:Str)=some (.ref Cc)/\c6 Γ.K Cc=true/\bz Γ.K (.ref Cc)=true
def am1 (Γ:Gm)(prog:aB)(w:World)(mg:yD)(base:Heap)(F:lx)(n:Nat):Prop:=(∀ f:String,(∀ l s,F.call f l s=.bad) \/
  ∃ a fd ps,FnOk prog w Γ.K mg base CX0 n a fd ps (spV Γ (F.call f))/\mg (f:Str)=some (.ref a)/\bz Γ.K (.ref a)=true/\Binds Γ.K fd ps []) /\
 (∀(id:String) (J:LamI) (f:Addr) (cap:List V) (clos:yC),Γ.lg id J->cap.length=J.fr.length->ClOk prog w Γ.K mg base n (λ H=>CloAt H f J cap clos) f (spL Γ (F.lam id) cap))/\ObOk Γ prog w Γ.K mg base F n
theorem bd6 {C:Nat->Addr}{H:Hp}{n k:Nat}{N:yI}{l:List lf}{vs:List V}(r:RVL Γ C H l vs)(b:li n l=true)(hN:N.length=l.length+k):RE Γ C H n (l.map some++aq k none) (ae7 N vs):=by
 have hl:=r.length
 refine⟨?_,λ i d e=>?_⟩
 .unfold ae7;simp[hl,hN]
 .by_cases hi:i<l.length
  .rw[ax (by simpa using hi),aC]at e
   have e':l[i]?=some d:=by
    rw[ah hi]at e ⊢
    exact av e
   obtain⟨v,e1,e2⟩:=r.get e'
   refine⟨af6 b e',v,?_,e2⟩
   unfold ae7
   rw[ax (by rw[aD,hl];exact hi),aC,e1];rfl
  .rw[aJ (by simpa using jJ hi)]at e
   rw[f7]at e
   split at e<;>cases e
theorem bj9 {p:yG}{P:ly}{prog:aB}{w:World}{z:yD}(F:PrOk Γ p P z w)(n:Nat):∀(c:String) kvs,(lq P n).cdc c=some kvs->∃ a,z (c:Str)=some (.ref a)/\∀ h:Heap,Γ.K.In h->StrTab prog w h a (strD kvs):=by
 have:(lq P n).cdc=P.cdc:=by cases n<;>rfl
 rw[this]
 intro c kvs e
 obtain⟨a,G,J⟩:=F.cdc c kvs e
 exact⟨a,G,J prog⟩
theorem bM7 {Z:yG}{P:ly}{prog:aB}{w:World}{mg:yD}{base:Heap}(hP:PrOk Γ Z P mg w)(hb:∀ y∈Z,bU base y.1 y.2/\BM mg base)(n:Nat)(h:am1 Γ prog w mg base (lq P n) (n+31))
  {f:String} {st:Stmt} {N ps:yI} {a:Addr} {fd:bH} {lk:String->List Nat->Expr->Bool} (hS:FnScope N ps (defScope st)) (hL:bo9 Γ Z (f:Str) (defScope st) N fd lk) (G:Value) (a6:∀ id F E,lk id F E=true->fd.code=G) (A:aQ) (Y:List Env) (sh:af) (H:Hp) (E:XK) (hr:Room (n+31) (A.deeper (fx (f:Str) (defScope st) sh.heap.objs.size a G))) :
  CG Γ (lq P n) (n+31) (aZ0 CX0 prog w Γ.K mg base N (f:Str) (defScope st) a G A Y sh H E).nox ⟨N,defScope st,lk⟩:=by
 refine⟨rfl,rfl,hS.nd,rfl,rfl,?_,hr,λ x k e=>.inl e,λ _ _=>rfl,hP.bi,h.1,?_,λ id F E' a0=>?_,h.2.1,hP.fa,DV.qm P n,bj9 hP n,h.2.2⟩
 .show lz+1<=n+31
  unfold lz;omega
 .have:(lq P n).con=P.con:=by cases n<;>rfl
  rw[this];exact hP.con
 .obtain⟨c,Pa,params,body,scope,pos,J,eE,L⟩:=hL id F E' a0
  obtain⟨a3,a2⟩:=hb _ L.cd
  obtain⟨L',_,lg⟩:=hP.lg id J L.lg
  refine⟨c,Pa,params,body,scope,pos,J,eE,⟨?_,a3,a2,L.ck,L.df _,L.lg,L.q,L.p,L.b,L.s,L.len,L.at_,L.fr,λ x hx=>?_,L.tab,hP.nd,λ _=>rfl,λ x c hx=>?_,lg.sc,lg.pa,λ a1 pm c' a4 us a5=>(lg.bind a1 .none pm c' a4 us a5).1⟩⟩
  .show G=.ref c
   rw[<-a6 id F E' a0];exact L.code
  .exact zM (L.fre x hx)
  .rcases zu (aF hx)with z|z
   .exact .inl (L.cel (x,.cell) z rfl)
   .exact absurd z (by simp)
theorem aP5 {p:yG}{f:Str}{sc:Scope}{N:yI}{z:bH}:bo9 Γ p f sc N z (λ _ _ _=>false):=λ _ _ _ h=>by cases h
theorem bl4 {a0:yG}{P:ly}{prog:aB}{w:World}{mg:yD}{base:Heap}(hP:PrOk Γ a0 P mg w)(hb:∀ y∈a0,bU base y.1 y.2/\BM mg base)(n:Nat)(Z:am1 Γ prog w mg base (lq P n) (n+31))
  {f:String} {x:Str} {d:lR} {st:Stmt} {N ps:yI} {a:Addr} {fd:bH} {lk:String->List Nat->Expr->Bool} (hD:Fun Γ.K x (f:Str) st a fd) (hS:FnScope N ps (defScope st)) (h1:ps.length=d.ps) (h2:N.length=d.ps+d.vs) (hm:mSs ⟨N,defScope st,lk⟩ d.body (defBody st)=true) (hL:bo9 Γ a0 (f:Str) (defScope st) N fd lk) :
  FnOk prog w Γ.K mg base CX0 (n+1+31) a fd ps (spV Γ (mn (lq P n) d)):=by
 have Y:∀ vs H Q E,spV Γ (mn (lq P n) d) vs H Q E->vs.length=ps.length:=λ vs H Q E q=>by
  obtain⟨C,s,l,d',s',R,r,b,hc,k⟩:=q
  unfold mn at hc
  split at hc
  .rw[r.length,h1];assumption
  .exact fb hc
 have body:∀(F:Value),(∀ id p E,lk id p E=true->fd.code=F)->∀(A:aQ) (z:List Env) (sh:af) (H:Hp) (vs:List V) (Q:VK) (E:XK),Room (n+31) (A.deeper (fx (f:Str) (defScope st) sh.heap.objs.size a F))->spV Γ (mn (lq P n) d) vs H Q E ->
   ∃ t,PSs (aZ0 CX0 prog w Γ.K mg base N (f:Str) (defScope st) a F A z sh H E).nox (defBody st) t/\t { nx:=λ _ H'=>Q .non H',rt:=Q } (ae7 N vs) H:=by
  intro F a3 A z sh H vs Q E hr q
  have G:=bM7 hP hb n Z hS hL (a:=a) F a3 A z sh H E hr
  refine⟨_,sSs d.body (defBody st) _ ⟨N,defScope st,lk⟩ G hm,?_⟩
  obtain⟨C,s,l,d',s',R,r,b,hc,k⟩:=q
  unfold mn at hc
  split at hc
  case isFalse=>exact fb hc
  rename_i Y
  obtain⟨c,s1,e1,hc⟩:=aa0 hc
  refine⟨C,l.map some++aq d.vs none,s,c,s1,bd6 r b (by rw[h2,Y]),R,e1,λ C1 H1 g1 l1 R1=>?_⟩
  cases c with
  | ret v0 =>
   intro v hb rv
   obtain⟨C',g',l',b',r',R'⟩:=aq2 R g1 R1 hb rv hc
   exact k v C' H1 g' l' b' r' R'
  | next U =>
   intro W' _
   obtain⟨C',g',l',b',r',R'⟩:=aq2 (v0:=.non) R g1 R1 rfl RV.nonI hc
   exact k .non C' H1 g' l' b' r' R'
  | cont U=>exact fb hc
  | brk U=>exact fb hc
 by_cases hl:∃ id p E,lk id p E=true
 .obtain⟨id,p,E,a1⟩:=hl
  obtain⟨c,Pa,params,a2,scope,pos,J,eE,L⟩:=hL id p E a1
  exact hD.okC L.code hS Y (body _ λ _ _ _ _=>L.code)
 .exact hD.ok hS Y (λ F=>body F λ id p E h=>absurd ⟨id,p,E,h⟩ hl)
theorem bF0 {p:yG}{P:ly}{prog:aB}{w:World}{F:yD}{base:Heap}(Z:PrOk Γ p P F w)(hb:∀ y∈p,bU base y.1 y.2/\BM F base)(n:Nat)(h:am1 Γ prog w F base (lq P n) (n+31))
  {f:String} {d:lR} (e:P.df f=some d) {st:Stmt} {N ps:yI} {a:Addr} {G:bH} {lk:String->List Nat->Expr->Bool} (hD:DefAt Γ.K F (f:Str) st ps a G) (J:FnScope N ps (defScope st)) (h1:ps.length=d.ps) (h2:N.length=d.ps+d.vs) (Y:mSs ⟨N,defScope st,lk⟩ d.body (defBody st)=true) (hL:bo9 Γ p (f:Str) (defScope st) N G lk) :
  FnOk prog w Γ.K F base CX0 (n+1+31) a G ps (spV Γ ((lq P (n+1)).call f)):=by
 have z:(lq P (n+1)).call f=mn (lq P n) d:=by funext l s;simp only[lq,e];rfl
 rw[z]
 exact bl4 Z hb n h hD.fn J h1 h2 Y hL
theorem bY7 {G:yG}{P:ly}{prog:aB}{w:World}{Y:yD}{base:Heap}(Z:PrOk Γ G P Y w)(hb:∀ y∈G,bU base y.1 y.2/\BM Y base)(n:Nat)(p:am1 Γ prog w Y base (lq P n) (n+31)):ObOk Γ prog w Γ.K Y base (lq P (n+1)) (n+1+31):=by
 refine⟨λ c f Cc h=>Z.att c f Cc h,λ c m=>?_,λ c=>?_⟩
 .cases e:P.mt c m with
  | none=>exact .inl λ l s=>by simp only[lq,e]
  | some d =>
   obtain⟨st,N,ps,a,fd,Cc,hc,J,hD,F,hS,h1,h2,a0⟩:=Z.mt c m d e
   have z:(lq P (n+1)).mcall c m=mn (lq P n) d:=by funext l s;simp only[lq,e]
   refine .inr ⟨Cc,a,fd,ps,hc.1,hc.2,J,?_,F⟩
   rw[z]
   exact bl4 Z hb n p hD hS h1 h2 a0 aP5
 .rcases p.2.2.mc c "__init__" with h|⟨Cc,a,fd,ps,hc,a1,J,hF,F⟩
  .exact .inl λ l s=>h l s
  .obtain⟨m1,m2,m3⟩:=Z.nwc c Cc hc
   exact .inr ⟨n+31,Cc,a,fd,ps,by omega,⟨hc,a1⟩,m1,⟨m2,J.at_,J.fn,m3⟩,hF,F⟩
theorem bA7 {b3:yG}{P:ly}{prog:aB}{w:World}{mg:yD}{base:Heap}(hP:PrOk Γ b3 P mg w)(n:Nat)(Z:am1 Γ prog w mg base (lq P n) (n+31))
  (id:String) (J:LamI) (f:Addr) (cap:List V) (F:yC) (b6:Γ.lg id J) (a3:cap.length=J.fr.length) :
  ClOk prog w Γ.K mg base (n+1+31) (λ H=>CloAt H f J cap F) f (spL Γ ((lq P (n+1)).lam id) cap):=by
 obtain⟨L,eL,LG⟩:=hP.lg id J b6
 have a1:∀ vs H Q E,spL Γ ((lq P (n+1)).lam id) cap vs H Q E->vs.length=J.ps.length:=λ vs H Q E q=>by
  obtain⟨C,s,cs,l,d,s',R,r,rc,b,bc,hc,k⟩:=q
  simp only[lq,eL]at hc
  split at hc
  .rename_i hh;rw[r.length,LG.ps];exact hh.1
  .exact fb hc
 have main:∀(A:aQ) (Y:List Env) (sh:af) (H:Hp) (cd:Value) (vs:List V) (Q:VK),Room (n+31) (A.deeper (cY J.qual J.scope sh.heap.objs.size f cd (aK (sh.heap.objs.size+1) J.scope.names F)))->Cells F H->(∀ b o,Γ.K.lookup b=some o->H b=none)->spL Γ ((lq P (n+1)).lam id) cap vs H Q E0 ->
   ∃ t,PE (ax9 prog w Γ.K mg base (J.ps++J.fr) J.qual J.scope f cd F A Y sh H) J.body t/\t (vs.map some++cap.map some) (aa5 F H) λ v H'=>(∀ b,isC F b=true->H' b=none)->Q v (Put F H H'):=by
  intro A Y sh H cd vs Q hr z hK q
  have G:CG Γ (lq P n) (n+31) (ax9 prog w Γ.K mg base (J.ps++J.fr) J.qual J.scope f cd F A Y sh H) (ck0 (J.ps++J.fr) J.scope):=by
   refine⟨rfl,rfl,LG.sc.nd,rfl,rfl,?_,hr,λ x k e=>.inl e,λ x e=>?_,hP.bi,Z.1,?_,λ _ _ _ h=>(by cases h),Z.2.1,hP.fa,DV.qm P n,bj9 hP n,Z.2.2⟩
   .show lz+1<=n+31
    unfold lz;omega
   .show(J.scope.names.lookup x==some .cell)=true
    rw[show J.scope.names.lookup x=some .cell from e];rfl
   .have:(lq P n).con=P.con:=by cases n<;>rfl
    rw[this];exact hP.con
  refine⟨_,(sE L.body J.body _ (ck0 (J.ps++J.fr) J.scope) G LG.m).1,?_⟩
  obtain⟨C,s,cs,l,d,s',R,r,rc,b,bc,hc,k⟩:=q
  simp only[lq,eL]at hc
  split at hc
  case isFalse=>exact fb hc
  rename_i hh
  obtain⟨h1,h2,h3⟩:=hh
  rw[ag,ag]at h3
  obtain⟨⟨b5,b4⟩,b2⟩:=h3
  obtain⟨v0,s1,e1,hc⟩:=aa0 hc
  have RD:Rp Γ C (aa5 F H) s:=R.dropC z b2
  have a6:RVL Γ C (aa5 F H) (l++cs) (vs++cap):=(RVL.dropC z l vs b5 r).append (RVL.dropC z cs cap b4 rc)
  refine⟨C,l.map some++cs.map some,s,v0,s1,⟨by simp[r.length,rc.length],λ i x ei=>?_⟩,RD,e1,λ v C1 H1 g1 l1 b1 r1 R1 a2=>?_⟩
  .rw[<-bJ,aC]at ei
   have a5:(l++cs)[i]?=some x:=by
    cases q:(l++cs)[i]? with
    | none=>rw[q]at ei;cases ei
    | some y=>rw[q]at ei;cases ei;rfl
   obtain⟨u,e3,e4⟩:=a6.get a5
   refine⟨af6 (zJ b bc) a5,u,?_,e4⟩
   rw[<-bJ,aC,e3];rfl
  .obtain⟨C',g',l',b',r',R'⟩:=aq2 RD g1 R1 b1 r1 hc
   have gp:=Gr.put z a2 hK R' g'
   obtain⟨gs,Rs⟩:=R'.same (aX4 (H:=H) a2)
   exact k v C' _ gp l' b' (RV.mono gs d v b' r') Rs
 unfold CloAt
 cases q:J.nm with
 | none=>exact by2 LG.sc a1 a3 (λ pm c' a0 us a4=>(LG.bind F .none pm c' a0 us a4).1) (λ A Y sh H cd vs Q hr hat hK q=>by
   obtain⟨pm,c',a0,_,_,z,_⟩:=hat
   exact main A Y sh H cd vs Q hr z hK q)
 | some p=>exact bA5 LG.sc a1 a3 (λ b0 pm c' a0 us a4=>(LG.bind F b0 pm c' a0 us a4).2 _ _) (λ A Y sh H cd vs Q hr hat hK q=>by
   obtain⟨b0,pm,c',a0,_,_,z,_⟩:=hat
   obtain⟨t,h1,h2⟩:=main A Y sh H cd vs Q hr z hK q
   exact⟨_,aC0 (bl0 h1) aP9,h2⟩)
theorem aE2 {F:yG}{P:ly}{prog:aB}{w:World}{mg:yD}{base:Heap}(z:PrOk Γ F P mg w)(hb:∀ y∈F,bU base y.1 y.2/\BM mg base)(ht:∀ f,P.tf f=none):∀ n:Nat,am1 Γ prog w mg base (lq P n) (n+31)
 | 0=>⟨λ f=>.inl λ l s=>rfl,λ id J f cap p _ _=>⟨λ A Y s H us vs Q _ _ _ _ q=>by
   obtain⟨C,s,cs,l,d,s',R,r,rc,b,bc,hc,k⟩:=q
   cases hc⟩,λ c f Cc h=>z.att c f Cc h,λ _ _=>.inl λ _ _=>rfl,λ _=>.inl λ _ _=>rfl⟩
 | n+1=>by
  have G:=aE2 (prog:=prog) (w:=w) (base:=base) z hb ht n
  refine⟨λ f=>?_,λ id J f cap p Z h2=>bA7 z n G id J f cap p Z h2,bY7 z hb n G⟩
  cases e:P.df f with
  | none=>exact .inl λ l s=>by simp only[lq,e,ht f]
  | some d =>
   obtain⟨st,N,ps,a,fd,lk,hD,hS,Z,h2,hm,hL⟩:=z.df f d e
   exact .inr ⟨a,fd,ps,bF0 z hb n G e hD hS Z h2 hm hL,hD.mg,hD.fn.kp,hD.bi⟩
def spT (Γ:Gm):Sp:=λ vs H Q _=>∃(a:Addr) (ns:List Int),vs=[.ref a]/\SqF Γ.K H a (ns.map V.int)/\ns.length<=63/\TabsH Γ.T H/\∀ H',Q (.bl true) H'
theorem aF1 {C:Nat->Addr}{H:Hp}:∀ ns:List Int,RVL Γ C H (ns.map DV.D.int) (ns.map V.int)
 | []=>.nil
 | n::ns=>.cons RV.intI (aF1 ns)
theorem as9 {m:Nat}:∀ ns:List Int,li m (ns.map DV.D.int)=true
 | []=>rfl
 | n::ns=>by rw[a9];unfold li;rw[as9 ns];rfl
theorem bP8 {P:ly}{k:Nat}(h:∀ ns:List Int,ns.length<=63->∃ s',(lq P k).call "law" [.ref 0] [.ro (ns.map DV.D.int)]=.ok (.bl true) s')(vs:List V)(H:Hp)(Q:VK)(E:XK)(q:spT Γ vs H Q E):spV Γ ((lq P k).call "law") vs H Q E:=by
 obtain⟨a,ns,rfl,z,hl,hT,p⟩:=q
 obtain⟨s',hs⟩:=h ns hl
 refine⟨λ _=>a,[.ro (ns.map DV.D.int)],[.ref 0],.bl true,s',⟨λ i j o F e e' m m' _=>?_,λ i o e=>?_,λ i o e=>?_,hT⟩,.cons RV.refI .nil,?_,hs,λ v C' H' g l b r R=>?_⟩
 .cases i with
  | zero=>cases e;cases m
  | succ i=>cases e
 .cases i with
  | zero=>cases e;exact⟨_,z,aF1 ns⟩
  | succ i=>cases e
 .cases i with
  | zero=>cases e;unfold ln;exact as9 ns
  | succ i=>cases e
 .unfold li lr li;rfl
 .rw[r.blE];exact p H'
theorem aC3 {z:yG}{F:yD}:∀ {tbl:List (String×lR)},(∀ p∈tbl,Good Γ z F p.1 p.2)->∀ f d,tbl.lookup f=some d->Good Γ z F f d
 | [],_,f,d,h=>by cases h
 | (g,e)::tbl,H,f,d,h=>by
  rw[aV]at h
  cases q:f==g with
  | true =>
   rw[q]at h
   cases h
   rw[eq_of_beq q]
   exact H (g,_) (aA ..)
  | false =>
   rw[q]at h
   exact aC3 (λ p G=>H p (au _ G)) f d h
def bE2 (Γ:Gm)(mg:yD)(x:String)(d:lf):Prop:=∃ v u,mg (x:Str)=some u/\RelV v u/\(∀ m,d.bnd m=true)/\∀ C H,RV Γ C H d v
theorem aM0 {z:yD}:∀ {tbl:List (String×lf)},(∀ p∈tbl,bE2 Γ z p.1 p.2)->∀ f d,tbl.lookup f=some d->bE2 Γ z f d
 | [],_,f,d,h=>by cases h
 | (g,e)::tbl,H,f,d,h=>by
  rw[aV]at h
  cases q:f==g with
  | true =>
   rw[q]at h
   cases h
   rw[eq_of_beq q]
   exact H (g,_) (aA ..)
  | false =>
   rw[q]at h
   exact aM0 (λ p F=>H p (au _ F)) f d h
end
theorem aH3 {P:aB}{w:World}{K:ae}{mg mb:yD}{k:Nat}{fa a:Addr}{fd:bH}{x:Str}{sp:Sp}{G:af}{vs:yH}{ns:List Int}{tabs:yG}
  (KX:K.In G.heap) (a6:G.heap.Ns bp mg) (hb:G.heap.Ns gh mb) (d0:∀ x:Str,x ≠ "__name__"->mb x=bn x) (c0:G.heap.NoLimit) (hg:G.gens=#[]) (c3:BM mg G.heap) (hT:ko tabs G.heap) (f0:kq K=true)
  (ha:G.heap.get? a=some { cls:=.type "list",data:=.seq vs.toArray }) (hi:jt vs ns) (hl:ns.length<=aG) (hr:Room k iz)
  (F:∀ base:Heap,K.In base->base.Ns bp mg->BM mg base->(∀ q∈tabs,bU base q.1 q.2)->FnOk P w K mg base CX0 k fa fd [x] sp) (a3:∀(s:af) (u:Value),jZ s fd ⟨[u],[]⟩ [(x,u)])
  (f1:∀ H:Hp,(∀ q∈tabs,H q.2=some (.tbl #[]))->SqL K H a (ns.map V.int)->(∀ u,H a=some u->(∃ o xs,u=.frz o (.lst xs))\/∃ ps,u=.tbl ps)->sp [.ref a] H (λ v _=>v=.bl true) E0) :
  fL (model P w) iz (.call (.ref fa) ⟨[.ref a],[]⟩) (λ r s'=>r=.ok (.ret (.bool true))/\OldK G.heap s'.heap/\s'.os=G.os/\fJ s'.gens) G:=by
 have rv:=ah6 hi
 have c1:=hi.length
 have J:∀ b,b∈tabs.map (·.2)->G.heap.get? b=some (ip #[]):=λ b h=>by
  obtain⟨q,hq,rfl⟩:=bf.mp h
  exact(hT q hq).2
 have a0:∀ H:Hp,(∀ b u,H b=some u->(b=a/\∃ o xs,u=.frz o (.lst xs))\/(b∈tabs.map (·.2)/\u=.tbl #[]))->(∀ q∈tabs,H q.2=some (.tbl #[]))->SqL K H a (ns.map V.int)->HOk P w H G.heap->(H a≠none->K.lookup a=none) ->
   fL (model P w) iz (.call (.ref fa) ⟨[.ref a],[]⟩) (λ r s'=>r=.ok (.ret (.bool true))/\OldK G.heap s'.heap/\s'.os=G.os/\fJ s'.gens) G:=by
  intro H hO e4 hS hok hK
  have un:∀ b o,G.heap.get? b=some o->o.cls≠.type "list"->(∀ vs,o.data≠.fields vs)->H b=none:=λ b o e n1 n2=>by
   cases q:H b with
   | none=>rfl
   | some u =>
    rcases hO b u q with⟨z,_⟩|⟨z,_⟩
    .rw[z,ha]at e;cases e;exact absurd rfl n1
    .rw[J b z]at e;cases e;exact absurd rfl (n2 #[])
  have Z:∀ {b:Addr} {m:yD},G.heap.Ns b m->(aX7 G.heap H).Ns b m:=λ {b m} ⟨o,es,ep,e,d,r⟩=>by
   refine⟨o,es,ep,af8 e ?_,d,r⟩
   cases q:H b with
   | none=>rfl
   | some u =>
    rcases hO b u q with⟨z,_⟩|⟨z,_⟩
    .rw[z,ha]at e;cases e;cases d
    .rw[J b z]at e;cases e;cases d
  have c2:K.In (aX7 G.heap H):=λ b o e=>af8 (KX b o e) (by
   cases q:H b with
   | none=>rfl
   | some u =>
    rcases hO b u q with⟨z,_⟩|⟨z,_⟩
    .subst z
     rw[hK (by rw[q];simp)]at e;cases e
    .have e2:=KX b o e
     rw[J b z]at e2
     have h2:=aL.mp f0 (b,o) (PySem.W.mem_of_lookupK e)
     have e3:o=ip #[]:=(av e2).symm
     subst e3
     exact absurd (show false=true from h2) aU)
  have hM:Mod K mg (aX7 G.heap H):=⟨c2,Z a6,⟨mb,Z hb,d0⟩,let⟨mc,h1,h2⟩:=c0;⟨mc,Z h1,h2⟩⟩
  have e5:BM mg (aX7 G.heap H):=by
   obtain⟨bm,ob,b1,b2,b3,b4,b5,b6⟩:=c3
   exact⟨bm,ob,b1,b2,af8 b3 (un bm ob b3 (by rw[b4];nofun) (by rw[b6];nofun)),b4,b5,b6⟩
  have d3:∀ q∈tabs,bU (aX7 G.heap H) q.1 q.2:=λ q hq=>by
   obtain⟨o,d2,b0,tf,a4,tg,d1,text,tt,e1,r1,r2⟩:=(hT q hq).1
   refine⟨o,d2,b0,tf,a4,tg,d1,text,tt,af8 e1 ?_,r1,r2⟩
   cases q2:H q.1 with
   | none=>rfl
   | some u =>
    rcases hO _ u q2 with⟨z,_⟩|⟨z,_⟩
    .rw[z,ha]at e1;cases e1;exact absurd r1 (by simp)
    .rw[J _ z]at e1;cases e1;exact absurd r1 (by simp)
  have e0:Env0 P w K mg (aX7 G.heap H) iz [] G H:=⟨rfl,hM,λ b o e=>bq5 e,kH (aS8 _ _),trivial,λ b hb=>absurd (show b∈([]:List Addr)from hb) (by simp),hok,.of_eq hg⟩
  refine gu ((F _ c2 (Z a6) e5 d3).run iz [] G H ⟨[.ref a],[]⟩ [.ref a] [.ref a] _ _ hr e0 (a3 G (.ref a)) (.cons rfl .nil) (f1 H e4 hS (λ u e=>(hO a u e).elim (λ z=>.inl z.2) (λ z=>.inr ⟨_,z.2⟩)))) λ r s' h=>?_
  cases r with
  | error e=>exact bM h
  | ok fl =>
   cases fl with
   | next=>exact bM h
   | brk=>exact bM h
   | cont=>exact bM h
   | ret u =>
    obtain⟨v,H',os,bare,a5,a1,r',q⟩:=h
    have q':v=.bl true:=q
    subst q'
    obtain rfl:u=Value.bool true:=r'
    have key:∀ b o,G.heap.get? b=some o->asItWas G.heap s'.heap b o/\∃ o',s'.heap.get? b=some o':=λ b o e=>by
     cases q:H b with
     | none =>
      have z:=a5.keep b o e q (by intro z;exact absurd (show b∈([]:List Addr)from z) (by simp)) (by simp)
      exact⟨.inl z,o,z⟩
     | some u =>
      rcases hO b u q with⟨_,ob,xs,z⟩|⟨z,z2⟩
      .subst z
       have z2:=a5.frzs b ob _ q
       obtain⟨e1,_⟩:=hok b _ q
       obtain⟨e2,_⟩:=a1 b _ z2
       rw[e]at e1;cases e1
       exact⟨.inl e2,_,e2⟩
      .subst z2
       obtain⟨a2,z3⟩:=a5.tbls b _ q
       have g:s'.heap.get? b=some { cls:=.none,data:=.fields (#[]++a2) }:=a1 b _ z3
       have e1:=J b z
       rw[e]at e1;cases e1
       obtain⟨p,hp,ep⟩:=bf.mp z
       refine⟨.inr (.inl ⟨?_,rfl,#[],a2,rfl,g⟩),_,g⟩
       have t:=((hT p hp).1.tab (hT p hp).2).isCodeTable
       rw[ep]at t
       exact t
    exact⟨rfl,⟨λ b o e=>(key b o e).1,λ b o e=>(key b o e).2⟩,os,bare⟩
 have tbl:∀ b,b∈tabs.map (·.2)->b≠a:=λ b h z=>by
  have e:=J b h
  rw[z,ha]at e;cases e
 cases hk:K.lookup a with
 | some o =>
  have e:=KX a o hk
  rw[ha]at e
  cases e
  refine a0 (λ b=>if b∈tabs.map (·.2)then some (.tbl #[])else none) (λ b u z=>?_) (λ q hq=>if_pos (bw hq)) (.inr ⟨_,vs.toArray,_,hk,rfl,rfl,rfl,by rw[aw,c1];exact hl,by simpa using rv⟩) (λ b u z=>?_) λ z=>?_
  .by_cases hb:b∈tabs.map (·.2)
   .have Y:=(if_pos hb).symm.trans z
    cases Y
    exact .inr ⟨hb,rfl⟩
   .have Y:=(if_neg hb).symm.trans z
    cases Y
  .by_cases hb:b∈tabs.map (·.2)
   .have Y:=(if_pos hb).symm.trans z
    cases Y
    exact J b hb
   .have Y:=(if_neg hb).symm.trans z
    cases Y
  .exact absurd (if_neg λ y=>tbl a y rfl) z
 | none =>
  refine a0 (λ b=>if b=a then some (.frz { cls:=.type "list",data:=.seq vs.toArray } (.lst (ns.map V.int)))else if b∈tabs.map (·.2)then some (.tbl #[])else none) (λ b u z=>?_) (λ q hq=>?_) (.inl (.inr ⟨{ cls:=.type "list",data:=.seq vs.toArray },if_pos rfl⟩)) (λ b u z=>?_) λ _=>hk
  .by_cases hb:b=a
   .have Y:=(if_pos hb).symm.trans z
    cases Y
    exact .inl ⟨hb,_,_,rfl⟩
   .have Y:=(if_neg hb).symm.trans z
    by_cases hc:b∈tabs.map (·.2)
    .rw[if_pos hc]at Y;cases Y;exact .inr ⟨hc,rfl⟩
    .rw[if_neg hc]at Y;cases Y
  .have hm:q.2∈tabs.map (·.2):=bw hq
   show(if _ then _ else if _ then _ else _)=_
   rw[if_neg (tbl _ hm),if_pos hm]
  .by_cases hb:b=a
   .have Y:=(if_pos hb).symm.trans z
    cases Y
    subst hb
    exact⟨ha,by rw[aD];exact hl,vs,_,rv,ha⟩
   .have Y:=(if_neg hb).symm.trans z
    by_cases hc:b∈tabs.map (·.2)
    .rw[if_pos hc]at Y;cases Y;exact J b hc
    .rw[if_neg hc]at Y;cases Y
theorem aP2 {ts:List Addr}{l:c4}{n k:Nat}{q:aB}{loose:yI}{XP:(Str->Option Value)->Heap->Prop}{YP:World->Heap->Prop}{d:DefRec}{K:Params->ae}{sp:ae->Sp}{x:Str}(names:yI)
  (hn:l.most=some n) (b0:n<=aG) (a5:d.params.defaults=[]) (hr:Room k iz)
  (hY:∀(w:World) (h:Heap),YP w h->(K w.params).In h/\∀ P∈ts,h.get? P=some (ip #[])) (a1:∀ w:World,bI5 (K w.params) names ts=true) (a6:∀ w:World,kq (K w.params)=true)
  (F:∀(w:World) (Z:yD) (fa:Addr) (h:Heap),(K w.params).In h->h.Ns bp Z->Z d.name=some (.ref fa) ->
   ∃ fd:bH,(∀(s:af) (u:Value),jZ s fd ⟨[u],[]⟩ [(x,u)]) /\
    ∀ base:Heap,(K w.params).In base->base.Ns bp Z->BM Z base->by1 (K w.params) names base->FnOk l.prog w (K w.params) Z base CX0 k fa fd [x] (sp (K w.params)))
  (b1:∀(K:ae) (H:Hp) (a:Addr) (ns:List Int),ns.length<=n->bx4 K names H->SqL K H a (ns.map V.int)->(∀ u,H a=some u->(∃ o xs,u=.frz o (.lst xs))\/∃ ps,u=.tbl ps)->sp K [.ref a] H (λ v _=>v=.bl true) E0) :
  kx q loose XP YP l.row.toRowW d [] (λ f vs=>j3 f vs):=by
 refine Att.attach_call hn a5 λ w s₀ s₁ Z mb fa o pm cd b2 a vs ns G Y ho hd b3 a3 a2 a0 J hg=>?_
 obtain⟨KX,a4⟩:=hY w _ Y
 obtain⟨fd,hb,hF⟩:=F w Z fa _ KX G.T.g a3
 have hT:ko ((as2 (K w.params) names).map (·.2)) s₁.heap:=λ p hp=>by
  obtain⟨y,hy,rfl⟩:=bf.mp hp
  obtain⟨h1,h2⟩:=am8.mp hy
  have z:=aL.mp (a1 w) y.1 h1
  rw[h2]at z
  have z':(jK (K w.params) y.2.1 y.2.2&&ts.contains y.2.2)=true:=z
  rw[ag]at z'
  exact⟨PySem.W.codeHd_of_K KX z'.1,a4 _ (by simpa using z'.2)⟩
 have hm:∀ x∈names,∀ c P,bj (K w.params) x=some (c,P)->(c,P)∈(as2 (K w.params) names).map (·.2):=λ x hx c P e=>bf.mpr ⟨(x,c,P),am8.mpr ⟨hx,e⟩,rfl⟩
 refine aH3 (tabs:=(as2 (K w.params) names).map (·.2)) KX G.T.g G.T.b G.T.builtins G.T.nolimit hg ?_ hT (a6 w) a2 a0 (ak J b0) hr (λ base k1 k2 k3 k4=>hF base k1 k2 k3 λ x hx c P e=>k4 _ (hm x hx c P e)) hb λ H hO hS hF=>b1 (K w.params) H a ns J (λ x hx c P e=>hO _ (hm x hx c P e)) hS hF
 obtain⟨bm,ob,h1,h2,h3,h4,h5,h6⟩:=G.T.bmain
 exact⟨bm,ob,h1,h2,h3,h4,h5,h6⟩
def spB (names:yI)(K:ae):Sp:=λ vs H Q _=>∃(a:Addr) (ns:List Int),vs=[.ref a]/\SqF K H a (ns.map V.int)/\ns.length<=63/\bx4 K names H/\∀ H',Q (.bl true) H'
theorem bN9 {names:yI}{K:ae}{H:Hp}{a:Addr}{ns:List Int}(hl:ns.length<=63)(F:bx4 K names H)(p:SqL K H a (ns.map V.int))(G:∀ u,H a=some u->(∃ o J,u=.frz o (.lst J))\/∃ ps,u=.tbl ps):spB names K [.ref a] H (λ v _=>v=.bl true) E0:=by
 refine⟨a,ns,rfl,⟨p,λ H' k=>?_⟩,hl,F,λ _=>rfl⟩
 rcases p with(h|⟨o,h⟩)|h
 .rcases G _ h with⟨_,_,z⟩|⟨_,z⟩<;>cases z
 .exact .inl (.inr ⟨o,k _ _ h rfl⟩)
 .exact .inr h
def ce0 (P:ly):String->LamI->Prop:=λ id J=>∃ L,P.lm id=some L/\LamGood J L
noncomputable def sfx (x:Str):Str:=if x = "letter_table" then "least_fee" else "<lambda>"
noncomputable def bp9 (names:yI)(K:ae):List (Addr×Str):=names.map λ x=>(((bj K x).getD (0,0)).2,x ++ ".<locals>."++sfx x)
noncomputable def bv5 (names:yI)(K:ae):List (Addr×Addr):=names.map λ x=>(bj K x).getD (0,0)
noncomputable def bS0 (K:ae)(f:String):Option Addr:=match cy K bp (f:Str)with
 | some (some (.ref a))=>(match K.lookup a with
  | some ⟨_,_,.func _,_⟩=>some a
  | _=>none)
 | _=>none
theorem aG5 {K:ae}{f:String}{a:Addr}(h:bS0 K f=some a):cy K bp (f:Str)=some (some (.ref a))/\∃ oc od p sl,K.lookup a=some ⟨oc,od,.func p,sl⟩:=by
 unfold bS0 at h
 split at h
 .rename_i z e
  split at h
  .rename_i oc od p sl e2
   cases h
   exact⟨e,_,_,_,_,e2⟩
  .cases h
 .cases h
noncomputable def aV6 (P:ly)(K:ae)(c:String):Option Addr:=match P.mt c "__init__" with
 | some _=>(match cy K bp (c:Str)with|some (some (.ref Cc))=>some Cc|_=>none)
 | none=>none
noncomputable abbrev aB0 (names:yI)(P:ly)(K:ae):Gm:=⟨K,bS0 K,ce0 P,bp9 names K,aV6 P K⟩
theorem bW2 {names:yI}{P:ly}{K:ae}{h:Heap}{p:yD}(X:K.In h)(G:h.Ns bp p):∀(f:String) (a:Addr),(aB0 names P K).fa f=some a->p (f:Str)=some (.ref a)/\∃ oc od z sl,(aB0 names P K).K.lookup a=some ⟨oc,od,.func z,sl⟩:=λ f a e=>⟨dD X G (aG5 e).1,(aG5 e).2⟩
theorem bb2 {names:yI}{P:ly}{K:ae}(ht:∀ x∈names,(bj K x).isSome=true){vs:List V}{H:Hp}{Q:VK}{E:XK}(q:spB names K vs H Q E):spT (aB0 names P K) vs H Q E:=by
 obtain⟨a,ns,e,G,hl,z,F⟩:=q
 refine⟨a,ns,e,G,hl,TabsH.init λ p h=>?_,F⟩
 simp only[bp9,ee]at h
 obtain⟨x,hx,rfl⟩:=bf.mp h
 exact z x hx _ _ (aq4 (ht x hx))
theorem bj2 {names:yI}{K:ae}{h:yD}{base:Heap}(ht:∀ x∈names,(bj K x).isSome=true)(bm:BM h base)(hc:by1 K names base):∀ y∈bv5 names K,bU base y.1 y.2/\BM h base:=λ y hy=>by
 obtain⟨x,hx,rfl⟩:=bf.mp hy
 exact⟨hc x hx _ _ (aq4 (ht x hx)),bm⟩
theorem az7 {p:bV}{ps:yI}(h:lamArgs p=some ps):∃ args,p=⟨[],args,none,[],[],none,[]⟩/\args.map (·.arg)=ps:=by
 unfold lamArgs at h
 split at h
 .exact⟨_,rfl,av h⟩
 .cases h
def bb9 (ps:yI):Prop:=∀ params,lamArgs params=some ps->∀(qual:Str) (body:Expr) (scope:Scope) (clos:yC) (doc pm:Value) (c':Addr) (ctv:Value) (us:yH),us.length=ps.length->dA (dj "<lambda>" qual params body scope clos pm (.ref c') ctv) ⟨us,[]⟩=pure (ps.zip us) /\
 ∀(nm:Str) (rp:Pos),dA (fR nm qual params [.Return (some body) rp] scope clos .none .none doc pm none (.ref c') ctv) ⟨us,[]⟩=pure (ps.zip us)
noncomputable def aX3 (ps fr:yI)(sc:Scope):Bool:=decide (sc.kind=.function)&&!sc.isCoroutine&&!sc.isGenerator&&decide ((ps++fr).Nodup)&&(ps.all λ x=>decide (sc.names.lookup x=some .local)||decide (sc.names.lookup x=some .cell))&&(fr.all λ x=>decide (sc.names.lookup x=some .free))&&(sc.names.all λ y=>!decide (y.2=.cell)||decide (sc.names.lookup y.1=some .cell))
theorem aR3 {ps fr:yI}{sc:Scope}(h:aX3 ps fr sc=true):LamScope (ps++fr) ps fr sc:=by
 unfold aX3 at h
 simp only[ag,decide_eq_true_eq,fT,aL,bh]at h
 obtain⟨⟨⟨⟨⟨⟨F,J⟩,h3⟩,G⟩,Z⟩,Y⟩,p⟩:=h
 exact⟨F,J,h3,G,rfl,Z,Y,λ y hy e=>by
  rcases p y hy with z|z
  .rw[e]at z;simp at z
  .exact z⟩
noncomputable def bD5 (scope sc:Scope):Bool:=scope.names.all λ y=>!decide (scope.names.lookup y.1=some .free)||decide (sc.names.lookup y.1=some .cell)
theorem bf8 {scope sc:Scope}(h:bD5 scope sc=true):∀ x,scope.names.lookup x=some .free->sc.names.lookup x=some .cell:=λ x hx=>by
 have:=aL.mp h (x,.free) (aF hx)
 simp only[bh,fT,decide_eq_false_iff_not,decide_eq_true_eq]at this
 rcases this with z|z
 .exact absurd hx z
 .exact z
noncomputable def lkB (sc:Scope)(N:yI)(caps:List Nat)(params:bV)(body:Expr)(scope:Scope)(t:mJ×List Str×List Str):Bool :=
 decide (lamArgs params=some t.2.1)&&decide (caps.map (λ j=>N[j]?)=t.2.2.map some)&&lamCheck scope sc&&bD5 scope sc&&aX3 t.2.1 t.2.2 scope&&decide (t.2.1.length=t.1.ps)&&decide (t.2.2.length=t.1.cs)&&mE (ck0 (t.2.1++t.2.2) scope) t.1.body body
noncomputable def lkG (f:Str)(sc:Scope)(N:yI)(tab:List (String×mJ×List Str×List Str))(id:String)(caps:List Nat)(E:Expr):Bool:=match tab.lookup id,E with
 | some t,.Lambda params body scope _=>decide (sfx f = "<lambda>")&&lkB sc N caps params body scope t
 | some t,.NamedExpr (.Name nm _) (.Lambda params body scope p1) p2=>decide (sfx f=nm)&&decide (p1=p2)&&lkB sc N caps params body scope t
 | _,_=>false
theorem bo0 {names:yI}{P:ly}{K:ae}{f:Str}{sc:Scope}{N:yI}{fd:bH}{tab:List (String×mJ×List Str×List Str)}(hf:f∈names)(G:fd.code=.ref ((bj K f).getD (0,0)).1)(a0:∀ y∈sc.names,y.2=.cell->sc.names.lookup y.1=some .cell)
  (J:∀ id t,tab.lookup id=some t->P.lm id=some t.1/\bb9 t.2.1):bo9 (aB0 names P K) (bv5 names K) f sc N fd (lkG f sc N tab):=by
 intro id z E h
 have F:∀(t:mJ×List Str×List Str) (params:bV) (body:Expr) (scope:Scope) (Z:Option (Str×Pos)),tab.lookup id=some t->lkB sc N z params body scope t=true->(match Z with|none => "<lambda>" | some p=>p.1)=sfx f ->
   LkAt (aB0 names P K) (bv5 names K) f sc N fd id z params body scope ((bj K f).getD (0,0)).1 ((bj K f).getD (0,0)).2 ⟨f ++ ".<locals>."++sfx f,params,body,scope,t.2.1,t.2.2,Z⟩:=λ t params body scope Z e h hs=>by
  obtain⟨L,ps,fr⟩:=t
  unfold lkB at h
  simp only[ag,decide_eq_true_eq]at h
  obtain⟨⟨⟨⟨⟨⟨⟨h1,h2⟩,h3⟩,h4⟩,h5⟩,h6⟩,h7⟩,h8⟩:=h
  obtain⟨hL,hB⟩:=J id _ e
  obtain⟨args,rfl,a1⟩:=az7 h1
  have Y:fr.length=z.length:=by have:=congrArg kX h2;simpa using this.symm
  have S:=aR3 h5
  refine⟨G,bf.mpr ⟨f,hf,rfl⟩,h3,bf8 h4,a0,λ env=>rfl,⟨L,hL,⟨S,h6,h7,h8,h1,λ a3 a5 pm c' a4 us a2=>hB _ h1 _ _ _ _ _ _ _ _ _ a2⟩⟩,?_,rfl,rfl,rfl,Y,λ i j x e1 e2=>?_,S.frs,bf.mpr ⟨f,hf,rfl⟩⟩
  .show f ++ ".<locals>."++sfx f=f ++ ".<locals>."++LamI.own _
   unfold LamI.own
   rw[<-hs]<;>rfl
  .have e3:(z.map (λ j=>N[j]?))[i]?=some (N[j]?):=by rw[aC,e1];rfl
   rw[h2,aC,e2]at e3
   exact(av e3).symm
 unfold lkG at h
 split at h
 case h_3=>cases h
 .rename_i t params body scope pos e
  rw[ag]at h
  exact⟨_,_,params,body,scope,pos,_,rfl,F t params body scope none e h.2 (of_decide_eq_true h.1).symm⟩
 .rename_i t Z rp params body scope p1 p2 e
  rw[ag,ag]at h
  have ep:=of_decide_eq_true h.1.2
  subst ep
  exact⟨_,_,params,body,scope,p1,_,rfl,F t params body scope (some (Z,rp)) e h.2 (of_decide_eq_true h.1.1).symm⟩
theorem aQ6 {names:yI}{P:ly}{K:ae}{f:Str}{sc:Scope}{N:yI}{p:bH}:bo9 (aB0 names P K) (bv5 names K) f sc N p (λ _ _ _=>false):=λ _ _ _ h=>by cases h
theorem bY4 {names:yI}{P:ly}{K:ae}:∀ id J,(aB0 names P K).lg id J->∃ L,P.lm id=some L/\LamGood J L:=λ _ _ h=>h
theorem bY2 {P:ly}{tab:List (String×mJ×List Str×List Str)}(h:∀ p∈tab,P.lm p.1=some p.2.1/\bb9 p.2.2.1):∀ id t,tab.lookup id=some t->P.lm id=some t.1/\bb9 t.2.1:=by
 induction tab with
 | nil=>intro id t e;cases e
 | cons y l ih =>
  intro id t e
  rw[aV]at e
  cases q:id==y.1 with
  | true =>
   rw[q]at e
   cases e
   rw[eq_of_beq q]
   exact h y (aA ..)
  | false =>
   rw[q]at e
   exact ih (λ p z=>h p (au _ z)) id t e
def bY3 (K:ae)(n:Str)(st:Stmt):Prop:=∃(f:Addr) (od an:yJ) (sl:yF) (oc kV dc pm cd ct:Value),cy K bp n=some (some (.ref f)) /\
 K.lookup f=some ⟨oc,od,.func (cx n n (defArgs st) (defBody st) (defScope st) .none kV dc pm an cd ct),sl⟩/\dZ K cd n=true/\bz K (.ref f)=true
def bZ2 (n:Str)(st:Stmt)(ps:yI):Prop:=∀(kV doc pm:Value) (an:yJ) (cdv ct:Value) (us:yH),us.length=ps.length->dA (cx n n (defArgs st) (defBody st) (defScope st) .none kV doc pm an cdv ct) ⟨us,[]⟩=pure (ps.zip us)
theorem bd0 {Q:List Value->Prop}(h:Q [])(us:yH)(hl:us.length=0):Q us:=by
 cases us with
 | nil=>exact h
 | cons _ _=>cases hl
theorem bdS {k:Nat}{Q:List Value->Prop}(h:∀ a us,us.length=k->Q (a::us))(us:yH)(hl:us.length=k+1):Q us:=by
 cases us with
 | nil=>cases hl
 | cons a us=>exact h a us (kK hl)
theorem bd1 {Q:List Value->Prop}(h:∀ a,Q [a]):∀ us:List Value,us.length=1->Q us:=bdS λ a=>bd0 (h a)
theorem bd2 {Q:List Value->Prop}(h:∀ a b,Q [a,b]):∀ us:List Value,us.length=2->Q us:=bdS λ a=>bd1 (h a)
theorem bd3 {Q:List Value->Prop}(h:∀ a b c,Q [a,b,c]):∀ us:List Value,us.length=3->Q us:=bdS λ a=>bd2 (h a)
theorem bd4 {Q:List Value->Prop}(h:∀ a b c d,Q [a,b,c,d]):∀ us:List Value,us.length=4->Q us:=bdS λ a=>bd3 (h a)
def DTB (names:yI)(P:ly)(n:String)(pc vc:Nat)(m:Ck->List Stmt->Bool)(st:Stmt):Prop:=∃ N ps,FnScope N ps (defScope st)/\ps.length=pc/\N.length=pc+vc/\bZ2 n st ps/\(m ⟨N,defScope st,λ _ _ _=>false⟩ (defBody st)=true \/
 ((n:Str)∈names/\∃ tab,m ⟨N,defScope st,lkG n (defScope st) N tab⟩ (defBody st)=true/\(∀ y∈(defScope st).names,y.2=.cell->(defScope st).names.lookup y.1=some .cell)/\∀ p∈tab,P.lm p.1=some p.2.1/\bb9 p.2.2.1))
def DT (names:yI)(P:ly)(n:String)(d:lR)(st:Stmt):Prop:=DTB names P n d.ps d.vs (λ ck S=>mSs ck d.body S) st
theorem aY4 {names:yI}{P:ly}{K:ae}{h:Heap}{z:yD}{n:String}{Z Y:Nat}{m:Ck->List Stmt->Bool}{st:Stmt}(X:K.In h)(G:h.Ns bp z)(hT:∀ x∈names,(bj K x).isSome=true)(hD:bY3 K n st)(hd:DTB names P n Z Y m st):GoodB (aB0 names P K) (bv5 names K) z n Z Y m:=by
 obtain⟨f,od,an,sl,oc,kV,dc,pm,cd,ct,a,l,c,k⟩:=hD
 obtain⟨N,ps,J,h2,h3,h4,p⟩:=hd
 have F:=aT1 (st:=st) l c k
 have D:DefAt K z n st ps f _:=⟨F,dD X G a,F.binds h4⟩
 rcases p with p|⟨hn,tab,p,h6,h7⟩
 .exact⟨_,_,_,_,_,_,D,J,h2,h3,p,aQ6⟩
 .exact⟨_,_,_,_,_,_,D,J,h2,h3,p,bo0 hn (PySem.W.law_code X G (aq4 (hT _ hn)) (dD X G a) (X _ _ l) rfl) h6 (bY2 h7)⟩
theorem good_of {names:yI}{P:ly}{K:ae}{h:Heap}{p:yD}{n:String}{d:lR}{st:Stmt}(X:K.In h)(G:h.Ns bp p)(hT:∀ x∈names,(bj K x).isSome=true)(hD:bY3 K n st)(hd:DT names P n d st):Good (aB0 names P K) (bv5 names K) p n d:=aY4 X G hT hD hd
def cb9 (K:ae)(c m:String)(st:Stmt):Prop:=∃(f Cc:Addr) (od an:yJ) (sl:yF) (oc kV dc pm cd ct:Value),cy K bp (c:Str)=some (some (.ref Cc))/\bq K (.ref Cc) (m:Str)=some (some (.ref f)) /\
 K.lookup f=some ⟨oc,od,.func (cx (m:Str) ((c ++ "."++m:String):Str) (defArgs st) (defBody st) (defScope st) .none kV dc pm an cd ct),sl⟩/\dZ K cd ((c ++ "."++m:String):Str)=true/\bz K (.ref f)=true/\gr K (.ref f)=true
def bX8 (x q:Str)(st:Stmt)(ps:yI):Prop:=∀(kV doc pm:Value) (an:yJ) (cdv ct:Value) (us:yH),us.length=ps.length->dA (cx x q (defArgs st) (defBody st) (defScope st) .none kV doc pm an cdv ct) ⟨us,[]⟩=pure (ps.zip us)
def DTM (c m:String)(d:lR)(st:Stmt):Prop:=∃ N ps,FnScope N ps (defScope st)/\ps.length=d.ps/\N.length=d.ps+d.vs/\bX8 (m:Str) ((c ++ "."++m:String):Str) st ps/\mSs ⟨N,defScope st,λ _ _ _=>false⟩ d.body (defBody st)=true
noncomputable def cb3 (K:ae)(Cc:Addr)(f:List Nat):Bool:=match bq K (.ref Cc) ⟨f.toArray⟩with|some none=>true|_=>false
noncomputable def saB (K:ae)(Cc:Addr):Bool:=match bq K (.ref Cc) "__setattr__" with|some (some (.builtin x))=>x == "object.__setattr__" | _=>false
noncomputable def bG0 (K:ae)(c:String)(fs:List (List Nat)):Bool:=match cy K bp (c:Str)with
 | some (some (.ref Cc))=>dq K Cc Str.empty&&(dY K Cc&&(fK K Cc&&(saB K Cc&&(c6 K Cc&&(bz K (.ref Cc)&&fs.all (cb3 K Cc))))))
 | _=>false
theorem ax5 {K:ae}{c:String}{fs:List (List Nat)}(h:bG0 K c fs=true):∃ Cc,cy K bp (c:Str)=some (some (.ref Cc))/\Cls K Cc/\c6 K Cc=true/\bz K (.ref Cc)=true/\∀ f∈fs,NoAttr K Cc ⟨f.toArray⟩:=by
 unfold bG0 at h
 split at h
 .rename_i Cc e
  simp only[ag]at h
  obtain⟨F,J,h3,p,Z,Y,z⟩:=h
  refine⟨Cc,e,⟨F,J,h3,?_⟩,Z,Y,λ f G=>?_⟩
  .unfold saB at p
   split at p
   .rename_i x e2;rw[e2,eq_of_beq p]
   .cases p
  .have:=aL.mp z f G
   unfold cb3 at this
   split at this
   .rename_i e2;exact e2
   .cases this
 .cases h
theorem qt {α β:Type}[BEq α][LawfulBEq α]:∀ {tbl:List (α×β)} {a:α} {b:β},tbl.lookup a=some b->(a,b)∈tbl
 | [],_,_,h=>by cases h
 | (g,e)::tbl,a,b,h=>by
  rw[aV]at h
  cases q:a==g with
  | true=>rw[q]at h;cases h;rw[eq_of_beq q];exact aA ..
  | false=>rw[q]at h;exact au _ (qt h)
theorem bF6 {names:yI}{P:ly}{K:ae}{h:Heap}{mg:yD}{mtb:List ((String×String)×lR×Stmt)}{obt:List (String×List (List Nat))}(X:K.In h)(G:h.Ns bp mg)
  (e1:∀ c m,P.mt c m=(mtb.lookup (c,m)).map (·.1)) (e2:∀ c f,P.att c f=(obt.lookup c).any λ l=>l.contains f) (hO:(obt.all λ p=>bG0 K p.1 p.2)=true) (hc:(mtb.all λ p=>(obt.lookup p.1.1).isSome&&(mtb.lookup (p.1.1, "__init__")).isSome)=true)
  (hM:∀ p∈mtb,cb9 K p.1.1 p.1.2 p.2.2) (hT:∀ p∈mtb,DTM p.1.1 p.1.2 p.2.1 p.2.2) :
  (∀ c m d,P.mt c m=some d->GoodM (aB0 names P K) c m d)/\(∀(c:String) (f:List Nat) (Cc:Addr),P.att c f=true->(aB0 names P K).cls c=some Cc->NoAttr K Cc ⟨f.toArray⟩) /\
  ∀(c:String) (Cc:Addr),(aB0 names P K).cls c=some Cc->mg (c:Str)=some (.ref Cc)/\c6 K Cc=true/\bz K (.ref Cc)=true:=by
 have ns:∀ {c:String} {Cc:Addr},(aB0 names P K).cls c=some Cc->cy K bp (c:Str)=some (some (.ref Cc))/\(P.mt c "__init__").isSome=true:=λ {c Cc} e=>by
  have e:aV6 P K c=some Cc:=e
  unfold aV6 at e
  split at e
  .rename_i d hd
   split at e
   .rename_i Z hn;cases e;exact⟨hn,by rw[hd];rfl⟩
   .cases e
  .cases e
 have at_:∀ {c:String} {l:List (List Nat)},obt.lookup c=some l->bG0 K c l=true:=λ {c l} e=>aL.mp hO _ (qt e)
 have ob:∀ {c m:String} {p:lR×Stmt},mtb.lookup (c,m)=some p->∃ l,obt.lookup c=some l:=λ {c m p} e=>by
  have:=aL.mp hc _ (qt e)
  rw[ag]at this
  exact b7.mp this.1
 refine⟨λ c m d e=>?_,λ c f Cc e q=>?_,λ c Cc q=>?_⟩
 .rw[e1]at e
  obtain⟨p,J,rfl⟩:=bt.mp e
  obtain⟨l,hl⟩:=ob J
  obtain⟨Cc,z,n2,_⟩:=ax5 (at_ hl)
  obtain⟨f,Z,od,an,sl,oc,kV,dc,pm,cd,ct,a1,a2,a3,a4,a5,a6⟩:=hM _ (qt J)
  rw[z]at a1;cases a1
  obtain⟨N,ps,b1,b2,b3,b4,b5⟩:=hT _ (qt J)
  have F:=aT1 (st:=p.2) a3 a4 a5
  have Y:=aL.mp hc _ (qt J)
  rw[ag]at Y
  have b0:aV6 P K c=some Cc:=by
   unfold aV6
   obtain⟨p0,a0⟩:=b7.mp Y.2
   rw[e1,show mtb.lookup (c, "__init__")=some p0 from a0,gP]
   show(match cy K bp (c:Str)with|some (some (.ref Cc))=>some Cc|_=>none)=some Cc
   rw[z]
  exact⟨p.2,N,ps,f,_,Cc,⟨b0,n2⟩,⟨a2,a6,a5⟩,F,F.binds b4,b1,b2,b3,b5⟩
 .rw[e2]at e
  cases hl:obt.lookup c with
  | none=>rw[hl]at e;cases e
  | some l =>
   rw[hl]at e
   obtain⟨Z,z,_,_,_,n5⟩:=ax5 (at_ hl)
   rw[(ns q).1]at z;cases z
   exact n5 f (List.contains_iff_mem.mp e)
 .obtain⟨n0,Y⟩:=ns q
  rw[e1]at Y
  obtain⟨d,hd⟩:=b7.mp Y
  obtain⟨p,J,_⟩:=bt.mp hd
  obtain⟨l,hl⟩:=ob J
  obtain⟨Z,z,_,n3,n4,_⟩:=ax5 (at_ hl)
  rw[n0]at z;cases z
  exact⟨dD X G n0,n3,n4⟩
end L2
end
noncomputable section
namespace DV
noncomputable def w_bag:Df:=⟨"_law_bag",2,3,(.cons (.asg (.one 2) (.cst (.int 0))) (.cons (.ite (.cmp .lt (.var 1) (.bi .len (.cons (.var 0) .nil))) (.cons (.asg (.one 2) (.bi .abs (.cons (.ix (.var 0) (.var 1)) .nil))) .nil) .nil) (.cons (.asg (.one 3) (.bin .add (.bin .mul (.cst (.int 7919)) (.var 1)) (.cst (.int 17)))) (.cons (.for_ (.one 4) (.rng1 (.bi .min2 (.cons (.bi .len (.cons (.var 0) .nil)) (.cons (.cst (.int 60)) .nil)))) (.cons (.asg (.one 3) (.bin .mod (.bin .add (.bin .add (.bin .mul (.var 3) (.cst (.int 48271))) (.bin .mod (.ix (.var 0) (.var 4)) (.cst (.int 2147483647)))) (.var 4)) (.cst (.int 2147483629)))) .nil)) (.cons (.ite (.cmp .lt (.var 2) (.bin .pow (.cst (.int 10)) (.cst (.int 18)))) (.cons (.asg (.one 2) (.cst (.int 0))) .nil) .nil) (.cons (.ret (.lst (.cons (.var 2) (.cons (.var 3) .nil)))) .nil))))))⟩
noncomputable def w_take:Df:=⟨"_law_take",2,3,(.cons (.ite (.cmp .gt (.ix (.var 0) (.cst (.int 0))) (.cst (.int 0))) (.cons (.asg (.one 2) (.bin .mod (.ix (.var 0) (.cst (.int 0))) (.var 1))) (.cons (.setIx (.var 0) (.cst (.int 0)) (.bin .fdiv (.ix (.var 0) (.cst (.int 0))) (.var 1))) (.cons (.ret (.var 2)) .nil))) .nil) (.cons (.asg (.one 3) (.cst (.int 0))) (.cons (.asg (.one 4) (.cst (.int 1))) (.cons (.whl (.cmp .lt (.var 4) (.var 1)) (.cons (.setIx (.var 0) (.cst (.int 1)) (.bin .mod (.bin .add (.bin .mul (.ix (.var 0) (.cst (.int 1))) (.cst (.int 48271))) (.cst (.int 7919))) (.cst (.int 2147483647)))) (.cons (.asg (.one 3) (.bin .add (.bin .mul (.var 3) (.cst (.int 1073741789))) (.bin .mod (.bin .mul (.bin .fdiv (.ix (.var 0) (.cst (.int 1))) (.cst (.int 8))) (.cst (.int 69621))) (.cst (.int 1073741789))))) (.cons (.asg (.one 4) (.bin .mul (.var 4) (.cst (.int 1073741789)))) .nil)))) (.cons (.ret (.bin .mod (.var 3) (.var 1))) .nil)))))⟩
noncomputable def w_word:Df:=⟨"_law_word",3,2,(.cons (.asg (.one 3) (.cst (.str []))) (.cons (.for_ (.one 4) (.rng1 (.call "_law_take" (.ex (.var 0) (.ex (.bin .add (.var 2) (.cst (.int 1))) .nil)))) (.cons (.asg (.one 3) (.bin .add (.var 3) (.ix (.cst (.str [97,98,99])) (.call "_law_take" (.ex (.var 0) (.ex (.var 1) .nil)))))) .nil)) (.cons (.ret (.var 3)) .nil)))⟩
noncomputable def bO8:Df:=⟨"grid",2,2,.nil⟩
noncomputable def ak7:Df:=⟨"sign_product",2,1,.nil⟩
noncomputable def ad8:Lm:=⟨"sign_product.0",2,3,(.mk .min (.comp (.one 0) (.rng1 (.var 2)) (.bi .max2 (.cons (.ix (.ix (.var 1) (.var 2)) (.var 0)) (.cons (.ix (.ix (.var 3) (.var 0)) (.var 4)) .nil))) [none,some 3,some 0,some 4,some 1]))⟩
noncomputable def cc6:Df:=⟨"_law_on",3,5,.nil⟩
noncomputable def w_set_2:Df:=⟨"_law_set",4,4,(.cons (.asg (.one 4) (.call "_law_take" (.ex (.var 0) (.ex (.cst (.int 8)) .nil)))) (.cons (.ite (.or (.cmp .eq (.var 1) (.cst (.int 1))) (.or (.cmp .lt (.var 2) (.cst (.int 3))) (.cmp .eq (.var 4) (.cst (.int 0))))) (.cons (.asg (.one 5) (.call "_law_take" (.ex (.var 0) (.ex (.cst (.int 4)) .nil)))) (.cons (.ite (.or (.cmp .eq (.var 5) (.cst (.int 3))) (.cmp .eq (.ix (.var 3) (.cst (.int 0))) (.cst (.int 0)))) (.cons (.ret (.tup (.cons (.cst (.str [110,111,116,104,105,110,103])) .nil))) .nil) .nil) (.cons (.setIx (.var 3) (.cst (.int 0)) (.bin .sub (.ix (.var 3) (.cst (.int 0))) (.cst (.int 1)))) (.cons (.ret (.tup (.cons (.cst (.str [108,101,116,116,101,114])) (.cons (.ix (.cst (.str [97,98,99])) (.var 5)) .nil)))) .nil)))) .nil) (.cons (.ite (.cmp .lt (.var 4) (.cst (.int 3))) (.cons (.ret (.tup (.cons (.cst (.str [114,101,112,101,97,116])) (.cons (.call "_law_set" (.ex (.var 0) (.ex (.bin .sub (.var 1) (.cst (.int 1))) (.ex (.bin .sub (.var 2) (.cst (.int 1))) (.ex (.var 3) .nil))))) .nil)))) .nil) .nil) (.cons (.asg (.one 6) (.bin .add (.cst (.int 1)) (.call "_law_take" (.ex (.var 0) (.ex (.bin .sub (.var 2) (.cst (.int 2))) .nil))))) (.cons (.asg (.one 7) (.call "_law_set" (.ex (.var 0) (.ex (.bin .sub (.var 1) (.cst (.int 1))) (.ex (.var 6) (.ex (.var 3) .nil)))))) (.cons (.ret (.tup (.cons (.ix (.lst (.cons (.cst (.str [101,105,116,104,101,114])) (.cons (.cst (.str [98,101,104,105,110,100])) .nil))) (.bin .mod (.var 4) (.cst (.int 2)))) (.cons (.var 7) (.cons (.call "_law_set" (.ex (.var 0) (.ex (.bin .sub (.var 1) (.cst (.int 1))) (.ex (.bin .sub (.bin .sub (.var 2) (.cst (.int 1))) (.var 6)) (.ex (.var 3) .nil))))) .nil))))) .nil))))))⟩
noncomputable def d_rooms_for:Df:=⟨"rooms_for",1,2,(.cons (.asg (.one 1) (.new "Rooms" .nil)) (.cons (.asg (.one 2) (.mcall (.var 1) "lay" (.ex (.var 0) .nil))) (.cons (.ex (.mcall (.var 1) "link" (.ex (.lst (.cons (.cst (.int 0)) .nil)) (.ex (.ix (.var 2) (.cst (.int 1))) .nil)))) (.cons (.setA (.var 1) [101,110,100,115] (.ite (.ix (.var 2) (.cst (.int 0))) (.srt (.bin .add (.lst (.cons (.cst (.int 0)) .nil)) (.ix (.var 2) (.cst (.int 2))))) (.srt (.ix (.var 2) (.cst (.int 2)))))) (.cons (.ret (.var 1)) .nil)))))⟩
noncomputable def d_led_by:Df:=⟨"led_by",3,3,(.cons (.asg (.one 3) (.dic .nil .nil)) (.cons (.for_ (.one 4) (.seq (.var 1)) (.cons (.forK (.one 5) (.ix (.attr (.var 0) [102,111,108,108,111,119,115]) (.var 4)) (.cons (.ite (.cmp .eq (.ix (.attr (.var 0) [108,101,116,116,101,114,115]) (.var 5)) (.var 2)) (.cons (.setIx (.var 3) (.var 5) (.cst (.bl true))) .nil) .nil) .nil)) .nil)) (.cons (.ret (.keysL (.var 3))) .nil)))⟩
noncomputable def d_ends_from:Df:=⟨"ends_from",3,3,(.cons (.asg (.one 3) (.lst .nil)) (.cons (.asg (.one 4) (.lst (.cons (.cst (.int 0)) .nil))) (.cons (.for_ (.one 5) (.rng2 (.var 2) (.bin .add (.bi .len (.cons (.var 1) .nil)) (.cst (.int 1)))) (.cons (.ite (.mk .any (.comp (.one 0) (.seq (.var 4)) (.cmp .isin (.var 0) (.attr (.var 1) [101,110,100,115])) [none,some 0])) (.cons (.ex (.meth .append (.var 3) (.cons (.var 5) .nil))) .nil) .nil) (.cons (.asg (.one 4) (.call "led_by" (.ex (.var 0) (.ex (.var 4) (.ex (.slLU (.var 1) (.var 5) (.bin .add (.var 5) (.cst (.int 1)))) .nil))))) .nil))) (.cons (.ret (.var 3)) .nil))))⟩
noncomputable def d_holds : Df := ⟨"holds", 2, 0, (.cons (.ret (.cmp .isin (.bi .len (.cons (.var 1) .nil)) (.call "ends_from" (.ex (.call "rooms_for" (.ex (.var 0) .nil)) (.ex (.var 1) (.ex (.cst (.int 0)) .nil)))))) .nil)⟩
noncomputable def w_onward:Df:=⟨"_law_onward",2,2,(.cons (.asg (.one 2) (.cst (.int 0))) (.cons (.whl (.cmp .gt (.var 0) (.cst (.int 0))) (.cons (.asg (.one 3) (.bin .sub (.bitl (.var 0)) (.cst (.int 1)))) (.cons (.asg (.one 2) (.bin .bor (.var 2) (.ix (.var 1) (.var 3)))) (.cons (.asg (.one 0) (.bin .sub (.var 0) (.bin .shl (.cst (.int 1)) (.var 3)))) .nil)))) (.cons (.ret (.var 2)) .nil)))⟩
noncomputable def w_again:Df:=⟨"_law_again",1,2,(.cons (.asg (.one 1) (.mk .list (.comp (.one 0) (.rng1 (.bi .len (.cons (.var 0) .nil))) (.bin .shl (.cst (.int 1)) (.var 0)) [none]))) (.cons (.for_ (.one 2) (.rngD (.bin .sub (.bi .len (.cons (.var 0) .nil)) (.cst (.int 1)))) (.cons (.setIx (.var 1) (.var 2) (.bin .bor (.ix (.var 1) (.var 2)) (.call "_law_onward" (.ex (.bin .shl (.bin .shr (.ix (.var 0) (.var 2)) (.bin .add (.var 2) (.cst (.int 1)))) (.bin .add (.var 2) (.cst (.int 1)))) (.ex (.var 1) .nil))))) .nil)) (.cons (.ret (.var 1)) .nil)))⟩
noncomputable def w_ends:Df:=⟨"_law_ends",2,3,(.cons (.asg (.one 2) (.bi .len (.cons (.var 1) .nil))) (.cons (.ite (.cmp .eq (.ix (.var 0) (.cst (.int 0))) (.cst (.str [108,101,116,116,101,114]))) (.cons (.ret (.mk .list (.comp (.one 0) (.rng1 (.bin .add (.var 2) (.cst (.int 1)))) (.bin .shl (.bi .int (.cons (.cmp .eq (.slLU (.var 1) (.var 0) (.bin .add (.var 0) (.cst (.int 1)))) (.ix (.var 2) (.cst (.int 1)))) .nil)) (.bin .add (.var 0) (.cst (.int 1)))) [none,some 1,some 0]))) .nil) .nil) (.cons (.ite (.cmp .eq (.ix (.var 0) (.cst (.int 0))) (.cst (.str [110,111,116,104,105,110,103]))) (.cons (.ret (.mk .list (.comp (.one 0) (.rng1 (.bin .add (.var 2) (.cst (.int 1)))) (.bin .shl (.cst (.int 1)) (.var 0)) [none]))) .nil) .nil) (.cons (.asg (.one 3) (.call "_law_ends" (.ex (.ix (.var 0) (.cst (.int 1))) (.ex (.var 1) .nil)))) (.cons (.ite (.cmp .eq (.ix (.var 0) (.cst (.int 0))) (.cst (.str [114,101,112,101,97,116]))) (.cons (.ret (.call "_law_again" (.ex (.var 3) .nil))) .nil) .nil) (.cons (.asg (.one 4) (.call "_law_ends" (.ex (.ix (.var 0) (.cst (.int 2))) (.ex (.var 1) .nil)))) (.cons (.ite (.cmp .eq (.ix (.var 0) (.cst (.int 0))) (.cst (.str [101,105,116,104,101,114]))) (.cons (.ret (.mk .list (.comp (.one 0) (.rng1 (.bin .add (.var 2) (.cst (.int 1)))) (.bin .bor (.ix (.var 1) (.var 0)) (.ix (.var 2) (.var 0))) [none,some 3,some 4]))) .nil) .nil) (.cons (.ret (.mk .list (.comp (.one 0) (.seq (.var 3)) (.call "_law_onward" (.ex (.var 0) (.ex (.var 1) .nil))) [none,some 4]))) .nil))))))))⟩
noncomputable def w_member:Df:=⟨"_law_member",3,3,(.cons (.setIx (.var 2) (.cst (.int 0)) (.bin .sub (.ix (.var 2) (.cst (.int 0))) (.cst (.int 1)))) (.cons (.ite (.cmp .eq (.ix (.var 1) (.cst (.int 0))) (.cst (.str [108,101,116,116,101,114]))) (.cons (.ret (.ix (.var 1) (.cst (.int 1)))) .nil) .nil) (.cons (.ite (.cmp .eq (.ix (.var 1) (.cst (.int 0))) (.cst (.str [110,111,116,104,105,110,103]))) (.cons (.ret (.cst (.str []))) .nil) .nil) (.cons (.ite (.cmp .eq (.ix (.var 1) (.cst (.int 0))) (.cst (.str [101,105,116,104,101,114]))) (.cons (.ret (.call "_law_member" (.ex (.var 0) (.ex (.ix (.var 1) (.bin .add (.cst (.int 1)) (.call "_law_take" (.ex (.var 0) (.ex (.cst (.int 2)) .nil))))) (.ex (.var 2) .nil))))) .nil) .nil) (.cons (.ite (.cmp .eq (.ix (.var 1) (.cst (.int 0))) (.cst (.str [98,101,104,105,110,100]))) (.cons (.asg (.one 3) (.call "_law_member" (.ex (.var 0) (.ex (.ix (.var 1) (.cst (.int 1))) (.ex (.var 2) .nil))))) (.cons (.ret (.bin .add (.var 3) (.call "_law_member" (.ex (.var 0) (.ex (.ix (.var 1) (.cst (.int 2))) (.ex (.var 2) .nil)))))) .nil)) .nil) (.cons (.asg (.one 4) (.cst (.str []))) (.cons (.for_ (.one 5) (.rng1 (.call "_law_take" (.ex (.var 0) (.ex (.cst (.int 5)) .nil)))) (.cons (.ite (.cmp .gt (.ix (.var 2) (.cst (.int 0))) (.cst (.int 0))) (.cons (.asg (.one 4) (.bin .add (.var 4) (.call "_law_member" (.ex (.var 0) (.ex (.ix (.var 1) (.cst (.int 1))) (.ex (.var 2) .nil)))))) .nil) .nil) .nil)) (.cons (.ret (.var 4)) .nil))))))))⟩
noncomputable def w_spoilt:Df:=⟨"_law_spoilt",2,2,(.cons (.asg (.one 2) (.call "_law_take" (.ex (.var 0) (.ex (.bin .add (.bi .len (.cons (.var 1) .nil)) (.cst (.int 1))) .nil)))) (.cons (.asg (.one 3) (.call "_law_take" (.ex (.var 0) (.ex (.cst (.int 3)) .nil)))) (.cons (.ret (.bin .add (.bin .add (.slU (.var 1) (.var 2)) (.ix (.lst (.cons (.cst (.str [])) (.cons (.ix (.cst (.str [97,98,99])) (.call "_law_take" (.ex (.var 0) (.ex (.cst (.int 3)) .nil)))) (.cons (.ix (.cst (.str [97,98,99])) (.call "_law_take" (.ex (.var 0) (.ex (.cst (.int 3)) .nil)))) .nil)))) (.var 3))) (.slL (.var 1) (.bin .add (.var 2) (.bi .int (.cons (.cmp .lt (.var 3) (.cst (.int 2))) .nil)))))) .nil)))⟩
noncomputable def w_held:Df:=⟨"_law_held",2,0,(.cons (.ret (.cmp .eq (.bin .band (.bin .shr (.ix (.call "_law_ends" (.ex (.var 0) (.ex (.var 1) .nil))) (.cst (.int 0))) (.bi .len (.cons (.var 1) .nil))) (.cst (.int 1))) (.cst (.int 1)))) .nil)⟩
noncomputable def w_law_k60:Df:=⟨"law",1,7,(.cons (.asg (.one 1) (.lst .nil)) (.cons (.for_ (.one 2) (.rng1 (.cst (.int 2))) (.cons (.asg (.one 3) (.call "_law_bag" (.ex (.var 0) (.ex (.var 2) .nil)))) (.cons (.ex (.meth .append (.var 1) (.cons (.call "_law_set" (.ex (.var 3) (.ex (.bin .add (.cst (.int 1)) (.call "_law_take" (.ex (.var 3) (.ex (.cst (.int 12)) .nil)))) (.ex (.bin .add (.cst (.int 1)) (.call "_law_take" (.ex (.var 3) (.ex (.cst (.int 40)) .nil)))) (.ex (.lst (.cons (.cst (.int 40)) .nil)) .nil))))) .nil))) .nil))) (.cons (.for_ (.one 2) (.rng2 (.cst (.int 2)) (.bi .max2 (.cons (.cst (.int 4)) (.cons (.bi .min2 (.cons (.bi .len (.cons (.var 0) .nil)) (.cons (.cst (.int 7)) .nil))) .nil)))) (.cons (.asg (.one 3) (.call "_law_bag" (.ex (.var 0) (.ex (.var 2) .nil)))) (.cons (.asg (.one 4) (.slU (.call "_law_member" (.ex (.var 3) (.ex (.ix (.var 1) (.bin .mod (.var 2) (.cst (.int 2)))) (.ex (.lst (.cons (.cst (.int 20)) .nil)) .nil)))) (.cst (.int 40)))) (.cons (.for_ (.one 5) (.seq (.lst (.cons (.cst (.str [])) (.cons (.var 4) (.cons (.slU (.call "_law_spoilt" (.ex (.var 3) (.ex (.var 4) .nil))) (.cst (.int 40))) (.cons (.call "_law_word" (.ex (.var 3) (.ex (.cst (.int 3)) (.ex (.cst (.int 40)) .nil)))) .nil)))))) (.cons (.for_ (.one 6) (.seq (.var 1)) (.cons (.asg (.one 7) (.call "holds" (.ex (.var 6) (.ex (.var 5) .nil)))) (.cons (.ite (.or (.not (.bi .isBool (.cons (.var 7) .nil))) (.cmp .ne (.var 7) (.call "_law_held" (.ex (.var 6) (.ex (.var 5) .nil))))) (.cons (.ret (.cst (.bl false))) .nil) .nil) .nil))) .nil)) .nil)))) (.cons (.ret (.cst (.bl true))) .nil))))⟩
noncomputable def d_Rooms___init__:Df:=⟨"Rooms.__init__",1,0,(.cons (.setA (.var 0) [108,101,116,116,101,114,115] (.lst (.cons (.cst (.str [])) .nil))) (.cons (.setA (.var 0) [102,111,108,108,111,119,115] (.lst (.cons (.dic .nil .nil) .nil))) (.cons (.setA (.var 0) [101,110,100,115] (.lst .nil)) .nil)))⟩
noncomputable def d_Rooms_lay:Df:=⟨"Rooms.lay",2,4,(.cons (.ite (.cmp .eq (.ix (.var 1) (.cst (.int 0))) (.cst (.str [108,101,116,116,101,114]))) (.cons (.ret (.mcall (.var 0) "lay_letter" (.ex (.ix (.var 1) (.cst (.int 1))) .nil))) .nil) .nil) (.cons (.ite (.cmp .eq (.ix (.var 1) (.cst (.int 0))) (.cst (.str [110,111,116,104,105,110,103]))) (.cons (.ret (.tup (.cons (.cst (.bl true)) (.cons (.lst .nil) (.cons (.lst .nil) .nil))))) .nil) .nil) (.cons (.asg (.one 2) (.mcall (.var 0) "lay" (.ex (.ix (.var 1) (.cst (.int 1))) .nil))) (.cons (.ite (.cmp .eq (.ix (.var 1) (.cst (.int 0))) (.cst (.str [114,101,112,101,97,116]))) (.cons (.ex (.mcall (.var 0) "link" (.ex (.ix (.var 2) (.cst (.int 2))) (.ex (.ix (.var 2) (.cst (.int 1))) .nil)))) (.cons (.ret (.tup (.cons (.cst (.bl true)) (.cons (.ix (.var 2) (.cst (.int 1))) (.cons (.ix (.var 2) (.cst (.int 2))) .nil))))) .nil)) .nil) (.cons (.asg (.one 3) (.mcall (.var 0) "lay" (.ex (.ix (.var 1) (.cst (.int 2))) .nil))) (.cons (.ite (.cmp .eq (.ix (.var 1) (.cst (.int 0))) (.cst (.str [101,105,116,104,101,114]))) (.cons (.ret (.tup (.cons (.or (.ix (.var 2) (.cst (.int 0))) (.ix (.var 3) (.cst (.int 0)))) (.cons (.bin .add (.ix (.var 2) (.cst (.int 1))) (.ix (.var 3) (.cst (.int 1)))) (.cons (.bin .add (.ix (.var 2) (.cst (.int 2))) (.ix (.var 3) (.cst (.int 2)))) .nil))))) .nil) .nil) (.cons (.ex (.mcall (.var 0) "link" (.ex (.ix (.var 2) (.cst (.int 2))) (.ex (.ix (.var 3) (.cst (.int 1))) .nil)))) (.cons (.asg (.one 4) (.ite (.ix (.var 2) (.cst (.int 0))) (.bin .add (.ix (.var 2) (.cst (.int 1))) (.ix (.var 3) (.cst (.int 1)))) (.ix (.var 2) (.cst (.int 1))))) (.cons (.asg (.one 5) (.ite (.ix (.var 3) (.cst (.int 0))) (.bin .add (.ix (.var 2) (.cst (.int 2))) (.ix (.var 3) (.cst (.int 2)))) (.ix (.var 3) (.cst (.int 2))))) (.cons (.ret (.tup (.cons (.and (.ix (.var 2) (.cst (.int 0))) (.ix (.var 3) (.cst (.int 0)))) (.cons (.var 4) (.cons (.var 5) .nil))))) .nil))))))))))⟩
noncomputable def d_Rooms_lay_letter:Df:=⟨"Rooms.lay_letter",2,1,(.cons (.asg (.one 2) (.bi .len (.cons (.attr (.var 0) [108,101,116,116,101,114,115]) .nil))) (.cons (.ex (.meth .append (.attr (.var 0) [108,101,116,116,101,114,115]) (.cons (.var 1) .nil))) (.cons (.ex (.meth .append (.attr (.var 0) [102,111,108,108,111,119,115]) (.cons (.dic .nil .nil) .nil))) (.cons (.ret (.tup (.cons (.cst (.bl false)) (.cons (.lst (.cons (.var 2) .nil)) (.cons (.lst (.cons (.var 2) .nil)) .nil))))) .nil))))⟩
noncomputable def d_Rooms_link:Df:=⟨"Rooms.link",3,2,(.cons (.for_ (.one 3) (.seq (.var 1)) (.cons (.for_ (.one 4) (.seq (.var 2)) (.cons (.setIx (.ix (.attr (.var 0) [102,111,108,108,111,119,115]) (.var 3)) (.var 4) (.cst (.bl true))) .nil)) .nil)) .nil)⟩
class Has (P:Pr)(d:Df):Prop where
 eq:P.df d.name=some d
class HasM (P:Pr)(c m:String)(d:Df):Prop where
 at_:P.mt c m=some d
class HasA (P:Pr)(c:String)(f:List Nat):Prop where
 at_:P.att c f=true
class HasL (P:Pr)(d:Lm):Prop where
 eq:P.lm d.id=some d
noncomputable def fin (s:Sto)(c:Ct)(s':Sto):R D:=match c with
 | .ret v=>zn s v s'
 | .next _=>zn s .non s'
 | _=>.bad
@[simp] theorem fin_ret (s:Sto) (v:D) (s':Sto):fin s (.ret v) s'=zn s v s':=rfl
@[simp] theorem fin_next (s:Sto) (U:Env) (s':Sto):fin s (.next U) s'=zn s .non s':=rfl
theorem zl {P:Pr}(d:Df)[h:Has P d]{n:Nat}{l:List D}{s:Sto}(hl:l.length=d.ps) :
  (callN P (n+1)).call d.name l s=(exs (callN P n) d.body (l.map some++aq d.vs none) s).bind (fin s):=by
 simp only[callN,h.eq,hl,if_true]
 rfl
theorem zP {P:Pr}{c m:String}(d:Df)[h:HasM P c m d]{n:Nat}{l:List D}{s:Sto}(hl:l.length=d.ps) :
  (callN P (n+1)).mcall c m l s=(exs (callN P n) d.body (l.map some++aq d.vs none) s).bind λ c s'=>fin s c s':=by
 simp only[callN,h.at_,aX6,hl,if_true]
 rfl
theorem an5 {P:Pr}{c:String}{f:List Nat}[h:HasA P c f]{n:Nat}:(callN P n).att c f=true:=by
 have:(callN P n).att=P.att:=by cases n<;>rfl
 rw[this];exact h.at_
theorem au1 (s t:Sto):ab3 s (s++t)=true:=by
 unfold ab3
 rw[aL]
 intro i h
 rw[bG]at h
 rw[ax h]
 simp
theorem aV3 (s t:Sto)(r:Nat)(o:O)(h:o.bnd s.length=true):ab3 s (s.set r o++t)=true:=by
 unfold ab3
 rw[aL]
 intro i p
 rw[bG]at p
 rw[ax (by rw[aW];exact p)]
 by_cases e:r=i
 .subst e;rw[a8 p];simp[h]
 .rw[am e];simp
theorem aj2 {s t:Sto}{d:D}(h:∀ n,d.bnd n=true)(hr:∀ r,d≠.ref r):zn s d (s++t)=.ok d s:=by
 unfold zn
 rw[au1,if_pos rfl]
 cases d with
 | ref r=>exact absurd rfl (hr r)
 | _=>simp[h]
theorem zR {s:Sto}{d:D}(h:∀ n,d.bnd n=true)(hr:∀ r,d≠.ref r):zn s d s=.ok d s:=by
 have:=aj2 (s:=s) (t:=[]) h hr
 rwa [aN]at this
theorem au6 {s t:Sto}{d:D}{r:Nat}{o:O}(h:∀ n,d.bnd n=true)(hr:∀ r,d≠.ref r)(ho:o.bnd s.length=true):zn s d (s.set r o++t)=.ok d (s.set r o):=by
 unfold zn
 rw[aV3 s t r o ho,if_pos rfl]
 have e:(s.set r o++t).take s.length=s.set r o:=by rw[eT (by simp),d6 (by simp)]
 cases d with
 | ref r=>exact absurd rfl (hr r)
 | _=>simp only[h,if_true,e]
theorem ae3 {s:Sto}{d:D}{r:Nat}{o:O}(h:∀ n,d.bnd n=true)(hr:∀ r,d≠.ref r)(ho:o.bnd s.length=true):zn s d (s.set r o)=.ok d (s.set r o):=by
 have:=au6 (s:=s) (t:=[]) (r:=r) h hr ho
 rwa [aN]at this
theorem zO {s t u:Sto}{o:O}(ho:o.bnd s.length=true):zn s (.ref (s.length+t.length)) (s++(t++o::u))=.ok (.ref s.length) (s++[o]):=by
 unfold zn
 rw[au1,if_pos rfl]
 simp[ho,aJ]
@[simp] theorem bP7 {s:Sto} {i:Int}:zn s (.int i) s=.ok (.int i) s:=zR (λ _=>rfl) (by nofun)
@[simp] theorem bR6 {s:Sto} {i:Bool}:zn s (.bl i) s=.ok (.bl i) s:=zR (λ _=>rfl) (by nofun)
@[simp] theorem bC0 {s:Sto}:zn s .non s=.ok .non s:=zR (λ _=>rfl) (by nofun)
@[simp] theorem bN7 {s:Sto} {x:List Nat}:zn s (.str x) s=.ok (.str x) s:=zR (λ _=>rfl) (by nofun)
theorem qh {c:Env->Sto->R D}{g:Env->Sto->R Ct}:∀ {n:Nat} {U:Env} {s:Sto},qH c g n U s≠.bad->qH c g (n+1) U s=qH c g n U s
 | 0,_,_,h=>absurd rfl h
 | n+1,U,s,h=>by
  rw[show qH c g (n+1+1) U s=tru (c U s) (λ b s=>if b then(g U s).bind λ p s=>match p with
   | .next U=>qH c g (n+1) U s|.cont U=>qH c g (n+1) U s|.brk U=>.ok (.next U) s|.ret d=>.ok (.ret d) s else .ok (.next U) s)from rfl]
  have e:qH c g (n+1) U s=tru (c U s) (λ b s=>if b then(g U s).bind λ p s=>match p with
   | .next U=>qH c g n U s|.cont U=>qH c g n U s|.brk U=>.ok (.next U) s|.ret d=>.ok (.ret d) s else .ok (.next U) s):=rfl
  rw[e]at h ⊢
  unfold tru at h ⊢
  cases hc:c U s with
  | exc _ _=>rfl
  | bad=>rfl
  | ok d s1 =>
   rw[hc]at h
   cases d with
   | bl b =>
    cases b with
    | false=>rfl
    | true =>
     simp only[R.bind_ok,if_true]at h ⊢
     cases hg:g U s1 with
     | exc _ _=>rfl
     | bad=>rfl
     | ok p s2 =>
      rw[hg]at h
      simp only[R.bind_ok]at h ⊢
      cases p with
      | next U'=>exact qh h
      | cont U'=>exact qh h
      | _=>rfl
   | _=>rfl
theorem zU {c:Env->Sto->R D}{g:Env->Sto->R Ct}{n:Nat}{U:Env}{s:Sto}(h:qH c g n U s≠.bad):∀ k,qH c g (n+k) U s=qH c g n U s
 | 0=>rfl
 | k+1=>by
  have e:=zU h k
  rw[<-cO,qh (by rw[e];exact h),e]
theorem bF5 {c:Env->Sto->R D}{g:Env->Sto->R Ct}{n:Nat}{U:Env}{s:Sto}{r:Ct}{t:Sto}(h:qH c g n U s=.ok r t):whl c g U s=.ok r t:=by
 have hb:qH c g n U s≠.bad:=by rw[h];nofun
 have hx:∃ n,qH c g n U s≠.bad:=⟨n,hb⟩
 unfold whl
 rw[dif_pos hx]
 have p:=zU hx.choose_spec n
 have z:=zU hb hx.choose
 rw[<-p,gG,z,h]
theorem aE4 {c:Env->Sto->R D}{g:Env->Sto->R Ct}{U U':Env}{s s1 s':Sto}(hc:c U s=.ok (.bl true) s1)(hg:g U s1=.ok (.next U') s'):whl c g U s=whl c g U' s':=by
 have key:∀ n,qH c g (n+1) U s=qH c g n U' s':=λ n=>by
  show tru (c U s) _=_
  rw[hc,tru_bl,if_pos rfl,hg];rfl
 unfold whl
 by_cases hx:∃ n,qH c g n U' s'≠.bad
 .have hy:∃ n,qH c g n U s≠.bad:=⟨hx.choose+1,by rw[key];exact hx.choose_spec⟩
  rw[dif_pos hx,dif_pos hy]
  have h:=zU hy.choose_spec (hx.choose+1)
  have p:=zU (n:=hx.choose+1) (U:=U) (s:=s) (by rw[key];exact hx.choose_spec) hy.choose
  rw[<-h,gG,p,key]
 .have hy:¬ ∃ n,qH c g n U s≠.bad:=λ⟨n,hn⟩=>by
   cases n with
   | zero=>exact hn rfl
   | succ n=>exact hx ⟨n,by rw[<-key];exact hn⟩
  rw[dif_neg hx,dif_neg hy]
theorem aS6 {c:Env->Sto->R D}{g:Env->Sto->R Ct}{U:Env}{s s1:Sto}(hc:c U s=.ok (.bl false) s1):whl c g U s=.ok (.next U) s1 :=
 bF5 (n:=1) (by show tru (c U s) _=_;rw[hc,tru_bl];rfl)
theorem qk {ok:Sto->Bool}{g:D->Env->Sto->R Ct}(P:Nat->Env->Sto->Prop):∀(l:List D) (k:Nat) (U:Env) (s:Sto),
  P k U s->(∀(j:Nat) (U:Env) (s:Sto),j<=l.length->P (k+j) U s->ok s=true)->(∀(j:Nat) (d:D) (U:Env) (s:Sto),l[j]?=some d->P (k+j) U s->∃ U' s',(g d U s=.ok (.next U') s'\/g d U s=.ok (.cont U') s')/\P (k+j+1) U' s') ->
  ∃ U' s',az1 ok g l U s=.ok (.next U') s'/\P (k+l.length) U' s'
 | [],k,U,s,h,o,_=>⟨U,s,by show(if ok s then _ else _)=_;rw[if_pos (o 0 U s (ai _) h)],h⟩
 | d::l,k,U,s,h,o,t=>by
  have ho:=o 0 U s (b9 _) h
  obtain⟨U1,s1,hg,p⟩:=t 0 d U s rfl h
  obtain⟨U2,s2,e,F⟩:=qk P l (k+1) U1 s1 p (λ j U' s' hj z=>o (j+1) U' s' (by simpa using hj) (by rwa [show k+(j+1)=k+1+j by omega])) λ j d' U' s' hj z=>by
   have:=t (j+1) d' U' s' (by simpa using hj) (by rwa [show k+(j+1)=k+1+j by omega])
   rwa [show k+(j+1)+1=k+1+j+1 by omega]at this
  refine⟨U2,s2,?_,by rwa [aP,show k+(l.length+1)=k+1+l.length by omega]⟩
  show(if ok s then _ else _)=_
  rw[if_pos ho]
  rcases hg with hg|hg<;>(rw[hg];exact e)
noncomputable def Nx (Q:Env->Sto->Prop):R Ct->Prop
 | .ok (.next U) s=>Q U s
 | .ok (.cont U) s=>Q U s
 | _=>False
@[simp] theorem bY9 (Q:Env->Sto->Prop) (U:Env) (s:Sto):Nx Q (.ok (.next U) s)=Q U s:=rfl
@[simp] theorem bT3 (Q:Env->Sto->Prop) (U:Env) (s:Sto):Nx Q (.ok (.cont U) s)=Q U s:=rfl
theorem ap0 {Q:Env->Sto->Prop}{r:R Ct}{U:Env}{s:Sto}(e:r=.ok (.next U) s)(h:Q U s):Nx Q r:=by rw[e];exact h
theorem Nx.out {Q:Env->Sto->Prop}:∀ {r:R Ct},Nx Q r->∃ U s,(r=.ok (.next U) s\/r=.ok (.cont U) s)/\Q U s
 | .ok (.next U) s,h=>⟨U,s,.inl rfl,h⟩
 | .ok (.cont U) s,h=>⟨U,s,.inr rfl,h⟩
 | .ok (.ret _) _,h=>h.elim
 | .ok (.brk _) _,h=>h.elim
 | .exc _ _,h=>h.elim
 | .bad,h=>h.elim
noncomputable def Tst (A B:Sto->Prop):R D->Prop
 | .ok (.bl false) s=>A s
 | .ok (.bl true) s=>B s
 | _=>False
@[simp] theorem bl2 (A B:Sto->Prop) (b:Bool) (s:Sto):Tst A B (.ok (.bl b) s)=if b then B s else A s:=by cases b<;>rfl
theorem Tst.out {A B:Sto->Prop}:∀ {r:R D},Tst A B r->(∃ s,r=.ok (.bl false) s/\A s)\/∃ s,r=.ok (.bl true) s/\B s
 | .ok (.bl false) s,h=>.inl ⟨s,rfl,h⟩
 | .ok (.bl true) s,h=>.inr ⟨s,rfl,h⟩
 | .ok .non _,h=>h.elim
 | .ok (.int _) _,h=>h.elim
 | .ok (.str _) _,h=>h.elim
 | .ok (.tup _) _,h=>h.elim
 | .ok (.ref _) _,h=>h.elim
 | .ok (.fn _) _,h=>h.elim
 | .ok (.clo _ _) _,h=>h.elim
 | .exc _ _,h=>h.elim
 | .bad,h=>h.elim
theorem be6 {c:Env->Sto->R D}{g:Env->Sto->R Ct}{U U':Env}{s s1 s':Sto}(hc:c U s=.ok (.bl true) s1)(hg:g U s1=.ok (.cont U') s'):whl c g U s=whl c g U' s':=by
 have key:∀ n,qH c g (n+1) U s=qH c g n U' s':=λ n=>by
  show tru (c U s) _=_
  rw[hc,tru_bl,if_pos rfl,hg];rfl
 unfold whl
 by_cases hx:∃ n,qH c g n U' s'≠.bad
 .have hy:∃ n,qH c g n U s≠.bad:=⟨hx.choose+1,by rw[key];exact hx.choose_spec⟩
  rw[dif_pos hx,dif_pos hy]
  have h:=zU hy.choose_spec (hx.choose+1)
  have p:=zU (n:=hx.choose+1) (U:=U) (s:=s) (by rw[key];exact hx.choose_spec) hy.choose
  rw[<-h,gG,p,key]
 .have hy:¬ ∃ n,qH c g n U s≠.bad:=λ⟨n,hn⟩=>by
   cases n with
   | zero=>exact hn rfl
   | succ n=>exact hx ⟨n,by rw[<-key];exact hn⟩
  rw[dif_neg hx,dif_neg hy]
theorem bO6 {c:Env->Sto->R D}{g:Env->Sto->R Ct}(P:Nat->Env->Sto->Prop)(Q:Env->Sto->Prop)
  (step:∀ k U s,P k U s->Tst (λ s1=>Q U s1) (λ s1=>Nx (λ U' s'=>∃ p,p<k/\P p U' s') (g U s1)) (c U s)) :
  ∀(k:Nat) (U:Env) (s:Sto),P k U s->∃ U' s',whl c g U s=.ok (.next U') s'/\Q U' s':=by
 intro k
 induction k using jW with
 | _ k ih =>
  intro U s h
  rcases(step k U s h).out with⟨s1,hc,hq⟩|⟨s1,hc,hn⟩
  .exact⟨U,s1,aS6 hc,hq⟩
  .obtain⟨U',s',hg,p,hk,z⟩:=hn.out
   rcases hg with hg|hg
   .rw[aE4 hc hg];exact ih p hk U' s' z
   .rw[be6 hc hg];exact ih p hk U' s' z
theorem aY6 {c:Env->Sto->R D}{g:Env->Sto->R Ct}{U:Env}{s:Sto}{α:Type}{f:Ct->Sto->R α}{Ww:R α->Prop}(P:Nat->Env->Sto->Prop)(Q:Env->Sto->Prop)(k:Nat)(h:P k U s)
  (step:∀ k U s,P k U s->Tst (λ s1=>Q U s1) (λ s1=>Nx (λ U' s'=>∃ p,p<k/\P p U' s') (g U s1)) (c U s))
  (z:∀ U' s',Q U' s'->Ww (f (.next U') s')):Ww ((whl c g U s).bind f):=by
 obtain⟨U',s',e,q⟩:=bO6 P Q step k U s h
 rw[e]
 exact z U' s' q
theorem bh5 {c:Env->Sto->R D}{g:Env->Sto->R Ct}{U:Env}{s:Sto}{α:Type}{f:Ct->Sto->R α}{x:R α}(P:Nat->Env->Sto->Prop)(Q:Env->Sto->Prop)(k:Nat)(h:P k U s)
  (step:∀ k U s,P k U s->Tst (λ s1=>Q U s1) (λ s1=>Nx (λ U' s'=>∃ p,p<k/\P p U' s') (g U s1)) (c U s))
  (z:∀ U' s',Q U' s'->f (.next U') s'=x):(whl c g U s).bind f=x:=aY6 (Ww:=(·=x)) P Q k h step z
theorem qb {ok:Sto->Bool}{g:D->Env->Sto->R Ct}{l:List D}{U:Env}{s:Sto}{α:Type}{f:Ct->Sto->R α}{Ww:R α->Prop}(P:Nat->Env->Sto->Prop)(h:P 0 U s)
  (o:∀(j:Nat) (U:Env) (s:Sto),j<=l.length->P j U s->ok s=true) (step:∀(j:Nat) (d:D) (U:Env) (s:Sto),l[j]?=some d->P j U s->Nx (P (j+1)) (g d U s))
  (z:∀ U' s',P l.length U' s'->Ww (f (.next U') s')):Ww ((az1 ok g l U s).bind f):=by
 obtain⟨U',s',e,q⟩:=qk P l 0 U s h (λ j U s hj p=>o j U s hj (by rwa [be]at p)) (λ j d U s hj p=>by
  rw[be]at p ⊢
  exact(step j d U s hj p).out)
 rw[e]
 rw[be]at q
 exact z U' s' q
theorem bg8 {ok:Sto->Bool}{g:D->Env->Sto->R Ct}{l:List D}{U:Env}{s:Sto}{α:Type}{f:Ct->Sto->R α}{x:R α}(P:Nat->Env->Sto->Prop)(h:P 0 U s)
  (o:∀(j:Nat) (U:Env) (s:Sto),j<=l.length->P j U s->ok s=true) (step:∀(j:Nat) (d:D) (U:Env) (s:Sto),l[j]?=some d->P j U s->Nx (P (j+1)) (g d U s))
  (p:∀ U' s',P l.length U' s'->f (.next U') s'=x):(az1 ok g l U s).bind f=x:=qb (Ww:=(·=x)) P h o step p
section
variable {F:Fns} {U:Env} {s:Sto}
@[simp] theorem ev_var (i:Nat):ev F (.var i) U s=aX8 U i s:=rfl
@[simp] theorem ev_cst (c:Cn):ev F (.cst c) U s=.ok c.d s:=rfl
@[simp] theorem ev_bin (op:BOp) (a b:E):ev F (.bin op a b) U s=(ev F a U s).bind λ x s=>(ev F b U s).bind λ y s=>z0 op x y s:=rfl
@[simp] theorem ev_not (a:E):ev F (.not a) U s=tru (ev F a U s) λ b s=>.ok (.bl (!b)) s:=rfl
@[simp] theorem ev_cmp (op:COp) (a b:E):ev F (.cmp op a b) U s=(ev F a U s).bind λ x s=>(ev F b U s).bind λ y s=>zf op x y s:=rfl
@[simp] theorem ev_and (a b:E):ev F (.and a b) U s=tru (ev F a U s) λ c s=>if c then tru (ev F b U s) λ c s=>.ok (.bl c) s else .ok (.bl false) s:=rfl
@[simp] theorem ev_or (a b:E):ev F (.or a b) U s=tru (ev F a U s) λ c s=>if c then .ok (.bl true) s else tru (ev F b U s) λ c s=>.ok (.bl c) s:=rfl
@[simp] theorem ev_ite (c a b:E):ev F (.ite c a b) U s=tru (ev F c U s) λ k s=>if k then ev F a U s else ev F b U s:=rfl
@[simp] theorem ev_tup (es:Es):ev F (.tup es) U s=(evs F es U s).bind λ l s=>.ok (.tup l) s:=rfl
@[simp] theorem ev_lst (es:Es):ev F (.lst es) U s=(evs F es U s).bind λ l s=>aa7 (.lst l) s:=rfl
@[simp] theorem ev_ix (a b:E):ev F (.ix a b) U s=(ev F a U s).bind λ x s=>(ev F b U s).bind λ y s=>ixM x y s:=rfl
@[simp] theorem ev_call (f:String) (h:As):ev F (.call f h) U s=(af5 F h U s).bind λ l s=>F.call f l s:=rfl
@[simp] theorem ev_bi (b:Bi) (es:Es):ev F (.bi b es) U s=(evs F es U s).bind λ l s=>bi b l s:=rfl
@[simp] theorem ev_mk (k:Mk) (it:L):ev F (.mk k it) U s=(evL F it U s).bind λ q s=>mk k q s:=rfl
@[simp] theorem ev_meth (m:Mt) (o:E) (es:Es):ev F (.meth m o es) U s=(ev F o U s).bind λ x s=>(evs F es U s).bind λ l s=>meth m x l s:=rfl
@[simp] theorem evs_nil:evs F .nil U s=.ok [] s:=rfl
@[simp] theorem evs_cons (e:E) (es:Es):evs F (.cons e es) U s=(ev F e U s).bind λ d s=>(evs F es U s).bind λ l s=>.ok (d::l) s:=rfl
@[simp] theorem evas_nil:af5 F .nil U s=.ok [] s:=rfl
@[simp] theorem evas_ex (e:E) (h:As):af5 F (.ex e h) U s=(ev F e U s).bind λ d s=>(af5 F h U s).bind λ l s=>.ok (d::l) s:=rfl
@[simp] theorem bT5 (f:String) (h:As):af5 F (.fn f h) U s=(af5 F h U s).bind λ l s=>.ok (.fn f::l) s:=rfl
@[simp] theorem evI_seq (e:E):evI F (.seq e) U s=(ev F e U s).bind λ d s=>al9 d s:=rfl
@[simp] theorem bR3 (es:Es):evL F (.disp es) U s=evs F es U s:=rfl
@[simp] theorem evL_seq (e:E):evL F (.seq e) U s=(ev F e U s).bind λ d s=>bF3 d s:=rfl
noncomputable def ay4 (x:D):M Sq:=λ s=>match x with|.int i=>if -Ww62<=i/\i<Ww62 then .ok ⟨ad6 0 i,[]⟩ s else .bad|_=>.bad
@[simp] theorem evI_rng1 (a:E):evI F (.rng1 a) U s=(ev F a U s).bind λ x s=>ay4 x s:=rfl
theorem ql {i:Int}(h0:-Ww62<=i)(h:i<Ww62):ay4 (.int i) s=.ok ⟨ad6 0 i,[]⟩ s:=by unfold ay4;simp only[h0,h,and_self,if_true]
noncomputable def nxt (F:Fns)(ss:Ss)(c:Ct)(s:Sto):R Ct:=match c with|.next U=>exs F ss U s|c=>.ok c s
@[simp] theorem nxt_next (h:Ss) (U:Env) (s:Sto):nxt F h (.next U) s=exs F h U s:=rfl
@[simp] theorem nxt_ret (h:Ss) (d:D) (s:Sto):nxt F h (.ret d) s=.ok (.ret d) s:=rfl
@[simp] theorem nxt_cont (h:Ss) (U:Env) (s:Sto):nxt F h (.cont U) s=.ok (.cont U) s:=rfl
@[simp] theorem exs_nil:exs F .nil U s=.ok (.next U) s:=rfl
@[simp] theorem exs_cons (st:S) (h:Ss):exs F (.cons st h) U s=(ex F st U s).bind (nxt F h):=rfl
noncomputable def cb2 (U:Option Env)(s:Sto):R Ct:=match U with|some U=>.ok (.next U) s|none=>.bad
@[simp] theorem setC_some (U:Env) (s:Sto):cb2 (some U) s=.ok (.next U) s:=rfl
@[simp] theorem ex_asg (tg:Tg) (e:E):ex F (.asg tg e) U s=(ev F e U s).bind λ d s=>cb2 (qC U tg d) s:=rfl
@[simp] theorem ex_setIx (o i e:E):ex F (.setIx o i e) U s=(ev F e U s).bind λ d s=>(ev F o U s).bind λ x s=>(ev F i U s).bind λ y s=>(setIx x y d s).bind λ _ s=>.ok (.next U) s:=rfl
@[simp] theorem ex_ex (e:E):ex F (.ex e) U s=(ev F e U s).bind λ _ s=>.ok (.next U) s:=rfl
@[simp] theorem ex_ret (e:E):ex F (.ret e) U s=(ev F e U s).bind λ d s=>.ok (.ret d) s:=rfl
@[simp] theorem ex_ite (c:E) (a b:Ss):ex F (.ite c a b) U s=tru (ev F c U s) λ k s=>if k then exs F a U s else exs F b U s:=rfl
@[simp] theorem ex_whl (c:E) (b:Ss):ex F (.whl c b) U s=whl (ev F c) (exs F b) U s:=rfl
noncomputable def turn (F:Fns)(tg:Tg)(b:Ss)(d:D)(U:Env)(s:Sto):R Ct:=match qC U tg d with
 | some U=>exs F b U s
 | none=>.bad
@[simp] theorem ex_for (tg:Tg) (it:I) (b:Ss):ex F (.for_ tg it b) U s=(evI F it U s).bind λ q s0=>az1 (λ s=>chk s0 s q.src) (turn F tg b) q.its U s0:=rfl
@[simp] theorem bindT_one (i:Nat) (d:D):qC U (.one i) d=aD0 U i d:=rfl
@[simp] theorem bindT_tup (is:List Nat) (l:List D):qC U (.tup is) (.tup l)=ai0 U is l:=rfl
@[simp] theorem setVs_nil:ai0 U [] []=some U:=rfl
@[simp] theorem setVs_cons (i:Nat) (is:List Nat) (d:D) (l:List D):ai0 U (i::is) (d::l)=(aD0 U i d).bind λ U=>ai0 U is l:=rfl
@[simp] theorem getV_0 (d:D) (U:Env):aX8 (some d::U) 0 s=.ok d s:=rfl
@[simp] theorem getV_s (x:Option D) (U:Env) (i:Nat):aX8 (x::U) (i+1) s=aX8 U i s:=by unfold aX8;rw[gd]
@[simp] theorem setV_0 (d:D) (x:Option D) (U:Env):aD0 (x::U) 0 d=some (some d::U):=rfl
@[simp] theorem setV_s (d:D) (x:Option D) (U:Env) (i:Nat):aD0 (x::U) (i+1) d=(aD0 U i d).map (x::·):=by
 unfold aD0
 by_cases h:i < U.length
 .rw[if_pos (by simpa using h),if_pos h];rfl
 .rw[if_neg (by simpa using h),if_neg h];rfl
@[simp] theorem unsetV_0 (x:Option D) (U:Env):aD2 (x::U) 0=some (none::U):=rfl
@[simp] theorem unsetV_s (x:Option D) (U:Env) (i:Nat):aD2 (x::U) (i+1)=(aD2 U i).map (x::·):=by
 unfold aD2
 by_cases h:i < U.length
 .rw[if_pos (by simpa using h),if_pos h];rfl
 .rw[if_neg (by simpa using h),if_neg h];rfl
@[simp] theorem Cn_int (i:Int):(Cn.int i).d=.int i:=rfl
@[simp] theorem Cn_bl (i:Bool):(Cn.bl i).d=.bl i:=rfl
@[simp] theorem Cn_str (i:List Nat):(Cn.str i).d=.str i:=rfl
@[simp] theorem Cn_non:Cn.non.d=.non:=rfl
@[simp] theorem add_int (a b:Int):z0 .add (.int a) (.int b) s=.ok (.int (a+b)) s:=rfl
@[simp] theorem sub_int (a b:Int):z0 .sub (.int a) (.int b) s=.ok (.int (a - b)) s:=rfl
theorem ae9 {a b:Int}(h:mulOk a b=true):z0 .mul (.int a) (.int b) s=.ok (.int (a*b)) s:=by show(if mulOk a b then _ else _:M D) s=_;rw[if_pos h];rfl
theorem bn9 {a b:Int}(h:a.natAbs<2^64):mulOk a b=true:=by unfold mulOk;simp[h]
theorem ap3 {a b:Int}(h:b.natAbs<2^64):mulOk a b=true:=by unfold mulOk;simp[h]
theorem ad7 {a b:Int}(h:0<b):z0 .mod (.int a) (.int b) s=.ok (.int (a % b)) s:=by show(if 0<b then _ else _:M D) s=_;rw[if_pos h];rfl
theorem bp5:(10:Int)^200<=(DIVL:Int):=by unfold DIVL;decide +kernel
theorem aB2 {a b:Int}(h:0<b)(p:b<10^200):z0 .fdiv (.int a) (.int b) s=.ok (.int (a / b)) s:=by show(if 0<b/\b<(DIVL:Int)then _ else _:M D) s=_;rw[if_pos ⟨h,Int.lt_of_lt_of_le p bp5⟩];rfl
theorem aO0 {a b:Int}(h:0<=b/\b<=1000000/\a.natAbs<2^64):z0 .pow (.int a) (.int b) s=.ok (.int (a^b.toNat)) s:=by show(if _ then _ else _:M D) s=_;rw[if_pos h];rfl
@[simp] theorem lt_int (a b:Int):zf .lt (.int a) (.int b) s=.ok (.bl (decide (a<b))) s:=rfl
@[simp] theorem le_int (a b:Int):zf .le (.int a) (.int b) s=.ok (.bl (decide (a<=b))) s:=rfl
@[simp] theorem gt_int (a b:Int):zf .gt (.int a) (.int b) s=.ok (.bl (decide (b<a))) s:=rfl
@[simp] theorem ge_int (a b:Int):zf .ge (.int a) (.int b) s=.bad:=rfl
@[simp] theorem eq_int (a b:Int):zf .eq (.int a) (.int b) s=.ok (.bl (decide (a=b))) s:=rfl
@[simp] theorem ne_int (a b:Int):zf .ne (.int a) (.int b) s=.ok (.bl (!decide (a=b))) s:=rfl
@[simp] theorem alloc_eq (o:O):aa7 o s=.ok (.ref s.length) (s++[o]):=rfl
@[simp] theorem bU9 (l:List D):bi .len [.tup l] s=.ok (.int l.length) s:=rfl
@[simp] theorem bo8 (l:List Nat):bi .len [.str l] s=.ok (.int l.length) s:=rfl
theorem aA1 {r:Nat}{l:List D}(h:s[r]?=some (.lst l)):bi .len [.ref r] s=.ok (.int l.length) s:=by simp only[bi,bi1,bm7,h]
theorem bm0 {r:Nat}{l:List D}(h:s[r]?=some (.ro l)):bi .len [.ref r] s=.ok (.int l.length) s:=by simp only[bi,bi1,bm7,h]
@[simp] theorem bW9 (i:Int):bi .abs [.int i] s=.ok (.int (if i<0 then -i else i)) s:=rfl
@[simp] theorem bc4 (a b:Int):bi .min2 [.int a,.int b] s=.ok (.int (if b<a then b else a)) s:=rfl
@[simp] theorem bf4 (a b:Int):bi .max2 [.int a,.int b] s=.ok (.int (if b > a then b else a)) s:=rfl
@[simp] theorem bE0 (a:Int):bi .isInt [.int a] s=.ok (.bl true) s:=rfl
@[simp] theorem bB2 (a:Int):bi .isBool [.int a] s=.ok (.bl false) s:=rfl
@[simp] theorem bG5 (l:List D):bi .isTup [.tup l] s=.ok (.bl true) s:=rfl
theorem bC5 {r:Nat}{l:List D}{j:Nat}{d:D}(h:s[r]?=some (.ro l))(hj:l[j]?=some d):ixM (.ref r) (.int (j:Int)) s=.ok d s:=by
 have hl:j<l.length:=(ac.mp hj).1
 have e:l[j]=d:=(ac.mp hj).2
 simp[ixM,h,ixn,hl,e]
theorem zI {r:Nat}{l:List D}{j:Nat}{d:D}(h:s[r]?=some (.lst l))(hj:l[j]?=some d):ixM (.ref r) (.int (j:Int)) s=.ok d s:=by
 have hl:j<l.length:=(ac.mp hj).1
 have e:l[j]=d:=(ac.mp hj).2
 simp[ixM,h,ixn,hl,e]
theorem ix_tup {l:List D}{j:Nat}{d:D}(hj:l[j]?=some d):ixM (.tup l) (.int (j:Int)) s=.ok d s:=by
 have hl:j<l.length:=(ac.mp hj).1
 have e:l[j]=d:=(ac.mp hj).2
 simp[ixM,ixn,hl,e]
theorem aw1 {r:Nat}{l:List D}{j:Nat}{v:D}(h:s[r]?=some (.lst l))(hl:j<l.length):setIx (.ref r) (.int (j:Int)) v s=.ok () (s.set r (.lst (l.set j v))):=by
 simp[setIx,h,ixn,hl]
theorem qq {r:Nat}{l:List D}{v:D}(h:s[r]?=some (.lst l))(hl:l.length<LIM):meth .append (.ref r) [v] s=.ok .non (s.set r (.lst (l++[v]))):=by
 show(match s[r]? with|some (.lst l)=>(if l.length<LIM then R.ok D.non (s.set r (.lst (l++[v])))else .bad)|_=>.bad:R D)=_
 rw[h]
 exact if_pos hl
end
theorem ay8 (s t:Sto)(b:Bool):∃ s',zn s (.bl b) t=.ok (.bl b) s':=by
 unfold zn
 by_cases h:ab3 s t=true
 .rw[if_pos h];exact⟨_,rfl⟩
 .rw[if_neg h];exact⟨_,rfl⟩
def Yes (r:R D):Prop:=∃ s',r=.ok (.bl true) s'
theorem aR2 (s t:Sto):Yes (zn s (.bl true) t):=ay8 s t true
theorem ac7 {a b:Int}{j:Nat}{d:D}(h:(ad6 a b)[j]?=some d):(j:Int)<b - a/\d=.int (a+j):=by
 have hj:=(ac.mp h).1
 simp only[ad6,aD,ci]at hj
 unfold ad6 at h
 rw[aC,cu hj]at h
 exact⟨by omega,(av h).symm⟩
def LawOk (P:Pr)(k:Nat):Prop:=∀ ns:List Int,ns.length<=63->Yes ((callN P k).call "law" [.ref 0] [.ro (ns.map D.int)])
noncomputable def bB1:Option Int->D
 | none=>.non
 | some i=>.int i
@[simp] theorem bQ1:bB1 none=.non:=rfl
@[simp] theorem bH6 (i:Int):bB1 (some i)=.int i:=rfl
@[simp] theorem be4 (p:Option Int) (n:Nat):(bB1 p).bnd n=true:=by cases p<;>rfl
theorem ba5 (p:Option Int)(r:Nat):bB1 p≠.ref r:=by cases p<;>nofun
@[simp] theorem bA8 {s:Sto} {p:Option Int}:zn s (bB1 p) s=.ok (bB1 p) s:=zR (be4 p) (ba5 p)
noncomputable def zA (b:Nat×Nat):O:=.lst [.int b.1,.int b.2]
@[simp] theorem bR4 (b:Nat×Nat) (n:Nat):(zA b).bnd n=true:=rfl
noncomputable def tkW (many:Nat):Nat->Nat->Nat->Nat->Nat×Nat
 | 0,mix,num,_=>(num,mix)
 | n+1,mix,num,room=>if room<many then tkW many n ((mix*48271+7919) % 2147483647) (num*1073741789+(mix*48271+7919) % 2147483647 / 8*69621 % 1073741789) (room*1073741789)else(num,mix)
noncomputable def tk (b:Nat×Nat)(many:Nat):Nat×(Nat×Nat) :=
 if 0<b.1 then(b.1 % many,(b.1 / many,b.2))else let r:=tkW many 12 b.2 0 1;(r.1 % many,(b.1,r.2))
theorem bX1 (b:Nat×Nat){many:Nat}(h:0<many):(tk b many).1<many:=by
 unfold tk
 split
 .exact Nat.mod_lt _ h
 .exact Nat.mod_lt _ h
theorem aX1 {many:Nat}{k p z room:Nat}(h:many<=room):tkW many k p z room=(z,p):=by
 cases k with
 | zero=>rfl
 | succ k=>unfold tkW;rw[if_neg (by omega)]
theorem ba8 {many:Nat}{k p z room:Nat}(h:room<many):tkW many (k+1) p z room=tkW many k ((p*48271+7919) % 2147483647) (z*1073741789+(p*48271+7919) % 2147483647 / 8*69621 % 1073741789) (room*1073741789):=by
 conv=>lhs;unfold tkW
 rw[if_pos h]
theorem bm3 {P:Pr}[Has P w_take](n:Nat)(b:Nat×Nat)(many:Nat)(h0:0<many)(h:many<=10^90)(s:Sto)(r:Nat)(hs:s[r]?=some (zA b)) :
  (callN P (n+1)).call "_law_take" [.ref r,.int many] s=.ok (.int (tk b many).1) (s.set r (zA (tk b many).2)):=by
 refine(zl w_take rfl).trans ?_
 obtain⟨c,m⟩:=b
 have hr:r<s.length:=(ac.mp hs).1
 have G:(0:Int)<(many:Int):=by omega
 have Y:(many:Int)<10^200:=by
  have:(10:Int)^90<10^200:=by decide +kernel
  have:((many:Nat):Int)<=((10^90:Nat):Int):=by exact_mod_cast h
  omega
 by_cases hc:0<c
 .have J:s[r]?=some (.lst [.int c,.int m]):=hs
  simp[w_take,ixM,J,ixn,hc,ad7 G,aB2 G Y,setIx,tk]
  exact ae3 (λ _=>rfl) (by nofun) rfl
 .have Z:c=0:=by omega
  subst Z
  have J:s[r]?=some (.lst [.int 0,.int m]):=hs
  simp[w_take,ixM,J,ixn]
  refine bh5 (λ k U t=>∃ p z room:Nat,U=[some (.ref r),some (.int many),none,some (.int z),some (.int room)]/\t=s.set r (zA (0,p))/\many<=room*1073741789^k/\tkW many k p z room=tkW many 12 m 0 1)
   (λ U t=>∃ room:Nat,U=[some (.ref r),some (.int many),none,some (.int (tkW many 12 m 0 1).1),some (.int room)]/\t=s.set r (zA (0,(tkW many 12 m 0 1).2))) 12 ⟨m,0,1,by simp,?_,?_,rfl⟩ ?_ ?_
  .have e:s[r]=zA (0,m):=(ac.mp hs).2
   rw[<-e,eC]
  .refine ak h ?_
   decide +kernel
  .rintro k U t ⟨p,z,room,rfl,rfl,F,he⟩
   by_cases hlt:room<many
   .simp only[ev_cmp,ev_var,getV_0,getV_s,R.bind_ok,lt_int,bl2,jx,hlt,decide_true,if_true]
    cases k with
    | zero=>simp at F;omega
    | succ k =>
     have h1:(s.set r (zA (0,p)))[r]?=some (.lst [.int 0,.int p]):=by rw[a8 hr];rfl
     have m1:∀ a:Int,mulOk a 48271=true:=λ a=>ap3 (by decide)
     have m2:∀ a:Int,mulOk a 1073741789=true:=λ a=>ap3 (by decide)
     have m3:∀ a:Int,mulOk a 69621=true:=λ a=>ap3 (by decide)
     refine ap0 ?_ ⟨k,bR k,(p*48271+7919) % 2147483647,z*1073741789+(p*48271+7919) % 2147483647 / 8*69621 % 1073741789,room*1073741789,rfl,rfl,?_,?_⟩
     .simp[ixM,h1,ixn,ae9 (m1 _),ad7,setIx,hr,ae9 (m2 _),ae9 (m3 _),aB2,zA]
     .rw[jA]at F
      rw[Nat.mul_assoc,kJ 1073741789];exact F
     .rw[<-he,ba8 hlt]
   .simp only[ev_cmp,ev_var,getV_0,getV_s,R.bind_ok,lt_int,bl2,jx,hlt,decide_false,if_false,bu]
    refine⟨room,?_,?_⟩
    .rw[<-he,aX1 (by omega)]
    .rw[<-he,aX1 (by omega)]
  .rintro U t ⟨room,rfl,rfl⟩
   simp[ad7 G,tk]
   exact ae3 (λ _=>rfl) (by nofun) rfl
noncomputable def bl8 (at_:Int)(ns:List Int):Nat->Int
 | 0=>7919*at_+17
 | k+1=>(bl8 at_ ns k*48271+(ns.getD k 0) % 2147483647+k) % 2147483629
theorem bp8 (at_:Int)(h:0<=at_)(ns:List Int):∀ k,0<=bl8 at_ ns k
 | 0=>by unfold bl8;omega
 | k+1=>by unfold bl8;exact Int.emod_nonneg _ (by decide)
noncomputable def cellF (ns:List Int)(at_:Nat):Nat:=if 10^18<=(ns.getD at_ 0).natAbs then(ns.getD at_ 0).natAbs else 0
noncomputable def by8 (ns:List Int)(at_:Nat):Nat×Nat:=(cellF ns at_,(bl8 at_ ns (min ns.length 60)).toNat)
theorem bi8 {P:Pr}[Has P w_bag](n:Nat)(ns:List Int)(at_:Nat)(s:Sto)(r:Nat)(hs:s[r]?=some (.ro (ns.map D.int)))(hl:ns.length<=63) :
  (callN P (n+1)).call "_law_bag" [.ref r,.int at_] s=.ok (.ref s.length) (s++[zA (by8 ns at_)]):=by
 refine(zl w_bag rfl).trans ?_
 have m1:∀ a:Int,mulOk 7919 a=true:=λ a=>bn9 (by decide)
 have m2:∀ a:Int,mulOk a 48271=true:=λ a=>ap3 (by decide)
 have p:bi .len [.ref r] s=.ok (.int ns.length) s:=by rw[bm0 hs,aD]
 have z:∀(c:Int),(c<10^18->cellF ns at_=0)->(10^18<=c->(cellF ns at_:Int)=c) ->
   (exs (callN P n) (.cons (.asg (.one 3) (.bin .add (.bin .mul (.cst (.int 7919)) (.var 1)) (.cst (.int 17)))) (.cons (.for_ (.one 4) (.rng1 (.bi .min2 (.cons (.bi .len (.cons (.var 0) .nil)) (.cons (.cst (.int 60)) .nil)))) (.cons (.asg (.one 3) (.bin .mod (.bin .add (.bin .add (.bin .mul (.var 3) (.cst (.int 48271))) (.bin .mod (.ix (.var 0) (.var 4)) (.cst (.int 2147483647)))) (.var 4)) (.cst (.int 2147483629)))) .nil)) (.cons (.ite (.cmp .lt (.var 2) (.bin .pow (.cst (.int 10)) (.cst (.int 18)))) (.cons (.asg (.one 2) (.cst (.int 0))) .nil) .nil) (.cons (.ret (.lst (.cons (.var 2) (.cons (.var 3) .nil)))) .nil)))) [some (.ref r),some (.int at_),some (.int c),none,none] s).bind (fin s)=.ok (.ref s.length) (s++[zA (by8 ns at_)]):=by
  intro c h1 h2
  simp[ae9 (m1 _),p]
  have hk:(if(60:Int)<(ns.length:Int)then 60 else(ns.length:Int))=((min ns.length 60:Nat):Int):=by omega
  rw[hk,ql (by unfold Ww62;omega) (by unfold Ww62;omega)]
  simp only[R.bind_ok]
  refine bg8 (λ j U t=>t=s/\∃ x,U=[some (.ref r),some (.int at_),some (.int c),some (.int (bl8 at_ ns j)),x]) ⟨rfl,none,rfl⟩ (λ _ _ _ _ _=>rfl) ?_ ?_
  .rintro j d U t hj ⟨rfl,x,rfl⟩
   have Z:j<min ns.length 60:=by have:=(ac.mp hj).1;simpa [ad6]using this
   have hd:d=.int (j:Int):=by simpa [ad6,Z]using hj.symm
   subst hd
   refine ap0 ?_ ⟨rfl,some (.int (j:Int)),rfl⟩
   have hx:ixM (.ref r) (.int (j:Int)) t=.ok (.int (ns.getD j 0)) t:=bC5 hs (by simp[show j<ns.length by omega])
   simp[turn,ae9 (m2 _),hx,ad7,bl8]
  .rintro U t ⟨rfl,x,rfl⟩
   have Y:(ad6 0 ((min ns.length 60:Nat):Int)).length=min ns.length 60:=by simp[ad6]
   rw[Y]
   have G:=bp8 at_ (by omega) ns (min ns.length 60)
   have F:∀ c',(c':Int)=cellF ns at_->zn t (.ref t.length) (t++[.lst [.int c',.int (bl8 at_ ns (min ns.length 60))]])=.ok (.ref t.length) (t++[zA (by8 ns at_)]):=by
    intro c' J
    have:=zO (s:=t) (t:=[]) (u:=[]) (o:=zA (by8 ns at_)) rfl
    simp only[eY,d9,eV]at this
    rw[<-this]
    simp[zA,by8,J,e8 G]
   by_cases h:c<10^18
   .have h':c<1000000000000000000:=h
    simp[aO0,h']
    exact F 0 (by rw[h1 h];rfl)
   .have h':¬ c<1000000000000000000:=h
    simp[aO0,h']
    exact F c (h2 (by omega)).symm
 by_cases hat:at_<ns.length
 .have hx:ixM (.ref r) (.int at_) s=.ok (.int (ns.getD at_ 0)) s:=bC5 hs (by simp[hat])
  have e:=z (if ns.getD at_ 0<0 then -ns.getD at_ 0 else ns.getD at_ 0) (by unfold cellF;intro h;rw[if_neg (by omega)]) (by unfold cellF;intro h;rw[if_pos (by omega)];omega)
  rw[<-e]
  simp[w_bag,p,hat,hx]
 .have e:=z 0 (by unfold cellF;intro h;rw[if_neg];rw[aM,bW (by omega)];decide) (by intro h;exact absurd h (by decide))
  rw[<-e]
  simp[w_bag,p,hat]
theorem aw2 {s t:Sto}{r:Nat}{o:O}(h:r<s.length):(s++t).set r o=s.set r o++t:=by rw[List.set_append,if_pos h]
theorem aa1 {s t:Sto}{r:Nat}{o:O}(h:s[r]?=some o):(s++t)[r]?=some o:=by
 rw[ax (ac.mp h).1];exact h
theorem zT {s:Sto}{r:Nat}{o:O}(h:r<s.length):(s.set r o)[r]?=some o:=a8 h
theorem be0 {P:Pr}[Has P w_take](n:Nat)(b:Nat×Nat)(many:Int)(h0:0<many)(h:many<=10^90)(s:Sto)(r:Nat)(hs:s[r]?=some (zA b)) :
  (callN P (n+1)).call "_law_take" [.ref r,.int many] s=.ok (.int (tk b many.toNat).1) (s.set r (zA (tk b many.toNat).2)):=by
 have:=bm3 n b many.toNat (P:=P) (by omega) (by have:many<=((10^90:Nat):Int):=(by simpa using h);omega) s r hs
 rwa [show((many.toNat:Nat):Int)=many by omega]at this
noncomputable def bd (b:Nat×Nat):Nat×(Nat×Nat) :=
 let x0:=tk b 3
 let x1:=tk x0.2 13
 let x2:=tk x1.2 1000000000
 let x3:=tk x2.2 1000000000000000000000000000000
 let i:=tk x3.2 4
 ([x0.1,x1.1,x2.1,x3.1].getD i.1 0,i.2)
section
variable {F:Fns} {U:Env} {s:Sto}
noncomputable def ae5 (F:Fns)(tg:Tg)(e:E)(d:D)(U:Env)(s:Sto):R (Option D×Env):=match qC U tg d with
 | some U=>(ev F e U s).bind λ v s=>.ok (some v,U) s
 | none=>.bad
noncomputable def bW8 (F:Fns)(tg:Tg)(c e:E)(d:D)(U:Env)(s:Sto):R (Option D×Env):=match qC U tg d with
 | some U=>tru (ev F c U s) λ k s=>if k then(ev F e U s).bind λ v s=>.ok (some v,U) s else .ok (none,U) s
 | none=>.bad
@[simp] theorem qc (tg:Tg) (it:I) (e:E) (h:yE):evL F (.comp tg it e h) U s=(evI F it U s).bind λ q s0=>if q.its.length<=LIM then qE (λ s=>chk s0 s q.src) (ae5 F tg e) q.its (qA U h) s0 else .bad:=rfl
@[simp] theorem bB0 (tg:Tg) (it:I) (c e:E) (h:yE):evL F (.compIf tg it c e h) U s=(evI F it U s).bind λ q s0=>if q.its.length<=LIM then qE (λ s=>chk s0 s q.src) (bW8 F tg c e) q.its (qA U h) s0 else .bad:=rfl
@[simp] theorem bj3 (a h:E):ev F (.slU a h) U s=(ev F a U s).bind λ x s=>(ev F h U s).bind λ y s=>match y with|.int i=>slM x none (some i) s|_=>.bad:=rfl
@[simp] theorem bP0 (a h:E):ev F (.slL a h) U s=(ev F a U s).bind λ x s=>(ev F h U s).bind λ y s=>match y with|.int i=>slM x (some i) none s|_=>.bad:=rfl
end
theorem zX {P:Pr}[Has P w_take](n:Nat){s:Sto}{r:Nat}(hs:∃ b,s[r]?=some (zA b))(many:Int)(h0:0<many)(h:many<=10^90) :
  ∃(k:Nat) (b:Nat×Nat),(k:Int)<many/\(callN P (n+1)).call "_law_take" [.ref r,.int many] s=.ok (.int k) (s.set r (zA b)):=by
 obtain⟨b,hb⟩:=hs
 have:=bX1 b (many:=many.toNat) (by omega)
 exact⟨(tk b many.toNat).1,(tk b many.toNat).2,by omega,be0 n b many h0 h s r hb⟩
theorem z7 {k:Int}(h:k<=1000):k<=10^90:=kP h (by decide)
theorem qG {s:Sto}{r:Nat}{b:Nat×Nat}(h:r<s.length):∃ p,(s.set r (zA b))[r]?=some (zA p):=⟨b,zT h⟩
theorem aN5 {s t:Sto}{r:Nat}(h:∃ b,s[r]?=some (zA b)):∃ b,(s++t)[r]?=some (zA b):=by obtain⟨b,hb⟩:=h;exact⟨b,aa1 hb⟩
theorem aD9 {s:Sto}{r:Nat}(h:∃ b,s[r]?=some (zA b)):r<s.length:=by obtain⟨b,hb⟩:=h;exact(ac.mp hb).1
theorem aB4 {k:Nat}(h:k<3)(s:Sto):ixM (.str [97,98,99]) (.int (k:Int)) s=.ok (.str [97+k]) s:=by
 match k,h with
 | 0,_=>rfl
 | 1,_=>rfl
 | 2,_=>rfl
theorem ae0 {a b:List Nat}{s:Sto}(h:a.length+b.length<=LIM):z0 .add (.str a) (.str b) s=.ok (.str (a++b)) s:=by
 show(if a.length+b.length<=LIM then _ else _:M D) s=_;rw[if_pos h];rfl
def Lts (L:Nat)(w:List Nat):Prop:=∀ c∈w,97<=c/\c<97+L
theorem rep_len (l:List Nat):∀ n,(rep n l).length=l.length*n
 | 0=>by simp[rep]
 | n+1=>by simp[rep,rep_len l n,jP];omega
noncomputable def bM6 (L:Nat)(d:D):Bool:=match d with
 | .str w=>decide (w.length<=200)&&w.all λ c=>decide (97<=c/\c<97+L)
 | _=>false
structure Dr where
 a:Nat
 l:Nat
 b:Nat
 t:Nat
noncomputable def Dr.d (x:Dr):D:=.tup [.int x.a,.str [x.l],.int x.b,.int x.t]
structure Mc where
 L:Nat
 R:Nat
 bg:List Nat
 en:List Nat
 ds:List Dr
noncomputable def cb6 (l:List Nat):List D:=l.map λ(k:Nat)=>D.int (k:Int)
noncomputable def Mc.ps (m:Mc):List D:=[.int m.L,.int m.R,.tup (cb6 m.bg),.tup (cb6 m.en),.tup (m.ds.map Dr.d)]
noncomputable def Mc.d (m:Mc):D:=.tup m.ps
structure Dr.Ok (m:Mc)(x:Dr):Prop where
 a:x.a<m.R
 l:97<=x.l/\x.l<97+m.L
 b:x.b<m.R
 t:x.t<4
structure Mc.Ok (m:Mc):Prop where
 L1:1<=m.L
 L3:m.L<=3
 R1:1<=m.R
 R5:m.R<=5
 bg:(∀ k∈m.bg,k<m.R)/\m.bg.Pairwise (· < ·)
 en:(∀ k∈m.en,k<m.R)/\m.en.Pairwise (· < ·)
 ds:(∀ x∈m.ds,x.Ok m)/\m.ds.length<=75
section
variable {P:Pr}
@[simp] theorem bT1 (a b:Nat) (s:Sto):zf .ne (.str [a]) (.str [b]) s=.ok (.bl (!decide (a=b))) s:=by
 show(match eqv s DEEP (.str [a]) (.str [b])with|some r=>R.ok (D.bl (!r)) s|none=>.bad)=_
 have:eqv s DEEP (.str [a]) (.str [b])=some ([a]==[b]):=rfl
 rw[this]
 have e:([a]==[b])=decide (a=b):=by rw[gN];simp
 rw[e]
@[simp] theorem bR9 (a b:Nat) (s:Sto):zf .eq (.str [a]) (.str [b]) s=.ok (.bl (decide (a=b))) s:=by
 show(match eqv s DEEP (.str [a]) (.str [b])with|some r=>R.ok (D.bl r) s|none=>.bad)=_
 have:eqv s DEEP (.str [a]) (.str [b])=some ([a]==[b]):=rfl
 rw[this]
 have e:([a]==[b])=decide (a=b):=by rw[gN];simp
 rw[e]
end
theorem good_of {L:Nat}{w:List Nat}(h:w.length<=200)(hw:Lts L w):bM6 L (.str w)=true:=by
 unfold bM6
 simp only[h,decide_true,eP,aL,decide_eq_true_eq]
 exact hw
@[simp] theorem bW1 {F:Fns} {U:Env} {s:Sto} (a h p:E):ev F (.slLU a h p) U s=(ev F a U s).bind λ x s=>(ev F h U s).bind λ y s=>match y with|.int i=>(ev F p U s).bind (λ z s=>match z with|.int j=>slM x (some i) (some j) s|_=>.bad)|_=>.bad:=rfl
noncomputable abbrev qD:List Nat:=[108,101,116,116,101,114]
theorem two {l:List D}(h:l.length=2):∃ a b,l=[a,b]:=by
 match l,h with
 | [a,b],_=>exact⟨a,b,rfl⟩
noncomputable abbrev zK:List Nat:=[110,111,116,104,105,110,103]
noncomputable abbrev zF:List Nat:=[114,101,112,101,97,116]
noncomputable abbrev zp:List Nat:=[101,105,116,104,101,114]
noncomputable abbrev zo:List Nat:=[98,101,104,105,110,100]
noncomputable def SS (s:Sto)(r q:Nat)(b:Nat×Nat)(y:Int):Sto:=(s.set r (zA b)).set q (.lst [.int y])
theorem ac5 {s:Sto}{r q:Nat}{b:Nat×Nat}{y:Int}:(SS s r q b y).length=s.length:=by unfold SS;simp
theorem aX9 {s:Sto}{r q:Nat}{b:Nat×Nat}{y:Int}(hr:r<s.length)(hq:r≠q):(SS s r q b y)[r]?=some (zA b):=by
 unfold SS;rw[am (bS hq)];exact zT hr
theorem aZ7 {s:Sto}{r q:Nat}{b:Nat×Nat}{y:Int}(hq:q<s.length):(SS s r q b y)[q]?=some (.lst [.int y]):=by
 unfold SS;exact zT (by rw[aW];exact hq)
theorem ao7 {s:Sto}{r q:Nat}{b h:Nat×Nat}{y:Int}(hq:r≠q):(SS s r q b y).set r (zA h)=SS s r q h y:=by
 unfold SS;rw[List.set_comm _ _ (bS hq),cN]
theorem aA4 {s:Sto}{r q:Nat}{b:Nat×Nat}{y y':Int}:(SS s r q b y).set q (.lst [.int y'])=SS s r q b y':=by
 unfold SS;rw[cN]
theorem aT2 {s:Sto}{r q:Nat}{b:Nat×Nat}{y:Int}(h:s[r]?=some (zA b))(p:s[q]?=some (.lst [.int y])):SS s r q b y=s:=by
 unfold SS
 have e1:s.set r (zA b)=s:=by
  have e:s[r]'(ac.mp h).1=zA b:=(ac.mp h).2
  rw[<-e,eC]
 have e2:s.set q (.lst [.int y])=s:=by
  have e:s[q]'(ac.mp p).1=.lst [.int y]:=(ac.mp p).2
  rw[<-e,eC]
 rw[e1,e2]
theorem bK8 {s T:Sto}{r q:Nat}{b:Nat×Nat}{y:Int}(hr:r<s.length)(hq:q<s.length):SS (s++T) r q b y=SS s r q b y++T:=by
 unfold SS;rw[aw2 hr,aw2 (by rw[aW];exact hq)]
theorem aL5 {s:Sto}{r q:Nat}{b h:Nat×Nat}{y y':Int}(hq:r≠q):SS (SS s r q b y) r q h y'=SS s r q h y':=by
 show List.set (List.set (SS s r q b y) r (zA h)) q (.lst [.int y'])=_
 rw[ao7 hq,aA4]
theorem aF0 {s T:Sto}{r q:Nat}{b:Nat×Nat}{y:Int}{d:D}(h:∀ n,d.bnd n=true)(hd:∀ r,d≠.ref r):zn s d (SS s r q b y++T)=.ok d (SS s r q b y):=by
 have ho:ab3 s (SS s r q b y++T)=true:=by
  unfold ab3
  rw[aL]
  intro i p
  rw[bG]at p
  rw[ax (by rw[ac5];exact p)]
  unfold SS
  by_cases e:q=i
  .subst e;rw[a8 (by simpa using p),bh];exact .inr rfl
  .rw[am e]
   by_cases e2:r=i
   .subst e2;rw[a8 p,bh];exact .inr rfl
   .rw[am e2];simp
 have e:(SS s r q b y++T).take s.length=SS s r q b y:=by rw[eT (by rw[ac5];exact ai _),d6 (by rw[ac5];exact ai _)]
 unfold zn
 rw[if_pos ho]
 cases d with
 | ref r=>exact absurd rfl (hd r)
 | _=>simp only[h,if_true,e]
inductive Tr where
 | nothing|letter (c:Nat)|rep (t:Tr)|two (b:Bool) (t u:Tr)
noncomputable def cc3 (b:Bool):List Nat:=if b then zp else zo
noncomputable def cd1 (b:Bool):Nat:=if b then 124 else 46
noncomputable def Tr.d:Tr->D
 | .nothing=>.tup [.str zK]
 | .letter c=>.tup [.str qD,.str [c]]
 | .rep t=>.tup [.str zF,t.d]
 | .two b t u=>.tup [.str (cc3 b),t.d,u.d]
noncomputable def Tr.wr:Tr->List Nat
 | .nothing=>[45]
 | .letter c=>[c]
 | .rep t=>t.wr++[42]
 | .two b t u=>40::(t.wr++cd1 b::(u.wr++[41]))
noncomputable def Tr.ok:Tr->Prop
 | .nothing=>True
 | .letter c=>97<=c/\c<100
 | .rep t=>t.ok
 | .two _ t u=>t.ok/\u.ok
noncomputable def Tr.dep:Tr->Nat
 | .nothing=>1
 | .letter _=>1
 | .rep t=>t.dep+1
 | .two _ t u=>max t.dep u.dep+1
noncomputable def Tr.sz:Tr->Nat
 | .nothing=>1
 | .letter _=>1
 | .rep t=>t.sz+1
 | .two _ t u=>t.sz+u.sz+1
theorem Tr.bnd:∀(t:Tr) (n:Nat),t.d.bnd n=true
 | .nothing,n=>rfl
 | .letter c,n=>rfl
 | .rep t,n=>by unfold Tr.d D.bnd D.bndL D.bndL D.bndL;rw[Tr.bnd t n];rfl
 | .two b t u,n=>by unfold Tr.d D.bnd D.bndL D.bndL D.bndL D.bndL;rw[Tr.bnd t n,Tr.bnd u n];rfl
theorem Tr.noref (t:Tr):∀ r,t.d≠.ref r:=by cases t<;>nofun
theorem Tr.dep1 (t:Tr):1<=t.dep:=by cases t<;>simp[Tr.dep]
def bN5 (s:Sto)(r q k room:Nat)(x:R D):Prop:=∃(t:Tr) (b:Nat×Nat) (y:Int),(t.ok/\t.dep<=k/\t.sz<=room)/\x=.ok t.d (SS s r q b y)
theorem at6 {P:Pr}[Has P w_take][Has P w_set_2](n:Nat){r q:Nat}(J:r≠q)(k:Nat)(s:Sto)(room:Nat)(hs:∃ b,s[r]?=some (zA b))(hy:∃ y,s[q]?=some (.lst [.int y]))(a3:1<=room)(c2:room<=40)
  (ih:0<k->∀(s:Sto) (room:Nat),(∃ b,s[r]?=some (zA b))->(∃ y,s[q]?=some (.lst [.int y]))->1<=room->room<=40->bN5 s r q k room ((callN P (n+1)).call "_law_set" [.ref r,.int (k:Int),.int room,.ref q] s)) :
  bN5 s r q (k+1) room ((callN P (n+2)).call "_law_set" [.ref r,.int ((k:Int)+1),.int room,.ref q] s):=by
 have e0:(callN P (n+2)).call "_law_set" [.ref r,.int ((k:Int)+1),.int room,.ref q] s=_:=zl w_set_2 (n:=n+1) rfl
 rw[e0]
 have hr:=aD9 hs
 obtain⟨b0,b6⟩:=hs
 obtain⟨y0,b5⟩:=hy
 have hq:q<s.length:=(ac.mp b5).1
 have s0:=aT2 b6 b5
 have tk:∀(b:Nat×Nat) (y:Int) (T:Sto) (many:Int),0<many->many<=1000->∃(k:Nat) (Y:Nat×Nat),(k:Int)<many/\(callN P (n+1)).call "_law_take" [.ref r,.int many] (SS s r q b y++T)=.ok (.int k) (SS s r q Y y++T):=λ b y T many h0 h1=>by
  obtain⟨k,Y,h2,h3⟩:=zX (P:=P) n (s:=SS s r q b y++T) (r:=r) ⟨b,aa1 (aX9 hr J)⟩ many h0 (z7 h1)
  exact⟨k,Y,h2,by rw[h3,aw2 (by rw[ac5];exact hr),ao7 J]⟩
 have a1:∀(b:Nat×Nat) (y:Int) (many:Int),0<many->many<=1000->∃(k:Nat) (Y:Nat×Nat),(k:Int)<many/\(callN P (n+1)).call "_law_take" [.ref r,.int many] (SS s r q b y)=.ok (.int k) (SS s r q Y y):=λ b y many h0 h1=>by
  have:=tk b y [] many h0 h1
  simpa using this
 have rc:0<k->∀(b:Nat×Nat) (y:Int) (T:Sto) (rm:Nat),1<=rm->rm<=40->∃(d:Tr) (Y:Nat×Nat) (y':Int),(d.ok/\d.dep<=k/\d.sz<=rm)/\(callN P (n+1)).call "_law_set" [.ref r,.int (k:Int),.int rm,.ref q] (SS s r q b y++T)=.ok d.d (SS s r q Y y'++T):=λ hk b y T rm h1 h2=>by
  obtain⟨d,Y,y',hd,e⟩:=ih hk (SS s r q b y++T) rm ⟨b,aa1 (aX9 hr J)⟩ ⟨y,aa1 (aZ7 hq)⟩ h1 h2
  exact⟨d,Y,y',hd,by rw[e,bK8 (by rw[ac5];exact hr) (by rw[ac5];exact hq),aL5 J]⟩
 obtain⟨kind,b1,d0,e1⟩:=a1 b0 y0 8 (by decide) (by decide)
 have c0:(callN P (n+1)).call "_law_take" [.ref r,.int 8] s=.ok (.int kind) (SS s r q b1 y0):=by rw[s0]at e1;exact e1
 have z:∀(d:Tr) (b:Nat×Nat) (y:Int) (T:Sto),(d.ok/\d.dep<=k+1/\d.sz<=room)->bN5 s r q (k+1) room (zn s d.d (SS s r q b y++T)):=λ d b y T hd=>⟨d,b,y,hd,aF0 d.bnd d.noref⟩
 have F:∀(d:Tr) (b:Nat×Nat) (y:Int),(d.ok/\d.dep<=k+1/\d.sz<=room)->bN5 s r q (k+1) room (zn s d.d (SS s r q b y)):=λ d b y hd=>by
  have:=z d b y [] hd
  rwa [aN]at this
 have hc:ev (callN P (n+1)) (.or (.cmp .eq (.var 1) (.cst (.int 1))) (.or (.cmp .lt (.var 2) (.cst (.int 3))) (.cmp .eq (.var 4) (.cst (.int 0))))) [some (.ref r),some (.int ((k:Int)+1)),some (.int room),some (.ref q),some (.int kind),none,none,none] (SS s r q b1 y0)=.ok (.bl (decide (k=0\/room<3\/kind=0))) (SS s r q b1 y0):=by
  by_cases h0:k=0
  .simp -implicitDefEqProofs [h0]
  .have Z:¬((k:Int)+1=1):=by omega
   by_cases h1:room<3
   .have a0:(room:Int)<3:=by omega
    simp -implicitDefEqProofs [h0,Z,h1,a0]
   .have a0:¬(room:Int)<3:=by omega
    simp -implicitDefEqProofs [h0,Z,h1,a0]
 conv=>arg 6;simp -implicitDefEqProofs only[w_set_2,exs_cons,a9,cX,eF,eV,aq,ex_asg,ev_call,evas_ex,evas_nil,ev_var,getV_0,getV_s,ev_cst,Cn_int,R.bind_ok,c0,bindT_one,setV_s,setV_0,gP,setC_some,nxt_next,ex_ite,hc,tru_bl]
 by_cases hleaf:k=0\/room<3\/kind=0
 .rw[decide_eq_true hleaf]
  obtain⟨p,G,c3,e2⟩:=a1 b1 y0 4 (by decide) (by decide)
  have il:ixM (.ref q) (.int 0) (SS s r q G y0)=.ok (.int y0) (SS s r q G y0):=zI (j:=0) (aZ7 hq) rfl
  have c1:ev (callN P (n+1)) (.or (.cmp .eq (.var 5) (.cst (.int 3))) (.cmp .eq (.ix (.var 3) (.cst (.int 0))) (.cst (.int 0)))) [some (.ref r),some (.int ((k:Int)+1)),some (.int room),some (.ref q),some (.int kind),some (.int p),none,none] (SS s r q G y0)=.ok (.bl (decide (p=3\/y0=0))) (SS s r q G y0):=by
   by_cases h0:p=3
   .simp -implicitDefEqProofs [h0]
   .have Z:¬((p:Int)=3):=by omega
    simp -implicitDefEqProofs [h0,Z,il]
  conv=>arg 6;simp -implicitDefEqProofs only[if_true,exs_cons,ex_asg,ev_call,evas_ex,evas_nil,ev_var,getV_0,getV_s,ev_cst,Cn_int,R.bind_ok,e2,bindT_one,setV_s,setV_0,gP,setC_some,nxt_next,ex_ite,c1,tru_bl]
  by_cases h3:p=3\/y0=0
  .rw[decide_eq_true h3]
   conv=>arg 6;simp -implicitDefEqProofs
   exact F .nothing _ _ ⟨trivial,by show 1<=k+1;omega,a3⟩
  .rw[decide_eq_false h3]
   have a5:setIx (.ref q) (.int 0) (.int (y0 - 1)) (SS s r q G y0)=.ok () (SS s r q G (y0 - 1)):=by
    have:=aw1 (j:=0) (v:=.int (y0 - 1)) (aZ7 (b:=G) (y:=y0) (r:=r) hq) (by simp)
    rw[show((0:Nat):Int)=0 from rfl]at this
    rw[this]
    congr 1
    exact aA4
   have a6:=aB4 (k:=p) (by omega) (SS s r q G (y0 - 1))
   conv=>arg 6;simp -implicitDefEqProofs [il,a5,a6]
   exact F (.letter (97+p)) _ _ ⟨⟨by omega,by omega⟩,by show 1<=k+1;omega,a3⟩
 .rw[decide_eq_false hleaf]
  have a2:0<k:=by omega
  have d1:(k:Int)+1 - 1=(k:Int):=by omega
  by_cases h3:(kind:Int)<3
  .obtain⟨d,G,y2,hd,e2⟩:=rc a2 b1 y0 [] (room - 1) (by omega) (by omega)
   rw[aN,aN,show((room - 1:Nat):Int)=(room:Int) - 1 by omega]at e2
   conv=>arg 6;simp -implicitDefEqProofs [h3,e2]
   exact F (.rep d) _ _ ⟨hd.1,by show d.dep+1<=k+1;omega,by show d.sz+1<=room;omega⟩
  .obtain⟨a,G,ha,e2⟩:=a1 b1 y0 ((room:Int) - 2) (by omega) (by omega)
   obtain⟨d,b3,y3,hd,e3⟩:=rc a2 G y0 [] (a+1) (by omega) (by omega)
   rw[aN,aN,show((a+1:Nat):Int)=1+(a:Int)by omega]at e3
   obtain⟨d',b4,y4,a4,e4⟩:=rc a2 b3 y3 [.lst [.str zp,.str zo]] (room - 1 - (a+1)) (by omega) (by omega)
   rw[show((room - 1 - (a+1):Nat):Int)=(room:Int) - 1 - (1+(a:Int))by omega]at e4
   obtain⟨x,hx,ix⟩:∃ x,(x=zp\/x=zo)/\ixM (.ref s.length) (.int ((kind:Int) % 2)) (SS s r q b3 y3++[.lst [.str zp,.str zo]])=.ok (.str x) (SS s r q b3 y3++[.lst [.str zp,.str zo]]):=by
    have hl:(SS s r q b3 y3++[O.lst [.str zp,.str zo]])[s.length]?=some (.lst [.str zp,.str zo]):=by rw[aJ (by rw[ac5];exact ai _),ac5];simp
    rcases(show(kind:Int) % 2=((0:Nat):Int)\/(kind:Int) % 2=((1:Nat):Int)by omega)with h|h
    .exact⟨zp,.inl rfl,by rw[h];exact zI hl rfl⟩
    .exact⟨zo,.inr rfl,by rw[h];exact zI hl rfl⟩
   conv=>arg 6;simp -implicitDefEqProofs [h3,e2,e3,ac5,ad7,ix,e4]
   rcases hx with rfl|rfl
   .exact z (.two true d d') _ _ _ ⟨⟨hd.1,a4.1⟩,by show max d.dep d'.dep+1<=k+1;omega,by show d.sz+d'.sz+1<=room;omega⟩
   .exact z (.two false d d') _ _ _ ⟨⟨hd.1,a4.1⟩,by show max d.dep d'.dep+1<=k+1;omega,by show d.sz+d'.sz+1<=room;omega⟩
theorem bx8 {P:Pr}[Has P w_take][Has P w_set_2](n:Nat){r q:Nat}(G:r≠q):∀(k:Nat) (s:Sto) (room:Nat),(∃ b,s[r]?=some (zA b))->(∃ y,s[q]?=some (.lst [.int y]))->1<=room->room<=40 ->
  bN5 s r q (k+1) room ((callN P (n+k+2)).call "_law_set" [.ref r,.int ((k:Int)+1),.int room,.ref q] s):=by
 intro k
 induction k with
 | zero=>intro s room p F h3 z;exact at6 n G 0 s room p F h3 z (λ h=>absurd h (by decide))
 | succ k ih =>
  intro s room p F h3 z
  have:=at6 (P:=P) (n+k+1) G (k+1) s room p F h3 z (λ _ s room p F h3 z=>by
   rw[show((k+1:Nat):Int)=(k:Int)+1 by omega]
   exact ih s room p F h3 z)
  rw[show n+(k+1)+2=n+k+1+2 by omega]
  exact this
inductive Mt' (w:List Nat):Tr->Nat->Nat->Prop where
 | nothing {k:Nat} (h:k<=w.length):Mt' w .nothing k k
 | letter {c k:Nat} (h:w[k]?=some c):Mt' w (.letter c) k (k+1)
 | rep0 {t:Tr} {k:Nat} (h:k<=w.length):Mt' w (.rep t) k k
 | repS {t:Tr} {k m j:Nat} (h:Mt' w t k m) (g:Mt' w (.rep t) m j):Mt' w (.rep t) k j
 | inl {t u:Tr} {k j:Nat} (h:Mt' w t k j):Mt' w (.two true t u) k j
 | inr {t u:Tr} {k j:Nat} (h:Mt' w u k j):Mt' w (.two true t u) k j
 | both {t u:Tr} {k m j:Nat} (h:Mt' w t k m) (g:Mt' w u m j):Mt' w (.two false t u) k j
theorem Mt'.le {w:List Nat}{t:Tr}{k j:Nat}(h:Mt' w t k j):k<=j/\j<=w.length:=by
 induction h with
 | nothing h=>exact⟨ai _,h⟩
 | letter h=>exact⟨cb _,(ac.mp h).1⟩
 | rep0 h=>exact⟨ai _,h⟩
 | repS _ _ a b=>exact⟨ak a.1 b.1,b.2⟩
 | inl _ a=>exact a
 | inr _ a=>exact a
 | both _ _ a b=>exact⟨ak a.1 b.1,b.2⟩
noncomputable def Tr.cnt:Tr->Nat
 | .nothing=>0
 | .letter _=>1
 | .rep t=>t.cnt
 | .two _ t u=>t.cnt+u.cnt
noncomputable def Tr.nul:Tr->Bool
 | .nothing=>true
 | .letter _=>false
 | .rep _=>true
 | .two true t u=>t.nul||u.nul
 | .two false t u=>t.nul&&u.nul
noncomputable def Tr.fs:Tr->Nat->List Nat
 | .nothing,_=>[]
 | .letter _,b=>[b]
 | .rep t,b=>t.fs b
 | .two true t u,b=>t.fs b++u.fs (b+t.cnt)
 | .two false t u,b=>if t.nul then t.fs b++u.fs (b+t.cnt)else t.fs b
noncomputable def Tr.la:Tr->Nat->List Nat
 | .nothing,_=>[]
 | .letter _,b=>[b]
 | .rep t,b=>t.la b
 | .two true t u,b=>t.la b++u.la (b+t.cnt)
 | .two false t u,b=>if u.nul then t.la b++u.la (b+t.cnt)else u.la (b+t.cnt)
noncomputable def Tr.lt:Tr->List Nat
 | .nothing=>[]
 | .letter c=>[c]
 | .rep t=>t.lt
 | .two _ t u=>t.lt++u.lt
noncomputable def Tr.ed:Tr->Nat->Nat->Nat->Prop
 | .nothing,_,_,_=>False
 | .letter _,_,_,_=>False
 | .rep t,b,p,q=>t.ed b p q\/(p∈t.la b/\q∈t.fs b)
 | .two true t u,b,p,q=>t.ed b p q\/u.ed (b+t.cnt) p q
 | .two false t u,b,p,q=>(t.ed b p q\/u.ed (b+t.cnt) p q)\/(p∈t.la b/\q∈u.fs (b+t.cnt))
theorem Tr.lt_len:∀ t:Tr,t.lt.length=t.cnt
 | .nothing=>rfl
 | .letter _=>rfl
 | .rep t=>t.lt_len
 | .two _ t u=>by unfold Tr.lt Tr.cnt;rw[ar,t.lt_len,u.lt_len]
theorem Tr.fs_in:∀(t:Tr) (b:Nat),∀ p∈t.fs b,b<=p/\p<b+t.cnt
 | .nothing,b,p,h=>by cases h
 | .letter c,b,p,h=>by cases aR.mp h;exact⟨ai _,bR _⟩
 | .rep t,b,p,h=>t.fs_in b p h
 | .two true t u,b,p,h=>by
  show b<=p/\p<b+(t.cnt+u.cnt)
  rcases aO.mp (show p∈t.fs b++u.fs (b+t.cnt)from h)with z|z
  .have:=t.fs_in b p z;omega
  .have:=u.fs_in _ p z;omega
 | .two false t u,b,p,h=>by
  show b<=p/\p<b+(t.cnt+u.cnt)
  have h:p∈(if t.nul then t.fs b++u.fs (b+t.cnt)else t.fs b):=h
  split at h
  .rcases aO.mp h with z|z
   .have:=t.fs_in b p z;omega
   .have:=u.fs_in _ p z;omega
  .have:=t.fs_in b p h;omega
theorem Tr.la_in:∀(t:Tr) (b:Nat),∀ p∈t.la b,b<=p/\p<b+t.cnt
 | .nothing,b,p,h=>by cases h
 | .letter c,b,p,h=>by cases aR.mp h;exact⟨ai _,bR _⟩
 | .rep t,b,p,h=>t.la_in b p h
 | .two true t u,b,p,h=>by
  show b<=p/\p<b+(t.cnt+u.cnt)
  rcases aO.mp (show p∈t.la b++u.la (b+t.cnt)from h)with z|z
  .have:=t.la_in b p z;omega
  .have:=u.la_in _ p z;omega
 | .two false t u,b,p,h=>by
  show b<=p/\p<b+(t.cnt+u.cnt)
  have h:p∈(if u.nul then t.la b++u.la (b+t.cnt)else u.la (b+t.cnt)):=h
  split at h
  .rcases aO.mp h with z|z
   .have:=t.la_in b p z;omega
   .have:=u.la_in _ p z;omega
  .have:=u.la_in _ p h;omega
theorem Tr.ed_in:∀(t:Tr) (b p q:Nat),t.ed b p q->(b<=p/\p<b+t.cnt)/\b<=q/\q<b+t.cnt
 | .nothing,b,p,q,h=>h.elim
 | .letter c,b,p,q,h=>h.elim
 | .rep t,b,p,q,h=>by
  rcases(show t.ed b p q\/(p∈t.la b/\q∈t.fs b)from h)with z|z
  .exact t.ed_in b p q z
  .exact⟨t.la_in b p z.1,t.fs_in b q z.2⟩
 | .two true t u,b,p,q,h=>by
  show(b<=p/\p<b+(t.cnt+u.cnt))/\b<=q/\q<b+(t.cnt+u.cnt)
  rcases(show t.ed b p q\/u.ed (b+t.cnt) p q from h)with z|z
  .have:=t.ed_in b p q z;omega
  .have:=u.ed_in _ p q z;omega
 | .two false t u,b,p,q,h=>by
  show(b<=p/\p<b+(t.cnt+u.cnt))/\b<=q/\q<b+(t.cnt+u.cnt)
  rcases(show(t.ed b p q\/u.ed (b+t.cnt) p q)\/(p∈t.la b/\q∈u.fs (b+t.cnt))from h)with(z|z)|z
  .have:=t.ed_in b p q z;omega
  .have:=u.ed_in _ p q z;omega
  .have:=t.la_in b p z.1;have:=u.fs_in _ q z.2;omega
inductive Rn (w:List Nat)(lt:Nat->Option Nat)(E:Nat->Nat->Prop):Nat->Nat->Nat->Nat->Prop where
 | one {k p c:Nat} (h:w[k]?=some c) (l:lt p=some c):Rn w lt E k p (k+1) p
 | step {k p c p' j q:Nat} (h:w[k]?=some c) (l:lt p=some c) (e:E p p') (r:Rn w lt E (k+1) p' j q):Rn w lt E k p j q
theorem Rn.mono {w:List Nat}{lt:Nat->Option Nat}{E z:Nat->Nat->Prop}(m:∀ p q,E p q->z p q){k p j q:Nat}(h:Rn w lt E k p j q):Rn w lt z k p j q:=by
 induction h with
 | one h l=>exact .one h l
 | step h l e _ ih=>exact .step h l (m _ _ e) ih
theorem Rn.cat {w:List Nat}{lt:Nat->Option Nat}{E:Nat->Nat->Prop}{k p m q q' j r:Nat}(h:Rn w lt E k p m q)(e:E q q')(g:Rn w lt E m q' j r):Rn w lt E k p j r:=by
 induction h with
 | one h l=>exact .step h l e g
 | step h l e' _ ih=>exact .step h l e' (ih e g)
theorem Rn.snoc {w:List Nat}{lt:Nat->Option Nat}{E:Nat->Nat->Prop}{k p j q r c:Nat}(h:Rn w lt E k p j q)(e:E q r)(hc:w[j]?=some c)(l:lt r=some c):Rn w lt E k p (j+1) r:=h.cat e (.one hc l)
theorem Rn.last {w:List Nat}{lt:Nat->Option Nat}{E:Nat->Nat->Prop}{k p j q:Nat}(h:Rn w lt E k p j q):∃ z c,j=z+1/\w[z]?=some c/\lt q=some c/\((z=k/\q=p)\/∃ q',Rn w lt E k p z q'/\E q' q):=by
 induction h with
 | one h l=>exact⟨_,_,rfl,h,l,.inl ⟨rfl,rfl⟩⟩
 | step h l e r ih =>
  obtain⟨z,c,e1,e2,F,G⟩:=ih
  refine⟨z,c,e1,e2,F,.inr ?_⟩
  rcases G with⟨rfl,rfl⟩|⟨q',r',e'⟩
  .exact⟨_,.one h l,e⟩
  .exact⟨q',.step h l e r',e'⟩
theorem Rn.lt {w:List Nat}{lt:Nat->Option Nat}{E:Nat->Nat->Prop}{k p j q:Nat}(h:Rn w lt E k p j q):k<j:=by
 induction h with
 | one=>exact bR _
 | step _ _ _ _ ih=>omega
theorem Rn.stay {w:List Nat}{lt:Nat->Option Nat}{E z:Nat->Nat->Prop}{S:Nat->Prop}(cl:∀ p q,S p->E p q->z p q/\S q){k p j q:Nat}(h:Rn w lt E k p j q)(F:S p):Rn w lt z k p j q/\S q:=by
 induction h with
 | one h l=>exact⟨.one h l,F⟩
 | step h l e _ ih =>
  obtain⟨a,b⟩:=cl _ _ F e
  obtain⟨c,d⟩:=ih b
  exact⟨.step h l a c,d⟩
def Glu (w:List Nat)(lt:Nat->Option Nat)(t:Tr)(b k j:Nat):Prop:=(k=j/\k<=w.length/\t.nul=true)\/∃ p q,p∈t.fs b/\q∈t.la b/\Rn w lt (t.ed b) k p j q
def bh4 (lt:Nat->Option Nat)(t:Tr)(b:Nat):Prop:=∀ i,i<t.cnt->lt (b+i)=t.lt[i]?
theorem bh4.l {lt:Nat->Option Nat}{t u:Tr}{x:Bool}{b:Nat}(h:bh4 lt (.two x t u) b):bh4 lt t b:=λ i p=>by
 have:=h i (by show i<t.cnt+u.cnt;omega)
 rw[this]
 show(t.lt++u.lt)[i]?=_
 rw[ax (by rw[t.lt_len];exact p)]
theorem bh4.r {lt:Nat->Option Nat}{t u:Tr}{x:Bool}{b:Nat}(h:bh4 lt (.two x t u) b):bh4 lt u (b+t.cnt):=λ i p=>by
 have:=h (t.cnt+i) (by show t.cnt+i<t.cnt+u.cnt;omega)
 rw[cO,this]
 show(t.lt++u.lt)[t.cnt+i]?=_
 rw[aJ (by rw[t.lt_len];omega),t.lt_len,cj]
theorem glu_of {w:List Nat}{lt:Nat->Option Nat}{t:Tr}{k j:Nat}(h:Mt' w t k j):∀ b,bh4 lt t b->Glu w lt t b k j:=by
 induction h with
 | nothing h=>exact λ b _=>.inl ⟨rfl,h,rfl⟩
 | @letter c k h=>exact λ b hl=>.inr ⟨b,b,aR.mpr rfl,aR.mpr rfl,.one h (hl 0 jX)⟩
 | rep0 h=>exact λ b _=>.inl ⟨rfl,h,rfl⟩
 | @repS t k m j h g ih1 ih2 =>
  intro b hl
  have up:∀ {p q:Nat},t.ed b p q->(Tr.rep t).ed b p q:=λ z=>.inl z
  rcases ih1 b hl with⟨rfl,_,_⟩|⟨p,q,F,hq,r⟩
  .exact ih2 b hl
  .rcases ih2 b hl with⟨rfl,_,_⟩|⟨p',q',hp',hq',r'⟩
   .exact .inr ⟨p,q,F,hq,r.mono λ _ _=>up⟩
   .exact .inr ⟨p,q',F,hq',(r.mono λ _ _=>up).cat (.inr ⟨hq,hp'⟩) r'⟩
 | @inl t u k j h ih =>
  intro b hl
  rcases ih b hl.l with⟨rfl,hk,hn⟩|⟨p,q,F,hq,r⟩
  .exact .inl ⟨rfl,hk,by show(t.nul||u.nul)=true;rw[hn];rfl⟩
  .exact .inr ⟨p,q,b8 _ F,b8 _ hq,r.mono λ _ _ z=>.inl z⟩
 | @inr t u k j h ih =>
  intro b hl
  rcases ih _ hl.r with⟨rfl,hk,hn⟩|⟨p,q,F,hq,r⟩
  .exact .inl ⟨rfl,hk,by show(t.nul||u.nul)=true;rw[hn,Bool.or_true]⟩
  .exact .inr ⟨p,q,aZ _ F,aZ _ hq,r.mono λ _ _ z=>.inr z⟩
 | @both t u k m j h g ih1 ih2 =>
  intro b hl
  have u1:∀ p q,t.ed b p q->(Tr.two false t u).ed b p q:=λ _ _ z=>.inl (.inl z)
  have Z:∀ p q,u.ed (b+t.cnt) p q->(Tr.two false t u).ed b p q:=λ _ _ z=>.inl (.inr z)
  have hf:∀ p,p∈t.fs b->p∈(Tr.two false t u).fs b:=λ p F=>by show p∈(if t.nul then _ else _);split;exact b8 _ F;exact F
  have J:∀ p,p∈u.la (b+t.cnt)->p∈(Tr.two false t u).la b:=λ p F=>by show p∈(if u.nul then _ else _);split;exact aZ _ F;exact F
  rcases ih1 b hl.l with⟨rfl,hk,hn⟩|⟨p,q,F,hq,r⟩
  .rcases ih2 _ hl.r with⟨rfl,Y,G⟩|⟨p',q',hp',hq',r'⟩
   .exact .inl ⟨rfl,hk,by show(t.nul&&u.nul)=true;rw[hn,G];rfl⟩
   .exact .inr ⟨p',q',by show p'∈(if t.nul then _ else _);rw[if_pos hn];exact aZ _ hp',J _ hq',r'.mono Z⟩
  .rcases ih2 _ hl.r with⟨rfl,Y,G⟩|⟨p',q',hp',hq',r'⟩
   .exact .inr ⟨p,q,hf _ F,by show q∈(if u.nul then _ else _);rw[if_pos G];exact b8 _ hq,r.mono u1⟩
   .exact .inr ⟨p,q',hf _ F,J _ hq',(r.mono u1).cat (.inr ⟨hq,hp'⟩) (r'.mono Z)⟩
theorem ad4 {w:List Nat}:∀(t:Tr) {k:Nat},t.nul=true->k<=w.length->Mt' w t k k
 | .nothing,k,_,h=>.nothing h
 | .letter _,k,z,h=>by cases z
 | .rep t,k,_,h=>.rep0 h
 | .two true t u,k,z,h=>by
  rcases(bh _ _).mp (show(t.nul||u.nul)=true from z)with z|z
  .exact .inl (ad4 t z h)
  .exact .inr (ad4 u z h)
 | .two false t u,k,z,h=>by
  obtain⟨z1,z2⟩:=(ag _ _).mp (show(t.nul&&u.nul)=true from z)
  exact .both (ad4 t z1 h) (ad4 u z2 h)
theorem rep_cut {w:List Nat}{lt:Nat->Option Nat}{t:Tr}{b:Nat}(G:∀ {k j:Nat},Glu w lt t b k j->Mt' w t k j){k p j q:Nat}(h:Rn w lt ((Tr.rep t).ed b) k p j q)(hq:q∈t.la b) :
  (Rn w lt (t.ed b) k p j q)\/∃ m p' ,Rn w lt (t.ed b) k p m p'/\p'∈t.la b/\Mt' w (.rep t) m j:=by
 induction h with
 | one h l=>exact .inl (.one h l)
 | @step k p c p' j q h l e r ihr =>
  rcases ihr hq with z|⟨m,F,z1,z2,z3⟩
  .rcases e with e|⟨e1,e2⟩
   .exact .inl (.step h l e z)
   .refine .inr ⟨k+1,p,.one h l,e1,?_⟩
    have g:Mt' w t (k+1) j:=G (.inr ⟨p',q,e2,hq,z⟩)
    exact .repS g (.rep0 g.le.2)
  .rcases e with e|⟨e1,e2⟩
   .exact .inr ⟨m,F,.step h l e z1,z2,z3⟩
   .exact .inr ⟨k+1,p,.one h l,e1,.repS (G (.inr ⟨p',F,e2,z2,z1⟩)) z3⟩
theorem aI8 {w:List Nat}{lt:Nat->Option Nat}:∀(t:Tr) (b:Nat),bh4 lt t b->∀ {k j:Nat},Glu w lt t b k j->Mt' w t k j
 | .nothing,b,hl,k,j,h=>by
  rcases h with⟨rfl,hk,_⟩|⟨p,q,F,_⟩
  .exact .nothing hk
  .cases F
 | .letter c,b,hl,k,j,h=>by
  rcases h with⟨rfl,hk,z⟩|⟨p,q,F,hq,r⟩
  .cases z
  .cases aR.mp F
   cases r with
   | one h l =>
    have:=hl 0 jX
    rw[d9,l]at this
    cases this
    exact .letter h
   | step h l e r=>exact e.elim
 | .rep t,b,hl,k,j,h=>by
  rcases h with⟨rfl,hk,_⟩|⟨p,q,F,hq,r⟩
  .exact .rep0 hk
  .have ih:∀ {k j:Nat},Glu w lt t b k j->Mt' w t k j:=λ g=>aI8 t b hl g
   rcases rep_cut ih r hq with z|⟨m,p',z1,z2,z3⟩
   .have g:=ih (.inr ⟨p,q,F,hq,z⟩)
    exact .repS g (.rep0 g.le.2)
   .exact .repS (ih (.inr ⟨p,p',F,z2,z1⟩)) z3
 | .two true t u,b,hl,k,j,h=>by
  rcases h with⟨rfl,hk,z⟩|⟨p,q,F,hq,r⟩
  .exact ad4 _ z hk
  .have c1:∀ p q,(b<=p/\p<b+t.cnt)->(Tr.two true t u).ed b p q->t.ed b p q/\(b<=q/\q<b+t.cnt):=λ p q F e=>by
    rcases(show t.ed b p q\/u.ed (b+t.cnt) p q from e)with z|z
    .exact⟨z,(t.ed_in b p q z).2⟩
    .have:=(u.ed_in _ p q z).1;omega
   have c2:∀ p q,(b+t.cnt<=p)->(Tr.two true t u).ed b p q->u.ed (b+t.cnt) p q/\b+t.cnt<=q:=λ p q F e=>by
    rcases(show t.ed b p q\/u.ed (b+t.cnt) p q from e)with z|z
    .have:=(t.ed_in b p q z).1;omega
    .exact⟨z,(u.ed_in _ p q z).2.1⟩
   rcases aO.mp (show p∈t.fs b++u.fs (b+t.cnt)from F)with z|z
   .obtain⟨r1,s1⟩:=r.stay c1 (t.fs_in b p z)
    rcases aO.mp (show q∈t.la b++u.la (b+t.cnt)from hq)with y|y
    .exact .inl (aI8 t b hl.l (.inr ⟨p,q,z,y,r1⟩))
    .have:=(u.la_in _ q y).1;omega
   .obtain⟨r1,s1⟩:=r.stay c2 (u.fs_in _ p z).1
    rcases aO.mp (show q∈t.la b++u.la (b+t.cnt)from hq)with y|y
    .have:=(t.la_in _ q y).2;omega
    .exact .inr (aI8 u _ hl.r (.inr ⟨p,q,z,y,r1⟩))
 | .two false t u,b,hl,k,j,h=>by
  rcases h with⟨rfl,hk,z⟩|⟨p,q,F,hq,r⟩
  .exact ad4 _ z hk
  .have i1:∀ {k j:Nat},Glu w lt t b k j->Mt' w t k j:=λ g=>aI8 t b hl.l g
   have i2:∀ {k j:Nat},Glu w lt u (b+t.cnt) k j->Mt' w u k j:=λ g=>aI8 u _ hl.r g
   have c2:∀ p q,(b+t.cnt<=p)->(Tr.two false t u).ed b p q->u.ed (b+t.cnt) p q/\b+t.cnt<=q:=λ p q F e=>by
    rcases(show(t.ed b p q\/u.ed (b+t.cnt) p q)\/(p∈t.la b/\q∈u.fs (b+t.cnt))from e)with(z|z)|z
    .have:=(t.ed_in b p q z).1;omega
    .exact⟨z,(u.ed_in _ p q z).2.1⟩
    .have:=(t.la_in b p z.1).2;omega
   have a0:∀ {k p j q:Nat},Rn w lt ((Tr.two false t u).ed b) k p j q->(b<=p/\p<b+t.cnt)->(Rn w lt (t.ed b) k p j q/\q<b+t.cnt)\/∃ m p1 G,Rn w lt (t.ed b) k p m p1/\p1∈t.la b/\G∈u.fs (b+t.cnt)/\Rn w lt (u.ed (b+t.cnt)) m G j q/\b+t.cnt<=q:=by
    intro k p j q r
    induction r with
    | one h l=>intro F;exact .inl ⟨.one h l,F.2⟩
    | @step k p c p' j q h l e r ihr =>
     intro F
     rcases e with(e|e)|⟨e1,e2⟩
     .rcases ihr (t.ed_in b _ _ e).2 with⟨z,y⟩|⟨m,p1,G,z1,z2,z3,z4,z5⟩
      .exact .inl ⟨.step h l e z,y⟩
      .exact .inr ⟨m,p1,G,.step h l e z1,z2,z3,z4,z5⟩
     .have:=(u.ed_in _ _ _ e).1;omega
     .obtain⟨r1,s1⟩:=r.stay c2 (u.fs_in _ _ e2).1
      exact .inr ⟨k+1,p,p',.one h l,e1,e2,r1,s1⟩
   have Y:∀ {p},p∈u.fs (b+t.cnt)->p∈(Tr.two false t u).fs b->t.nul=true:=λ {p} hu F=>by
    have F:p∈(if t.nul then t.fs b++u.fs (b+t.cnt)else t.fs b):=F
    split at F
    .assumption
    .have:=(t.fs_in b p F).2;have:=(u.fs_in _ p hu).1;omega
   have J:∀ {q},q<b+t.cnt->q∈(Tr.two false t u).la b->u.nul=true/\q∈t.la b:=λ {q} hq1 hq=>by
    have hq:q∈(if u.nul then t.la b++u.la (b+t.cnt)else u.la (b+t.cnt)):=hq
    split at hq
    .rcases aO.mp hq with z|z
     .exact⟨‹_›,z⟩
     .have:=(u.la_in _ q z).1;omega
    .have:=(u.la_in _ q hq).1;omega
   have Z:∀ {q},b+t.cnt<=q->q∈(Tr.two false t u).la b->q∈u.la (b+t.cnt):=λ {q} hq1 hq=>by
    have hq:q∈(if u.nul then t.la b++u.la (b+t.cnt)else u.la (b+t.cnt)):=hq
    split at hq
    .rcases aO.mp hq with z|z
     .have:=(t.la_in _ q z).2;omega
     .exact z
    .exact hq
   have a1:p∈t.fs b\/p∈u.fs (b+t.cnt):=by
    have F:p∈(if t.nul then t.fs b++u.fs (b+t.cnt)else t.fs b):=F
    split at F
    .exact aO.mp F
    .exact .inl F
   rcases a1 with z|z
   .rcases a0 r (t.fs_in b p z)with⟨r1,y⟩|⟨m,p1,G,z1,z2,z3,z4,z5⟩
    .obtain⟨n1,n2⟩:=J y hq
     have g:=i1 (.inr ⟨p,q,z,n2,r1⟩)
     exact .both g (ad4 u n1 g.le.2)
    .exact .both (i1 (.inr ⟨p,p1,z,z2,z1⟩)) (i2 (.inr ⟨G,q,z3,Z z5 hq,z4⟩))
   .obtain⟨r1,s1⟩:=r.stay c2 (u.fs_in _ p z).1
    have g:=i2 (.inr ⟨p,q,z,Z s1 hq,r1⟩)
    exact .both (ad4 t (Y z F) (ak g.le.1 g.le.2)) g
noncomputable def row (m:Nat)(f:Nat->Int):List D:=(aS m).map λ j=>.int (f j)
@[simp] theorem bS8 {m:Nat} {f:Nat->Int}:(row m f).length=m:=by unfold row;simp
noncomputable def prN (f g:Nat->Nat->Int)(i j:Nat):Nat->Int
 | 0=>3
 | k+1=>if f i k<3 then(let b:=(if g k j > f i k then g k j else f i k);if b<prN f g i j k then b else prN f g i j k)else prN f g i j k
noncomputable def pr (m:Nat)(f g:Nat->Nat->Int)(i j:Nat):Int:=prN f g i j m
noncomputable def bJ2 (m:Nat)(f:Nat->Nat->Int):Sto:=(aS m).map λ i=>.lst (row m (f i))
@[simp] theorem bO1 {m:Nat} {f:Nat->Nat->Int}:(bJ2 m f).length=m:=by unfold bJ2;simp
noncomputable def ce5 (p m:Nat):List D:=(aS m).map λ i=>.ref (p+i)
theorem ix_str {l:List Nat}{j c:Nat}{s:Sto}(hj:l[j]?=some c):ixM (.str l) (.int (j:Int)) s=.ok (.str [c]) s:=by
 have hl:j<l.length:=(ac.mp hj).1
 have e:l[j]=c:=(ac.mp hj).2
 simp[ixM,ixn,hl,e]
noncomputable def shN (f:Nat->Nat->Int)(i j:Nat):Nat->Int
 | 0=>3
 | k+1=>let b:=max (max (f i k) (if f k k=1 then 2 else f k k)) (f k j);if b<shN f i j k then b else shN f i j k
noncomputable def sh (m:Nat)(f:Nat->Nat->Int)(i j:Nat):Int:=shN f i j m
inductive Stp where
 | let_ (c:Nat)|pair (i j:Nat)|sharp (i:Nat)
noncomputable def Stp.d:Stp->D
 | .let_ c=>.tup [.str [108,101,116,116,101,114],.str [c]]
 | .pair i j=>.tup [.str [112,97,105,114],.int i,.int j]
 | .sharp i=>.tup [.str [115,104,97,114,112],.int i]
section
variable {s:Sto} {r:Nat} {b:Int} {A B Cc:List D} {T:Sto}
end
section
variable {m:Nat} {f:Nat->Nat->Int} {x:Int}
end
noncomputable def bV6 (a c:Int)(vs:List Int):Stp->Int
 | .let_ _=>a
 | .pair i j=>vs.getD i 0+vs.getD j 0
 | .sharp i=>vs.getD i 0*c
noncomputable def vl (a c:Int)(l:List Stp):List Int:=l.foldl (λ vs x=>vs++[bV6 a c vs x]) []
section
variable {F:Fns} {U:Env} {s:Sto}
end
noncomputable def Stp.t (c:Int):Stp->D
 | .sharp i=>.tup [.str [116,105,109,101,115],.int i,.int c]
 | x=>x.d
section
variable {P:Pr} [Has P bO8] [Has P ak7] [HasL P ad8]
end
theorem qy {s:Sto}{o:O}:(s++[o])[s.length]?=some o:=by rw[aJ (ai _)];simp
end DV
end
local macro_rules | `(tactic| tbr_iter [$xs,*]) => `(tactic| simp -implicitDefEqProofs only [DV.exs_cons, DV.exs_nil, DV.ex_asg, DV.ex_ite, DV.ex_ret, DV.ex_ex, DV.ex_for, DV.ex_whl, DV.ex_setIx, DV.ev_var, DV.ev_cst, DV.ev_bin, DV.ev_not, DV.ev_cmp, DV.ev_and, DV.ev_or, DV.ev_ite, DV.ev_tup, DV.ev_lst, DV.ev_ix, DV.ev_call, DV.ev_bi, DV.ev_mk, DV.ev_meth, DV.evs_nil, DV.evs_cons, DV.evas_nil, DV.evas_ex, DV.evI_seq, DV.evI_rng1, DV.evL_seq, DV.Cn_bl, DV.Cn_int, DV.Cn_non, DV.Cn_str, DV.R.bind_ok, DV.bindT_one, DV.bindT_tup, DV.setVs_nil, DV.setVs_cons, DV.setV_s, DV.setV_0, DV.unsetV_s, DV.unsetV_0, DV.getV_0, DV.getV_s, Option.map_some, Option.bind_some, DV.setC_some, DV.nxt_next, DV.nxt_ret, DV.nxt_cont, DV.fin_ret, DV.fin_next, DV.add_int, DV.sub_int, DV.lt_int, DV.le_int, DV.gt_int, DV.ge_int, DV.eq_int, DV.ne_int, DV.alloc_eq, DV.tru_bl, if_true, if_false, Bool.false_eq_true, decide_true, decide_false, Bool.not_true, Bool.not_false, $[$xs:term],*])
noncomputable section
namespace DV
section
variable {F:Fns} {U:Env} {s:Sto}
theorem ae6 (o:E)(f:List Nat):ev F (.attr o f) U s=(ev F o U s).bind λ x s=>ae2 f x s:=rfl
theorem ba0 (e:E):ev F (.keysL e) U s=(ev F e U s).bind λ x s=>ab9 x s:=rfl
theorem bQ2 (e:E):ev F (.srt e) U s=(ev F e U s).bind λ x s=>(aK1 x s).bind λ q s=>aT9 q s:=rfl
theorem bD1 (c:String)(h:As):ev F (.new c h) U s=(af5 F h U s).bind λ l s=>(F.new c (.ref s.length::l) (s++[.ins c []])).bind λ d s'=>if d=.non then .ok (.ref s.length) s' else .bad:=rfl
theorem ab8 (o:E)(m:String)(h:As):ev F (.mcall o m h) U s=(ev F o U s).bind λ x s=>(bj0 x s).bind λ c s=>(af5 F h U s).bind λ l s=>F.mcall c m (x::l) s:=rfl
theorem aT8 (o:E)(f:List Nat)(e:E):ex F (.setA o f e) U s=(ev F e U s).bind λ d s=>(ev F o U s).bind λ x s=>(ai9 (λ c=>F.att c f) f x d s).bind λ _ s=>.ok (.next U) s:=rfl
theorem bs3 (tg:Tg)(e:E)(b:Ss):ex F (.forK tg e b) U s=((ev F e U s).bind λ d s=>ao2 d s).bind λ q s0=>if aJ1 s q.src then(az1 (λ s=>chk s0 s q.src) (turn F tg b) q.its U s0).bind (λ c s=>aq3 q.src c s)else .bad:=rfl
end
noncomputable def nLet:List Nat:=[108,101,116,116,101,114,115]
noncomputable def nFol:List Nat:=[102,111,108,108,111,119,115]
noncomputable def nEnd:List Nat:=[101,110,100,115]
noncomputable def flds (a b e:Nat):List (D×D):=[(.str nLet,.ref a),(.str nFol,.ref b),(.str nEnd,.ref e)]
theorem bp2 (a b e:Nat):look (.str nLet) (flds a b e)=some (.ref a):=by simp[look,flds,nLet,nFol,nEnd]
theorem bt0 (a b e:Nat):look (.str nFol) (flds a b e)=some (.ref b):=by simp[look,flds,nLet,nFol,nEnd]
theorem bx2 (a b e:Nat):look (.str nEnd) (flds a b e)=some (.ref e):=by simp[look,flds,nLet,nFol,nEnd]
theorem aM1 {s:Sto}{o a b e:Nat}(h:s[o]?=some (.ins "Rooms" (flds a b e))):ae2 nLet (.ref o) s=.ok (.ref a) s:=by unfold ae2;simp only[h,bp2]
theorem aw3 {s:Sto}{o a b e:Nat}(h:s[o]?=some (.ins "Rooms" (flds a b e))):ae2 nFol (.ref o) s=.ok (.ref b) s:=by unfold ae2;simp only[h,bt0]
theorem bw2 {s:Sto}{o a b e:Nat}(h:s[o]?=some (.ins "Rooms" (flds a b e))):ae2 nEnd (.ref o) s=.ok (.ref e) s:=by unfold ae2;simp only[h,bx2]
theorem qB {s:Sto}{o a b e:Nat}(h:s[o]?=some (.ins "Rooms" (flds a b e))):bj0 (.ref o) s=.ok "Rooms" s:=by unfold bj0;simp only[h]
theorem aJ3 {s t:Sto}(ho:ab3 s t=true)(hl:t.length=s.length):zn s .non t=.ok .non t:=by
 unfold zn
 rw[if_pos ho]
 have:D.bnd s.length .non=true:=rfl
 simp only[this,if_true]
 rw[<-hl,dt]
noncomputable def dk (l:List Nat):List (D×D):=l.map λ(q:Nat)=>(D.int (q:Int),D.bl true)
noncomputable def za (l:List Nat):List D:=l.map λ(q:Nat)=>D.int (q:Int)
noncomputable def ay0 (q:Nat)(l:List Nat):List Nat:=if q∈l then l else l++[q]
theorem ag7 {q x:Nat}{l:List Nat}:x∈ay0 q l↔x∈l\/x=q:=by
 unfold ay0
 split
 .constructor
  .exact .inl
  .rintro(h|rfl)
   .exact h
   .assumption
 .simp
theorem aM3 {q:Nat}{l:List Nat}(h:l.Nodup):(ay0 q l).Nodup:=by
 unfold ay0
 split
 .exact h
 .rename_i hq
  rw[fQ]
  exact⟨h,by simp,λ a ha b hb z=>hq (by rw[aR.mp hb]at z;rw[<-z];exact ha)⟩
theorem aF7:∀(n:Nat) (l:List Nat),l.Nodup->(∀ x∈l,x<n)->l.length<=n
 | 0,[],_,_=>ai _
 | 0,x::l,_,h=>absurd (h x (aA ..)) (by omega)
 | n+1,l,nd,h=>by
  have g:=aF7 n (l.filter λ x=>decide (x≠n)) (nd.filter _) λ x hx=>by
   have:=gK.mp hx
   have F:=h x this.1
   have G:=of_decide_eq_true this.2
   omega
  have k:∀ m:List Nat,m.Nodup->m.length<=(m.filter λ x=>decide (x≠n)).length+1:=by
   intro m
   induction m with
   | nil=>intro _;simp
   | cons a m ih =>
    intro p
    rw[dF]at p
    by_cases ha:a=n
    .have e:m.filter (λ x=>decide (x≠n))=m:=List.filter_eq_self.mpr λ x hx=>decide_eq_true λ z=>p.1 (by rw[ha,<-z];exact hx)
     rw[List.filter_cons_of_neg (by simp[ha]),e]
     simp
    .rw[List.filter_cons_of_pos (by simp[ha])]
     have:=ih p.2
     simp only[aP]
     omega
  have:=k l nd
  omega
theorem aN7 {q:Nat}:∀ {l:List Nat},(look (.int (q:Int)) (dk l)).isSome=decide (q∈l)
 | []=>rfl
 | x::l=>by
  show(if D.int (x:Int)=D.int (q:Int)then some (D.bl true)else look _ (dk l)).isSome=_
  by_cases h:x=q
  .subst h;simp
  .have:¬ D.int (x:Int)=D.int (q:Int):=λ z=>h (by injection z with z;omega)
   rw[if_neg this,aN7]
   simp[bS h]
theorem aR1 {q:Nat}{l:List Nat}:ao9 (.int (q:Int)) (.bl true) (dk l)=dk (ay0 q l):=by
 unfold ao9 ay0
 rw[aN7]
 by_cases h:q∈l
 .rw[if_pos h,if_pos (by simpa using h)]
  unfold dk
  rw[ee]
  refine dw λ x _=>?_
  show(if D.int (x:Int)=D.int (q:Int)then(D.int (x:Int),D.bl true)else(D.int (x:Int),D.bl true))=_
  split<;>rfl
 .rw[if_neg h,if_neg (by simpa using h)]
  unfold dk
  rw[bJ];rfl
theorem bM5 (l:List Nat)(n:Nat):(O.dic (dk l)).bnd n=true:=by
 unfold O.bnd
 rw[ag]
 refine⟨?_,?_⟩<;>(induction l with
  | nil=>rfl
  | cons x l ih=>exact ih)
theorem ag8 (l:List Nat)(n:Nat):D.bndL n (za l)=true:=by
 induction l with
 | nil=>rfl
 | cons x l ih=>exact ih
theorem bb5 {s t:Sto}(h:∀ i,i<s.length->t[i]?=s[i]?\/∃ o,t[i]?=some o/\o.bnd s.length=true):ab3 s t=true:=by
 unfold ab3
 rw[aL]
 intro i p
 rcases h i (bG.mp p)with z|⟨o,z1,z2⟩
 .rw[z];simp
 .rw[z1];simp[z2]
structure RoomsS (s:Sto)(o a b e:Nat)(L:List (List Nat))(rs:List Nat)(Fo:Nat->List Nat):Prop where
 ins:s[o]?=some (.ins "Rooms" (flds a b e))
 let_:s[a]?=some (.lst (L.map D.str))
 fol:s[b]?=some (.lst (rs.map D.ref))
 len:rs.length=L.length
 dic:∀(i r:Nat),rs[i]?=some r->s[r]?=some (.dic (dk (Fo i)))
 nd:rs.Nodup
 pos:0<L.length
 big:L.length<=60
 nf:∀ i,(Fo i).Nodup
 lt:∀ i q,q∈Fo i->q<L.length
theorem RoomsS.notIn {s:Sto}{o a b e:Nat}{L:List (List Nat)}{p:List Nat}{F:Nat->List Nat}(h:RoomsS s o a b e L p F){i:Nat}{x:O}(G:s[i]?=some x)(hx:∀ l,x≠.dic l):i ∉ p:=λ z=>by
 obtain⟨j,hj⟩:=eD.mp z
 have:=h.dic j i hj
 rw[G]at this
 exact hx _ (av this)
section
variable {P:Pr} [HasM P "Rooms" "link" d_Rooms_link]
noncomputable def lkB:Ss:=.cons (.setIx (.ix (.attr (.var 0) nFol) (.var 3)) (.var 4) (.cst (.bl true))) .nil
theorem aU0:d_Rooms_link.body=.cons (.for_ (.one 3) (.seq (.var 1)) (.cons (.for_ (.one 4) (.seq (.var 2)) lkB) .nil)) .nil:=rfl
theorem bo2 (n:Nat){s:Sto}{o a b e f g:Nat}{L:List (List Nat)}{G:List Nat}{F:Nat->List Nat}(h:RoomsS s o a b e L G F){p q:Nat}(hp:p<L.length)(hq:q<L.length)(x4:Option D) :
  ∃ s' Z,turn (callN P n) (.one 4) lkB (.int (q:Int)) [some (.ref o),some (.ref f),some (.ref g),some (.int (p:Int)),x4] s=.ok (.next [some (.ref o),some (.ref f),some (.ref g),some (.int (p:Int)),some (.int (q:Int))]) s' /\
   RoomsS s' o a b e L G Z/\(∀ p' q',q'∈Z p'↔q'∈F p'\/(p'=p/\q'=q))/\s'.length=s.length/\∀ i,i ∉ G->s'[i]?=s[i]?:=by
 have hr:p<G.length:=by rw[h.len];exact hp
 have er:G[p]?=some G[p]:=ah hr
 have hd:=h.dic p _ er
 have e1:=aw3 h.ins
 have e2:ixM (.ref b) (.int (p:Int)) s=.ok (.ref G[p]) s:=zI h.fol (by rw[aC,er];rfl)
 have hl:(F p).length<=60:=ak (aF7 _ _ (h.nf p) (h.lt p)) h.big
 have e3:setIx (.ref G[p]) (.int (q:Int)) (.bl true) s=.ok () (s.set G[p] (.dic (dk (ay0 q (F p))))):=by
  unfold setIx
  simp only[hd]
  rw[if_pos (by
   have:(dk (F p)).length=(F p).length:=by unfold dk;simp
   rw[ag]
   exact⟨rfl,decide_eq_true (by rw[this];unfold LIM;omega)⟩),aR1]
 have hlt:G[p]<s.length:=(ac.mp hd).1
 have J:∀ i,i ∉ G->(s.set G[p] (.dic (dk (ay0 q (F p)))))[i]?=s[i]?:=λ i Y=>am λ z=>Y (by rw[<-z];exact eK hr)
 refine⟨s.set G[p] (.dic (dk (ay0 q (F p)))),λ i=>if i=p then ay0 q (F p)else F i,?_,⟨?_,?_,?_,h.len,λ i r Y=>?_,h.nd,h.pos,h.big,λ i=>?_,λ i x hx=>?_⟩,λ p' q'=>?_,by simp,J⟩
 .unfold turn lkB
  tbr_iter [ae6,e1,e2,e3]
 .rw[J _ (h.notIn h.ins (by nofun))];exact h.ins
 .rw[J _ (h.notIn h.let_ (by nofun))];exact h.let_
 .rw[J _ (h.notIn h.fol (by nofun))];exact h.fol
 .by_cases z:i=p
  .subst z
   rw[er]at Y;cases Y
   rw[zT hlt,if_pos rfl]
  .rw[if_neg z]
   rw[am λ y=>z ((List.getElem?_inj (ac.mp Y).1 h.nd).mp (by rw[Y,<-y,er]))]
   exact h.dic i r Y
 .show(if i=p then _ else _:List Nat).Nodup
  split
  .exact aM3 (h.nf p)
  .exact h.nf i
 .have hx:x∈(if i=p then ay0 q (F p)else F i):=hx
  split at hx
  .rcases ag7.mp hx with z|z
   .exact h.lt p x z
   .rw[z];exact hq
  .exact h.lt i x hx
 .show q'∈(if p'=p then ay0 q (F p)else F p')↔_
  split
  .rename_i z
   subst z
   rw[ag7]
   simp
  .rename_i z
   simp[z]
theorem ag5 {l:List Nat}{i:Nat}{d:D}(h:(za l)[i]?=some d):∃ q,l[i]?=some q/\d=.int (q:Int):=by
 unfold za at h
 rw[aC]at h
 cases e:l[i]? with
 | none=>rw[e]at h;cases h
 | some q=>rw[e]at h;cases h;exact⟨q,rfl,rfl⟩
theorem zr (l:List Nat):(za l).length=l.length:=by unfold za;simp
theorem qd {α:Type}{l:List α}{i:Nat}{x:α}(h:l[i]?=some x)(y:α):y∈l.take (i+1)↔y∈l.take i\/y=x:=by
 rw[jy,h];simp
theorem az4 (n:Nat){s:Sto}{o a b e f g:Nat}{L:List (List Nat)}{J:List Nat}{Fo:Nat->List Nat}(h:RoomsS s o a b e L J Fo){A B:List Nat}(hA:∀ p∈A,p<L.length)(hB:∀ q∈B,q<L.length)(hf:s[f]?=some (.lst (za A)))(hg:s[g]?=some (.lst (za B))) :
  ∃ s' F,(callN P (n+1)).mcall "Rooms" "link" [.ref o,.ref f,.ref g] s=.ok .non s'/\RoomsS s' o a b e L J F/\(∀ p q,q∈F p↔q∈Fo p\/(p∈A/\q∈B))/\s'.length=s.length/\∀ i,i ∉ J->s'[i]?=s[i]?:=by
 have nf:=h.notIn hf (by nofun)
 have ng:=h.notIn hg (by nofun)
 have q1:∀ {t:Sto},t[f]?=some (.lst (za A))->al9 (.ref f) t=.ok ⟨za A,[f]⟩ t:=λ {t} ht=>by unfold al9;simp only[ht]
 have q2:∀ {t:Sto},t[g]?=some (.lst (za B))->al9 (.ref g) t=.ok ⟨za B,[g]⟩ t:=λ {t} ht=>by unfold al9;simp only[ht]
 have key:=qk (ok:=λ t=>chk s t [f]) (g:=turn (callN P n) (.one 3) (.cons (.for_ (.one 4) (.seq (.var 2)) lkB) .nil)) (λ j U t=>∃ x3 Z F,U=[some (.ref o),some (.ref f),some (.ref g),x3,Z]/\RoomsS t o a b e L J F/\(∀ p q,q∈F p↔q∈Fo p\/(p∈A.take j/\q∈B))/\t.length=s.length/\∀ i,i ∉ J->t[i]?=s[i]?)
  (za A) 0 [some (.ref o),some (.ref f),some (.ref g),none,none] s ⟨none,none,Fo,rfl,h,λ p q=>by simp,rfl,λ _ _=>rfl⟩ (λ j U t _ ⟨_,_,_,_,_,_,_,a0⟩=>by
   unfold chk
   rw[bI,a0 f nf];simp) ?_
 .obtain⟨U',s',e1,x3,Z,F,rfl,R',m',l',a4⟩:=key
  rw[be,zr,dt]at m'
  refine⟨s',F,?_,R',m',l',a4⟩
  rw[zP d_Rooms_link rfl,aU0,show(bD some [D.ref o,D.ref f,D.ref g]++aq d_Rooms_link.vs none)=[some (.ref o),some (.ref f),some (.ref g),none,none]from rfl]
  tbr_iter [q1 hf]
  rw[e1]
  tbr_iter []
  have ho:ab3 s s'=true:=bb5 λ i hi=>by
   by_cases z:i∈J
   .obtain⟨j,hj⟩:=eD.mp z
    exact .inr ⟨_,R'.dic j i hj,bM5 _ _⟩
   .exact .inl (a4 i z)
  exact aJ3 ho l'
 .rintro j d U t hj ⟨x3,Z,a2,rfl,R1,m1,l1,a1⟩
  obtain⟨p,hp,rfl⟩:=ag5 hj
  rw[be]at m1
  have a6:p∈A:=aY hp
  have b2:t[g]?=some (.lst (za B)):=by rw[a1 g ng];exact hg
  have a3:=qk (ok:=λ u=>chk t u [g]) (g:=turn (callN P n) (.one 4) lkB) (λ k U u=>∃ Z G,U=[some (.ref o),some (.ref f),some (.ref g),some (.int (p:Int)),Z]/\RoomsS u o a b e L J G/\(∀ p' q,q∈G p'↔q∈a2 p'\/(p'=p/\q∈B.take k))/\u.length=t.length/\∀ i,i ∉ J->u[i]?=t[i]?)
   (za B) 0 [some (.ref o),some (.ref f),some (.ref g),some (.int (p:Int)),Z] t ⟨Z,a2,rfl,R1,λ p' q=>by simp,rfl,λ _ _=>rfl⟩ (λ k U u _ ⟨_,_,_,_,_,_,a0⟩=>by
    unfold chk
    rw[bI,a0 g ng];simp) ?_
  .obtain⟨U',t',e2,b0,G,rfl,R2,m2,l2,Y⟩:=a3
   rw[be,zr,dt]at m2
   refine⟨[some (.ref o),some (.ref f),some (.ref g),some (.int (p:Int)),b0],t',.inl ?_,_,_,G,rfl,R2,λ p' q=>?_,by rw[l2,l1],λ i hi=>by rw[Y i hi,a1 i hi]⟩
   .unfold turn
    tbr_iter [q2 b2]
    rw[e2]
    tbr_iter []
   .rw[m2,m1,be,qd hp]
    constructor
    .rintro((z|z)|⟨rfl,z⟩)
     .exact .inl z
     .exact .inr ⟨.inl z.1,z.2⟩
     .exact .inr ⟨.inr rfl,z⟩
    .rintro(z|⟨z|z,y⟩)
     .exact .inl (.inl z)
     .exact .inl (.inr ⟨z,y⟩)
     .exact .inr ⟨z,y⟩
  .rintro k d U u hk ⟨x5,G,rfl,R2,m2,l2,Y⟩
   obtain⟨q,hq,rfl⟩:=ag5 hk
   rw[be]at m2
   obtain⟨u',b1,e3,R3,m3,l3,a5⟩:=bo2 (P:=P) n (f:=f) (g:=g) R2 (hA p a6) (hB q (aY hq)) x5
   refine⟨_,u',.inl e3,_,b1,rfl,R3,λ p' q'=>?_,by rw[l3,l2],λ i hi=>by rw[a5 i hi,Y i hi]⟩
   rw[m3,m2,be,qd hq]
   constructor
   .rintro((z|z)|⟨rfl,rfl⟩)
    .exact .inl z
    .exact .inr ⟨z.1,.inl z.2⟩
    .exact .inr ⟨rfl,.inr rfl⟩
   .rintro(z|⟨rfl,z|rfl⟩)
    .exact .inl (.inl z)
    .exact .inl (.inr ⟨rfl,z⟩)
    .exact .inr ⟨rfl,rfl⟩
end
section
variable {P:Pr} [HasM P "Rooms" "link" d_Rooms_link] [HasM P "Rooms" "lay_letter" d_Rooms_lay_letter] [HasM P "Rooms" "lay" d_Rooms_lay]
theorem zS {s t:Sto}{d:D}(hb:d.bnd s.length=false)(hr:∀ r,d≠.ref r):zn s d t=.ok d t:=by
 unfold zn
 split
 .cases d with
  | ref r=>exact absurd rfl (hr r)
  | _=>simp only[hb,bu,if_false]
 .rfl
structure Laid (s s':Sto)(o a b e:Nat)(L:List (List Nat))(rs:List Nat)(Fo:Nat->List Nat)(t:Tr)(rs':List Nat)(Fo':Nat->List Nat)(f l:Nat):Prop where
 st:RoomsS s' o a b e (L++t.lt.map λ c=>[c]) (rs++rs') Fo'
 ed:∀ p q,q∈Fo' p↔q∈Fo p\/t.ed L.length p q
 fs:s'[f]?=some (.lst (za (t.fs L.length)))
 la:s'[l]?=some (.lst (za (t.la L.length)))
 nf:s.length<=f
 nl:s.length<=l
 le:s.length<=s'.length
 nr:∀ r∈rs',s.length<=r
 fr:∀ i,i<s.length->i≠a->i≠b->i ∉ rs->s'[i]?=s[i]?
theorem av9 {L:List (List Nat)}(h:0<L.length){A:List Nat}:za A≠L.map D.str:=λ z=>by
 cases L with
 | nil=>cases h
 | cons x L=>cases A with
  | nil=>cases z
  | cons y A=>cases z
theorem ax0 {L:List Nat}(h:0<L.length){A:List Nat}:za A≠L.map D.ref:=λ z=>by
 cases L with
 | nil=>cases h
 | cons x L=>cases A with
  | nil=>cases z
  | cons y A=>cases z
theorem RoomsS.apart {s:Sto}{o a b e:Nat}{L:List (List Nat)}{F:List Nat}{G:Nat->List Nat}(h:RoomsS s o a b e L F G){i:Nat}{A:List Nat}(p:s[i]?=some (.lst (za A))):i≠a/\i≠b/\i ∉ F:=by
 refine⟨λ z=>?_,λ z=>?_,h.notIn p (by nofun)⟩
 .subst z;rw[h.let_]at p;injection p with p;injection p with p;exact av9 h.pos p.symm
 .subst z;rw[h.fol]at p;injection p with p;injection p with p;exact ax0 (by rw[h.len];exact h.pos) p.symm
theorem bh8:d_Rooms_lay_letter.body=.cons (.asg (.one 2) (.bi .len (.cons (.attr (.var 0) nLet) .nil))) (.cons (.ex (.meth .append (.attr (.var 0) nLet) (.cons (.var 1) .nil))) (.cons (.ex (.meth .append (.attr (.var 0) nFol) (.cons (.dic .nil .nil) .nil))) (.cons (.ret (.tup (.cons (.cst (.bl false)) (.cons (.lst (.cons (.var 2) .nil)) (.cons (.lst (.cons (.var 2) .nil)) .nil))))) .nil))):=rfl
theorem aA0 {F:Fns}{U:Env}{s:Sto}:ev F (.dic .nil .nil) U s=.ok (.ref s.length) (s++[.dic []]):=rfl
theorem qp {b:Bool}{f l n:Nat}(h:n<=f):(D.tup [.bl b,.ref f,.ref l]).bnd n=false:=by
 unfold D.bnd D.bndL D.bndL D.bndL D.bnd
 simp
 omega
theorem az2 (n:Nat){s:Sto}{o a b e:Nat}{L:List (List Nat)}{Y:List Nat}{Z:Nat->List Nat}(h:RoomsS s o a b e L Y Z)(hab:a≠b)(ho:o≠a/\o≠b)(c:Nat)(hL:L.length<60)(hF:∀ p,L.length<=p->Z p=[]) :
  ∃ s' a4 f l,(callN P (n+1)).mcall "Rooms" "lay_letter" [.ref o,.str [c]] s=.ok (.tup [.bl false,.ref f,.ref l]) s'/\Laid s s' o a b e L Y Z (.letter c) a4 Z f l:=by
 have ha:a<s.length:=(ac.mp h.let_).1
 have hb:b<s.length:=(ac.mp h.fol).1
 have a0:o<s.length:=(ac.mp h.ins).1
 have e1:=aM1 h.ins
 have e2:bi .len [.ref a] s=.ok (.int L.length) s:=by rw[aA1 h.let_,aD]
 have e3:=qq (v:=.str [c]) h.let_ (by rw[aD];unfold LIM;omega)
 generalize F:s.set a (.lst (L.map D.str++[.str [c]]))=s1 at e3
 have l1:s1.length=s.length:=by rw[<-F];simp
 have i1:s1[o]?=some (.ins "Rooms" (flds a b e)):=by rw[<-F,am (bS ho.1)];exact h.ins
 have b1:s1[b]?=some (.lst (Y.map D.ref)):=by rw[<-F,am hab];exact h.fol
 have a1:s1[a]?=some (.lst (L.map D.str++[.str [c]])):=by rw[<-F];exact zT ha
 have e4:=aw3 i1
 have e5:=qq (s:=s1++[.dic []]) (v:=.ref s1.length) (aa1 b1) (by rw[aD,h.len];unfold LIM;omega)
 generalize G:(s1++[O.dic []]).set b (.lst (Y.map D.ref++[.ref s1.length]))=s2 at e5
 have l2:s2.length=s.length+1:=by rw[<-G];simp[l1]
 have g2:∀ i,i<s.length->i≠a->i≠b->s2[i]?=s[i]?:=λ i J ia ib=>by
  rw[<-G,am (bS ib),ax (by omega),<-F,am (bS ia)]
 have d2:s2[s.length]?=some (.dic []):=by rw[<-G,am (by omega),<-l1];exact qy
 have b2:s2[b]?=some (.lst (Y.map D.ref++[.ref s1.length])):=by rw[<-G];exact zT (by simp;omega)
 have a2:s2[a]?=some (.lst (L.map D.str++[.str [c]])):=by rw[<-G,am (bS hab)];exact aa1 a1
 refine⟨s2++[.lst [.int L.length]]++[.lst [.int L.length]],[s.length],s2.length,s2.length+1,?_,⟨⟨?_,?_,?_,?_,λ i r J=>?_,?_,?_,?_,h.nf,λ i q hq=>?_⟩,λ p q=>?_,?_,?_,by omega,by omega,by simp;omega,λ r hr=>?_,λ i J ia ib ir=>?_⟩⟩
 .rw[zP d_Rooms_lay_letter rfl,bh8,show(bD some [D.ref o,D.str [c]]++aq d_Rooms_lay_letter.vs none)=[some (.ref o),some (.str [c]),none]from rfl]
  tbr_iter [ae6,e1,e2,e3,e4,aA0,e5]
  rw[show(s2++[O.lst [D.int L.length]]).length=s2.length+1 by simp]
  exact zS (qp (by omega)) (by nofun)
 .exact aa1 (aa1 (by rw[g2 o a0 ho.1 ho.2];exact h.ins))
 .exact aa1 (aa1 (by rw[a2,bJ];rfl))
 .exact aa1 (aa1 (by rw[b2,bJ,l1];rfl))
 .rw[ar,ar,h.len];rfl
 .refine aa1 (aa1 ?_)
  by_cases z:i<Y.length
  .rw[ax z]at J
   have hd:=h.dic i r J
   rw[g2 r (ac.mp hd).1 (λ y=>?_) (λ y=>?_)]
   .exact hd
   .subst y;rw[h.let_]at hd;cases hd
   .subst y;rw[h.fol]at hd;cases hd
  .rw[aJ (by omega)]at J
   have a3:i - Y.length=0:=by
    have:=(ac.mp J).1
    simp at this;omega
   rw[a3]at J
   cases J
   rw[hF i (by rw[<-h.len];omega)]
   exact d2
 .rw[fQ]
  refine⟨h.nd,by simp,λ x hx y hy z=>?_⟩
  obtain⟨j,hj⟩:=eD.mp hx
  have:=(ac.mp (h.dic j x hj)).1
  rw[aR.mp hy]at z
  omega
 .rw[ar];have:=h.pos;omega
 .simp[Tr.lt];omega
 .have:=h.lt i q hq
  rw[ar];omega
 .constructor
  .exact .inl
  .rintro(z|z)
   .exact z
   .exact z.elim
 .exact aa1 qy
 .rw[show s2.length+1=(s2++[O.lst [D.int L.length]]).length by simp];exact qy
 .rw[aR.mp hr];exact ai _
 .rw[bo,ax (by omega)];exact g2 i J ia ib
end
theorem Tr.fs_len:∀(t:Tr) (b:Nat),(t.fs b).length<=t.cnt
 | .nothing,b=>ai _
 | .letter c,b=>ai _
 | .rep t,b=>t.fs_len b
 | .two true t u,b=>by show(t.fs b++u.fs (b+t.cnt)).length<=t.cnt+u.cnt;have:=t.fs_len b;have:=u.fs_len (b+t.cnt);rw[ar];omega
 | .two false t u,b=>by
  show(if t.nul then t.fs b++u.fs (b+t.cnt)else t.fs b).length<=t.cnt+u.cnt
  have:=t.fs_len b
  have:=u.fs_len (b+t.cnt)
  split
  .rw[ar];omega
  .omega
theorem Tr.la_len:∀(t:Tr) (b:Nat),(t.la b).length<=t.cnt
 | .nothing,b=>ai _
 | .letter c,b=>ai _
 | .rep t,b=>t.la_len b
 | .two true t u,b=>by show(t.la b++u.la (b+t.cnt)).length<=t.cnt+u.cnt;have:=t.la_len b;have:=u.la_len (b+t.cnt);rw[ar];omega
 | .two false t u,b=>by
  show(if u.nul then t.la b++u.la (b+t.cnt)else u.la (b+t.cnt)).length<=t.cnt+u.cnt
  have:=t.la_len b
  have:=u.la_len (b+t.cnt)
  split
  .rw[ar];omega
  .omega
theorem RoomsS.app {s:Sto}{o a b e:Nat}{L:List (List Nat)}{p:List Nat}{z:Nat->List Nat}(h:RoomsS s o a b e L p z)(X:Sto):RoomsS (s++X) o a b e L p z :=
 ⟨aa1 h.ins,aa1 h.let_,aa1 h.fol,h.len,λ i r F=>aa1 (h.dic i r F),h.nd,h.pos,h.big,h.nf,h.lt⟩
theorem ac2 {S:Sto}{f g:Nat}{A B:List Nat}(h:S[f]?=some (.lst (za A)))(hg:S[g]?=some (.lst (za B)))(hl:A.length+B.length<=1000):z0 .add (.ref f) (.ref g) S=.ok (.ref S.length) (S++[.lst (za (A++B))]):=by
 unfold z0
 simp only[h,hg]
 rw[if_pos (by rw[zr,zr];unfold LIM;omega)]
 unfold za
 rw[bJ];rfl
theorem Laid.nil {s s':Sto}{o a b e:Nat}{L:List (List Nat)}{Z:List Nat}{G:Nat->List Nat}{t:Tr}{F:List Nat}{h:Nat->List Nat}{f l:Nat}(H:Laid s s' o a b e L Z G t F h f l)(Y:∀ p,L.length<=p->G p=[]):∀ p,(L++t.lt.map λ c=>[c]).length<=p->h p=[]:=λ p J=>by
 rw[ar,aD,t.lt_len]at J
 refine List.eq_nil_iff_forall_not_mem.mpr λ q hq=>?_
 rcases(H.ed p q).mp hq with z|z
 .rw[Y p (by omega)]at z;cases z
 .have:=(t.ed_in _ p q z).1;omega
section
variable {P:Pr} [HasM P "Rooms" "link" d_Rooms_link] [HasM P "Rooms" "lay_letter" d_Rooms_lay_letter] [HasM P "Rooms" "lay" d_Rooms_lay]
theorem ac9:d_Rooms_lay.body=(.cons (.ite (.cmp .eq (.ix (.var 1) (.cst (.int 0))) (.cst (.str [108,101,116,116,101,114]))) (.cons (.ret (.mcall (.var 0) "lay_letter" (.ex (.ix (.var 1) (.cst (.int 1))) .nil))) .nil) .nil) (.cons (.ite (.cmp .eq (.ix (.var 1) (.cst (.int 0))) (.cst (.str [110,111,116,104,105,110,103]))) (.cons (.ret (.tup (.cons (.cst (.bl true)) (.cons (.lst .nil) (.cons (.lst .nil) .nil))))) .nil) .nil) (.cons (.asg (.one 2) (.mcall (.var 0) "lay" (.ex (.ix (.var 1) (.cst (.int 1))) .nil))) (.cons (.ite (.cmp .eq (.ix (.var 1) (.cst (.int 0))) (.cst (.str [114,101,112,101,97,116]))) (.cons (.ex (.mcall (.var 0) "link" (.ex (.ix (.var 2) (.cst (.int 2))) (.ex (.ix (.var 2) (.cst (.int 1))) .nil)))) (.cons (.ret (.tup (.cons (.cst (.bl true)) (.cons (.ix (.var 2) (.cst (.int 1))) (.cons (.ix (.var 2) (.cst (.int 2))) .nil))))) .nil)) .nil) (.cons (.asg (.one 3) (.mcall (.var 0) "lay" (.ex (.ix (.var 1) (.cst (.int 2))) .nil))) (.cons (.ite (.cmp .eq (.ix (.var 1) (.cst (.int 0))) (.cst (.str [101,105,116,104,101,114]))) (.cons (.ret (.tup (.cons (.or (.ix (.var 2) (.cst (.int 0))) (.ix (.var 3) (.cst (.int 0)))) (.cons (.bin .add (.ix (.var 2) (.cst (.int 1))) (.ix (.var 3) (.cst (.int 1)))) (.cons (.bin .add (.ix (.var 2) (.cst (.int 2))) (.ix (.var 3) (.cst (.int 2)))) .nil))))) .nil) .nil) (.cons (.ex (.mcall (.var 0) "link" (.ex (.ix (.var 2) (.cst (.int 2))) (.ex (.ix (.var 3) (.cst (.int 1))) .nil)))) (.cons (.asg (.one 4) (.ite (.ix (.var 2) (.cst (.int 0))) (.bin .add (.ix (.var 2) (.cst (.int 1))) (.ix (.var 3) (.cst (.int 1)))) (.ix (.var 2) (.cst (.int 1))))) (.cons (.asg (.one 5) (.ite (.ix (.var 3) (.cst (.int 0))) (.bin .add (.ix (.var 2) (.cst (.int 2))) (.ix (.var 3) (.cst (.int 2)))) (.ix (.var 3) (.cst (.int 2))))) (.cons (.ret (.tup (.cons (.and (.ix (.var 2) (.cst (.int 0))) (.ix (.var 3) (.cst (.int 0)))) (.cons (.var 4) (.cons (.var 5) .nil))))) .nil)))))))))):=rfl
theorem zZ {a b:List Nat}{v:Bool}(h:(a==b)=v)(s:Sto):zf .eq (.str a) (.str b) s=.ok (.bl v) s:=by rw[<-h];rfl
theorem al4:∀(t:Tr) (n:Nat) {s:Sto} {o a b e:Nat} {L:List (List Nat)} {rs:List Nat} {Fo:Nat->List Nat},RoomsS s o a b e L rs Fo->a≠b->(o≠a/\o≠b)->L.length+t.cnt<=60->(∀ p,L.length<=p->Fo p=[]) ->
  ∃ s' b5 d0 f l,(callN P (n+t.dep+1)).mcall "Rooms" "lay" [.ref o,t.d] s=.ok (.tup [.bl t.nul,.ref f,.ref l]) s'/\Laid s s' o a b e L rs Fo t b5 d0 f l
 | .nothing,n,s,o,a,b,e,L,rs,Fo,h,hab,ho,hL,hF=>by
  refine⟨s++[.lst []]++[.lst []],[],Fo,s.length,s.length+1,?_,⟨?_,λ p q=>⟨.inl,λ z=>z.elim id bM⟩,aa1 qy,?_,ai _,cb _,by simp,(λ r hr=>by cases hr),λ i hi _ _ _=>?_⟩⟩
  .rw[zP d_Rooms_lay rfl,ac9,show(bD some [D.ref o,Tr.nothing.d]++aq d_Rooms_lay.vs none)=[some (.ref o),some Tr.nothing.d,none,none,none,none]from rfl]
   have I0:∀ S,ixM Tr.nothing.d (.int 0) S=.ok (.str zK) S:=λ S=>rfl
   have E1:∀ S,zf .eq (.str zK) (.str [108,101,116,116,101,114]) S=.ok (.bl false) S:=λ S=>zZ (by decide) S
   have E2:∀ S,zf .eq (.str zK) (.str [110,111,116,104,105,110,103]) S=.ok (.bl true) S:=λ S=>zZ (by decide) S
   tbr_iter [I0,E1,E2]
   rw[show(s++[O.lst []]).length=s.length+1 by simp]
   exact zS (qp (ai _)) (by nofun)
  .rw[show L++Tr.nothing.lt.map (λ c=>[c])=L from aN _,aN]
   exact(h.app _).app _
  .rw[show s.length+1=(s++[O.lst []]).length by simp];exact qy
  .rw[bo,ax hi]
 | .letter c,n,s,o,a,b,e,L,rs,Fo,h,hab,ho,hL,hF=>by
  obtain⟨s',b5,f,l,e1,H⟩:=az2 (P:=P) n h hab ho c (by have:(Tr.letter c).cnt=1:=rfl;omega) hF
  refine⟨s',b5,Fo,f,l,?_,H⟩
  rw[show n+(Tr.letter c).dep+1=(n+1)+1 from rfl,zP d_Rooms_lay rfl,ac9,show(bD some [D.ref o,(Tr.letter c).d]++aq d_Rooms_lay.vs none)=[some (.ref o),some (Tr.letter c).d,none,none,none,none]from rfl]
  have I0:∀ S,ixM (Tr.letter c).d (.int 0) S=.ok (.str qD) S:=λ S=>rfl
  have I1:∀ S,ixM (Tr.letter c).d (.int 1) S=.ok (.str [c]) S:=λ S=>rfl
  have E1:∀ S,zf .eq (.str qD) (.str [108,101,116,116,101,114]) S=.ok (.bl true) S:=λ S=>zZ (by decide) S
  tbr_iter [I0,I1,E1,ab8,qB h.ins,e1]
  exact zS (qp H.nf) (by nofun)
 | .rep t,n,s,o,a,b,e,L,rs,Fo,h,hab,ho,hL,hF=>by
  obtain⟨s1,a0,c0,f,l,e1,H⟩:=al4 t n h hab ho hL hF
  have G:(L++t.lt.map λ c=>[c]).length=L.length+t.cnt:=by rw[ar,aD,t.lt_len]
  obtain⟨s2,a5,e2,R2,m2,l2,a6⟩:=az4 (P:=P) (n+t.dep) H.st (A:=t.la L.length) (B:=t.fs L.length) (λ p hp=>by rw[G];exact(t.la_in _ p hp).2) (λ p hp=>by rw[G];exact(t.fs_in _ p hp).2) H.la H.fs
  refine⟨s2,a0,a5,f,l,?_,⟨R2,λ p q=>?_,?_,?_,H.nf,H.nl,by rw[l2];exact H.le,H.nr,λ i hi ia ib ir=>?_⟩⟩
  .rw[show n+(Tr.rep t).dep+1=(n+t.dep+1)+1 from rfl,zP d_Rooms_lay rfl,ac9,show(bD some [D.ref o,(Tr.rep t).d]++aq d_Rooms_lay.vs none)=[some (.ref o),some (Tr.rep t).d,none,none,none,none]from rfl]
   have I0:∀ S,ixM (Tr.rep t).d (.int 0) S=.ok (.str zF) S:=λ S=>rfl
   have I1:∀ S,ixM (Tr.rep t).d (.int 1) S=.ok t.d S:=λ S=>rfl
   have E1:∀ S,zf .eq (.str zF) (.str [108,101,116,116,101,114]) S=.ok (.bl false) S:=λ S=>zZ (by decide) S
   have E2:∀ S,zf .eq (.str zF) (.str [110,111,116,104,105,110,103]) S=.ok (.bl false) S:=λ S=>zZ (by decide) S
   have E3:∀ S,zf .eq (.str zF) (.str [114,101,112,101,97,116]) S=.ok (.bl true) S:=λ S=>zZ (by decide) S
   have J1:∀ S,ixM (.tup [.bl t.nul,.ref f,.ref l]) (.int 1) S=.ok (.ref f) S:=λ S=>rfl
   have J2:∀ S,ixM (.tup [.bl t.nul,.ref f,.ref l]) (.int 2) S=.ok (.ref l) S:=λ S=>rfl
   tbr_iter [I0,I1,E1,E2,E3,ab8,qB h.ins,e1,J1,J2,qB H.st.ins,e2]
   exact zS (qp H.nf) (by nofun)
  .rw[m2,H.ed]
   exact or_assoc
  .rw[a6 f (H.st.apart H.fs).2.2];exact H.fs
  .rw[a6 l (H.st.apart H.la).2.2];exact H.la
  .rw[a6 i λ z=>?_]
   .exact H.fr i hi ia ib ir
   .rcases aO.mp z with z|z
    .exact ir z
    .have:=H.nr i z;omega
 | .two true t u,n,s,o,a,b,e,L,rs,Fo,h,hab,ho,hL,hF=>by
  have hL:L.length+(t.cnt+u.cnt)<=60:=hL
  have G:(L++t.lt.map λ c=>[c]).length=L.length+t.cnt:=by rw[ar,aD,t.lt_len]
  obtain⟨s1,a0,c0,Z,l1,e1,F⟩:=al4 t (n+max t.dep u.dep - t.dep) h hab ho (by omega) hF
  rw[show n+max t.dep u.dep - t.dep+t.dep+1=n+max t.dep u.dep+1 by omega]at e1
  obtain⟨s2,b0,a5,f2,l2,e2,J⟩:=al4 u (n+max t.dep u.dep - u.dep) F.st hab ho (by rw[G];omega) (F.nil hF)
  rw[show n+max t.dep u.dep - u.dep+u.dep+1=n+max t.dep u.dep+1 by omega]at e2
  have a1:=F.st.apart F.fs
  have a2:=F.st.apart F.la
  have g1:s2[Z]?=some (.lst (za (t.fs L.length))):=by rw[J.fr Z (ac.mp F.fs).1 a1.1 a1.2.1 a1.2.2];exact F.fs
  have g2:s2[l1]?=some (.lst (za (t.la L.length))):=by rw[J.fr l1 (ac.mp F.la).1 a2.1 a2.2.1 a2.2.2];exact F.la
  have g3:=J.fs
  have g4:=J.la
  rw[G]at g3 g4
  have b1:=t.fs_len L.length
  have b2:=u.fs_len (L.length+t.cnt)
  have b3:=t.la_len L.length
  have b4:=u.la_len (L.length+t.cnt)
  have p1:=ac2 g1 g3 (by omega)
  have p2:=ac2 (aa1 (t:=[.lst (za (t.fs L.length++u.fs (L.length+t.cnt)))]) g2) (aa1 g4) (by omega)
  have b6:s.length<=s2.length:=ak F.le J.le
  refine⟨s2++[.lst (za (t.fs L.length++u.fs (L.length+t.cnt)))]++[.lst (za (t.la L.length++u.la (L.length+t.cnt)))],a0++b0,a5,s2.length,s2.length+1,?_,⟨?_,λ p q=>?_,aa1 qy,?_,b6,by omega,?_,λ r hr=>?_,λ i hi ia ib ir=>?_⟩⟩
  rotate_left
  .have:=(J.st.app [.lst (za (t.fs L.length++u.fs (L.length+t.cnt)))]).app [.lst (za (t.la L.length++u.la (L.length+t.cnt)))]
   rw[show(Tr.two true t u).lt=t.lt++u.lt from rfl,bJ,<-bo,<-bo]
   exact this
  .rw[J.ed,F.ed,G]
   exact or_assoc
  .rw[show s2.length+1=(s2++[O.lst (za (t.fs L.length++u.fs (L.length+t.cnt)))]).length by simp];exact qy
  .simp;omega
  .rcases aO.mp hr with z|z
   .exact F.nr r z
   .have:=J.nr r z;have:=F.le;omega
  .rw[bo,ax (by omega),J.fr i (by have:=F.le;omega) ia ib λ z=>?_]
   .exact F.fr i hi ia ib ir
   .rcases aO.mp z with z|z
    .exact ir z
    .have:=F.nr i z;omega
  .rw[show n+(Tr.two true t u).dep+1=(n+max t.dep u.dep+1)+1 from rfl,zP d_Rooms_lay rfl,ac9,show(bD some [D.ref o,(Tr.two true t u).d]++aq d_Rooms_lay.vs none)=[some (.ref o),some (Tr.two true t u).d,none,none,none,none]from rfl]
   have I0:∀ S,ixM (Tr.two true t u).d (.int 0) S=.ok (.str zp) S:=λ S=>rfl
   have I1:∀ S,ixM (Tr.two true t u).d (.int 1) S=.ok t.d S:=λ S=>rfl
   have I2:∀ S,ixM (Tr.two true t u).d (.int 2) S=.ok u.d S:=λ S=>rfl
   have E1:∀ S,zf .eq (.str zp) (.str [108,101,116,116,101,114]) S=.ok (.bl false) S:=λ S=>zZ (by decide) S
   have E2:∀ S,zf .eq (.str zp) (.str [110,111,116,104,105,110,103]) S=.ok (.bl false) S:=λ S=>zZ (by decide) S
   have E3:∀ S,zf .eq (.str zp) (.str [114,101,112,101,97,116]) S=.ok (.bl false) S:=λ S=>zZ (by decide) S
   have E4:∀ S,zf .eq (.str zp) (.str [101,105,116,104,101,114]) S=.ok (.bl true) S:=λ S=>zZ (by decide) S
   have J0:∀ S,ixM (.tup [.bl t.nul,.ref Z,.ref l1]) (.int 0) S=.ok (.bl t.nul) S:=λ S=>rfl
   have J1:∀ S,ixM (.tup [.bl t.nul,.ref Z,.ref l1]) (.int 1) S=.ok (.ref Z) S:=λ S=>rfl
   have J2:∀ S,ixM (.tup [.bl t.nul,.ref Z,.ref l1]) (.int 2) S=.ok (.ref l1) S:=λ S=>rfl
   have K0:∀ S,ixM (.tup [.bl u.nul,.ref f2,.ref l2]) (.int 0) S=.ok (.bl u.nul) S:=λ S=>rfl
   have K1:∀ S,ixM (.tup [.bl u.nul,.ref f2,.ref l2]) (.int 1) S=.ok (.ref f2) S:=λ S=>rfl
   have K2:∀ S,ixM (.tup [.bl u.nul,.ref f2,.ref l2]) (.int 2) S=.ok (.ref l2) S:=λ S=>rfl
   have c2:∀ S:Sto,(if t.nul=true then R.ok (D.bl true) S else R.ok (D.bl u.nul) S)=.ok (.bl (t.nul||u.nul)) S:=λ S=>by cases t.nul<;>rfl
   tbr_iter [I0,I1,I2,E1,E2,E3,E4,ab8,qB h.ins,e1,qB F.st.ins,e2,J0,K0,c2,J1,K1,p1,J2,K2,p2]
   rw[show(s2++[O.lst (za (t.fs L.length++u.fs (L.length+t.cnt)))]).length=s2.length+1 by simp]
   exact zS (qp b6) (by nofun)
 | .two false t u,n,s,o,a,b,e,L,rs,Fo,h,hab,ho,hL,hF=>by
  have hL:L.length+(t.cnt+u.cnt)<=60:=hL
  have G:(L++t.lt.map λ c=>[c]).length=L.length+t.cnt:=by rw[ar,aD,t.lt_len]
  obtain⟨s1,a0,c0,Z,l1,e1,F⟩:=al4 t (n+max t.dep u.dep - t.dep) h hab ho (by omega) hF
  rw[show n+max t.dep u.dep - t.dep+t.dep+1=n+max t.dep u.dep+1 by omega]at e1
  obtain⟨s2,b0,a5,f2,l2,e2,J⟩:=al4 u (n+max t.dep u.dep - u.dep) F.st hab ho (by rw[G];omega) (F.nil hF)
  rw[show n+max t.dep u.dep - u.dep+u.dep+1=n+max t.dep u.dep+1 by omega]at e2
  have a1:=F.st.apart F.fs
  have a2:=F.st.apart F.la
  have g1:s2[Z]?=some (.lst (za (t.fs L.length))):=by rw[J.fr Z (ac.mp F.fs).1 a1.1 a1.2.1 a1.2.2];exact F.fs
  have g2:s2[l1]?=some (.lst (za (t.la L.length))):=by rw[J.fr l1 (ac.mp F.la).1 a2.1 a2.2.1 a2.2.2];exact F.la
  have g3:=J.fs
  have g4:=J.la
  rw[G]at g3 g4
  have a4:(L++(t.lt.map λ c=>[c])++u.lt.map λ c=>[c]).length=L.length+(t.cnt+u.cnt):=by rw[ar,G,aD,u.lt_len];omega
  obtain⟨s3,d1,e3,R3,m3,l3,a3⟩:=az4 (P:=P) (n+max t.dep u.dep) J.st (A:=t.la L.length) (B:=u.fs (L.length+t.cnt)) (λ p hp=>by rw[a4];have:=(t.la_in _ p hp).2;omega) (λ p hp=>by rw[a4];have:=(u.fs_in _ p hp).2;omega) g2 g3
  have k1:s3[Z]?=_:=(a3 Z (J.st.apart g1).2.2).trans g1
  have k2:s3[l1]?=_:=(a3 l1 (J.st.apart g2).2.2).trans g2
  have k3:s3[f2]?=_:=(a3 f2 (J.st.apart g3).2.2).trans g3
  have k4:s3[l2]?=_:=(a3 l2 (J.st.apart g4).2.2).trans g4
  have b1:=t.fs_len L.length
  have b2:=u.fs_len (L.length+t.cnt)
  have b3:=t.la_len L.length
  have b4:=u.la_len (L.length+t.cnt)
  have c3:s.length<=s3.length:=by rw[l3];exact ak F.le J.le
  obtain⟨X,r,x1,x2,x3⟩:∃ X r,(if t.nul=true then z0 .add (.ref Z) (.ref f2) s3 else .ok (.ref Z) s3)=.ok (.ref r) (s3++X)/\(s3++X)[r]?=some (.lst (za ((Tr.two false t u).fs L.length)))/\s.length<=r:=by
   by_cases c:t.nul=true
   .refine⟨[.lst (za (t.fs L.length++u.fs (L.length+t.cnt)))],s3.length,?_,?_,c3⟩
    .rw[if_pos c];exact ac2 k1 k3 (by omega)
    .rw[qy,show(Tr.two false t u).fs L.length=(if t.nul then t.fs L.length++u.fs (L.length+t.cnt)else t.fs L.length)from rfl,if_pos c]
   .refine⟨[],Z,?_,?_,F.nf⟩
    .rw[if_neg c,aN]
    .rw[aN,k1,show(Tr.two false t u).fs L.length=(if t.nul then t.fs L.length++u.fs (L.length+t.cnt)else t.fs L.length)from rfl,if_neg c]
  obtain⟨Y,r',y1,y2,y3⟩:∃ Y r',(if u.nul=true then z0 .add (.ref l1) (.ref l2) (s3++X)else .ok (.ref l2) (s3++X))=.ok (.ref r') (s3++X++Y)/\(s3++X++Y)[r']?=some (.lst (za ((Tr.two false t u).la L.length)))/\s.length<=r':=by
   by_cases c:u.nul=true
   .refine⟨[.lst (za (t.la L.length++u.la (L.length+t.cnt)))],(s3++X).length,?_,?_,by rw[ar];omega⟩
    .rw[if_pos c];exact ac2 (aa1 k2) (aa1 k4) (by omega)
    .rw[qy,show(Tr.two false t u).la L.length=(if u.nul then t.la L.length++u.la (L.length+t.cnt)else u.la (L.length+t.cnt))from rfl,if_pos c]
   .refine⟨[],l2,?_,?_,ak F.le J.nl⟩
    .rw[if_neg c,aN]
    .rw[aN,aa1 k4,show(Tr.two false t u).la L.length=(if u.nul then t.la L.length++u.la (L.length+t.cnt)else u.la (L.length+t.cnt))from rfl,if_neg c]
  refine⟨s3++X++Y,a0++b0,d1,r,r',?_,⟨?_,λ p q=>?_,aa1 x2,y2,x3,y3,?_,λ r hr=>?_,λ i hi ia ib ir=>?_⟩⟩
  .rw[show n+(Tr.two false t u).dep+1=(n+max t.dep u.dep+1)+1 from rfl,zP d_Rooms_lay rfl,ac9,show(bD some [D.ref o,(Tr.two false t u).d]++aq d_Rooms_lay.vs none)=[some (.ref o),some (Tr.two false t u).d,none,none,none,none]from rfl]
   have I0:∀ S,ixM (Tr.two false t u).d (.int 0) S=.ok (.str zo) S:=λ S=>rfl
   have I1:∀ S,ixM (Tr.two false t u).d (.int 1) S=.ok t.d S:=λ S=>rfl
   have I2:∀ S,ixM (Tr.two false t u).d (.int 2) S=.ok u.d S:=λ S=>rfl
   have E1:∀ S,zf .eq (.str zo) (.str [108,101,116,116,101,114]) S=.ok (.bl false) S:=λ S=>zZ (by decide) S
   have E2:∀ S,zf .eq (.str zo) (.str [110,111,116,104,105,110,103]) S=.ok (.bl false) S:=λ S=>zZ (by decide) S
   have E3:∀ S,zf .eq (.str zo) (.str [114,101,112,101,97,116]) S=.ok (.bl false) S:=λ S=>zZ (by decide) S
   have E4:∀ S,zf .eq (.str zo) (.str [101,105,116,104,101,114]) S=.ok (.bl false) S:=λ S=>zZ (by decide) S
   have J0:∀ S,ixM (.tup [.bl t.nul,.ref Z,.ref l1]) (.int 0) S=.ok (.bl t.nul) S:=λ S=>rfl
   have J1:∀ S,ixM (.tup [.bl t.nul,.ref Z,.ref l1]) (.int 1) S=.ok (.ref Z) S:=λ S=>rfl
   have J2:∀ S,ixM (.tup [.bl t.nul,.ref Z,.ref l1]) (.int 2) S=.ok (.ref l1) S:=λ S=>rfl
   have K0:∀ S,ixM (.tup [.bl u.nul,.ref f2,.ref l2]) (.int 0) S=.ok (.bl u.nul) S:=λ S=>rfl
   have K1:∀ S,ixM (.tup [.bl u.nul,.ref f2,.ref l2]) (.int 1) S=.ok (.ref f2) S:=λ S=>rfl
   have K2:∀ S,ixM (.tup [.bl u.nul,.ref f2,.ref l2]) (.int 2) S=.ok (.ref l2) S:=λ S=>rfl
   have c1:∀ S:Sto,(if t.nul=true then R.ok (D.bl u.nul) S else R.ok (D.bl false) S)=.ok (.bl (t.nul&&u.nul)) S:=λ S=>by cases t.nul<;>rfl
   tbr_iter [I0,I1,I2,E1,E2,E3,E4,ab8,qB h.ins,e1,qB F.st.ins,e2,qB J.st.ins,J2,K1,e3,J0,J1,x1,K0,K2,y1,c1]
   exact zS (qp x3) (by nofun)
  .have:=(R3.app X).app Y
   rw[show(Tr.two false t u).lt=t.lt++u.lt from rfl,bJ,<-bo,<-bo]
   exact this
  .rw[m3,J.ed,F.ed,G]
   show _↔q∈Fo p\/((t.ed L.length p q\/u.ed (L.length+t.cnt) p q)\/(p∈t.la L.length/\q∈u.fs (L.length+t.cnt)))
   constructor
   .rintro(((z|z)|z)|z)
    .exact .inl z
    .exact .inr (.inl (.inl z))
    .exact .inr (.inl (.inr z))
    .exact .inr (.inr z)
   .rintro(z|(z|z)|z)
    .exact .inl (.inl (.inl z))
    .exact .inl (.inl (.inr z))
    .exact .inl (.inr z)
    .exact .inr z
  .simp;omega
  .rcases aO.mp hr with z|z
   .exact F.nr r z
   .have:=J.nr r z;have:=F.le;omega
  .have q1:=F.le
   have q2:=J.le
   have n1:i ∉ rs++a0:=λ z=>by
    rcases aO.mp z with z|z
    .exact ir z
    .have:=F.nr i z;omega
   rw[bo,ax (by omega),a3 i λ z=>?_,J.fr i (by omega) ia ib n1,F.fr i hi ia ib ir]
   rcases aO.mp z with z|z
   .exact n1 z
   .have:=J.nr i z;omega
end
theorem ag2 {s:Sto}{x y:O}{X:Sto}:(s++x::X).set s.length y=s++y::X:=by
 rw[List.set_append_right _ _ (ai _),jz];rfl
theorem ay3 {ok:String->Bool}(hk:ok "Rooms"=true){s X:Sto}{fs:List (D×D)}(h:fs.length<1000){f:List Nat}{v:D}:ai9 ok f (.ref s.length) v (s++.ins "Rooms" fs::X)=.ok () (s++.ins "Rooms" (ah3 (.str f) v fs)::X):=by
 unfold ai9
 have:(s++O.ins "Rooms" fs::X)[s.length]?=some (.ins "Rooms" fs):=by rw[aJ (ai _)];simp
 simp only[this,hk,eP,decide_eq_true h,if_true,ag2]
theorem aW9 {s t:Sto}{d:D}(i:Nat)(F:i<s.length){x:O}(h:t[i]?=some x)(p:s[i]?≠some x)(h3:x.bnd s.length=false):zn s d t=.ok d t:=by
 have:ab3 s t=false:=by
  rw[<-gf]
  intro z
  unfold ab3 at z
  have:=aL.mp z i (bG.mpr F)
  rw[h]at this
  simp only[h3,kB,decide_eq_true_eq]at this
  exact p this.symm
 unfold zn
 rw[this];rfl
theorem ax8 {s t:Sto}{r:Nat}{x:O}(hr:s.length<=r)(h:t[r]?=some x)(h3:x.bnd s.length=false):zn s (.ref r) t=.ok (.ref r) t:=by
 unfold zn
 split
 .simp only[Nat.not_lt.mpr hr,if_false,h,h3,bu]
 .rfl
theorem aG0 {a b e n:Nat}(h:n<=a):(O.ins "Rooms" (flds a b e)).bnd n=false:=by
 unfold O.bnd flds
 simp only[a9,cX,D.bndL,D.bnd]
 rw[decide_eq_false (by omega:¬ a<n)]
 simp
theorem aT5 {s t:Sto}(hl:s.length<=t.length)(h:∀ i,i<s.length->t[i]?=s[i]?):∃ G,t=s++G:=by
 refine⟨t.drop s.length,?_⟩
 have:t.take s.length=s:=by
  apply jB
  intro i
  rw[fD]
  split
  .exact h i ‹_›
  .rw[bW (by omega)]
 conv=>lhs;rw[<-List.take_append_drop s.length t,this]
theorem aV5 {a x:Int}:∀ {l:List Int},x∈ins a l↔x=a\/x∈l
 | []=>by simp[ins]
 | b::l=>by
  unfold ins
  split
  .simp
  .rw[aH,aV5,aH]
   constructor
   .rintro(h|h|h)
    .exact .inr (.inl h)
    .exact .inl h
    .exact .inr (.inr h)
   .rintro(h|h|h)
    .exact .inr (.inl h)
    .exact .inl h
    .exact .inr (.inr h)
theorem ab5 {x:Int}:∀ {l:List Int},x∈ao1 l↔x∈l
 | []=>Iff.rfl
 | a::l=>by unfold ao1;rw[aV5,ab5,aH]
theorem ah2:∀ l:List Nat,qf (za l)=some (l.map λ(q:Nat)=>(q:Int))
 | []=>rfl
 | x::l=>by
  show(qf (za l)).map _=_
  rw[ah2 l];rfl
theorem aC1 {l:List Nat}(hl:l.length<64)(S:Sto):∃ p,aT9 (za l) S=.ok (.ref S.length) (S++[.lst (za p)])/\∀ q,q∈p↔q∈l:=by
 refine⟨(ao1 (l.map λ(q:Nat)=>(q:Int))).map Int.toNat,?_,λ q=>?_⟩
 .unfold aT9
  rw[ah2]
  simp only[aD,hl,if_true]
  unfold za
  rw[ee]
  refine congrArg (λ z=>R.ok (D.ref S.length) (S++[O.lst z])) (dw λ x hx=>?_)
  obtain⟨y,_,rfl⟩:=bf.mp (ab5.mp hx)
  rfl
 .rw[bf]
  constructor
  .rintro⟨x,hx,rfl⟩
   obtain⟨y,hy,rfl⟩:=bf.mp (ab5.mp hx)
   exact hy
  .exact λ h=>⟨(q:Int),ab5.mpr (bf.mpr ⟨q,h,rfl⟩),rfl⟩
section
variable {P:Pr} [HasM P "Rooms" "link" d_Rooms_link] [HasM P "Rooms" "lay_letter" d_Rooms_lay_letter] [HasM P "Rooms" "lay" d_Rooms_lay] [HasM P "Rooms" "__init__" d_Rooms___init__] [HasA P "Rooms" nLet] [HasA P "Rooms" nFol] [HasA P "Rooms" nEnd]
theorem aV9:d_Rooms___init__.body=.cons (.setA (.var 0) nLet (.lst (.cons (.cst (.str [])) .nil))) (.cons (.setA (.var 0) nFol (.lst (.cons (.dic .nil .nil) .nil))) (.cons (.setA (.var 0) nEnd (.lst .nil)) .nil)):=rfl
noncomputable def S0 (s:Sto):Sto:=s++[.ins "Rooms" (flds (s.length+1) (s.length+3) (s.length+4)),.lst [.str []],.dic [],.lst [.ref (s.length+2)],.lst []]
theorem bu4 (n:Nat)(s:Sto):(callN P (n+1)).mcall "Rooms" "__init__" [.ref s.length] (s++[.ins "Rooms" []])=.ok .non (S0 s):=by
 have k1:(λ c=>(callN P n).att c nLet) "Rooms"=true:=an5
 have k2:(λ c=>(callN P n).att c nFol) "Rooms"=true:=an5
 have G:(λ c=>(callN P n).att c nEnd) "Rooms"=true:=an5
 have e1:=ay3 (ok:=λ c=>(callN P n).att c nLet) k1 (s:=s) (X:=[.lst [.str []]]) (fs:=[]) (by decide) (f:=nLet) (v:=.ref (s.length+1))
 have e2:=ay3 (ok:=λ c=>(callN P n).att c nFol) k2 (s:=s) (X:=[.lst [.str []],.dic [],.lst [.ref (s.length+2)]]) (fs:=ah3 (.str nLet) (.ref (s.length+1)) []) (by simp[ah3]) (f:=nFol) (v:=.ref (s.length+3))
 have h:=ay3 (ok:=λ c=>(callN P n).att c nEnd) G (s:=s) (X:=[.lst [.str []],.dic [],.lst [.ref (s.length+2)],.lst []]) (fs:=ah3 (.str nFol) (.ref (s.length+3)) (ah3 (.str nLet) (.ref (s.length+1)) [])) (by simp[ah3,nLet,nFol]) (f:=nEnd) (v:=.ref (s.length+4))
 have J:ah3 (.str nEnd) (.ref (s.length+4)) (ah3 (.str nFol) (.ref (s.length+3)) (ah3 (.str nLet) (.ref (s.length+1)) []))=flds (s.length+1) (s.length+3) (s.length+4):=by simp[ah3,flds,nLet,nFol,nEnd]
 rw[J]at h
 rw[zP d_Rooms___init__ rfl,aV9,show(bD some [D.ref s.length]++aq d_Rooms___init__.vs none)=[some (.ref s.length)]from rfl]
 have l1:(s++[O.ins "Rooms" []]).length=s.length+1:=by simp
 have F:∀ x y:O,(s++[x,y]).length=s.length+2:=λ _ _=>by simp
 have p:∀ x y z:O,(s++[x,y,z]).length=s.length+3:=λ _ _ _=>by simp
 have Y:∀ x y z v:O,(s++[x,y,z,v]).length=s.length+4:=λ _ _ _ _=>by simp
 tbr_iter [aT8,aA0,bo,eF,eV,l1,F,p,Y,e1,e2,h]
 refine aW9 s.length (by simp) (x:=.ins "Rooms" (flds (s.length+1) (s.length+3) (s.length+4))) ?_ ?_ ?_
 .rw[aJ (ai _)];simp
 .rw[qy]
  intro z
  injection z with z
  injection z with _ z
  cases z
 .rw[l1];exact aG0 (ai _)
theorem bl1 (s:Sto):RoomsS (S0 s) s.length (s.length+1) (s.length+3) (s.length+4) [[]] [s.length+2] (λ _=>[]):=by
 have g:∀ i,s.length<=i->(S0 s)[i]?=([.ins "Rooms" (flds (s.length+1) (s.length+3) (s.length+4)),.lst [.str []],.dic [],.lst [.ref (s.length+2)],.lst []]:Sto)[i - s.length]?:=λ i h=>aJ h
 refine⟨?_,?_,?_,rfl,λ i r h=>?_,by simp,by simp,by simp,λ i=>kr,λ i q hq=>by cases hq⟩
 .rw[g _ (ai _),jz];rfl
 .rw[g _ (by omega),cj];rfl
 .rw[g _ (by omega),cj];rfl
 .have p:i=0:=by
   have:=(ac.mp h).1
   simp at this;omega
  subst p
  cases h
  rw[g _ (by omega),cj];rfl
theorem be8:d_rooms_for.body=(.cons (.asg (.one 1) (.new "Rooms" .nil)) (.cons (.asg (.one 2) (.mcall (.var 1) "lay" (.ex (.var 0) .nil))) (.cons (.ex (.mcall (.var 1) "link" (.ex (.lst (.cons (.cst (.int 0)) .nil)) (.ex (.ix (.var 2) (.cst (.int 1))) .nil)))) (.cons (.setA (.var 1) nEnd (.ite (.ix (.var 2) (.cst (.int 0))) (.srt (.bin .add (.lst (.cons (.cst (.int 0)) .nil)) (.ix (.var 2) (.cst (.int 2))))) (.srt (.ix (.var 2) (.cst (.int 2)))))) (.cons (.ret (.var 1)) .nil))))):=rfl
theorem bq4 {k:Nat}{c:String}{l:List D}{s:Sto}:(callN P (k+2)).new c l s=(callN P (k+1)).mcall c "__init__" l s:=rfl
theorem bm8 (a b e r:Nat):ah3 (.str nEnd) (.ref r) (flds a b e)=flds a b r:=by simp[ah3,flds,nLet,nFol,nEnd]
theorem as1 [Has P d_rooms_for](t:Tr)(ht:t.cnt<=40)(n:Nat)(s:Sto):∃ G o a b e rs Fo h,(callN P (n+t.dep+2)).call "rooms_for" [t.d] s=.ok (.ref o) (s++G)/\RoomsS (s++G) o a b e ([]::t.lt.map λ c=>[c]) rs Fo /\
  (∀ p q,q∈Fo p↔(p=0/\q∈t.fs 1)\/t.ed 1 p q)/\(s++G)[e]?=some (.lst (za h))/\∀ q,q∈h↔(q=0/\t.nul=true)\/q∈t.la 1:=by
 have hd:=t.dep1
 obtain⟨k,hk⟩:∃ k,n+t.dep=k+1:=⟨n+t.dep - 1,by omega⟩
 obtain⟨s2,a5,b0,f,l,e1,H⟩:=al4 (P:=P) t n (bl1 s) (by omega) ⟨by omega,by omega⟩ (by simp;omega) (λ _ _=>rfl)
 have e0:=bu4 (P:=P) k s
 have R1:=H.st.app [.lst (za [0])]
 have a6:([]::t.lt.map λ c=>[c]:List (List Nat)).length=t.cnt+1:=by rw[aP,aD,t.lt_len]
 obtain⟨s3,a4,e2,R3,m3,l3,Z⟩:=az4 (P:=P) (n+t.dep) R1 (f:=s2.length) (g:=f) (A:=[0]) (B:=t.fs 1) (λ p hp=>by rw[aR.mp hp];exact R1.pos) (λ q hq=>by have:=(t.fs_in 1 q hq).2;show q<([]::t.lt.map λ c=>[c]:List (List Nat)).length;rw[a6];omega) qy (aa1 H.fs)
 have a2:s3[l]?=some (.lst (za (t.la 1))):=(Z l (R1.apart (aa1 H.la)).2.2).trans (aa1 H.la)
 have b1:=t.la_len 1
 obtain⟨X,r,h,x1,x2,x3⟩:∃ X r h,(if t.nul=true then((z0 .add (.ref s3.length) (.ref l) (s3++[.lst (za [0])])).bind λ x s=>(aK1 x s).bind λ q s=>aT9 q s)else(aK1 (.ref l) s3).bind λ q s=>aT9 q s)=.ok (.ref r) (s3++X)/\(s3++X)[r]?=some (.lst (za h))/\∀ q,q∈h↔(q=0/\t.nul=true)\/q∈t.la 1:=by
  by_cases c:t.nul=true
  .rw[if_pos c,ac2 (A:=[0]) qy (aa1 a2) (by simp;omega)]
   simp only[R.bind_ok]
   have:aK1 (.ref (s3++[O.lst (za [0])]).length) (s3++[O.lst (za [0])]++[O.lst (za ([0]++t.la 1))])=.ok (za ([0]++t.la 1)) (s3++[O.lst (za [0])]++[O.lst (za ([0]++t.la 1))]):=by unfold aK1;simp only[qy]
   rw[this]
   simp only[R.bind_ok]
   obtain⟨h,q1,q2⟩:=aC1 (l:=[0]++t.la 1) (by simp;omega) (s3++[O.lst (za [0])]++[O.lst (za ([0]++t.la 1))])
   refine⟨[O.lst (za [0]),O.lst (za ([0]++t.la 1)),.lst (za h)],(s3++[O.lst (za [0])]++[O.lst (za ([0]++t.la 1))]).length,h,?_,?_,λ q=>?_⟩
   .rw[q1];simp
   .rw[show s3++[O.lst (za [0]),O.lst (za ([0]++t.la 1)),O.lst (za h)]=(s3++[O.lst (za [0])]++[O.lst (za ([0]++t.la 1))])++[O.lst (za h)]by simp];exact qy
   .rw[q2,aO,aR];simp[c]
  .rw[if_neg c]
   have:aK1 (.ref l) s3=.ok (za (t.la 1)) s3:=by unfold aK1;simp only[a2]
   rw[this]
   simp only[R.bind_ok]
   obtain⟨h,q1,q2⟩:=aC1 (l:=t.la 1) (by omega) s3
   refine⟨[.lst (za h)],_,h,q1,qy,λ q=>?_⟩
   rw[q2];simp[c]
 have F:=R3.app X
 have a1:s.length<(s3++X).length:=(ac.mp F.ins).1
 have e5:ai9 (λ c=>(callN P (n+t.dep+1)).att c nEnd) nEnd (.ref s.length) (.ref r) (s3++X)=.ok () ((s3++X).set s.length (.ins "Rooms" (flds (s.length+1) (s.length+3) r))):=by
  have k3:(callN P (n+t.dep+1)).att "Rooms" nEnd=true:=an5
  unfold ai9
  simp only[F.ins,k3,bm8]
  rfl
 generalize hT:(s3++X).set s.length (.ins "Rooms" (flds (s.length+1) (s.length+3) r))=T at e5
 have J:∀ i,i≠s.length->T[i]?=(s3++X)[i]?:=λ i Y=>by rw[<-hT];exact am (bS Y)
 have RT:RoomsS T s.length (s.length+1) (s.length+3) r ([]::t.lt.map λ c=>[c]) ([s.length+2]++a5) a4:=by
  refine⟨?_,?_,?_,F.len,λ i r' Y=>?_,F.nd,F.pos,F.big,F.nf,F.lt⟩
  .rw[<-hT];exact zT a1
  .rw[J _ (by omega)];exact F.let_
  .rw[J _ (by omega)];exact F.fol
  .have:=F.dic i r' Y
   rw[J r' λ z=>by subst z;rw[F.ins]at this;cases this]
   exact this
 have hr:T[r]?=some (.lst (za h)):=by
  rw[J r λ z=>by subst z;rw[F.ins]at x2;cases x2]
  exact x2
 have a3:∀ i,i<s.length->T[i]?=s[i]?:=λ i Y=>by
  have q1:i<s2.length:=by have:=H.le;unfold S0 at this;simp at this;omega
  have nr:i ∉ [s.length+2]++a5:=λ z=>by
   rcases aO.mp z with z|z
   .rw[aR.mp z]at Y;omega
   .have:=H.nr i z;unfold S0 at this;simp at this;omega
  have q2:i<s3.length:=by rw[l3,ar];omega
  rw[J i (by omega),ax q2,Z i nr,ax q1,H.fr i (by unfold S0;simp;omega) (by omega) (by omega) (by simp;omega)]
  unfold S0
  rw[ax Y]
 obtain⟨G,hG⟩:=aT5 (s:=s) (t:=T) (by rw[<-hT,aW];omega) a3
 refine⟨G,s.length,s.length+1,s.length+3,r,_,a4,h,?_,hG▸RT,λ p q=>?_,hG▸hr,x3⟩
 .rw[<-hG]
  have c0:(callN P (n+t.dep+2)).call "rooms_for" [t.d] s=_:=zl d_rooms_for (n:=n+t.dep+1) rfl
  rw[c0,be8,show(bD some [t.d]++aq d_rooms_for.vs none)=[some t.d,none,none]from rfl]
  have nw:(callN P (n+t.dep+1)).new "Rooms" [.ref s.length] (s++[.ins "Rooms" []])=.ok .non (S0 s):=by rw[hk,bq4];exact e0
  have J0:∀ S,ixM (.tup [.bl t.nul,.ref f,.ref l]) (.int 0) S=.ok (.bl t.nul) S:=λ S=>rfl
  have J1:∀ S,ixM (.tup [.bl t.nul,.ref f,.ref l]) (.int 1) S=.ok (.ref f) S:=λ S=>rfl
  have J2:∀ S,ixM (.tup [.bl t.nul,.ref f,.ref l]) (.int 2) S=.ok (.ref l) S:=λ S=>rfl
  have a0:∀ S:Sto,S++[O.lst [D.int 0]]=S++[O.lst (za [0])]:=λ S=>rfl
  tbr_iter [bD1,nw,ab8,qB (bl1 s).ins,e1,qB H.st.ins,J1,a0,e2,aT8,J0,bQ2,J2]
  rw[x1]
  tbr_iter [e5]
  exact ax8 (ai _) (by rw[<-hT];exact zT a1) (aG0 (cb _))
 .rw[m3,H.ed]
  constructor
  .rintro((z|z)|⟨z1,z2⟩)
   .cases z
   .exact .inr z
   .exact .inl ⟨aR.mp z1,z2⟩
  .rintro(⟨z1,z2⟩|z)
   .exact .inr ⟨aR.mpr z1,z2⟩
   .exact .inl (.inr z)
end
section
variable {P:Pr} [Has P d_led_by]
noncomputable def ldB:Ss:=.cons (.ite (.cmp .eq (.ix (.attr (.var 0) nLet) (.var 5)) (.var 2)) (.cons (.setIx (.var 3) (.var 5) (.cst (.bl true))) .nil) .nil) .nil
noncomputable def ldA:Ss:=.cons (.forK (.one 5) (.ix (.attr (.var 0) nFol) (.var 4)) ldB) .nil
theorem bg1:d_led_by.body=.cons (.asg (.one 3) (.dic .nil .nil)) (.cons (.for_ (.one 4) (.seq (.var 1)) ldA) (.cons (.ret (.keysL (.var 3))) .nil)):=rfl
theorem aP8 (l:List Nat):(dk l).map (·.1)=za l:=by unfold dk za;rw[ee];rfl
theorem aU8 (l:List Nat):(dk l).all (λ p=>p.1.keyF)=true:=by
 rw[aL]
 intro p h
 obtain⟨x,_,rfl⟩:=bf.mp h
 rfl
theorem br4 {S:Sto}{X:List Nat}(hl:X.length<1000)(q:Nat):setIx (.ref S.length) (.int (q:Int)) (.bl true) (S++[.dic (dk X)])=.ok () (S++[.dic (dk (ay0 q X))]):=by
 unfold setIx
 simp only[qy]
 rw[if_pos (by
  have:(dk X).length=X.length:=by unfold dk;simp
  rw[ag]
  exact⟨rfl,decide_eq_true (by rw[this];unfold LIM;omega)⟩),aR1,ag2]
theorem bc2 {S:Sto}{r:Nat}{x y z:O}(h:S[r]?=some x):(S.set r y++[z]).set r x=S++[z]:=by
 have hr:r<S.length:=(ac.mp h).1
 rw[iq _ _ (by rw[aW];exact hr),cN]
 congr 1
 apply jB
 intro i
 by_cases z:i=r
 .subst z;rw[zT hr,h]
 .rw[am (bS z)]
theorem bm6 (n:Nat){S:Sto}{o a b e f:Nat}{L:List (List Nat)}{J:List Nat}{G:Nat->List Nat}(h:RoomsS S o a b e L J G)(c:List Nat){p:Nat}(hp:p<L.length){X:List Nat}(hX:X.Nodup)(a2:∀ x∈X,x<L.length)(x4 x5:Option D) :
  ∃ X' y5,turn (callN P n) (.one 4) ldA (.int (p:Int)) [some (.ref o),some (.ref f),some (.str c),some (.ref S.length),x4,x5] (S++[.dic (dk X)])=.ok (.next [some (.ref o),some (.ref f),some (.str c),some (.ref S.length),some (.int (p:Int)),y5]) (S++[.dic (dk X')]) /\
   X'.Nodup/\(∀ x∈X',x<L.length)/\∀ q,q∈X'↔q∈X\/(q∈G p/\L[q]?=some c):=by
 have hr:p<J.length:=by rw[h.len];exact hp
 have er:J[p]?=some J[p]:=ah hr
 have hd:=h.dic p _ er
 have a1:J[p]<S.length:=(ac.mp hd).1
 have no:J[p]≠o:=λ z=>by rw[z,h.ins]at hd;cases hd
 have na:J[p]≠a:=λ z=>by rw[z,h.let_]at hd;cases hd
 generalize a4:J[p]=r at *
 have e1:=aw3 (aa1 (t:=[.dic (dk X)]) h.ins)
 have e2:ixM (.ref b) (.int (p:Int)) (S++[.dic (dk X)])=.ok (.ref r) (S++[.dic (dk X)]):=zI (aa1 h.fol) (by rw[aC,er];rfl)
 have e3:ao2 (.ref r) (S++[.dic (dk X)])=.ok ⟨za (G p),[r]⟩ (S.set r (.dicF (dk (G p)))++[.dic (dk X)]):=by
  unfold ao2
  simp only[aa1 hd,aU8,if_true,aP8]
  rw[iq _ _ a1]
 have e4:aJ1 (S++[.dic (dk X)]) [r]=true:=by unfold aJ1;simp only[bI,kM,iU,aa1 hd]
 generalize F:S.set r (.dicF (dk (G p)))=S' at *
 have l':S'.length=S.length:=by rw[<-F];simp
 have r':S'[r]?=some (.dicF (dk (G p))):=by rw[<-F];exact zT a1
 have o':S'[o]?=some (.ins "Rooms" (flds a b e)):=by rw[<-F,am no];exact h.ins
 have a':S'[a]?=some (.lst (L.map D.str)):=by rw[<-F,am na];exact h.let_
 have key:=qk (ok:=λ u=>chk (S'++[.dic (dk X)]) u [r]) (g:=turn (callN P n) (.one 5) ldB) (λ j U u=>∃ x5 X',U=[some (.ref o),some (.ref f),some (.str c),some (.ref S.length),some (.int (p:Int)),x5]/\u=S'++[.dic (dk X')]/\X'.Nodup/\(∀ x∈X',x<L.length)/\∀ q,q∈X'↔q∈X\/(q∈(G p).take j/\L[q]?=some c))
  (za (G p)) 0 [some (.ref o),some (.ref f),some (.str c),some (.ref S.length),some (.int (p:Int)),x5] (S'++[.dic (dk X)]) ⟨x5,X,rfl,rfl,hX,a2,λ q=>by simp⟩ (λ j U u _ ⟨_,_,_,hu,_⟩=>by
   unfold chk
   subst hu
   rw[bI,aa1 r',aa1 r'];simp) ?_
 .obtain⟨U',s',k1,y5,X',rfl,rfl,m1,m2,Z⟩:=key
  rw[be,zr,dt]at Z
  refine⟨X',y5,?_,m1,m2,Z⟩
  have th:aq3 [r] (Ct.next [some (.ref o),some (.ref f),some (.str c),some (.ref S.length),some (.int (p:Int)),y5]) (S'++[.dic (dk X')])=.ok (.next [some (.ref o),some (.ref f),some (.str c),some (.ref S.length),some (.int (p:Int)),y5]) (S++[.dic (dk X')]):=by
   unfold aq3
   simp only[aa1 r']
   rw[<-F,bc2 hd]
  unfold turn ldA
  tbr_iter [bs3,ae6,e1,e2,e3,e4]
  rw[k1]
  tbr_iter [th]
 .rintro j d U u hj ⟨z5,X',rfl,rfl,m1,m2,Z⟩
  obtain⟨q,hq,rfl⟩:=ag5 hj
  rw[be]at Z
  have Y:q<L.length:=h.lt p q (aY hq)
  have f1:=aM1 (aa1 (t:=[.dic (dk X')]) o')
  have f2:ixM (.ref a) (.int (q:Int)) (S'++[.dic (dk X')])=.ok (.str L[q]) (S'++[.dic (dk X')]):=zI (aa1 a') (by rw[aC,ah Y];rfl)
  have a3:X'.length<=60:=ak (aF7 _ _ m1 m2) h.big
  have f3:=br4 (S:=S') (X:=X') (by omega) q
  rw[l']at f3
  have a0:L[q]?=some L[q]:=ah Y
  by_cases hc:L[q]=c
  .have f4:zf .eq (.str L[q]) (.str c) (S'++[.dic (dk X')])=.ok (.bl true) (S'++[.dic (dk X')]):=zZ (by rw[hc];simp) _
   refine⟨[some (.ref o),some (.ref f),some (.str c),some (.ref S.length),some (.int (p:Int)),some (.int (q:Int))],S'++[.dic (dk (ay0 q X'))],.inl ?_,_,ay0 q X',rfl,rfl,aM3 m1,λ x hx=>?_,λ x=>?_⟩
   .unfold turn ldB
    tbr_iter [ae6,f1,f2,f4,f3]
   .rcases ag7.mp hx with z|z
    .exact m2 x z
    .rw[z];exact Y
   .rw[ag7,Z,be,qd hq]
    constructor
    .rintro((z|z)|rfl)
     .exact .inl z
     .exact .inr ⟨.inl z.1,z.2⟩
     .exact .inr ⟨.inr rfl,by rw[a0,hc]⟩
    .rintro(z|⟨z|z,y⟩)
     .exact .inl (.inl z)
     .exact .inl (.inr ⟨z,y⟩)
     .exact .inr z
  .have f4:zf .eq (.str L[q]) (.str c) (S'++[.dic (dk X')])=.ok (.bl false) (S'++[.dic (dk X')]):=zZ (by simpa using hc) _
   refine⟨[some (.ref o),some (.ref f),some (.str c),some (.ref S.length),some (.int (p:Int)),some (.int (q:Int))],S'++[.dic (dk X')],.inl ?_,_,X',rfl,rfl,m1,m2,λ x=>?_⟩
   .unfold turn ldB
    tbr_iter [ae6,f1,f2,f4]
   .rw[Z,be,qd hq]
    constructor
    .rintro(z|z)
     .exact .inl z
     .exact .inr ⟨.inl z.1,z.2⟩
    .rintro(z|⟨z|rfl,y⟩)
     .exact .inl z
     .exact .inr ⟨z,y⟩
     .rw[a0]at y;exact absurd (av y) hc
theorem bq0 (n:Nat){S:Sto}{o a b e f:Nat}{L:List (List Nat)}{rs:List Nat}{Fo:Nat->List Nat}(h:RoomsS S o a b e L rs Fo)(c:List Nat){A:List Nat}(hf:S[f]?=some (.lst (za A)))(hA:∀ p∈A,p<L.length) :
  ∃ X,(callN P (n+1)).call "led_by" [.ref o,.ref f,.str c] S=.ok (.ref S.length) (S++[.lst (za X)])/\((∀ x∈X,x<L.length)/\X.length<=60)/\∀ q,q∈X↔∃ p∈A,q∈Fo p/\L[q]?=some c:=by
 have q1:al9 (.ref f) (S++[.dic (dk [])])=.ok ⟨za A,[f]⟩ (S++[.dic (dk [])]):=by unfold al9;simp only[aa1 hf]
 have key:=qk (ok:=λ u=>chk (S++[.dic (dk [])]) u [f]) (g:=turn (callN P n) (.one 4) ldA) (λ j U u=>∃ Y G X,U=[some (.ref o),some (.ref f),some (.str c),some (.ref S.length),Y,G]/\u=S++[.dic (dk X)]/\X.Nodup/\(∀ x∈X,x<L.length)/\∀ q,q∈X↔∃ p∈A.take j,q∈Fo p/\L[q]?=some c)
  (za A) 0 [some (.ref o),some (.ref f),some (.str c),some (.ref S.length),none,none] (S++[.dic (dk [])]) ⟨none,none,[],rfl,rfl,kr,(λ x hx=>by cases hx),λ q=>by simp⟩ (λ j U u _ ⟨_,_,_,_,hu,_⟩=>by
   unfold chk
   subst hu
   rw[bI,aa1 hf,aa1 hf];simp) ?_
 .obtain⟨U',s',k1,Y,G,X,rfl,rfl,m1,J,F⟩:=key
  rw[be,zr,dt]at F
  refine⟨X,?_,⟨J,ak (aF7 _ _ m1 J) h.big⟩,F⟩
  have c0:(callN P (n+1)).call "led_by" [.ref o,.ref f,.str c] S=_:=zl d_led_by (n:=n) rfl
  rw[c0,bg1,show(bD some [D.ref o,D.ref f,D.str c]++aq d_led_by.vs none)=[some (.ref o),some (.ref f),some (.str c),none,none,none]from rfl]
  have a0:S++[O.dic []]=S++[.dic (dk [])]:=rfl
  have e5:ab9 (.ref S.length) (S++[.dic (dk X)])=.ok (.ref (S.length+1)) (S++[.dic (dk X)]++[.lst (za X)]):=by
   unfold ab9
   simp only[qy,aU8,if_true,aP8]
   unfold aa7
   simp
  tbr_iter [aA0,a0,q1]
  rw[k1]
  tbr_iter [ba0,e5]
  have cn:=zO (s:=S) (t:=[.dic (dk X)]) (u:=[]) (o:=.lst (za X)) (by unfold O.bnd;exact ag8 _ _)
  rw[bo]
  exact cn
 .rintro j d U u hj ⟨Y,G,X,rfl,rfl,m1,J,F⟩
  obtain⟨p,Z,rfl⟩:=ag5 hj
  rw[be]at F
  obtain⟨X',y5,e1,n1,n2,n3⟩:=bm6 (P:=P) n (f:=f) h c (hA p (aY Z)) m1 J Y G
  refine⟨_,_,.inl e1,_,_,X',rfl,rfl,n1,n2,λ q=>?_⟩
  rw[n3,F,be]
  constructor
  .rintro(⟨p',z,y⟩|z)
   .exact⟨p',(qd Z p').mpr (.inl z),y⟩
   .exact⟨p,(qd Z p).mpr (.inr rfl),z⟩
  .rintro⟨p',z,y⟩
   rcases(qd Z p').mp z with z|rfl
   .exact .inl ⟨p',z,y⟩
   .exact .inr y
end
noncomputable def RS (w:List Nat)(k:Nat)(L:List (List Nat))(Fo:Nat->List Nat):Nat->Nat->Prop
 | 0,q=>q=0
 | j+1,q=>∃ p,RS w k L Fo j p/\q∈Fo p/\L[q]?=some ((w.drop (k+j)).take 1)
noncomputable def ltR (t:Tr)(p:Nat):Option Nat:=if p=0 then none else t.lt[p - 1]?
theorem aT4 (t:Tr):bh4 (ltR t) t 1:=λ i h=>by
 unfold ltR
 rw[if_neg (by omega),cj]
theorem aq0 {t:Tr}{q c:Nat}:([]::t.lt.map λ c=>[c]:List (List Nat))[q]?=some [c]↔ltR t q=some c:=by
 unfold ltR
 cases q with
 | zero=>simp
 | succ q =>
  rw[gd,if_neg (by omega),Nat.add_sub_cancel,aC]
  cases t.lt[q]?<;>simp
theorem aJ2 {w:List Nat}{k:Nat}(h:k<w.length):(w.drop k).take 1=[w[k]]:=by
 rw[dv h];rfl
section
variable {w:List Nat} {t:Tr} {Fo:Nat->List Nat} (hFo:∀ p q,q∈Fo p↔(p=0/\q∈t.fs 1)\/t.ed 1 p q)
include hFo
theorem aW8 {q:Nat}:q∈Fo 0↔q∈t.fs 1:=by
 rw[hFo]
 constructor
 .rintro(z|z)
  .exact z.2
  .have:=(t.ed_in 1 0 q z).1.1;omega
 .exact λ z=>.inl ⟨rfl,z⟩
theorem bj8 {p q:Nat}(h:p≠0):q∈Fo p↔t.ed 1 p q:=by
 rw[hFo]
 constructor
 .rintro(z|z)
  .exact absurd z.1 h
  .exact z
 .exact .inr
theorem aC5 {k:Nat}:∀(j q:Nat),k+j<w.length->(RS w k ([]::t.lt.map λ c=>[c]) Fo (j+1) q↔∃ p∈t.fs 1,Rn w (ltR t) (t.ed 1) k p (k+j+1) q)
 | 0,q,hj=>by
  rw[d9]at hj ⊢
  have hw:w[k]?=some w[k]:=ah hj
  constructor
  .rintro⟨p,z1,z2,z3⟩
   have z1:p=0:=z1
   subst z1
   rw[d9,aJ2 hj]at z3
   exact⟨q,(aW8 hFo).mp z2,.one hw (aq0.mp z3)⟩
  .rintro⟨p,hp,r⟩
   cases r with
   | one h l =>
    rw[hw]at h;cases h
    exact⟨0,rfl,(aW8 hFo).mpr hp,by rw[d9,aJ2 hj];exact aq0.mpr l⟩
   | step h l e r=>have:=r.lt;omega
 | j+1,q,hj=>by
  have hw:w[k+(j+1)]?=some w[k+(j+1)]:=ah hj
  constructor
  .rintro⟨p,z1,z2,z3⟩
   obtain⟨J,F,r⟩:=(aC5 j p (by omega)).mp z1
   rw[aJ2 hj]at z3
   have pn:p≠0:=λ z=>by
    obtain⟨_,c,_,_,l,_⟩:=r.last
    rw[z]at l;cases l
   exact⟨J,F,r.snoc ((bj8 hFo pn).mp z2) hw (aq0.mp z3)⟩
  .rintro⟨J,F,r⟩
   obtain⟨j',c,e1,e2,Y,Z⟩:=r.last
   have ej:j'=k+j+1:=by omega
   subst ej
   rcases Z with⟨z,_⟩|⟨p,r',e⟩
   .omega
   .have pn:p≠0:=λ z=>by have:=(t.ed_in 1 p q e).1.1;omega
    refine⟨p,(aC5 j p (by omega)).mpr ⟨J,F,r'⟩,(bj8 hFo pn).mpr e,?_⟩
    rw[aJ2 hj]
    have G:w[k+(j+1)]?=some c:=e2
    rw[hw]at G;cases G
    exact aq0.mpr Y
theorem bv1 {J:List Nat}(F:∀ q,q∈J↔(q=0/\t.nul=true)\/q∈t.la 1){k:Nat}:∀(j:Nat),k+j<=w.length->((∃ q,RS w k ([]::t.lt.map λ c=>[c]) Fo j q/\q∈J)↔Mt' w t k (k+j))
 | 0,hj=>by
  constructor
  .rintro⟨q,z,y⟩
   have z:q=0:=z
   subst z
   rcases(F 0).mp y with z|z
   .exact ad4 t z.2 hj
   .have:=(t.la_in 1 0 z).1;omega
  .intro h
   rcases glu_of h 1 (aT4 t)with⟨_,_,z⟩|⟨p,q,_,_,r⟩
   .exact⟨0,rfl,(F 0).mpr (.inl ⟨rfl,z⟩)⟩
   .have:=r.lt;omega
 | j+1,hj=>by
  constructor
  .rintro⟨q,z,y⟩
   obtain⟨p,G,r⟩:=(aC5 hFo j q (by omega)).mp z
   have Y:q≠0:=λ z=>by
    obtain⟨_,c,_,_,l,_⟩:=r.last
    rw[z]at l;cases l
   rcases(F q).mp y with z|z
   .exact absurd z.1 Y
   .exact aI8 t 1 (aT4 t) (.inr ⟨p,q,G,z,r⟩)
  .intro h
   rcases glu_of h 1 (aT4 t)with⟨z,_,_⟩|⟨p,q,G,hq,r⟩
   .omega
   .exact⟨q,(aC5 hFo j q (by omega)).mpr ⟨p,G,r⟩,(F q).mpr (.inr hq)⟩
end
theorem bn7 (s:Sto)(a b:Int):eqv s DEEP (.int a) (.int b)=some (a==b):=rfl
theorem aC2 (s:Sto)(q:Nat):∀ l:List Nat,inL s (.int (q:Int)) (za l)=some (decide (q∈l))
 | []=>rfl
 | x::l=>by
  show(match eqv s DEEP (.int (x:Int)) (.int (q:Int)),inL s (.int (q:Int)) (za l)with|some a,some b=>some (a||b)|_,_=>none)=_
  rw[bn7,aC2 s q l]
  show some _=some _
  congr 1
  by_cases h:q=x
  .subst h;simp
  .have:((x:Int)==(q:Int))=false:=beq_eq_false_iff_ne.mpr λ z=>h (by omega)
   rw[this];simp[h]
theorem aO7 {s:Sto}{e:Nat}{p:List Nat}(h:s[e]?=some (.lst (za p)))(q:Nat):zf .isin (.int (q:Int)) (.ref e) s=.ok (.bl (decide (q∈p))) s:=by
 show(inM (.int (q:Int)) (.ref e) s).bind _=_
 unfold inM
 simp only[h,aC2]
 rfl
noncomputable def bG2 (x y:D):M Sq:=λ s=>match x,y with|.int i,.int j=>if(-Ww62<=i/\i<Ww62)/\-Ww62<=j/\j<Ww62 then .ok ⟨ad6 i j,[]⟩ s else .bad|_,_=>.bad
theorem at5 {F:Fns}{U:Env}{s:Sto}(a b:E):evI F (.rng2 a b) U s=(ev F a U s).bind λ x s=>(ev F b U s).bind λ y s=>bG2 x y s:=rfl
theorem aX0 {i j:Int}(h:-1000<=i/\i<=1000)(hj:-1000<=j/\j<=1000)(s:Sto):bG2 (.int i) (.int j) s=.ok ⟨ad6 i j,[]⟩ s:=by
 show(if(-Ww62<=i/\i<Ww62)/\-Ww62<=j/\j<Ww62 then _ else _)=_
 rw[if_pos (by unfold Ww62;omega)]
theorem ao6 {F:Fns}{U:Env}{s:Sto}(a h p:E):ev F (.slLU a h p) U s=(ev F a U s).bind λ x s=>(ev F h U s).bind λ y s=>match y with|.int i=>(ev F p U s).bind (λ z s=>match z with|.int j=>slM x (some i) (some j) s|_=>.bad)|_=>.bad:=rfl
theorem aO3 {w:List Nat}{k:Nat}(hk:k<=w.length)(s:Sto):slM (.str w) (some (k:Int)) (some ((k:Int)+1)) s=.ok (.str ((w.drop k).take 1)) s:=by
 unfold slM af4
 simp only[loB,hiB,sbd]
 rw[if_pos (by omega),if_pos (by omega)]
 have e1:min (k:Int).toNat w.length=k:=by omega
 rw[e1]
 congr 2
 by_cases h:k<w.length
 .have e2:min ((k:Int)+1).toNat w.length - k=1:=by omega
  rw[e2]
 .have hd:w.drop k=[]:=cZ (by omega)
  rw[hd];simp
theorem bp6 (l:List Nat)(p:Nat->Bool)(s:Sto):mk .any (l.map λ q=>D.bl (p q)) s=.ok (.bl (l.any p)) s:=by
 have:∀ l:List Nat,ad9 (l.map λ q=>D.bl (p q))=some (l.map p):=by
  intro l
  induction l with
  | nil=>rfl
  | cons x l ih=>show(ad9 (l.map λ q=>D.bl (p q))).map _=_;rw[ih];rfl
 unfold mk
 simp only[this]
 congr 2
 induction l with
 | nil=>rfl
 | cons x l ih=>simp
section
variable {P:Pr} [Has P d_led_by] [Has P d_ends_from]
noncomputable def efB:Ss:=.cons (.ite (.mk .any (.comp (.one 0) (.seq (.var 4)) (.cmp .isin (.var 0) (.attr (.var 1) nEnd)) [none,some 0])) (.cons (.ex (.meth .append (.var 3) (.cons (.var 5) .nil))) .nil) .nil) (.cons (.asg (.one 4) (.call "led_by" (.ex (.var 0) (.ex (.var 4) (.ex (.slLU (.var 1) (.var 5) (.bin .add (.var 5) (.cst (.int 1)))) .nil))))) .nil)
theorem aV0:d_ends_from.body=.cons (.asg (.one 3) (.lst .nil)) (.cons (.asg (.one 4) (.lst (.cons (.cst (.int 0)) .nil))) (.cons (.for_ (.one 5) (.rng2 (.var 2) (.bin .add (.bi .len (.cons (.var 1) .nil)) (.cst (.int 1)))) efB) (.cons (.ret (.var 3)) .nil))):=rfl
theorem aB9 (F:Fns){ok:Sto->Bool}{u:Sto}{o a b e:Nat}{h:List Nat}(hok:ok u=true)(ho:u[o]?=some (.ins "Rooms" (flds a b e)))(p:u[e]?=some (.lst (za h))):∀(X:List Nat) (x0:Option D),
  qE ok (ae5 F (.one 0) (.cmp .isin (.var 0) (.attr (.var 1) nEnd))) (za X) [x0,some (.ref o)] u=.ok (X.map λ q=>D.bl (decide (q∈h))) u
 | [],x0=>by show(if ok u=true then _ else _)=_;rw[if_pos hok];rfl
 | q::X,x0=>by
  have z:=aB9 F hok ho p X (some (.int (q:Int)))
  have G:ae5 F (.one 0) (.cmp .isin (.var 0) (.attr (.var 1) nEnd)) (.int (q:Int)) [x0,some (.ref o)] u=.ok (some (.bl (decide (q∈h))),[some (.int (q:Int)),some (.ref o)]) u:=by
   unfold ae5
   tbr_iter [ae6,bw2 ho,aO7 p]
  show qE ok _ (D.int (q:Int)::za X) _ u=_
  unfold qE
  rw[if_pos hok,G]
  simp only[R.bind_ok]
  rw[z]
  rfl
theorem bk9 {S G:Sto}{y:O}{i:Nat}:(S++y::G)[S.length+1+i]?=G[i]?:=by
 rw[aJ (by omega),show S.length+1+i - S.length=i+1 by omega];rfl
theorem bm5 (n:Nat){S:Sto}{o a b e:Nat}{t:Tr}{rs:List Nat}{Fo:Nat->List Nat}{En:List Nat}(h:RoomsS S o a b e ([]::t.lt.map λ c=>[c]) rs Fo)(a6:∀ p q,q∈Fo p↔(p=0/\q∈t.fs 1)\/t.ed 1 p q)(he:S[e]?=some (.lst (za En)))(a3:∀ q,q∈En↔(q=0/\t.nul=true)\/q∈t.la 1)
  {w:List Nat} (hw:w.length<=40) {k:Nat} (hk:k<=w.length) :
  ∃ X,(callN P (n+2)).call "ends_from" [.ref o,.str w,.int (k:Int)] S=.ok (.ref S.length) (S++[.lst (za X)])/\∀ j,j∈X↔(k<=j/\j<=w.length)/\Mt' w t k j:=by
 have c0:(callN P (n+2)).call "ends_from" [.ref o,.str w,.int (k:Int)] S=_:=zl d_ends_from (n:=n+1) rfl
 have a0:∀ u,bi .len [.str w] u=.ok (.int w.length) u:=λ u=>rfl
 have hs:S++[O.lst []]++[O.lst [D.int 0]]=S++.lst (za [])::[.lst (za [0])]:=by simp[za]
 have a4:(S++[O.lst []]).length=S.length+1+0:=by simp
 have key:=qk (ok:=λ u=>chk (S++.lst (za [])::[.lst (za [0])]) u []) (g:=turn (callN P (n+1)) (.one 5) efB) (λ j U u=>∃ F G X i x5,U=[some (.ref o),some (.str w),some (.int (k:Int)),some (.ref S.length),some (.ref (S.length+1+i)),x5]/\u=S++.lst (za F)::G/\G[i]?=some (.lst (za X))/\((∀ x∈X,x<([]::t.lt.map λ c=>[c]:List (List Nat)).length)/\X.length<=60)/\(∀ q,q∈X↔RS w k ([]::t.lt.map λ c=>[c]) Fo j q)/\(∀ i,i∈F↔∃ J,J<j/\i=k+J/\Mt' w t k (k+J))/\F.length<=j)
  (ad6 (k:Int) ((w.length:Int)+1)) 0 [some (.ref o),some (.str w),some (.int (k:Int)),some (.ref S.length),some (.ref (S.length+1+0)),none] (S++.lst (za [])::[.lst (za [0])]) ⟨[],[.lst (za [0])],[0],0,none,rfl,rfl,rfl,⟨λ x hx=>by rw[aR.mp hx];exact h.pos,by simp⟩,λ q=>aR,λ i=>by simp,ai _⟩ (λ _ _ _ _ _=>rfl) ?_
 .have b0:(ad6 (k:Int) ((w.length:Int)+1)).length=w.length+1 - k:=by simp[ad6]
  obtain⟨U',s',k1,F,G,X,i,x5,rfl,rfl,m1,m2,m3,m4,m5⟩:=key
  refine⟨F,?_,λ j=>?_⟩
  .rw[c0,aV0,show(bD some [D.ref o,D.str w,D.int (k:Int)]++aq d_ends_from.vs none)=[some (.ref o),some (.str w),some (.int (k:Int)),none,none,none]from rfl]
   tbr_iter [a4,hs,at5,a0,aX0 (i:=(k:Int)) (j:=(w.length:Int)+1) (by omega) (by omega)]
   rw[k1]
   tbr_iter []
   have cn:=zO (s:=S) (t:=[]) (u:=G) (o:=.lst (za F)) (by unfold O.bnd;exact ag8 _ _)
   exact cn
  .rw[m4,be,b0]
   constructor
   .rintro⟨J,h1,rfl,h3⟩
    exact⟨⟨by omega,by omega⟩,h3⟩
   .rintro⟨⟨h1,h2⟩,h3⟩
    exact⟨j - k,by omega,by omega,by rw[show k+(j - k)=j by omega];exact h3⟩
 .rintro j d U u hj ⟨F,G,X,i,x5,rfl,rfl,m1,m2,m3,m4,m5⟩
  obtain⟨b2,rfl⟩:=ac7 hj
  rw[be]at m3 m4 m5
  have a1:k+j<=w.length:=by omega
  have hat:(k:Int)+(j:Int)=((k+j:Nat):Int):=by omega
  rw[hat]
  have Ru:=h.app (.lst (za F)::G)
  have q1:al9 (.ref (S.length+1+i)) (S++.lst (za F)::G)=.ok ⟨za X,[S.length+1+i]⟩ (S++.lst (za F)::G):=by unfold al9;simp only[bk9,m1]
  have a2:(za X).length<=LIM:=by rw[zr];have:=m2.2;unfold LIM;omega
  have cm:=aB9 (callN P (n+1)) (ok:=λ v=>chk (S++.lst (za F)::G) v [S.length+1+i]) (by unfold chk;simp) Ru.ins (aa1 (t:=.lst (za F)::G) he) X none
  have an:=bp6 X (λ q=>decide (q∈En)) (S++.lst (za F)::G)
  have a5:=bv1 a6 a3 j a1
  have Z:(X.any λ q=>decide (q∈En))=true↔Mt' w t k (k+j):=by
   rw[<-a5,dr]
   constructor
   .rintro⟨q,z,y⟩;exact⟨q,(m3 q).mp z,of_decide_eq_true y⟩
   .rintro⟨q,z,y⟩;exact⟨q,(m3 q).mpr z,decide_eq_true y⟩
  have sl:=aO3 (w:=w) (k:=k+j) a1
  have ap:meth .append (.ref S.length) [.int ((k+j:Nat):Int)] (S++.lst (za F)::G)=.ok .non (S++.lst (za (F++[k+j]))::G):=by
   have g:(S++O.lst (za F)::G)[S.length]?=some (.lst (za F)):=by rw[aJ (ai _)];simp
   rw[qq g (by rw[zr];unfold LIM;omega),ag2]
   unfold za
   rw[bJ];rfl
  have fin:∀ Y:List Nat,∃ X':List Nat,(callN P (n+1)).call "led_by" [.ref o,.ref (S.length+1+i),.str ((w.drop (k+j)).take 1)] (S++.lst (za Y)::G)=.ok (.ref (S.length+1+G.length)) (S++.lst (za Y)::(G++[.lst (za X')]))/\((∀ x∈X',x<([]::t.lt.map λ c=>[c]:List (List Nat)).length)/\X'.length<=60)/\∀ q,q∈X'↔RS w k ([]::t.lt.map λ c=>[c]) Fo (j+1) q:=by
   intro Y
   obtain⟨X',e1,e2,e3⟩:=bq0 (P:=P) n (h.app (.lst (za Y)::G)) ((w.drop (k+j)).take 1) (f:=S.length+1+i) (A:=X) (by rw[bk9];exact m1) m2.1
   refine⟨X',?_,e2,λ q=>?_⟩
   .rw[e1,show(S++O.lst (za Y)::G).length=S.length+1+G.length by simp;omega]
    simp
   .rw[e3]
    constructor
    .rintro⟨p,z,y1,y2⟩;exact⟨p,(m3 p).mp z,y1,y2⟩
    .rintro⟨p,z,y1,y2⟩;exact⟨p,(m3 p).mpr z,y1,y2⟩
  have cap:qA [some (.ref o),some (.str w),some (.int (k:Int)),some (.ref S.length),some (.ref (S.length+1+i)),some (.int ((k+j:Nat):Int))] [none,some 0]=[none,some (.ref o)]:=rfl
  by_cases hc:Mt' w t k (k+j)
  .have b1:(X.any λ q=>decide (q∈En))=true:=Z.mpr hc
   rw[b1]at an
   obtain⟨X',e1,e2,e3⟩:=fin (F++[k+j])
   refine⟨[some (.ref o),some (.str w),some (.int (k:Int)),some (.ref S.length),some (.ref (S.length+1+G.length)),some (.int ((k+j:Nat):Int))],_,.inl ?_,F++[k+j],G++[.lst (za X')],X',G.length,some (.int ((k+j:Nat):Int)),rfl,rfl,qy,e2,λ q=>by rw[be];exact e3 q,λ x=>?_,by simp;omega⟩
   .unfold turn efB
    tbr_iter [qc,q1,if_pos a2,cap,cm,an,ap,ao6,sl,e1]
   .rw[aO,m4,aR,be]
    constructor
    .rintro(⟨J,z1,z2,z3⟩|z)
     .exact⟨J,by omega,z2,z3⟩
     .exact⟨j,by omega,z,hc⟩
    .rintro⟨J,z1,z2,z3⟩
     by_cases y:J=j
     .subst y;exact .inr z2
     .exact .inl ⟨J,by omega,z2,z3⟩
  .have b1:(X.any λ q=>decide (q∈En))=false:=by rw[<-gf];exact λ z=>hc (Z.mp z)
   rw[b1]at an
   obtain⟨X',e1,e2,e3⟩:=fin F
   refine⟨[some (.ref o),some (.str w),some (.int (k:Int)),some (.ref S.length),some (.ref (S.length+1+G.length)),some (.int ((k+j:Nat):Int))],_,.inl ?_,F,G++[.lst (za X')],X',G.length,some (.int ((k+j:Nat):Int)),rfl,rfl,qy,e2,λ q=>by rw[be];exact e3 q,λ x=>?_,by omega⟩
   .unfold turn efB
    tbr_iter [qc,q1,if_pos a2,cap,cm,an,ao6,sl,e1]
   .rw[m4,be]
    constructor
    .rintro⟨J,z1,z2,z3⟩;exact⟨J,by omega,z2,z3⟩
    .rintro⟨J,z1,z2,z3⟩
     by_cases y:J=j
     .subst y;exact absurd z3 hc
     .exact⟨J,by omega,z2,z3⟩
open Classical in
theorem holds_ok [HasM P "Rooms" "link" d_Rooms_link] [HasM P "Rooms" "lay_letter" d_Rooms_lay_letter] [HasM P "Rooms" "lay" d_Rooms_lay] [HasM P "Rooms" "__init__" d_Rooms___init__] [HasA P "Rooms" nLet] [HasA P "Rooms" nFol] [HasA P "Rooms" nEnd] [Has P d_rooms_for] [Has P d_holds] {t : Tr} (ht : t.cnt <= 40) {w : List Nat} (hw : w.length <= 40) (n : Nat) (s : Sto) :
  (callN P (n+t.dep+3)).call "holds" [t.d,.str w] s=.ok (.bl (decide (Mt' w t 0 w.length))) s:=by
 obtain⟨G,o,a,b,e,rs,Fo,En,e1,h,hFo,he,hEn⟩:=as1 (P:=P) t ht n s
 obtain⟨X,e2,hX⟩:=bm5 (P:=P) (n+t.dep) h hFo he hEn hw (b9 _)
 have c0 : (callN P (n + t.dep + 3)).call "holds" [t.d, .str w] s = _ := zl d_holds (n := n + t.dep + 2) rfl
 rw [c0, show d_holds.body = .cons (.ret (.cmp .isin (.bi .len (.cons (.var 1) .nil)) (.call "ends_from" (.ex (.call "rooms_for" (.ex (.var 0) .nil)) (.ex (.var 1) (.ex (.cst (.int 0)) .nil)))))) .nil from rfl, show (List.map some [t.d, D.str w] ++ List.replicate d_holds.vs none) = [some t.d, some (.str w)] from rfl]
 have hlen:∀ u,bi .len [.str w] u=.ok (.int w.length) u:=λ u=>rfl
 have e2':(callN P (n+t.dep+2)).call "ends_from" [.ref o,.str w,.int 0] (s++G)=_:=e2
 have e3:=aO7 (s:=s++G++[.lst (za X)]) qy w.length
 tbr_iter [hlen,e1,e2',e3]
 rw[bo,aj2 (by intro n;rfl) (by nofun)]
 congr 2
 refine(decide_eq_decide.mpr ?_)
 rw[hX]
 exact⟨λ z=>z.2,λ z=>⟨⟨b9 _,ai _⟩,z⟩⟩
end
theorem bw7 (a b:Nat)(s:Sto):z0 .bor (.int (a:Int)) (.int (b:Int)) s=.ok (.int ((a ||| b:Nat):Int)) s:=by
 show(if 0<=(a:Int)/\0<=(b:Int)then pur (.int ((((a:Int).toNat ||| (b:Int).toNat:Nat)):Int))else bad:M D) s=_
 rw[if_pos ⟨cD _,cD _⟩];rfl
theorem bb1 {a k:Nat}(ha:a<2^64)(hk:k<=1000)(s:Sto):z0 .shl (.int (a:Int)) (.int (k:Int)) s=.ok (.int ((a*2^k:Nat):Int)) s:=by
 show(if 0<=(k:Int)/\(k:Int)<=1000000/\(a:Int).natAbs<2^64 then pur (.int ((a:Int)*2^(k:Int).toNat))else bad:M D) s=_
 rw[if_pos ⟨cD _,by omega,by simpa using ha⟩]
 show R.ok _ _=_
 rw[cM];push_cast;rfl
theorem bH4 (a k:Nat)(s:Sto):z0 .shr (.int (a:Int)) (.int (k:Int)) s=.ok (.int ((a / 2^k:Nat):Int)) s:=by
 show(if 0<=(k:Int)then pur (.int ((a:Int) / 2^(k:Int).toNat))else bad:M D) s=_
 rw[if_pos (cD _)]
 show R.ok _ _=_
 rw[cM];push_cast;rfl
theorem bG1 (a:Nat)(s:Sto):z0 .band (.int (a:Int)) (.int 1) s=.ok (.int ((a % 2:Nat):Int)) s:=by
 show(if 0<=(a:Int)/\(1:Int)=1 then pur (.int ((a:Int) % 2))else bad:M D) s=_
 rw[if_pos ⟨cD _,rfl⟩]
 show R.ok _ _=_
 push_cast;rfl
theorem az5 {x:Nat}(h:x≠0):2^x.log2<=x/\x<2^(x.log2+1):=⟨Nat.log2_self_le h,Nat.lt_log2_self⟩
theorem bv9 {x:Nat}(h:x≠0):x - 2^x.log2=x % 2^x.log2:=by
 obtain⟨p,z⟩:=az5 h
 rw[jA]at z
 rw[Nat.mod_eq_sub_mod p,Nat.mod_eq_of_lt (by omega)]
theorem ai2 {x j:Nat}(h:x≠0):x.testBit j=true↔(x - 2^x.log2).testBit j=true\/j=x.log2:=by
 obtain⟨F,p⟩:=az5 h
 rw[bv9 h,Nat.testBit_mod_two_pow]
 rcases d7 j x.log2 with z|z|z
 .simp[z,aE z]
 .subst z
  simp only[bA,decide_false,j8,bu,false_or,iff_true]
  rw[ef]
  have:x / 2^x.log2=1:=by
   rw[Nat.div_eq_iff (jY _)]
   rw[jA]at p
   omega
  rw[this];rfl
 .have e:x.testBit j=false:=Nat.testBit_lt_two_pow (az p (Nat.pow_le_pow_right (by decide) (by omega)))
  rw[e]
  simp[Nat.not_lt.mpr (dW z),gk z]
section
variable {P:Pr} [Has P w_onward]
noncomputable def owC:E:=.cmp .gt (.var 0) (.cst (.int 0))
noncomputable def owB:Ss:=.cons (.asg (.one 3) (.bin .sub (.bitl (.var 0)) (.cst (.int 1)))) (.cons (.asg (.one 2) (.bin .bor (.var 2) (.ix (.var 1) (.var 3)))) (.cons (.asg (.one 0) (.bin .sub (.var 0) (.bin .shl (.cst (.int 1)) (.var 3)))) .nil))
theorem bf5:w_onward.body=.cons (.asg (.one 2) (.cst (.int 0))) (.cons (.whl owC owB) (.cons (.ret (.var 2)) .nil)):=rfl
theorem ev_bitl' {F:Fns}{U:Env}{s:Sto}(a:E):ev F (.bitl a) U s=(ev F a U s).bind λ x s=>aJ8 x s:=rfl
theorem bc5 (n:Nat){S:Sto}{r:Nat}{h:List Nat}(hr:S[r]?=some (.lst (za h)))(hR:h.length<=64):∀(x f:Nat) (x3:Option D),(∀ k,x.testBit k=true->k<h.length) ->
  ∃(f':Nat) (y3:Option D),whl (ev (callN P n) owC) (exs (callN P n) owB) [some (.int (x:Int)),some (.ref r),some (.int (f:Int)),x3] S=.ok (.next [some (.int 0),some (.ref r),some (.int (f':Int)),y3]) S/\∀ j,f'.testBit j=true↔f.testBit j=true\/∃ k,x.testBit k=true/\(h.getD k 0).testBit j=true:=by
 intro x
 induction x using jW with
 | _ x ih =>
  intro f x3 hx
  by_cases h0:x=0
  .subst h0
   refine⟨f,x3,?_,λ j=>by simp⟩
   refine aS6 ?_
   unfold owC
   tbr_iter []
   simp
  .have hk:=hx x.log2 ((ai2 h0).mpr (.inr rfl))
   have h1:=(az5 h0).1
   have hlt:x - 2^x.log2<x:=by have:=jY x.log2;omega
   obtain⟨f',y3,e1,e2⟩:=ih (x - 2^x.log2) hlt (f ||| h.getD x.log2 0) (some (.int (x.log2:Int))) λ k hk=>hx k ((ai2 h0).mpr (.inl hk))
   refine⟨f',y3,?_,λ j=>?_⟩
   .rw[<-e1]
    refine aE4 (s1:=S) ?_ ?_
    .unfold owC
     tbr_iter []
     simp
     omega
    .have Y:aJ8 (.int (x:Int)) S=.ok (.int ((x.log2:Int)+1)) S:=by
      unfold aJ8 bitsN
      simp only[Int.natCast_eq_zero,h0,if_false,Int.natAbs_natCast]
      rfl
     have Z:(x.log2:Int)+1 - 1=(x.log2:Int):=by omega
     have G:ixM (.ref r) (.int (x.log2:Int)) S=.ok (.int ((h.getD x.log2 0:Nat):Int)) S:=zI hr (by unfold za;rw[aC,aM,ah hk];rfl)
     have F:=bb1 (a:=1) (k:=x.log2) (by decide) (by omega) S
     rw[jQ]at F
     have J:(x:Int) - ((2^x.log2:Nat):Int)=((x - 2^x.log2:Nat):Int):=by omega
     have p:z0 .shl (.int 1) (.int (x.log2:Int)) S=.ok (.int ((2^x.log2:Nat):Int)) S:=F
     unfold owB
     tbr_iter [ev_bitl',Y,Z,G,bw7,p,J]
   .rw[e2,iu,bh]
    constructor
    .rintro((z|z)|⟨k,z1,z2⟩)
     .exact .inl z
     .exact .inr ⟨x.log2,(ai2 h0).mpr (.inr rfl),z⟩
     .exact .inr ⟨k,(ai2 h0).mpr (.inl z1),z2⟩
    .rintro(z|⟨k,z1,z2⟩)
     .exact .inl (.inl z)
     .rcases(ai2 h0).mp z1 with y|y
      .exact .inr ⟨k,y,z2⟩
      .rw[y]at z2;exact .inl (.inr z2)
theorem aq7 (n:Nat){S:Sto}{r:Nat}{h:List Nat}(hr:S[r]?=some (.lst (za h)))(F:h.length<=64)(x:Nat)(hx:∀ k,x.testBit k=true->k<h.length) :
  ∃ f:Nat,(callN P (n+1)).call "_law_onward" [.int (x:Int),.ref r] S=.ok (.int (f:Int)) S/\∀ j,f.testBit j=true↔∃ k,x.testBit k=true/\(h.getD k 0).testBit j=true:=by
 obtain⟨f,y3,e1,e2⟩:=bc5 (P:=P) n hr F x 0 none hx
 refine⟨f,?_,λ j=>by rw[e2];simp⟩
 have z:(callN P (n+1)).call "_law_onward" [.int (x:Int),.ref r] S=_:=zl w_onward (n:=n) rfl
 rw[z,bf5,show(bD some [D.int (x:Int),D.ref r]++aq w_onward.vs none)=[some (.int (x:Int)),some (.ref r),none,none]from rfl]
 have p:whl (ev (callN P n) owC) (exs (callN P n) owB) [some (.int (x:Int)),some (.ref r),some (.int 0),none] S=_:=e1
 tbr_iter [p]
 exact zR (by intro n;rfl) (by nofun)
end
structure Bt (w:List Nat)(t:Tr)(Ro:List Nat):Prop where
 len:Ro.length=w.length+1
 bit:∀ k,k<=w.length->∀ j,(Ro.getD k 0).testBit j=true↔Mt' w t k j
theorem Bt.lt {w:List Nat}{t:Tr}{p:List Nat}(h:Bt w t p)(hw:w.length<=40){k:Nat}(hk:k<=w.length):p.getD k 0<2^64:=by
 refine az (Nat.lt_pow_two_of_testBit (n:=41) _ λ i F=>?_) (by decide)
 rw[<-gf]
 intro z
 have:=((h.bit k hk i).mp z).le.2
 omega
theorem ar2 {ok:Sto->Bool}{g:D->Env->Sto->R (Option D×Env)}{u:Sto}(hok:ok u=true)(E:Env->Prop)(f:D->D):∀(l:List D) (U:Env),E U->(∀ d∈l,∀ U,E U->∃ U',g d U u=.ok (some (f d),U') u/\E U')->qE ok g l U u=.ok (l.map f) u
 | [],U,_,_=>by show(if ok u=true then _ else _)=_;rw[if_pos hok];rfl
 | d::l,U,hE,h=>by
  obtain⟨U',e1,z⟩:=h d (aA ..) U hE
  have F:=ar2 hok E f l U' z λ d' p=>h d' (au _ p)
  unfold qE
  rw[if_pos hok,e1]
  simp only[R.bind_ok]
  rw[F]
  rfl
theorem ag1 (n:Nat):ad6 0 (n:Int)=za (aS n):=by
 unfold ad6 za
 rw[kN,cM]
 refine dw λ k _=>?_
 rw[kQ]
theorem aY1 (l:List Nat)(f:Nat->Nat)(g:D->D)(h:∀ q∈l,g (.int (q:Int))=.int ((f q:Nat):Int)):(za l).map g=za (l.map f):=by
 unfold za
 rw[ee,ee]
 exact dw λ q hq=>h q hq
theorem qz {n k:Nat}(f:Nat->Nat)(h:k<n):((aS n).map f).getD k 0=f k:=by
 rw[aM,aC,cu h];rfl
theorem aM6 (a m j:Nat):(a / 2^m*2^m).testBit j=true↔m<=j/\a.testBit j=true:=by
 rw[<-Nat.shiftRight_eq_div_pow,<-Nat.shiftLeft_eq,Nat.testBit_shiftLeft,Nat.testBit_shiftRight,ag,decide_eq_true_eq]
 constructor
 .rintro⟨p,h⟩
  exact⟨p,by rw[show m+(j - m)=j by omega]at h;exact h⟩
 .rintro⟨p,h⟩
  exact⟨p,by rw[show m+(j - m)=j by omega];exact h⟩
theorem br9 {w:List Nat}{t:Tr}{k j:Nat}:Mt' w (.rep t) k j↔(j=k/\k<=w.length)\/∃ m,k<m/\Mt' w t k m/\Mt' w (.rep t) m j:=by
 constructor
 .intro h
  generalize hr:Tr.rep t=r at h
  induction h with
  | rep0 h=>exact .inl ⟨rfl,h⟩
  | @repS t' k m j h g ih1 ih2 =>
   cases hr
   by_cases z:k=m
   .subst z;exact ih2 rfl
   .exact .inr ⟨m,by have:=h.le.1;omega,h,g⟩
  | _=>cases hr
 .rintro(⟨rfl,h⟩|⟨m,_,h,g⟩)
  .exact .rep0 h
  .exact .repS h g
section
variable {P:Pr} [Has P w_onward] [Has P w_again]
noncomputable def agB:Ss:=.cons (.setIx (.var 1) (.var 2) (.bin .bor (.ix (.var 1) (.var 2)) (.call "_law_onward" (.ex (.bin .shl (.bin .shr (.ix (.var 0) (.var 2)) (.bin .add (.var 2) (.cst (.int 1)))) (.bin .add (.var 2) (.cst (.int 1)))) (.ex (.var 1) .nil))))) .nil
theorem aI4:w_again.body=.cons (.asg (.one 1) (.mk .list (.comp (.one 0) (.rng1 (.bi .len (.cons (.var 0) .nil))) (.bin .shl (.cst (.int 1)) (.var 0)) [none]))) (.cons (.for_ (.one 2) (.rngD (.bin .sub (.bi .len (.cons (.var 0) .nil)) (.cst (.int 1)))) agB) (.cons (.ret (.var 1)) .nil)):=rfl
theorem aB8 (F:Fns){S:Sto}(n:Nat)(hn:n<=100){ok:Sto->Bool}(hok:ok S=true):qE ok (ae5 F (.one 0) (.bin .shl (.cst (.int 1)) (.var 0))) (za (aS n)) [none] S=.ok (za ((aS n).map λ k=>2^k)) S:=by
 have key:=ar2 (g:=ae5 F (.one 0) (.bin .shl (.cst (.int 1)) (.var 0))) hok (λ U=>∃ x,U=[x]) (λ d=>match d with|.int i=>.int ((2^i.toNat:Nat):Int)|_=>.non) (za (aS n)) [none] ⟨none,rfl⟩ ?_
 .rw[key]
  congr 1
  exact aY1 _ _ _ λ q _=>rfl
 .rintro d hd U ⟨x,rfl⟩
  obtain⟨q,hq,rfl⟩:=bf.mp hd
  have hq:=bG.mp hq
  have p:=bb1 (a:=1) (k:=q) (by decide) (by omega) S
  rw[jQ]at p
  have h:z0 .shl (.int 1) (.int (q:Int)) S=.ok (.int ((2^q:Nat):Int)) S:=p
  refine⟨[some (.int (q:Int))],?_,_,rfl⟩
  unfold ae5
  tbr_iter [h]
  rfl
noncomputable def bw9 (x:D):M Sq:=λ s=>match x with|.int i=>if 0<=i/\i<1048576 then .ok ⟨ad3 i,[]⟩ s else .bad|_=>.bad
theorem aQ3 {F:Fns}{U:Env}{s:Sto}(a:E):evI F (.rngD a) U s=(ev F a U s).bind λ x s=>bw9 x s:=rfl
theorem qj {l:List Nat}{k:Nat}(h:k<l.length):(za l)[k]?=some (.int ((l.getD k 0:Nat):Int)):=by
 unfold za
 rw[aC,aM,ah h];rfl
theorem be7 (l:List Nat)(k x:Nat):(za l).set k (.int (x:Int))=za (l.set k x):=by
 unfold za
 rw[List.map_set]
theorem aC4 {l:List Nat}{k i x:Nat}(h:k<l.length):(l.set k x).getD i 0=if i=k then x else l.getD i 0:=by
 rw[aM,aM]
 by_cases z:i=k
 .subst z;rw[a8 h,if_pos rfl];rfl
 .rw[am (bS z),if_neg z]
theorem bd5 (n:Nat){S:Sto}{r:Nat}{w:List Nat}(hw:w.length<=40){t:Tr}{G:List Nat}(Y:Bt w t G)(hr:S[r]?=some (.lst (za G))) :
  ∃ F,(callN P (n+2)).call "_law_again" [.ref r] S=.ok (.ref S.length) (S++[.lst (za F)])/\Bt w (.rep t) F:=by
 have hl:∀ {X:Sto},bi .len [.ref r] (S++X)=.ok (.int ((w.length+1:Nat):Int)) (S++X):=λ {X}=>by rw[aA1 (aa1 hr),zr,Y.len]
 have a2:bi .len [.ref r] S=.ok (.int ((w.length+1:Nat):Int)) S:=by rw[aA1 hr,zr,Y.len]
 have key:=qk (ok:=λ u=>chk (S++[.lst (za ((aS (w.length+1)).map λ k=>2^k))]) u []) (g:=turn (callN P (n+1)) (.one 2) agB) (λ i U u=>∃ F x2,U=[some (.ref r),some (.ref S.length),x2]/\u=S++[.lst (za F)]/\F.length=w.length+1/\(∀ k,k<=w.length->w.length+1<=k+i->∀ j,(F.getD k 0).testBit j=true↔Mt' w (.rep t) k j)/\∀ k,k+i<=w.length->F.getD k 0=2^k)
  (ad3 (w.length:Int)) 0 [some (.ref r),some (.ref S.length),none] (S++[.lst (za ((aS (w.length+1)).map λ k=>2^k))]) ⟨_,none,rfl,rfl,by simp,λ k h1 h2=>by omega,λ k hk=>qz _ (by omega)⟩ (λ _ _ _ _ _=>rfl) ?_
 .have a4:(ad3 (w.length:Int)).length=w.length+1:=by unfold ad3;simp
  obtain⟨U',s',k1,F,x2,rfl,rfl,m1,p,m3⟩:=key
  rw[be,a4]at p
  refine⟨F,?_,m1,λ k hk j=>p k hk (by omega) j⟩
  have c0:(callN P (n+2)).call "_law_again" [.ref r] S=_:=zl w_again (n:=n+1) rfl
  rw[c0,aI4,show(bD some [D.ref r]++aq w_again.vs none)=[some (.ref r),none,none]from rfl]
  have pc:=aB8 (callN P (n+1)) (S:=S) (w.length+1) (by omega) (ok:=λ a3=>chk S a3 []) rfl
  have e1:ay4 (.int ((w.length+1:Nat):Int)) S=.ok ⟨za (aS (w.length+1)),[]⟩ S:=by rw[ql (by unfold Ww62;omega) (by unfold Ww62;omega),ag1]
  have hL:(za (aS (w.length+1))).length<=LIM:=by rw[zr,ci];unfold LIM;omega
  have e2:((w.length+1:Nat):Int) - 1=(w.length:Int):=by omega
  have e3:∀ u,bw9 (.int (w.length:Int)) u=.ok ⟨ad3 (w.length:Int),[]⟩ u:=λ u=>by
   unfold bw9
   exact if_pos ⟨by omega,by omega⟩
  have a1:∀(l:List D) (u:Sto),mk .list l u=.ok (.ref u.length) (u++[.lst l]):=λ _ _=>rfl
  have cap:qA [some (D.ref r),none,none] [none]=[none]:=rfl
  tbr_iter [qc,evI_rng1,a2,e1,if_pos hL,cap,pc,a1,aQ3,hl,e2,e3]
  rw[k1]
  tbr_iter []
  have cn:=zO (s:=S) (t:=[]) (u:=[]) (o:=.lst (za F)) (by unfold O.bnd;exact ag8 _ _)
  exact cn
 .rintro i d U u J ⟨F,x2,rfl,rfl,m1,p,m3⟩
  rw[be]at p m3
  have a5:i<w.length+1:=by
   have:=(ac.mp J).1
   unfold ad3 at this;simp at this;omega
  have hd:d=.int ((w.length - i:Nat):Int):=by
   unfold ad3 at J
   rw[aC,cu (by omega)]at J
   have J:=av J
   rw[<-J]
   show D.int ((w.length:Int)+(i:Int)*(-1))=_
   rw[show(w.length:Int)+(i:Int)*(-1)=((w.length - i:Nat):Int)by omega]
  subst hd
  generalize hk:w.length - i=k at *
  have a0:k<=w.length:=by omega
  have f0:=m3 k (by omega)
  have i1:ixM (.ref S.length) (.int (k:Int)) (S++[.lst (za F)])=.ok (.int ((2^k:Nat):Int)) (S++[.lst (za F)]):=by
   rw[<-f0];exact zI qy (qj (by omega))
  have i2:ixM (.ref r) (.int (k:Int)) (S++[.lst (za F)])=.ok (.int ((G.getD k 0:Nat):Int)) (S++[.lst (za F)]):=zI (aa1 hr) (qj (by rw[Y.len];omega))
  have hlt:=Y.lt hw a0
  have i3:=bH4 (G.getD k 0) (k+1) (S++[.lst (za F)])
  have i4:=bb1 (a:=G.getD k 0 / 2^(k+1)) (k:=k+1) (je (Nat.div_le_self _ _) hlt) (by omega) (S++[.lst (za F)])
  have ek:(k:Int)+1=((k+1:Nat):Int):=by omega
  have h:∀ m,(G.getD k 0 / 2^(k+1)*2^(k+1)).testBit m=true↔k<m/\Mt' w t k m:=λ m=>by rw[aM6,Y.bit k a0];exact Iff.rfl
  obtain⟨x,o1,o2⟩:=aq7 (P:=P) n (S:=S++[.lst (za F)]) qy (by omega) (G.getD k 0 / 2^(k+1)*2^(k+1)) λ m hm=>by
   have:=((h m).mp hm).2.le.2;omega
  have i5:=bw7 (2^k) x (S++[.lst (za F)])
  have i6:setIx (.ref S.length) (.int (k:Int)) (.int ((2^k ||| x:Nat):Int)) (S++[.lst (za F)])=.ok () (S++[.lst (za (F.set k (2^k ||| x)))]):=by
   rw[aw1 qy (by rw[zr];omega),ag2,be7]
  have Z:k<F.length:=by omega
  refine⟨[some (.ref r),some (.ref S.length),some (.int (k:Int))],_,.inl ?_,F.set k (2^k ||| x),_,rfl,rfl,by rw[aW];exact m1,λ k' h1 h2 j=>?_,λ k' h1=>?_⟩
  .unfold turn agB
   tbr_iter [i1,i2,ek,i3,i4,o1,i5,i6]
  .rw[aC4 Z]
   by_cases z:k'=k
   .subst z
    rw[if_pos rfl,iu,bh,fc,decide_eq_true_eq,o2,br9]
    constructor
    .rintro(z|⟨m,z1,z2⟩)
     .exact .inl ⟨z.symm,h1⟩
     .obtain⟨y1,y2⟩:=(h m).mp z1
      have:=y2.le.2
      exact .inr ⟨m,y1,y2,(p m this (by omega) j).mp z2⟩
    .rintro(⟨z,_⟩|⟨m,z1,z2,z3⟩)
     .exact .inl z.symm
     .have:=z2.le.2
      exact .inr ⟨m,(h m).mpr ⟨z1,z2⟩,(p m this (by omega) j).mpr z3⟩
   .rw[if_neg z]
    exact p k' h1 (by omega) j
  .rw[aC4 Z,if_neg (by omega)]
   exact m3 k' (by omega)
end
section
variable {P:Pr} [Has P w_onward] [Has P w_again] [Has P w_ends] [Has P w_held]
theorem z8:w_ends.body=(.cons (.asg (.one 2) (.bi .len (.cons (.var 1) .nil))) (.cons (.ite (.cmp .eq (.ix (.var 0) (.cst (.int 0))) (.cst (.str [108,101,116,116,101,114]))) (.cons (.ret (.mk .list (.comp (.one 0) (.rng1 (.bin .add (.var 2) (.cst (.int 1)))) (.bin .shl (.bi .int (.cons (.cmp .eq (.slLU (.var 1) (.var 0) (.bin .add (.var 0) (.cst (.int 1)))) (.ix (.var 2) (.cst (.int 1)))) .nil)) (.bin .add (.var 0) (.cst (.int 1)))) [none,some 1,some 0]))) .nil) .nil) (.cons (.ite (.cmp .eq (.ix (.var 0) (.cst (.int 0))) (.cst (.str [110,111,116,104,105,110,103]))) (.cons (.ret (.mk .list (.comp (.one 0) (.rng1 (.bin .add (.var 2) (.cst (.int 1)))) (.bin .shl (.cst (.int 1)) (.var 0)) [none]))) .nil) .nil) (.cons (.asg (.one 3) (.call "_law_ends" (.ex (.ix (.var 0) (.cst (.int 1))) (.ex (.var 1) .nil)))) (.cons (.ite (.cmp .eq (.ix (.var 0) (.cst (.int 0))) (.cst (.str [114,101,112,101,97,116]))) (.cons (.ret (.call "_law_again" (.ex (.var 3) .nil))) .nil) .nil) (.cons (.asg (.one 4) (.call "_law_ends" (.ex (.ix (.var 0) (.cst (.int 2))) (.ex (.var 1) .nil)))) (.cons (.ite (.cmp .eq (.ix (.var 0) (.cst (.int 0))) (.cst (.str [101,105,116,104,101,114]))) (.cons (.ret (.mk .list (.comp (.one 0) (.rng1 (.bin .add (.var 2) (.cst (.int 1)))) (.bin .bor (.ix (.var 1) (.var 0)) (.ix (.var 2) (.var 0))) [none,some 3,some 4]))) .nil) .nil) (.cons (.ret (.mk .list (.comp (.one 0) (.seq (.var 3)) (.call "_law_onward" (.ex (.var 0) (.ex (.var 1) .nil))) [none,some 4]))) .nil)))))))):=rfl
theorem aq5 {ok:Sto->Bool}{g:D->Env->Sto->R (Option D×Env)}{u:Sto}(hok:ok u=true)(E:Env->Prop)(Q:Nat->Nat->Prop):∀(l:List Nat) (U:Env),E U->(∀ q∈l,∀ U,E U->∃(U':Env) (f:Nat),g (.int (q:Int)) U u=.ok (some (.int (f:Int)),U') u/\E U'/\Q q f)->∃ p:List Nat,qE ok g (za l) U u=.ok (za p) u/\p.length=l.length/\∀ i,i<l.length->Q (l.getD i 0) (p.getD i 0)
 | [],U,_,_=>⟨[],by show(if ok u=true then _ else _)=_;rw[if_pos hok];rfl,rfl,λ i G=>absurd G (by simp)⟩
 | q::l,U,hE,h=>by
  obtain⟨U',f,e1,F,hq⟩:=h q (aA ..) U hE
  obtain⟨p,e2,J,Y⟩:=aq5 hok E Q l U' F λ d' z=>h d' (au _ z)
  refine⟨f::p,?_,by simp[J],λ i G=>?_⟩
  .show qE ok g (D.int (q:Int)::za l) U u=_
   unfold qE
   rw[if_pos hok,e1]
   simp only[R.bind_ok]
   rw[e2]
   rfl
  .cases i with
   | zero=>exact hq
   | succ i=>exact Y i (by simpa using G)
theorem am4 {n i:Nat}(h:i<n):(aS n).getD i 0=i:=by rw[aM,cu h];rfl
theorem bn3 {w:List Nat}{t u:Tr}{k j:Nat}:Mt' w (.two true t u) k j↔Mt' w t k j\/Mt' w u k j:=by
 constructor
 .intro h
  cases h with
  | inl h=>exact .inl h
  | inr h=>exact .inr h
 .rintro(h|h)
  .exact .inl h
  .exact .inr h
theorem bb3 {w:List Nat}{t u:Tr}{k j:Nat}:Mt' w (.two false t u) k j↔∃ m,Mt' w t k m/\Mt' w u m j:=by
 constructor
 .intro h
  cases h with
  | both h g=>exact⟨_,h,g⟩
 .rintro⟨m,h,g⟩
  exact .both h g
theorem aU7 (b:Bool)(s:Sto):bi .int [.bl b] s=.ok (.int ((b.toNat:Nat):Int)) s:=by cases b<;>rfl
theorem bs8 (b:Bool)(m j:Nat):(b.toNat*2^m).testBit j=true↔b=true/\j=m:=by
 cases b with
 | false=>simp
 | true =>
  rw[Bool.toNat_true,jQ,fc,decide_eq_true_eq]
  simp[eq_comm]
theorem ab6 (l:List Nat)(n:Nat):(O.lst (za l)).bnd n=true:=by unfold O.bnd;exact ag8 _ _
theorem ag6:∀(t:Tr) (n:Nat) {w:List Nat},w.length<=40->∀(S:Sto),∃ z,(callN P (n+t.dep+2)).call "_law_ends" [t.d,.str w] S=.ok (.ref S.length) (S++[.lst (za z)])/\Bt w t z
 | .letter c,n,w,hw,S=>by
  have Z:∀ S,ixM (Tr.letter c).d (.int 0) S=.ok (.str qD) S:=λ S=>rfl
  have I1:∀ S,ixM (Tr.letter c).d (.int 1) S=.ok (.str [c]) S:=λ S=>rfl
  obtain⟨l',cm,l1,l2⟩:=aq5 (g:=ae5 (callN P (n+2)) (.one 0) (.bin .shl (.bi .int (.cons (.cmp .eq (.slLU (.var 1) (.var 0) (.bin .add (.var 0) (.cst (.int 1)))) (.ix (.var 2) (.cst (.int 1)))) .nil)) (.bin .add (.var 0) (.cst (.int 1))))) (ok:=λ G=>chk S G []) (u:=S) rfl (λ U=>∃ x,U=[x,some (.str w),some (Tr.letter c).d]) (λ q f=>∀ j,f.testBit j=true↔Mt' w (.letter c) q j) (aS (w.length+1)) [none,some (.str w),some (Tr.letter c).d] ⟨none,rfl⟩ (by
   rintro q hq U ⟨x,rfl⟩
   have hq:=bG.mp hq
   have a0:(q:Int)+1=((q+1:Nat):Int):=by omega
   have sl:=aO3 (w:=w) (k:=q) (by omega) S
   rw[a0]at sl
   have E2:zf .eq (.str ((w.drop q).take 1)) (.str [c]) S=.ok (.bl ((w.drop q).take 1==[c])) S:=zZ rfl S
   have sh:=bb1 (a:=(((w.drop q).take 1==[c]):Bool).toNat) (k:=q+1) (by cases((w.drop q).take 1==[c])<;>decide) (by omega) S
   refine⟨[some (.int (q:Int)),some (.str w),some (Tr.letter c).d],(((w.drop q).take 1==[c]):Bool).toNat*2^(q+1),?_,⟨_,rfl⟩,λ j=>?_⟩
   .unfold ae5
    tbr_iter [ao6,a0,sl,I1,E2,aU7,sh]
   .rw[bs8,beq_iff_eq]
    constructor
    .rintro⟨z1,rfl⟩
     by_cases h:q<w.length
     .rw[aJ2 h]at z1
      injection z1 with z1 _
      exact .letter (by rw[ah h,z1])
     .rw[cZ (by omega)]at z1;cases z1
    .intro h
     cases h with
     | letter h =>
      have hlt:=(ac.mp h).1
      rw[ah hlt]at h
      rw[aJ2 hlt,av h]
      exact⟨rfl,rfl⟩)
  rw[ci]at l1 l2
  refine⟨l',?_,l1,λ k hk j=>by have:=l2 k (by omega);rw[am4 (by omega)]at this;exact this j⟩
  have c0:(callN P (n+(Tr.letter c).dep+2)).call "_law_ends" [(Tr.letter c).d,.str w] S=_:=zl w_ends (n:=n+2) rfl
  rw[c0,z8,show(bD some [(Tr.letter c).d,D.str w]++aq w_ends.vs none)=[some (Tr.letter c).d,some (.str w),none,none,none]from rfl]
  have E1:∀ S,zf .eq (.str qD) (.str [108,101,116,116,101,114]) S=.ok (.bl true) S:=λ S=>zZ (by decide) S
  have p:∀ u,bi .len [.str w] u=.ok (.int w.length) u:=λ u=>rfl
  have ek:(w.length:Int)+1=((w.length+1:Nat):Int):=by omega
  have e1:ay4 (.int ((w.length+1:Nat):Int)) S=.ok ⟨za (aS (w.length+1)),[]⟩ S:=by rw[ql (by unfold Ww62;omega) (by unfold Ww62;omega),ag1]
  have hL:(za (aS (w.length+1))).length<=LIM:=by rw[zr,ci];unfold LIM;omega
  have cap:qA [some (Tr.letter c).d,some (D.str w),some (D.int w.length),none,none] [none,some 1,some 0]=[none,some (.str w),some (Tr.letter c).d]:=rfl
  have J:∀(l:List D) (u:Sto),mk .list l u=.ok (.ref u.length) (u++[.lst l]):=λ _ _=>rfl
  tbr_iter [p,Z,E1,ek,qc,evI_rng1,e1,if_pos hL,cap,cm,J]
  exact zO (s:=S) (t:=[]) (u:=[]) (ab6 _ _)
 | .nothing,n,w,hw,S=>by
  refine⟨(aS (w.length+1)).map λ k=>2^k,?_,by simp,λ k hk j=>?_⟩
  .have c0:(callN P (n+Tr.nothing.dep+2)).call "_law_ends" [Tr.nothing.d,.str w] S=_:=zl w_ends (n:=n+2) rfl
   rw[c0,z8,show(bD some [Tr.nothing.d,D.str w]++aq w_ends.vs none)=[some Tr.nothing.d,some (.str w),none,none,none]from rfl]
   have Z:∀ S,ixM Tr.nothing.d (.int 0) S=.ok (.str zK) S:=λ S=>rfl
   have E1:∀ S,zf .eq (.str zK) (.str [108,101,116,116,101,114]) S=.ok (.bl false) S:=λ S=>zZ (by decide) S
   have E2:∀ S,zf .eq (.str zK) (.str [110,111,116,104,105,110,103]) S=.ok (.bl true) S:=λ S=>zZ (by decide) S
   have p:∀ u,bi .len [.str w] u=.ok (.int w.length) u:=λ u=>rfl
   have ek:(w.length:Int)+1=((w.length+1:Nat):Int):=by omega
   have e1:ay4 (.int ((w.length+1:Nat):Int)) S=.ok ⟨za (aS (w.length+1)),[]⟩ S:=by rw[ql (by unfold Ww62;omega) (by unfold Ww62;omega),ag1]
   have hL:(za (aS (w.length+1))).length<=LIM:=by rw[zr,ci];unfold LIM;omega
   have pc:=aB8 (callN P (n+2)) (S:=S) (w.length+1) (by omega) (ok:=λ G=>chk S G []) rfl
   have cap:qA [some Tr.nothing.d,some (D.str w),some (D.int w.length),none,none] [none]=[none]:=rfl
   have J:∀(l:List D) (u:Sto),mk .list l u=.ok (.ref u.length) (u++[.lst l]):=λ _ _=>rfl
   tbr_iter [p,Z,E1,E2,ek,qc,evI_rng1,e1,if_pos hL,cap,pc,J]
   exact zO (s:=S) (t:=[]) (u:=[]) (ab6 _ _)
  .rw[qz _ (by omega),fc,decide_eq_true_eq]
   constructor
   .rintro rfl;exact .nothing hk
   .intro h;cases h;rfl
 | .rep t,n,w,hw,S=>by
  obtain⟨z,e1,Y⟩:=ag6 t n hw S
  obtain⟨F,e2,hF⟩:=bd5 (P:=P) (n+t.dep) hw Y (S:=S++[.lst (za z)]) qy
  refine⟨F,?_,hF⟩
  have c0:(callN P (n+(Tr.rep t).dep+2)).call "_law_ends" [(Tr.rep t).d,.str w] S=_:=zl w_ends (n:=n+t.dep+2) rfl
  rw[c0,z8,show(bD some [(Tr.rep t).d,D.str w]++aq w_ends.vs none)=[some (Tr.rep t).d,some (.str w),none,none,none]from rfl]
  have Z:∀ S,ixM (Tr.rep t).d (.int 0) S=.ok (.str zF) S:=λ S=>rfl
  have I1:∀ S,ixM (Tr.rep t).d (.int 1) S=.ok t.d S:=λ S=>rfl
  have E1:∀ S,zf .eq (.str zF) (.str [108,101,116,116,101,114]) S=.ok (.bl false) S:=λ S=>zZ (by decide) S
  have E2:∀ S,zf .eq (.str zF) (.str [110,111,116,104,105,110,103]) S=.ok (.bl false) S:=λ S=>zZ (by decide) S
  have E3:∀ S,zf .eq (.str zF) (.str [114,101,112,101,97,116]) S=.ok (.bl true) S:=λ S=>zZ (by decide) S
  have p:∀ u,bi .len [.str w] u=.ok (.int w.length) u:=λ u=>rfl
  tbr_iter [p,Z,I1,E1,E2,E3,e1,e2]
  have cn:=zO (s:=S) (t:=[.lst (za z)]) (u:=[]) (o:=.lst (za F)) (ab6 _ _)
  rw[bo,ar]
  exact cn
 | .two x t u,n,w,hw,S=>by
  obtain⟨z,e1,Y⟩:=ag6 t (n+max t.dep u.dep - t.dep) hw S
  rw[show n+max t.dep u.dep - t.dep+t.dep+2=n+max t.dep u.dep+2 by omega]at e1
  obtain⟨Ru,e2,hU⟩:=ag6 u (n+max t.dep u.dep - u.dep) hw (S++[.lst (za z)])
  rw[show n+max t.dep u.dep - u.dep+u.dep+2=n+max t.dep u.dep+2 by omega]at e2
  have c0:(callN P (n+(Tr.two x t u).dep+2)).call "_law_ends" [(Tr.two x t u).d,.str w] S=_:=zl w_ends (n:=n+max t.dep u.dep+2) rfl
  have p:∀ u,bi .len [.str w] u=.ok (.int w.length) u:=λ u=>rfl
  have ek:(w.length:Int)+1=((w.length+1:Nat):Int):=by omega
  generalize hT:S++[O.lst (za z)]++[O.lst (za Ru)]=T at *
  have gR:T[S.length]?=some (.lst (za z)):=by rw[<-hT];exact aa1 qy
  have gU:T[S.length+1]?=some (.lst (za Ru)):=by rw[<-hT,show S.length+1=(S++[O.lst (za z)]).length by simp];exact qy
  have a1:(S++[O.lst (za z)]).length=S.length+1:=by simp
  have J:∀(l:List D) (u:Sto),mk .list l u=.ok (.ref u.length) (u++[.lst l]):=λ _ _=>rfl
  have fin:∀ F:List Nat,zn S (.ref T.length) (T++[.lst (za F)])=.ok (.ref S.length) (S++[.lst (za F)]):=λ F=>by
   have cn:=zO (s:=S) (t:=[.lst (za z),.lst (za Ru)]) (u:=[]) (o:=.lst (za F)) (ab6 _ _)
   rw[<-hT]
   have e:S++[O.lst (za z)]++[O.lst (za Ru)]++[O.lst (za F)]=S++([O.lst (za z),O.lst (za Ru)]++[O.lst (za F)]):=by simp
   rw[e,show(S++[O.lst (za z)]++[O.lst (za Ru)]).length=S.length+[O.lst (za z),O.lst (za Ru)].length by simp]
   exact cn
  cases x with
  | true =>
   obtain⟨l',cm,l1,l2⟩:=aq5 (g:=ae5 (callN P (n+max t.dep u.dep+2)) (.one 0) (.bin .bor (.ix (.var 1) (.var 0)) (.ix (.var 2) (.var 0)))) (ok:=λ G=>chk T G []) (u:=T) rfl (λ U=>∃ x,U=[x,some (.ref S.length),some (.ref (S.length+1))]) (λ q f=>∀ j,f.testBit j=true↔Mt' w (.two true t u) q j) (aS (w.length+1)) [none,some (.ref S.length),some (.ref (S.length+1))] ⟨none,rfl⟩ (by
    rintro q hq U ⟨x,rfl⟩
    have hq:=bG.mp hq
    have i1:=zI gR (qj (k:=q) (by rw[Y.len];omega))
    have i2:=zI gU (qj (k:=q) (by rw[hU.len];omega))
    refine⟨[some (.int (q:Int)),some (.ref S.length),some (.ref (S.length+1))],z.getD q 0 ||| Ru.getD q 0,?_,⟨_,rfl⟩,λ j=>?_⟩
    .unfold ae5
     tbr_iter [i1,i2,bw7]
    .rw[iu,bh,Y.bit q (by omega),hU.bit q (by omega),bn3])
   rw[ci]at l1 l2
   refine⟨l',?_,l1,λ k hk j=>by have:=l2 k (by omega);rw[am4 (by omega)]at this;exact this j⟩
   rw[c0,z8,show(bD some [(Tr.two true t u).d,D.str w]++aq w_ends.vs none)=[some (Tr.two true t u).d,some (.str w),none,none,none]from rfl]
   have Z:∀ S,ixM (Tr.two true t u).d (.int 0) S=.ok (.str zp) S:=λ S=>rfl
   have I1:∀ S,ixM (Tr.two true t u).d (.int 1) S=.ok t.d S:=λ S=>rfl
   have I2:∀ S,ixM (Tr.two true t u).d (.int 2) S=.ok u.d S:=λ S=>rfl
   have E1:∀ S,zf .eq (.str zp) (.str [108,101,116,116,101,114]) S=.ok (.bl false) S:=λ S=>zZ (by decide) S
   have E2:∀ S,zf .eq (.str zp) (.str [110,111,116,104,105,110,103]) S=.ok (.bl false) S:=λ S=>zZ (by decide) S
   have E3:∀ S,zf .eq (.str zp) (.str [114,101,112,101,97,116]) S=.ok (.bl false) S:=λ S=>zZ (by decide) S
   have E4:∀ S,zf .eq (.str zp) (.str [101,105,116,104,101,114]) S=.ok (.bl true) S:=λ S=>zZ (by decide) S
   have r1:ay4 (.int ((w.length+1:Nat):Int)) T=.ok ⟨za (aS (w.length+1)),[]⟩ T:=by rw[ql (by unfold Ww62;omega) (by unfold Ww62;omega),ag1]
   have hL:(za (aS (w.length+1))).length<=LIM:=by rw[zr,ci];unfold LIM;omega
   have cap:qA [some (Tr.two true t u).d,some (D.str w),some (D.int w.length),some (D.ref S.length),some (D.ref (S.length+1))] [none,some 3,some 4]=[none,some (.ref S.length),some (.ref (S.length+1))]:=rfl
   tbr_iter [p,Z,I1,I2,E1,E2,E3,E4,e1,e2,a1,ek,qc,evI_rng1,r1,if_pos hL,cap,cm,J]
   exact fin _
  | false =>
   obtain⟨l',cm,l1,l2⟩:=aq5 (g:=ae5 (callN P (n+max t.dep u.dep+2)) (.one 0) (.call "_law_onward" (.ex (.var 0) (.ex (.var 1) .nil)))) (ok:=λ G=>chk T G [S.length]) (u:=T) (by unfold chk;simp) (λ U=>∃ x,U=[x,some (.ref (S.length+1))]) (λ v f=>∀ j,f.testBit j=true↔∃ k,v.testBit k=true/\(Ru.getD k 0).testBit j=true) z [none,some (.ref (S.length+1))] ⟨none,rfl⟩ (by
    rintro q hq U ⟨x,rfl⟩
    obtain⟨i,hi,rfl⟩:=cL.mp hq
    have a2:i<=w.length:=by rw[Y.len]at hi;omega
    have hd:z.getD i 0=z[i]:=by rw[aM,ah hi];rfl
    obtain⟨f,o1,o2⟩:=aq7 (P:=P) (n+max t.dep u.dep+1) gU (by rw[hU.len];omega) z[i] λ k hk=>by rw[hU.len];have:=((Y.bit i a2 k).mp (by rw[hd];exact hk)).le.2;omega
    refine⟨[some (.int (z[i]:Int)),some (.ref (S.length+1))],f,?_,⟨_,rfl⟩,o2⟩
    unfold ae5
    tbr_iter [o1])
   refine⟨l',?_,l1.trans Y.len,λ k hk j=>?_⟩
   .rw[c0,z8,show(bD some [(Tr.two false t u).d,D.str w]++aq w_ends.vs none)=[some (Tr.two false t u).d,some (.str w),none,none,none]from rfl]
    have Z:∀ S,ixM (Tr.two false t u).d (.int 0) S=.ok (.str zo) S:=λ S=>rfl
    have I1:∀ S,ixM (Tr.two false t u).d (.int 1) S=.ok t.d S:=λ S=>rfl
    have I2:∀ S,ixM (Tr.two false t u).d (.int 2) S=.ok u.d S:=λ S=>rfl
    have E1:∀ S,zf .eq (.str zo) (.str [108,101,116,116,101,114]) S=.ok (.bl false) S:=λ S=>zZ (by decide) S
    have E2:∀ S,zf .eq (.str zo) (.str [110,111,116,104,105,110,103]) S=.ok (.bl false) S:=λ S=>zZ (by decide) S
    have E3:∀ S,zf .eq (.str zo) (.str [114,101,112,101,97,116]) S=.ok (.bl false) S:=λ S=>zZ (by decide) S
    have E4:∀ S,zf .eq (.str zo) (.str [101,105,116,104,101,114]) S=.ok (.bl false) S:=λ S=>zZ (by decide) S
    have q1:al9 (.ref S.length) T=.ok ⟨za z,[S.length]⟩ T:=by unfold al9;simp only[gR]
    have hL:(za z).length<=LIM:=by rw[zr,Y.len];unfold LIM;omega
    have cap:qA [some (Tr.two false t u).d,some (D.str w),some (D.int w.length),some (D.ref S.length),some (D.ref (S.length+1))] [none,some 4]=[none,some (.ref (S.length+1))]:=rfl
    tbr_iter [p,Z,I1,I2,E1,E2,E3,E4,e1,e2,a1,qc,q1,if_pos hL,cap,cm,J]
    exact fin _
   .rw[l2 k (by rw[Y.len];omega),bb3]
    constructor
    .rintro⟨m,z1,z2⟩
     have y:=(Y.bit k hk m).mp z1
     exact⟨m,y,(hU.bit m y.le.2 j).mp z2⟩
    .rintro⟨m,z1,z2⟩
     exact⟨m,(Y.bit k hk m).mpr z1,(hU.bit m z1.le.2 j).mpr z2⟩
open Classical in
theorem br2 (t:Tr)(n:Nat){w:List Nat}(hw:w.length<=40)(S:Sto):(callN P (n+t.dep+3)).call "_law_held" [t.d,.str w] S=.ok (.bl (decide (Mt' w t 0 w.length))) S:=by
 obtain⟨h,e1,F⟩:=ag6 (P:=P) t n hw S
 have Z:(callN P (n+t.dep+3)).call "_law_held" [t.d,.str w] S=_:=zl w_held (n:=n+t.dep+2) rfl
 rw[Z,show w_held.body=(.cons (.ret (.cmp .eq (.bin .band (.bin .shr (.ix (.call "_law_ends" (.ex (.var 0) (.ex (.var 1) .nil))) (.cst (.int 0))) (.bi .len (.cons (.var 1) .nil))) (.cst (.int 1))) (.cst (.int 1)))) .nil)from rfl,show(bD some [t.d,D.str w]++aq w_held.vs none)=[some t.d,some (.str w)]from rfl]
 have p:∀ u,bi .len [.str w] u=.ok (.int w.length) u:=λ u=>rfl
 have Y:ixM (.ref S.length) (.int 0) (S++[.lst (za h)])=.ok (.int ((h.getD 0 0:Nat):Int)) (S++[.lst (za h)]):=zI (j:=0) qy (qj (by rw[F.len];omega))
 have J:=bH4 (h.getD 0 0) w.length (S++[.lst (za h)])
 have G:=bG1 (h.getD 0 0 / 2^w.length) (S++[.lst (za h)])
 have i4:zf .eq (.int ((h.getD 0 0 / 2^w.length % 2:Nat):Int)) (.int 1) (S++[.lst (za h)])=.ok (.bl (decide (Mt' w t 0 w.length))) (S++[.lst (za h)]):=by
  show R.ok (D.bl ((((h.getD 0 0 / 2^w.length % 2:Nat):Int))==1)) _=_
  congr 2
  have hb:=F.bit 0 (b9 _) w.length
  rw[ef,decide_eq_true_eq]at hb
  by_cases z:Mt' w t 0 w.length
  .rw[hb.mpr z,decide_eq_true z];rfl
  .rw[decide_eq_false z]
   have:h.getD 0 0 / 2^w.length % 2≠1:=λ y=>z (hb.mp y)
   exact beq_eq_false_iff_ne.mpr λ y=>this (by omega)
 tbr_iter [e1,Y,p,J,G,i4]
 exact aj2 (by intro n;rfl) (by nofun)
end
noncomputable def bV4:Ss:=.cons (.ite (.cmp .gt (.ix (.var 2) (.cst (.int 0))) (.cst (.int 0))) (.cons (.asg (.one 4) (.bin .add (.var 4) (.call "_law_member" (.ex (.var 0) (.ex (.ix (.var 1) (.cst (.int 1))) (.ex (.var 2) .nil)))))) .nil) .nil) .nil
theorem zV:w_member.body=(.cons (.setIx (.var 2) (.cst (.int 0)) (.bin .sub (.ix (.var 2) (.cst (.int 0))) (.cst (.int 1)))) (.cons (.ite (.cmp .eq (.ix (.var 1) (.cst (.int 0))) (.cst (.str [108,101,116,116,101,114]))) (.cons (.ret (.ix (.var 1) (.cst (.int 1)))) .nil) .nil) (.cons (.ite (.cmp .eq (.ix (.var 1) (.cst (.int 0))) (.cst (.str [110,111,116,104,105,110,103]))) (.cons (.ret (.cst (.str []))) .nil) .nil) (.cons (.ite (.cmp .eq (.ix (.var 1) (.cst (.int 0))) (.cst (.str [101,105,116,104,101,114]))) (.cons (.ret (.call "_law_member" (.ex (.var 0) (.ex (.ix (.var 1) (.bin .add (.cst (.int 1)) (.call "_law_take" (.ex (.var 0) (.ex (.cst (.int 2)) .nil))))) (.ex (.var 2) .nil))))) .nil) .nil) (.cons (.ite (.cmp .eq (.ix (.var 1) (.cst (.int 0))) (.cst (.str [98,101,104,105,110,100]))) (.cons (.asg (.one 3) (.call "_law_member" (.ex (.var 0) (.ex (.ix (.var 1) (.cst (.int 1))) (.ex (.var 2) .nil))))) (.cons (.ret (.bin .add (.var 3) (.call "_law_member" (.ex (.var 0) (.ex (.ix (.var 1) (.cst (.int 2))) (.ex (.var 2) .nil)))))) .nil)) .nil) (.cons (.asg (.one 4) (.cst (.str []))) (.cons (.for_ (.one 5) (.rng1 (.call "_law_take" (.ex (.var 0) (.ex (.cst (.int 5)) .nil)))) bV4) (.cons (.ret (.var 4)) .nil)))))))):=rfl
def bW7 (s:Sto)(r q B:Nat)(x:R D):Prop:=∃(m:List Nat) (b:Nat×Nat) (y':Int),m.length+40*y'.toNat<=B/\x=.ok (.str m) (SS s r q b y')
theorem ae1 {s:Sto}{r q B:Nat}{m:List Nat}{b:Nat×Nat}{y':Int}(h:m.length+40*y'.toNat<=B):bW7 s r q B (zn s (.str m) (SS s r q b y')):=by
 have p:=aF0 (s:=s) (T:=[]) (r:=r) (q:=q) (b:=b) (y:=y') (d:=.str m) (λ _=>rfl) (by nofun)
 rw[aN]at p
 exact⟨m,b,y',h,p⟩
section
variable {P:Pr} [Has P w_take] [Has P w_member]
theorem z9 {r q:Nat}(h:r≠q):∀(t:Tr) (n:Nat),t.sz<=40->∀(s:Sto) (y:Int),(∃ b,s[r]?=some (zA b))->s[q]?=some (.lst [.int y])->y<=20->bW7 s r q (t.sz+40*(y - 1).toNat) ((callN P (n+t.dep+1)).call "_law_member" [.ref r,t.d,.ref q] s)
 | t,n,ht,s,y,⟨b0,hb⟩,hq,hy=>by
  have hr:r<s.length:=(ac.mp hb).1
  have z:q<s.length:=(ac.mp hq).1
  have il:∀(b:Nat×Nat) (y:Int),ixM (.ref q) (.int 0) (SS s r q b y)=.ok (.int y) (SS s r q b y):=λ b y=>zI (j:=0) (aZ7 z) rfl
  have i0:ixM (.ref q) (.int 0) s=.ok (.int y) s:=zI (j:=0) hq rfl
  have p:setIx (.ref q) (.int 0) (.int (y - 1)) s=.ok () (SS s r q b0 (y - 1)):=by
   have:=aw1 (j:=0) (v:=.int (y - 1)) hq (by simp)
   rw[show((0:Nat):Int)=0 from rfl]at this
   rw[this]
   congr 1
   have e:=aA4 (s:=s) (r:=r) (q:=q) (b:=b0) (y:=y) (y':=y - 1)
   rw[aT2 hb hq]at e
   exact e
  match t,ht with
  | .letter c,ht =>
   have Y:(callN P (n+(Tr.letter c).dep+1)).call "_law_member" [.ref r,(Tr.letter c).d,.ref q] s=_:=zl w_member (n:=n+1) rfl
   rw[Y,zV,show(bD some [D.ref r,(Tr.letter c).d,.ref q]++aq w_member.vs none)=[some (.ref r),some (Tr.letter c).d,some (.ref q),none,none,none]from rfl]
   have F:∀ S,ixM (Tr.letter c).d (.int 0) S=.ok (.str qD) S:=λ S=>rfl
   have J:∀ S,ixM (Tr.letter c).d (.int 1) S=.ok (.str [c]) S:=λ S=>rfl
   have G:∀ S,zf .eq (.str qD) (.str [108,101,116,116,101,114]) S=.ok (.bl true) S:=λ S=>zZ (by decide) S
   tbr_iter [i0,p,F,J,G]
   exact ae1 (by show 1+_<=1+_;omega)
  | .nothing,ht =>
   have Y:(callN P (n+Tr.nothing.dep+1)).call "_law_member" [.ref r,Tr.nothing.d,.ref q] s=_:=zl w_member (n:=n+1) rfl
   rw[Y,zV,show(bD some [D.ref r,Tr.nothing.d,.ref q]++aq w_member.vs none)=[some (.ref r),some Tr.nothing.d,some (.ref q),none,none,none]from rfl]
   have F:∀ S,ixM Tr.nothing.d (.int 0) S=.ok (.str zK) S:=λ S=>rfl
   have G:∀ S,zf .eq (.str zK) (.str [108,101,116,116,101,114]) S=.ok (.bl false) S:=λ S=>zZ (by decide) S
   have Z:∀ S,zf .eq (.str zK) (.str [110,111,116,104,105,110,103]) S=.ok (.bl true) S:=λ S=>zZ (by decide) S
   tbr_iter [i0,p,F,G,Z]
   exact ae1 (by show 0+_<=1+_;omega)
  | .rep t,ht =>
   have a0:t.sz+1<=40:=ht
   have Y:(callN P (n+(Tr.rep t).dep+1)).call "_law_member" [.ref r,(Tr.rep t).d,.ref q] s=_:=zl w_member (n:=n+t.dep+1) rfl
   rw[Y,zV,show(bD some [D.ref r,(Tr.rep t).d,.ref q]++aq w_member.vs none)=[some (.ref r),some (Tr.rep t).d,some (.ref q),none,none,none]from rfl]
   have F:∀ S,ixM (Tr.rep t).d (.int 0) S=.ok (.str zF) S:=λ S=>rfl
   have J:∀ S,ixM (Tr.rep t).d (.int 1) S=.ok t.d S:=λ S=>rfl
   have G:∀ S,zf .eq (.str zF) (.str [108,101,116,116,101,114]) S=.ok (.bl false) S:=λ S=>zZ (by decide) S
   have Z:∀ S,zf .eq (.str zF) (.str [110,111,116,104,105,110,103]) S=.ok (.bl false) S:=λ S=>zZ (by decide) S
   have E3:∀ S,zf .eq (.str zF) (.str [101,105,116,104,101,114]) S=.ok (.bl false) S:=λ S=>zZ (by decide) S
   have E4:∀ S,zf .eq (.str zF) (.str [98,101,104,105,110,100]) S=.ok (.bl false) S:=λ S=>zZ (by decide) S
   obtain⟨k,b1,hk,et⟩:=zX (P:=P) (n+t.dep) (s:=SS s r q b0 (y - 1)) ⟨b0,aX9 hr h⟩ 5 (by decide) (z7 (by decide))
   rw[ao7 h]at et
   tbr_iter [i0,p,F,G,Z,E3,E4,et]
   rw[ql (by unfold Ww62;omega) (by unfold Ww62;omega)]
   simp only[R.bind_ok]
   rw[R.bind_assoc]
   refine qb (Ww:=bW7 s r q ((Tr.rep t).sz+40*(y - 1).toNat)) (λ j U u=>∃(m:List Nat) (b:Nat×Nat) (y':Int) (x:Option D),m.length+40*y'.toNat<=40*(y - 1).toNat/\U=[some (.ref r),some (Tr.rep t).d,some (.ref q),none,some (.str m),x]/\u=SS s r q b y') ⟨[],b1,y - 1,_,by simp,rfl,rfl⟩ (λ _ _ _ _ _=>rfl) ?_ ?_
   .rintro j d U u hj ⟨m,b,y',x,hm,rfl,rfl⟩
    obtain⟨a3,rfl⟩:=ac7 hj
    have gy:zf .gt (.int y') (.int 0) (SS s r q b y')=.ok (.bl (decide (y' > 0))) (SS s r q b y'):=gt_int ..
    by_cases h0:y' > 0
    .rw[decide_eq_true h0]at gy
     obtain⟨m2,b2,y2,a1,e2⟩:=z9 h t n (by omega) (SS s r q b y') y' ⟨b,aX9 hr h⟩ (aZ7 z) (by omega)
     rw[aL5 h]at e2
     have ad:=ae0 (a:=m) (b:=m2) (s:=SS s r q b2 y2) (by unfold LIM;omega)
     refine ap0 (U:=[some (.ref r),some (Tr.rep t).d,some (.ref q),none,some (.str (m++m2)),some (.int (0+j))]) (s:=SS s r q b2 y2) ?_ ⟨m++m2,b2,y2,_,?_,rfl,rfl⟩
     .unfold turn bV4
      tbr_iter [il,gy,J,e2,ad]
     .rw[ar];omega
    .rw[decide_eq_false h0]at gy
     refine ap0 (U:=[some (.ref r),some (Tr.rep t).d,some (.ref q),none,some (.str m),some (.int (0+j))]) (s:=SS s r q b y') ?_ ⟨m,b,y',_,hm,rfl,rfl⟩
     unfold turn bV4
     tbr_iter [il,gy]
   .rintro U u ⟨m,b,y',x,hm,rfl,rfl⟩
    tbr_iter []
    exact ae1 (by omega)
  | .two true t u,ht =>
   have a0:t.sz+u.sz+1<=40:=ht
   have Y:(callN P (n+(Tr.two true t u).dep+1)).call "_law_member" [.ref r,(Tr.two true t u).d,.ref q] s=_:=zl w_member (n:=n+max t.dep u.dep+1) rfl
   rw[Y,zV,show(bD some [D.ref r,(Tr.two true t u).d,.ref q]++aq w_member.vs none)=[some (.ref r),some (Tr.two true t u).d,some (.ref q),none,none,none]from rfl]
   have F:∀ S,ixM (Tr.two true t u).d (.int 0) S=.ok (.str zp) S:=λ S=>rfl
   have G:∀ S,zf .eq (.str zp) (.str [108,101,116,116,101,114]) S=.ok (.bl false) S:=λ S=>zZ (by decide) S
   have Z:∀ S,zf .eq (.str zp) (.str [110,111,116,104,105,110,103]) S=.ok (.bl false) S:=λ S=>zZ (by decide) S
   have E3:∀ S,zf .eq (.str zp) (.str [101,105,116,104,101,114]) S=.ok (.bl true) S:=λ S=>zZ (by decide) S
   obtain⟨k,b1,hk,et⟩:=zX (P:=P) (n+max t.dep u.dep) (s:=SS s r q b0 (y - 1)) ⟨b0,aX9 hr h⟩ 2 (by decide) (z7 (by decide))
   rw[ao7 h]at et
   obtain⟨m1,b2,y2,a2,e1⟩:=z9 h t (n+max t.dep u.dep - t.dep) (by omega) (SS s r q b1 (y - 1)) (y - 1) ⟨b1,aX9 hr h⟩ (aZ7 z) (by omega)
   rw[aL5 h,show n+max t.dep u.dep - t.dep+t.dep+1=n+max t.dep u.dep+1 by omega]at e1
   obtain⟨m2,b3,y3,a1,e2⟩:=z9 h u (n+max t.dep u.dep - u.dep) (by omega) (SS s r q b1 (y - 1)) (y - 1) ⟨b1,aX9 hr h⟩ (aZ7 z) (by omega)
   rw[aL5 h,show n+max t.dep u.dep - u.dep+u.dep+1=n+max t.dep u.dep+1 by omega]at e2
   have hs:(Tr.two true t u).sz=t.sz+u.sz+1:=rfl
   rcases(by omega:k=0\/k=1)with rfl|rfl
   .have J:∀ S,ixM (Tr.two true t u).d (.int (1+((0:Nat):Int))) S=.ok t.d S:=λ S=>rfl
    tbr_iter [i0,p,F,G,Z,E3,et,J,e1]
    exact ae1 (by omega)
   .have J:∀ S,ixM (Tr.two true t u).d (.int (1+((1:Nat):Int))) S=.ok u.d S:=λ S=>rfl
    tbr_iter [i0,p,F,G,Z,E3,et,J,e2]
    exact ae1 (by omega)
  | .two false t u,ht =>
   have a0:t.sz+u.sz+1<=40:=ht
   have Y:(callN P (n+(Tr.two false t u).dep+1)).call "_law_member" [.ref r,(Tr.two false t u).d,.ref q] s=_:=zl w_member (n:=n+max t.dep u.dep+1) rfl
   rw[Y,zV,show(bD some [D.ref r,(Tr.two false t u).d,.ref q]++aq w_member.vs none)=[some (.ref r),some (Tr.two false t u).d,some (.ref q),none,none,none]from rfl]
   have F:∀ S,ixM (Tr.two false t u).d (.int 0) S=.ok (.str zo) S:=λ S=>rfl
   have J:∀ S,ixM (Tr.two false t u).d (.int 1) S=.ok t.d S:=λ S=>rfl
   have I2:∀ S,ixM (Tr.two false t u).d (.int 2) S=.ok u.d S:=λ S=>rfl
   have G:∀ S,zf .eq (.str zo) (.str [108,101,116,116,101,114]) S=.ok (.bl false) S:=λ S=>zZ (by decide) S
   have Z:∀ S,zf .eq (.str zo) (.str [110,111,116,104,105,110,103]) S=.ok (.bl false) S:=λ S=>zZ (by decide) S
   have E3:∀ S,zf .eq (.str zo) (.str [101,105,116,104,101,114]) S=.ok (.bl false) S:=λ S=>zZ (by decide) S
   have E4:∀ S,zf .eq (.str zo) (.str [98,101,104,105,110,100]) S=.ok (.bl true) S:=λ S=>zZ (by decide) S
   obtain⟨m1,b2,y2,a2,e1⟩:=z9 h t (n+max t.dep u.dep - t.dep) (by omega) (SS s r q b0 (y - 1)) (y - 1) ⟨b0,aX9 hr h⟩ (aZ7 z) (by omega)
   rw[aL5 h,show n+max t.dep u.dep - t.dep+t.dep+1=n+max t.dep u.dep+1 by omega]at e1
   obtain⟨m2,b3,y3,a1,e2⟩:=z9 h u (n+max t.dep u.dep - u.dep) (by omega) (SS s r q b2 y2) y2 ⟨b2,aX9 hr h⟩ (aZ7 z) (by omega)
   rw[aL5 h,show n+max t.dep u.dep - u.dep+u.dep+1=n+max t.dep u.dep+1 by omega]at e2
   have hs:(Tr.two false t u).sz=t.sz+u.sz+1:=rfl
   have ad:=ae0 (a:=m1) (b:=m2) (s:=SS s r q b3 y3) (by unfold LIM;omega)
   tbr_iter [i0,p,F,G,Z,E3,E4,J,I2,e1,e2,ad]
   exact ae1 (by rw[ar];omega)
def SpR (s:Sto)(r B:Nat)(x:R D):Prop:=∃(m:List Nat) (b:Nat×Nat),m.length<=B/\x=.ok (.str m) (s.set r (zA b))
theorem aV7 [Has P w_word](n:Nat){s:Sto}{r:Nat}(hs:∃ b,s[r]?=some (zA b)):SpR s r 40 ((callN P (n+2)).call "_law_word" [.ref r,.int 3,.int 40] s):=by
 have z:(callN P (n+2)).call "_law_word" [.ref r,.int 3,.int 40] s=_:=zl w_word (n:=n+1) rfl
 have hr:=aD9 hs
 obtain⟨a,h,ha,e1⟩:=zX (P:=P) n hs 41 (by decide) (by decide)
 rw[z]
 simp -implicitDefEqProofs [w_word,e1]
 rw[ql (by unfold Ww62;omega) (by unfold Ww62;omega)]
 simp only[R.bind_ok]
 refine qb (Ww:=SpR s r 40) (λ j U u=>∃(b:Nat×Nat) (w:List Nat) (x:Option D),w.length=j/\U=[some (.ref r),some (.int 3),some (.int 40),some (.str w),x]/\u=s.set r (zA b)) ⟨h,[],none,rfl,rfl,rfl⟩ (λ _ _ _ _ _=>rfl) ?_ ?_
 .rintro j d U u hj ⟨b,w,x,hl,rfl,rfl⟩
  obtain⟨p,rfl⟩:=ac7 hj
  obtain⟨k,c,hk,f⟩:=zX (P:=P) n (qG (b:=b) hr) 3 (by omega) (z7 (by omega))
  rw[cN]at f
  refine ap0 (U:=[some (.ref r),some (.int 3),some (.int 40),some (.str (w++[97+k])),some (.int j)]) (s:=s.set r (zA c)) ?_ ⟨c,_,_,by simp[hl],rfl,rfl⟩
  simp -implicitDefEqProofs [turn,f,aB4 (show k<3 by omega)]
  rw[ae0 (by unfold LIM;simp;omega)]
  rfl
 .rintro U u ⟨b,w,x,hl,rfl,rfl⟩
  simp -implicitDefEqProofs
  refine⟨w,b,?_,ae3 (λ _=>rfl) (by nofun) rfl⟩
  rw[hl];simp[ad6];omega
end
theorem aF5 {α:Type}(l:List α)(p h:Option Int):(af4 l p h).length<=l.length:=by
 unfold af4
 rw[bK,cT]
 omega
theorem bE6 {α:Type}(l:List α):(af4 l none (some 40)).length<=40:=by
 unfold af4
 rw[bK,cT]
 have:hiB l.length (some 40)<=40:=by show sbd l.length 40<=40;unfold sbd;simp;omega
 omega
theorem slS (l:List Nat)(p h:Option Int)(s:Sto):slM (.str l) p h s=.ok (.str (af4 l p h)) s:=rfl
theorem aG6:∀ t:Tr,t.cnt<=t.sz
 | .nothing=>b9 _
 | .letter _=>ai _
 | .rep t=>Nat.le_succ_of_le (aG6 t)
 | .two _ t u=>by have:=aG6 t;have:=aG6 u;show t.cnt+u.cnt<=t.sz+u.sz+1;omega
section
variable {P:Pr} [Has P w_take] [Has P w_spoilt]
theorem aL8 (n:Nat){s:Sto}{r:Nat}(hs:∃ b,s[r]?=some (zA b)){w:List Nat}(hw:w.length<=40):SpR s r 100 ((callN P (n+2)).call "_law_spoilt" [.ref r,.str w] s):=by
 have e0:(callN P (n+2)).call "_law_spoilt" [.ref r,.str w] s=_:=zl w_spoilt (n:=n+1) rfl
 have hr:=aD9 hs
 obtain⟨a,b1,ha,e1⟩:=zX (P:=P) n hs ((w.length:Int)+1) (by omega) (z7 (by omega))
 obtain⟨k,b2,hk,e2⟩:=zX (P:=P) n (qG (b:=b1) hr) 3 (by omega) (z7 (by omega))
 rw[cN]at e2
 obtain⟨F,Y,a0,Z⟩:=zX (P:=P) n (qG (b:=b2) hr) 3 (by omega) (z7 (by omega))
 rw[cN]at Z
 obtain⟨p,h,a3,e4⟩:=zX (P:=P) n (qG (b:=Y) hr) 3 (by omega) (z7 (by omega))
 rw[cN]at e4
 have a1:=aB4 (k:=F) (by omega) (s.set r (zA Y))
 have a2:=aB4 (k:=p) (by omega) (s.set r (zA h))
 have z:∀ u,bi .len [.str w] u=.ok (.int w.length) u:=λ u=>rfl
 obtain⟨x,hx,ix⟩:∃ x:List Nat,x.length<=1/\ixM (.ref (s.set r (zA h)).length) (.int (k:Int)) (s.set r (zA h)++[.lst [.str [],.str [97+F],.str [97+p]]])=.ok (.str x) (s.set r (zA h)++[.lst [.str [],.str [97+F],.str [97+p]]]):=by
  rcases(by omega:k=0\/k=1\/k=2)with rfl|rfl|rfl
  .exact⟨[],by decide,zI (j:=0) qy rfl⟩
  .exact⟨[97+F],ai 1,zI (j:=1) qy rfl⟩
  .exact⟨[97+p],ai 1,zI (j:=2) qy rfl⟩
 generalize hT:s.set r (zA h)++[O.lst [.str [],.str [97+F],.str [97+p]]]=T at ix
 have h1:=aF5 w none (some (a:Int))
 have G:=ae0 (a:=af4 w none (some (a:Int))) (b:=x) (s:=T) (by unfold LIM;omega)
 have cl:zf .lt (.int (k:Int)) (.int 2) T=.ok (.bl (decide ((k:Int)<2))) T:=lt_int ..
 have h2:=aF5 w (some ((a:Int)+((decide ((k:Int)<2)).toNat:Nat))) none
 have J:=ae0 (a:=af4 w none (some (a:Int))++x) (b:=af4 w (some ((a:Int)+((decide ((k:Int)<2)).toNat:Nat))) none) (s:=T) (by unfold LIM;rw[ar];omega)
 rw[e0,show w_spoilt.body=(.cons (.asg (.one 2) (.call "_law_take" (.ex (.var 0) (.ex (.bin .add (.bi .len (.cons (.var 1) .nil)) (.cst (.int 1))) .nil)))) (.cons (.asg (.one 3) (.call "_law_take" (.ex (.var 0) (.ex (.cst (.int 3)) .nil)))) (.cons (.ret (.bin .add (.bin .add (.slU (.var 1) (.var 2)) (.ix (.lst (.cons (.cst (.str [])) (.cons (.ix (.cst (.str [97,98,99])) (.call "_law_take" (.ex (.var 0) (.ex (.cst (.int 3)) .nil)))) (.cons (.ix (.cst (.str [97,98,99])) (.call "_law_take" (.ex (.var 0) (.ex (.cst (.int 3)) .nil)))) .nil)))) (.var 3))) (.slL (.var 1) (.bin .add (.var 2) (.bi .int (.cons (.cmp .lt (.var 3) (.cst (.int 2))) .nil)))))) .nil)))from rfl,show(bD some [D.ref r,D.str w]++aq w_spoilt.vs none)=[some (.ref r),some (.str w),none,none]from rfl]
 tbr_iter [z,e1,e2,Z,e4,a1,a2,bj3,bP0,slS,hT,ix,cl,aU7,G,J]
 rw[<-hT]
 refine⟨_,h,?_,au6 (λ _=>rfl) (by nofun) rfl⟩
 rw[ar,ar]
 omega
end
noncomputable def bZ4:Ss:=(.cons (.asg (.one 3) (.call "_law_bag" (.ex (.var 0) (.ex (.var 2) .nil)))) (.cons (.ex (.meth .append (.var 1) (.cons (.call "_law_set" (.ex (.var 3) (.ex (.bin .add (.cst (.int 1)) (.call "_law_take" (.ex (.var 3) (.ex (.cst (.int 12)) .nil)))) (.ex (.bin .add (.cst (.int 1)) (.call "_law_take" (.ex (.var 3) (.ex (.cst (.int 40)) .nil)))) (.ex (.lst (.cons (.cst (.int 40)) .nil)) .nil))))) .nil))) .nil))
def TrK (t:Tr):Prop:=t.ok/\t.dep<=12/\t.sz<=40
noncomputable def bV7:Ss:=(.cons (.asg (.one 7) (.call "holds" (.ex (.var 6) (.ex (.var 5) .nil)))) (.cons (.ite (.or (.not (.bi .isBool (.cons (.var 7) .nil))) (.cmp .ne (.var 7) (.call "_law_held" (.ex (.var 6) (.ex (.var 5) .nil))))) (.cons (.ret (.cst (.bl false))) .nil) .nil) .nil))
noncomputable def bS7:Ss:=(.cons (.for_ (.one 6) (.seq (.var 1)) bV7) .nil)
noncomputable def bU1:Ss:=(.cons (.asg (.one 3) (.call "_law_bag" (.ex (.var 0) (.ex (.var 2) .nil)))) (.cons (.asg (.one 4) (.slU (.call "_law_member" (.ex (.var 3) (.ex (.ix (.var 1) (.bin .mod (.var 2) (.cst (.int 2)))) (.ex (.lst (.cons (.cst (.int 20)) .nil)) .nil)))) (.cst (.int 40)))) (.cons (.for_ (.one 5) (.seq (.lst (.cons (.cst (.str [])) (.cons (.var 4) (.cons (.slU (.call "_law_spoilt" (.ex (.var 3) (.ex (.var 4) .nil))) (.cst (.int 40))) (.cons (.call "_law_word" (.ex (.var 3) (.ex (.cst (.int 3)) (.ex (.cst (.int 40)) .nil)))) .nil)))))) bS7) .nil)))
theorem bF1:w_law_k60.body=(.cons (.asg (.one 1) (.lst .nil)) (.cons (.for_ (.one 2) (.rng1 (.cst (.int 2))) bZ4) (.cons (.for_ (.one 2) (.rng2 (.cst (.int 2)) (.bi .max2 (.cons (.cst (.int 4)) (.cons (.bi .min2 (.cons (.bi .len (.cons (.var 0) .nil)) (.cons (.cst (.int 7)) .nil))) .nil)))) bU1) (.cons (.ret (.cst (.bl true))) .nil)))):=rfl
section
variable {P:Pr} [Has P w_law_k60] [Has P w_bag] [Has P w_take] [Has P w_set_2] [Has P w_word] [Has P w_onward] [Has P w_again] [Has P w_ends] [Has P w_member] [Has P w_spoilt] [Has P w_held]
 [Has P d_rooms_for] [Has P d_led_by] [Has P d_ends_from] [Has P d_holds] [HasM P "Rooms" "link" d_Rooms_link] [HasM P "Rooms" "lay_letter" d_Rooms_lay_letter] [HasM P "Rooms" "lay" d_Rooms_lay] [HasM P "Rooms" "__init__" d_Rooms___init__] [HasA P "Rooms" nLet] [HasA P "Rooms" nFol] [HasA P "Rooms" nEnd]
open Classical in
theorem bx5 (n:Nat){t:Tr}(h:TrK t){w:List Nat}(hw:w.length<=40)(v:Sto)(x0 x1 x2 x3 p z F:Option D) :
  ∃ b,turn (callN P (n+16)) (.one 6) bV7 t.d [x0,x1,x2,x3,p,some (.str w),z,F] v=.ok (.next [x0,x1,x2,x3,p,some (.str w),some t.d,some (.bl b)]) v:=by
 obtain⟨Y,Z,h3⟩:=h
 have e1:=holds_ok (P:=P) (t:=t) (by have:=aG6 t;omega) hw (n+13 - t.dep) v
 rw[show n+13 - t.dep+t.dep+3=n+16 by omega]at e1
 have e2:=br2 (P:=P) t (n+13 - t.dep) hw v
 rw[show n+13 - t.dep+t.dep+3=n+16 by omega]at e2
 generalize decide (Mt' w t 0 w.length)=b at e1 e2
 have J:bi .isBool [.bl b] v=.ok (.bl true) v:=rfl
 have G:zf .ne (.bl b) (.bl b) v=.ok (.bl false) v:=by cases b<;>rfl
 refine⟨b,?_⟩
 unfold turn bV7
 tbr_iter [e1,e2,J,G]
theorem bs1 (n:Nat){J:List Tr}(hd:∀ d∈J,TrK d){w:List Nat}(hw:w.length<=40)(v:Sto)(hv:v[1]?=some (.lst (J.map Tr.d)))(x0 x2 x3 F G p z:Option D) :
  Nx (λ U u=>u=v/\∃ G p z,U=[x0,some (.ref 1),x2,x3,F,G,p,z]) (turn (callN P (n+16)) (.one 5) bS7 (.str w) [x0,some (.ref 1),x2,x3,F,G,p,z] v):=by
 have Y:al9 (.ref 1) v=.ok ⟨J.map Tr.d,[1]⟩ v:=by simp only[al9,hv]
 unfold turn bS7
 tbr_iter [Y]
 try rw[R.bind_assoc]
 refine qb (Ww:=Nx (λ U u=>u=v/\∃ G p z,U=[x0,some (.ref 1),x2,x3,F,G,p,z])) (λ j U u=>u=v/\∃ p z,U=[x0,some (.ref 1),x2,x3,F,some (.str w),p,z]) ⟨rfl,_,_,rfl⟩ (λ _ _ _ _ h=>by rw[h.1];simp[chk]) ?_ ?_
 .rintro j d U u hj ⟨rfl,p,z,rfl⟩
  rw[aC]at hj
  cases e:J[j]? with
  | none=>rw[e]at hj;cases hj
  | some t =>
   rw[e]at hj
   cases hj
   obtain⟨b,eb⟩:=bx5 (P:=P) n (hd t (aY e)) hw u x0 (some (.ref 1)) x2 x3 F p z
   exact ap0 eb ⟨rfl,_,_,rfl⟩
 .rintro U u ⟨rfl,p,z,rfl⟩
  exact ap0 rfl ⟨rfl,_,_,_,rfl⟩
theorem bn6 (n:Nat){ns:List Int}(hl:ns.length<=63){p:List Tr}(hd:∀ d∈p,TrK d)(c1:p.length=2)(k:Nat)(t:Sto)(ht:t[0]?=some (.ro (ns.map D.int)))(h1:t[1]?=some (.lst (p.map Tr.d)))(x2 x3 x4 F G z:Option D) :
  Nx (λ U u=>u[0]?=some (.ro (ns.map D.int))/\u[1]?=some (.lst (p.map Tr.d))/\∃ x2 x3 x4 F G z,U=[some (.ref 0),some (.ref 1),x2,x3,x4,F,G,z]) (turn (callN P (n+16)) (.one 2) bU1 (.int (k:Int)) [some (.ref 0),some (.ref 1),x2,x3,x4,F,G,z] t):=by
 have e0:1<t.length:=(ac.mp h1).1
 have J:=bi8 (P:=P) (n+15) ns k t 0 ht hl
 generalize by8 ns k=b0 at J
 have b5:∃ b,(t++[zA b0])[t.length]?=some (zA b):=⟨b0,by simp⟩
 have d3:(t++[zA b0]).length=t.length+1:=by simp
 have c3:(t++[zA b0])[0]?=some (.ro (ns.map D.int)):=aa1 ht
 have a1:(t++[zA b0])[1]?=some (.lst (p.map Tr.d)):=aa1 h1
 generalize d2:t++[zA b0]=S at *
 generalize hr:t.length=r at *
 have d1:r<S.length:=by omega
 obtain⟨tr,htr,ix⟩:∃ tr∈p,ixM (.ref 1) (.int ((k:Int) % 2)) S=.ok tr.d S:=by
  have h2:k % 2<p.length:=by rw[c1];omega
  refine⟨p[k % 2],eK h2,?_⟩
  rw[show(k:Int) % 2=((k % 2:Nat):Int)by omega]
  exact zI a1 (by rw[aC,ah h2];rfl)
 obtain⟨p1,p2,p3⟩:=hd tr htr
 have md:z0 .mod (.int (k:Int)) (.int 2) S=.ok (.int ((k:Int) % 2)) S:=ad7 (by decide)
 obtain⟨m,b1,y1,hm,em⟩:=z9 (P:=P) (r:=r) (q:=S.length) (by omega) tr (n+15 - tr.dep) p3 (S++[.lst [.int 20]]) 20 (aN5 b5) qy (by decide)
 rw[show n+15 - tr.dep+tr.dep+1=n+16 by omega]at em
 have a0:(SS (S++[O.lst [D.int 20]]) r S.length b1 y1)[0]?=some (.ro (ns.map D.int)):=by
  unfold SS
  rw[am (by omega),am (by omega)]
  exact aa1 c3
 have a5:(SS (S++[O.lst [D.int 20]]) r S.length b1 y1)[1]?=some (.lst (p.map Tr.d)):=by
  unfold SS
  rw[am (by omega),am (by omega)]
  exact aa1 a1
 have Y:∃ b,(SS (S++[O.lst [D.int 20]]) r S.length b1 y1)[r]?=some (zA b):=⟨b1,aX9 (by rw[ar];omega) (by omega)⟩
 generalize SS (S++[O.lst [D.int 20]]) r S.length b1 y1=Uu at em a0 a5 Y
 have d0:=aD9 Y
 have Z:=bE6 m
 generalize c0:af4 m none (some 40)=w1 at Z
 obtain⟨m2,b2,e1,e2⟩:=aL8 (P:=P) (n+14) Y Z
 have a3:=bE6 m2
 generalize a4:af4 m2 none (some 40)=w2 at a3
 obtain⟨w3,b3,b6,e3⟩:=aV7 (P:=P) (n+14) (qG (b:=b2) d0)
 rw[cN]at e3
 have a2:(Uu.set r (zA b3))[0]?=some (.ro (ns.map D.int)):=by rw[am (by omega)];exact a0
 have a6:(Uu.set r (zA b3))[1]?=some (.lst (p.map Tr.d)):=by rw[am (by omega)];exact a5
 generalize Uu.set r (zA b3)=V at e3 a2 a6
 have hq:al9 (.ref V.length) (V++[.lst [.str [],.str w1,.str w2,.str w3]])=.ok ⟨[.str [],.str w1,.str w2,.str w3],[V.length]⟩ (V++[.lst [.str [],.str w1,.str w2,.str w3]]):=by simp only[al9,qy]
 have c2:(V++[O.lst [.str [],.str w1,.str w2,.str w3]])[0]?=some (.ro (ns.map D.int)):=aa1 a2
 have b4:(V++[O.lst [.str [],.str w1,.str w2,.str w3]])[1]?=some (.lst (p.map Tr.d)):=aa1 a6
 unfold turn bU1
 tbr_iter [J,md,ix,em,bj3,slS,c0,e2,a4,e3,hq]
 generalize V++[O.lst [.str [],.str w1,.str w2,.str w3]]=X at *
 try rw[R.bind_assoc]
 refine qb (Ww:=Nx (λ U u=>u[0]?=some (.ro (ns.map D.int))/\u[1]?=some (.lst (p.map Tr.d))/\∃ x2 x3 x4 F G z,U=[some (.ref 0),some (.ref 1),x2,x3,x4,F,G,z])) (λ j U u=>u=X/\∃ F G z,U=[some (.ref 0),some (.ref 1),some (.int (k:Int)),some (.ref r),some (.str w1),F,G,z]) ⟨rfl,_,_,_,rfl⟩ ?_ ?_ ?_
 .intro j U u hj h
  rw[h.1];simp[chk]
 .rintro j d U u hj ⟨rfl,F,G,z,rfl⟩
  obtain⟨w,hw,rfl⟩:∃ w:List Nat,w.length<=40/\d=.str w:=by
   have hd:=aY hj
   simp only[aH,bZ,or_false]at hd
   rcases hd with rfl|rfl|rfl|rfl
   .exact⟨[],by simp,rfl⟩
   .exact⟨_,Z,rfl⟩
   .exact⟨_,a3,rfl⟩
   .exact⟨_,b6,rfl⟩
  exact bs1 (P:=P) n hd hw u b4 _ _ _ _ _ _ _
 .rintro U u ⟨rfl,F,G,z,rfl⟩
  exact ap0 rfl ⟨c2,b4,_,_,_,_,_,_,rfl⟩
theorem bB7 (n:Nat):LawOk P (n+17):=by
 intro ns hl
 have e0:(callN P (n+17)).call "law" [.ref 0] [.ro (ns.map D.int)]=_:=zl w_law_k60 (n:=n+16) rfl
 rw[e0,bF1,show(bD some [D.ref 0]++aq w_law_k60.vs none)=[some (.ref 0),none,none,none,none,none,none,none]from rfl]
 have ha:([.ro (ns.map D.int)]:Sto)++[.lst []]=[.ro (ns.map D.int),.lst []]:=rfl
 have c0:(D.ref ([.ro (ns.map D.int)]:Sto).length)=.ref 1:=rfl
 tbr_iter [ha,c0]
 rw[ql (by unfold Ww62;omega) (by unfold Ww62;omega)]
 simp only[R.bind_ok]
 rw[R.bind_assoc]
 refine qb (Ww:=Yes) (λ j U t=>t[0]?=some (.ro (ns.map D.int))/\∃(p:List Tr) (x2 x3:Option D),t[1]?=some (.lst (p.map Tr.d))/\p.length=j/\(∀ d∈p,TrK d)/\U=[some (.ref 0),some (.ref 1),x2,x3,none,none,none,none]) ⟨rfl,[],_,_,rfl,rfl,λ d hd=>(by cases hd),rfl⟩ (λ _ _ _ _ _=>rfl) ?_ ?_
 .rintro j d U t hj ⟨ht,p,x2,x3,h1,F,J,rfl⟩
  obtain⟨b5,rfl⟩:=ac7 hj
  rw[kQ]
  have e2:1<t.length:=(ac.mp h1).1
  have G:=bi8 (P:=P) (n+15) ns j t 0 ht hl
  generalize by8 ns j=b0 at G
  have b4:∃ b,(t++[zA b0])[t.length]?=some (zA b):=⟨b0,by simp⟩
  have e1:(t++[zA b0]).length=t.length+1:=by simp
  have c2:(t++[zA b0])[0]?=some (.ro (ns.map D.int)):=aa1 ht
  have b6:(t++[zA b0])[1]?=some (.lst (p.map Tr.d)):=aa1 h1
  generalize d1:t++[zA b0]=S at *
  generalize hr:t.length=r at *
  have a1:r<S.length:=by omega
  obtain⟨k1,b1,d0,c1⟩:=zX (P:=P) (n+15) b4 12 (by decide) (z7 (by decide))
  obtain⟨k2,Z,d2,a6⟩:=zX (P:=P) (n+15) (qG (b:=b1) a1) 40 (by decide) (z7 (by decide))
  rw[cN]at a6
  have z:(S.set r (zA Z)).length=S.length:=by simp
  obtain⟨tr,b3,y3,htr,es⟩:=bx8 (P:=P) (n+16 - k1 - 2) (r:=r) (q:=S.length) (by omega) k1 (S.set r (zA Z)++[.lst [.int 40]]) (k2+1) (aN5 (qG a1)) ⟨40,by rw[<-z];simp⟩ (by omega) (by omega)
  rw[show n+16 - k1 - 2+k1+2=n+16 by omega]at es
  have eA:(1:Int)+(k1:Int)=(k1:Int)+1:=by omega
  have eB:(1:Int)+(k2:Int)=((k2+1:Nat):Int):=by omega
  have a4:(SS (S.set r (zA Z)++[O.lst [D.int 40]]) r S.length b3 y3)[0]?=some (.ro (ns.map D.int)):=by
   unfold SS
   rw[am (by omega),am (by omega)]
   exact aa1 (by rw[am (by omega)];exact c2)
  have Y:(SS (S.set r (zA Z)++[O.lst [D.int 40]]) r S.length b3 y3)[1]?=some (.lst (p.map Tr.d)):=by
   unfold SS
   rw[am (by omega),am (by omega)]
   exact aa1 (by rw[am (by omega)];exact b6)
  generalize SS (S.set r (zA Z)++[O.lst [D.int 40]]) r S.length b3 y3=Uu at es a4 Y
  have a3:1<Uu.length:=(ac.mp Y).1
  have d3:(ad6 0 (2:Int)).length=2:=rfl
  have ea:=qq (v:=tr.d) Y (by rw[aD];unfold LIM;omega)
  have c3:D.ref (S.set r (zA Z)).length=.ref S.length:=by rw[z]
  refine ap0 (U:=[some (.ref 0),some (.ref 1),some (.int j),some (.ref r),none,none,none,none]) (s:=Uu.set 1 (.lst (p.map Tr.d++[tr.d]))) ?_ ⟨by rw[am (by omega)];exact a4,p++[tr],_,_,by rw[zT a3,bJ];rfl,by rw[ar,F];rfl,λ d hd=>?_,rfl⟩
  .unfold turn bZ4
   tbr_iter [G,c1,eA,a6,eB,c3,es,ea]
  .rcases aO.mp hd with h|h
   .exact J d h
   .rw[aR.mp h];exact⟨htr.1,by omega,by omega⟩
 rintro U v ⟨hv,p,x2,x3,h1,F,J,rfl⟩
 have F:p.length=2:=F
 have a0:bi .len [.ref 0] v=.ok (.int ns.length) v:=by rw[bm0 hv,aD]
 obtain⟨k,hk12,hk⟩:∃ k:Nat,k<=7/\(if(if 7<(ns.length:Int)then 7 else(ns.length:Int)) > 4 then(if 7<(ns.length:Int)then 7 else(ns.length:Int))else 4)=(k:Int):=by
  by_cases h:(7:Int)<(ns.length:Int)
  .exact⟨7,by omega,by rw[if_pos h];rfl⟩
  .rw[if_neg h]
   by_cases h2:(ns.length:Int) > 4
   .exact⟨ns.length,by omega,by rw[if_pos h2]⟩
   .exact⟨4,by omega,by rw[if_neg h2];rfl⟩
 have r2:=aX0 (i:=2) (j:=(k:Int)) (by omega) (by omega) v
 tbr_iter [a0,bc4,bf4,hk,at5,r2]
 try rw[R.bind_assoc]
 refine qb (Ww:=Yes) (λ j U u=>u[0]?=some (.ro (ns.map D.int))/\u[1]?=some (.lst (p.map Tr.d))/\∃ x2 x3 x4 x5 x6 x7,U=[some (.ref 0),some (.ref 1),x2,x3,x4,x5,x6,x7]) ⟨hv,h1,_,_,_,_,_,_,rfl⟩ (λ _ _ _ _ _=>rfl) ?_ ?_
 .rintro j d U u hj ⟨a2,a5,x2,x3,x4,x5,x6,x7,rfl⟩
  obtain⟨b5,rfl⟩:=ac7 hj
  rw[show(2:Int)+(j:Int)=((2+j:Nat):Int)by omega]
  exact bn6 n hl J F (2+j) u a2 a5 _ _ _ _ _ _
 .rintro U u ⟨a2,a5,x2,x3,x4,x5,x6,x7,rfl⟩
  tbr_iter []
  exact aR2 _ _
end
theorem bT7 {P:Pr}[Has P w_law_k60][Has P w_bag][Has P w_take][Has P w_set_2][Has P w_word][Has P w_onward][Has P w_again][Has P w_ends][Has P w_member][Has P w_spoilt][Has P w_held]
 [Has P d_rooms_for] [Has P d_led_by] [Has P d_ends_from] [Has P d_holds] [HasM P "Rooms" "link" d_Rooms_link] [HasM P "Rooms" "lay_letter" d_Rooms_lay_letter] [HasM P "Rooms" "lay" d_Rooms_lay] [HasM P "Rooms" "__init__" d_Rooms___init__] [h1 : HasA P "Rooms" [108, 101, 116, 116, 101, 114, 115]] [h2 : HasA P "Rooms" [102, 111, 108, 108, 111, 119, 115]] [h3 : HasA P "Rooms" [101, 110, 100, 115]] (n : Nat) : LawOk P (n + 17) := by
 haveI a1:HasA P "Rooms" nLet:=h1
 haveI a2:HasA P "Rooms" nFol:=h2
 haveI a3:HasA P "Rooms" nEnd:=h3
 exact bB7 n
end DV
end
local macro_rules | `(tactic| walk_at "sc") => `(tactic| exact ⟨rfl, rfl, rfl, by decide +kernel, rfl, by decide +kernel, by decide +kernel⟩)
local macro_rules | `(tactic| walk_at "mf") => `(tactic| (dsimp only; exact ⟨_, _, _, _, _, _, _, _, _, _, _, by k_is, by k_is, by k_is, by k_is, by k_is, by k_is⟩))
local macro_rules | `(tactic| walk_at "df") => `(tactic| (dsimp only; exact ⟨_, _, _, _, _, _, _, _, _, _, by k_is, by k_is, by k_is, by k_is⟩))
noncomputable section
namespace My
open PySem L2
noncomputable def top (i:Nat):Stmt:=PySem.Challenge.pw_leasttolls_k60_words_held.main.body.getD i (.Pass ⟨0,0,0,0⟩)
noncomputable def tabN:List Str:=[]
noncomputable abbrev s_rooms_for:Stmt:=top 2
noncomputable abbrev s_led_by:Stmt:=top 3
noncomputable abbrev s_ends_from:Stmt:=top 4
noncomputable abbrev s_holds : Stmt := top 5
noncomputable abbrev s__law_bag:Stmt:=top 7
noncomputable abbrev s__law_take:Stmt:=top 8
noncomputable abbrev s__law_word:Stmt:=top 9
noncomputable abbrev s__law_set:Stmt:=top 10
noncomputable abbrev s__law_onward:Stmt:=top 11
noncomputable abbrev s__law_again:Stmt:=top 12
noncomputable abbrev s__law_ends:Stmt:=top 13
noncomputable abbrev s__law_member:Stmt:=top 14
noncomputable abbrev s__law_spoilt:Stmt:=top 15
noncomputable abbrev s__law_held:Stmt:=top 16
noncomputable abbrev s_law:Stmt:=top 17
noncomputable def bb8:Stmt->List Stmt|.ClassDef _ _ _ b _ _ _ _ _ _ _=>b|_=>[]
noncomputable abbrev ab1:Stmt:=(bb8 (top 1)).getD 0 (.Pass ⟨0,0,0,0⟩)
noncomputable abbrev aj3:Stmt:=(bb8 (top 1)).getD 1 (.Pass ⟨0,0,0,0⟩)
noncomputable abbrev s_Rooms_lay_letter:Stmt:=(bb8 (top 1)).getD 2 (.Pass ⟨0,0,0,0⟩)
noncomputable abbrev af0:Stmt:=(bb8 (top 1)).getD 3 (.Pass ⟨0,0,0,0⟩)
noncomputable def mtb:List ((String×String)×lR×Stmt):=[(("Rooms", "__init__"),DV.d_Rooms___init__,ab1),(("Rooms", "lay"),DV.d_Rooms_lay,aj3),(("Rooms", "lay_letter"),DV.d_Rooms_lay_letter,s_Rooms_lay_letter),(("Rooms", "link"),DV.d_Rooms_link,af0)]
noncomputable def obt:List (String×List (List Nat)):=[("Rooms",[[101,110,100,115],[108,101,116,116,101,114,115],[102,111,108,108,111,119,115]])]
noncomputable def tb : List (String × DV.Df × Stmt) := [("rooms_for", DV.d_rooms_for, s_rooms_for), ("led_by", DV.d_led_by, s_led_by), ("ends_from", DV.d_ends_from, s_ends_from), ("holds", DV.d_holds, s_holds), ("_law_bag", DV.w_bag, s__law_bag), ("_law_take", DV.w_take, s__law_take), ("_law_word", DV.w_word, s__law_word), ("_law_set", DV.w_set_2, s__law_set), ("_law_onward", DV.w_onward, s__law_onward), ("_law_again", DV.w_again, s__law_again), ("_law_ends", DV.w_ends, s__law_ends), ("_law_member", DV.w_member, s__law_member), ("_law_spoilt", DV.w_spoilt, s__law_spoilt), ("_law_held", DV.w_held, s__law_held), ("law", DV.w_law_k60, s_law)]
noncomputable def bR7:List (String×lf):=[]
noncomputable def cd4:List (String×mJ):=[]
noncomputable def tbl:List (String×lR):=tb.map λ p=>(p.1,p.2.1)
noncomputable def P:ly:=⟨λ f=>tbl.lookup f,λ f=>cd4.lookup f,λ x=>bR7.lookup x,λ _=>none,λ _=>none,λ _=>false,λ _=>false,λ _=>none,λ c m=>(mtb.lookup (c,m)).map (·.1),λ c f=>(obt.lookup c).any λ l=>l.contains f⟩
instance:DV.Has P DV.d_rooms_for:=⟨rfl⟩
instance:DV.Has P DV.d_led_by:=⟨rfl⟩
instance:DV.Has P DV.d_ends_from:=⟨rfl⟩
noncomputable instance : DV.Has P DV.d_holds := ⟨rfl⟩
instance:DV.Has P DV.w_bag:=⟨rfl⟩
instance:DV.Has P DV.w_take:=⟨rfl⟩
instance:DV.Has P DV.w_word:=⟨rfl⟩
instance:DV.Has P DV.w_set_2:=⟨rfl⟩
instance:DV.Has P DV.w_onward:=⟨rfl⟩
instance:DV.Has P DV.w_again:=⟨rfl⟩
instance:DV.Has P DV.w_ends:=⟨rfl⟩
instance:DV.Has P DV.w_member:=⟨rfl⟩
instance:DV.Has P DV.w_spoilt:=⟨rfl⟩
instance:DV.Has P DV.w_held:=⟨rfl⟩
instance:DV.Has P DV.w_law_k60:=⟨rfl⟩
instance:DV.HasM P "Rooms" "__init__" DV.d_Rooms___init__:=⟨rfl⟩
instance:DV.HasM P "Rooms" "lay" DV.d_Rooms_lay:=⟨rfl⟩
instance:DV.HasM P "Rooms" "lay_letter" DV.d_Rooms_lay_letter:=⟨rfl⟩
instance:DV.HasM P "Rooms" "link" DV.d_Rooms_link:=⟨rfl⟩
instance:DV.HasA P "Rooms" [101,110,100,115]:=⟨by decide⟩
instance:DV.HasA P "Rooms" [108,101,116,116,101,114,115]:=⟨by decide⟩
instance:DV.HasA P "Rooms" [102,111,108,108,111,119,115]:=⟨by decide⟩
theorem af3:DTM "Rooms" "__init__" DV.d_Rooms___init__ ab1:=⟨["self"],["self"],by walk_at "sc",rfl,rfl,λ _ _ _ _ _ _=>bd1 (λ _=>rfl),by decide +kernel⟩
theorem ax3:DTM "Rooms" "lay" DV.d_Rooms_lay aj3:=⟨["self", "words", "one", "other", "firsts", "lasts"],["self", "words"],by walk_at "sc",rfl,rfl,λ _ _ _ _ _ _=>bd2 (λ _ _=>rfl),by decide +kernel⟩
theorem ad0:DTM "Rooms" "lay_letter" DV.d_Rooms_lay_letter s_Rooms_lay_letter:=⟨["self", "letter", "room"],["self", "letter"],by walk_at "sc",rfl,rfl,λ _ _ _ _ _ _=>bd2 (λ _ _=>rfl),by decide +kernel⟩
theorem au7:DTM "Rooms" "link" DV.d_Rooms_link af0:=⟨["self", "rooms", "goals", "room", "goal"],["self", "rooms", "goals"],by walk_at "sc",rfl,rfl,λ _ _ _ _ _ _=>bd3 (λ _ _ _=>rfl),by decide +kernel⟩
theorem bY1:∀ p∈mtb,DTM p.1.1 p.1.2 p.2.1 p.2.2:=by
 intro p h
 unfold mtb at h
 simp only[aH,bZ,or_false]at h
 rcases h with rfl|rfl|rfl|rfl
 .exact af3
 .exact ax3
 .exact ad0
 .exact au7
theorem ax4:DT tabN P "rooms_for" DV.d_rooms_for s_rooms_for:=⟨["words", "laid", "whole"],["words"],by walk_at "sc",rfl,rfl,λ _ _ _ _ _ _=>bd1 (λ _=>rfl),.inl (by decide +kernel)⟩
theorem aZ6:DT tabN P "led_by" DV.d_led_by s_led_by:=⟨["laid", "rooms", "letter", "found", "room", "goal"],["laid", "rooms", "letter"],by walk_at "sc",rfl,rfl,λ _ _ _ _ _ _=>bd3 (λ _ _ _=>rfl),.inl (by decide +kernel)⟩
theorem ay7:DT tabN P "ends_from" DV.d_ends_from s_ends_from:=⟨["laid", "word", "start", "found", "rooms", "at"],["laid", "word", "start"],by walk_at "sc",rfl,rfl,λ _ _ _ _ _ _=>bd3 (λ _ _ _=>rfl),.inl (by decide +kernel)⟩
theorem t_holds : DT tabN P "holds" DV.d_holds s_holds := ⟨["words", "word"], ["words", "word"], by walk_at "sc", rfl, rfl, λ _ _ _ _ _ _ => bd2 (λ _ _ => rfl), .inl (by decide +kernel)⟩
theorem aK3:DT tabN P "_law_bag" DV.w_bag s__law_bag:=⟨["_law_script", "_law_at", "_law_cell", "_law_mix", "_law_k"],["_law_script", "_law_at"],by walk_at "sc",rfl,rfl,λ _ _ _ _ _ _=>bd2 (λ _ _=>rfl),.inl (by decide +kernel)⟩
theorem aw0:DT tabN P "_law_take" DV.w_take s__law_take:=⟨["_law_bag_here", "_law_many", "_law_digit", "_law_number", "_law_room"],["_law_bag_here", "_law_many"],by walk_at "sc",rfl,rfl,λ _ _ _ _ _ _=>bd2 (λ _ _=>rfl),.inl (by decide +kernel)⟩
theorem ax1:DT tabN P "_law_word" DV.w_word s__law_word:=⟨["_law_bag_here", "_law_letters", "_law_most", "_law_word_here", "_law_k"],["_law_bag_here", "_law_letters", "_law_most"],by walk_at "sc",rfl,rfl,λ _ _ _ _ _ _=>bd3 (λ _ _ _=>rfl),.inl (by decide +kernel)⟩
theorem aL1:DT tabN P "_law_set" DV.w_set_2 s__law_set:=⟨["_law_bag_here", "_law_deep", "_law_room", "_law_left", "_law_kind", "_law_sign", "_law_some", "_law_first"],["_law_bag_here", "_law_deep", "_law_room", "_law_left"],by walk_at "sc",rfl,rfl,λ _ _ _ _ _ _=>bd4 (λ _ _ _ _=>rfl),.inl (by decide +kernel)⟩
theorem ap8:DT tabN P "_law_onward" DV.w_onward s__law_onward:=⟨["_law_bits", "_law_rows", "_law_found", "_law_k"],["_law_bits", "_law_rows"],by walk_at "sc",rfl,rfl,λ _ _ _ _ _ _=>bd2 (λ _ _=>rfl),.inl (by decide +kernel)⟩
theorem at2:DT tabN P "_law_again" DV.w_again s__law_again:=⟨["_law_rows", "_law_found", "_law_k"],["_law_rows"],by walk_at "sc",rfl,rfl,λ _ _ _ _ _ _=>bd1 (λ _=>rfl),.inl (by decide +kernel)⟩
theorem ax7:DT tabN P "_law_ends" DV.w_ends s__law_ends:=⟨["_law_words", "_law_word_here", "_law_size", "_law_first", "_law_second"],["_law_words", "_law_word_here"],by walk_at "sc",rfl,rfl,λ _ _ _ _ _ _=>bd2 (λ _ _=>rfl),.inl (by decide +kernel)⟩
theorem ap1:DT tabN P "_law_member" DV.w_member s__law_member:=⟨["_law_bag_here", "_law_words", "_law_room", "_law_first", "_law_found", "_law_k"],["_law_bag_here", "_law_words", "_law_room"],by walk_at "sc",rfl,rfl,λ _ _ _ _ _ _=>bd3 (λ _ _ _=>rfl),.inl (by decide +kernel)⟩
theorem ap9:DT tabN P "_law_spoilt" DV.w_spoilt s__law_spoilt:=⟨["_law_bag_here", "_law_word_here", "_law_at", "_law_way"],["_law_bag_here", "_law_word_here"],by walk_at "sc",rfl,rfl,λ _ _ _ _ _ _=>bd2 (λ _ _=>rfl),.inl (by decide +kernel)⟩
theorem aA5:DT tabN P "_law_held" DV.w_held s__law_held:=⟨["_law_words", "_law_word_here"],["_law_words", "_law_word_here"],by walk_at "sc",rfl,rfl,λ _ _ _ _ _ _=>bd2 (λ _ _=>rfl),.inl (by decide +kernel)⟩
theorem bl7:FnScope ["_law_script", "_law_sets", "_law_k", "_law_bag_here", "_law_own", "_law_word_here", "_law_words", "_law_found"] ["_law_script"] (defScope s_law):=by walk_at "sc"
theorem bQ4:mSs ⟨["_law_script", "_law_sets", "_law_k", "_law_bag_here", "_law_own", "_law_word_here", "_law_words", "_law_found"],defScope s_law,λ _ _ _=>false⟩ DV.w_law_k60.body (defBody s_law)=true:=by decide +kernel
theorem bF7:bZ2 "law" s_law ["_law_script"]:=λ _ _ _ _ _ _=>bd1 λ _=>rfl
theorem bY0:DT tabN P "law" DV.w_law_k60 s_law:=⟨_,_,bl7,rfl,rfl,bF7,.inl bQ4⟩
theorem bY6:∀ p∈tb,DT tabN P p.1 p.2.1 p.2.2:=by
 intro p hp
 unfold tb at hp
 simp only[aH,bZ,or_false]at hp
 rcases hp with rfl|rfl|rfl|rfl|rfl|rfl|rfl|rfl|rfl|rfl|rfl|rfl|rfl|rfl|rfl
 .exact ax4
 .exact aZ6
 .exact ay7
 .exact t_holds
 .exact aK3
 .exact aw0
 .exact ax1
 .exact aL1
 .exact ap8
 .exact at2
 .exact ax7
 .exact ap1
 .exact ap9
 .exact aA5
 .exact bY0
theorem bD4 {l:c4}{w:World}{K:ae}{h:Heap}{z:yD}{fa:Addr}(X:K.In h)(G:h.Ns bp z)(Y:z "law"=some (.ref fa))(hD:∀ p∈tb,bY3 K p.1 p.2.2)(hz:∀ x∈bNames,cy K bp x=some none)
  (hT:∀ x∈tabN,(bj K x).isSome=true) (tnd:decide (((bp9 tabN K).map (·.1)).Nodup)=true) (hO:(obt.all λ p=>bG0 K p.1 p.2)=true) (hM:∀ p∈mtb,cb9 K p.1.1 p.1.2 p.2.2)
  : ∃ fd:bH,(∀(s:af) (v:Value),jZ s fd ⟨[v],[]⟩ [("_law_script",v)])/\∀ base:Heap,K.In base->base.Ns bp z->BM z base->by1 K tabN base->FnOk l.prog w K z base CX0 55 fa fd ["_law_script"] (spB tabN K):=by
 have Z:=bF6 (names:=tabN) (P:=P) (mtb:=mtb) (obt:=obt) X G (λ _ _=>rfl) (λ _ _=>rfl) hO (by decide) hM bY1
 have hP:PrOk (aB0 tabN P K) (bv5 tabN K) P z w:=by
  refine⟨λ f d h=>aC3 (tbl:=tbl) (λ p J=>?_) f d h,λ x d h=>aM0 (tbl:=bR7) ?_ x d h,λ x hx=>PySem.W.mg_none_of X G (hz x hx),bW2 X G,bY4,of_decide_eq_true tnd,λ _ _ h=>(by cases h),λ _ _ h=>(by cases h),λ _ h=>(by cases h),λ _ h=>(by cases h),λ _ _ _ _ h=>(by cases h),λ _ _ _ _ h=>(by cases h),λ _ _ h=>(by cases h),λ _ h=>(by cases h),λ _ _ h=>(by cases h),λ _ _ h=>(by cases h),Z.1,Z.2.1,Z.2.2⟩
  .obtain⟨r,hr,rfl⟩:=bf.mp J
   exact good_of X G hT (hD r hr) (bY6 r hr)
  .intro p J
   unfold bR7 at J
   simp only[aH,bZ,or_false]at J
 obtain⟨f,od,an,sl,oc,kV,dc,pm,cd,ct,a,l0,c,k⟩:=hD ("law",DV.w_law_k60,s_law) (by unfold tb;simp)
 have e:=Y.symm.trans (dD X G a)
 cases e
 have F:=aT1 (st:=s_law) l0 c k
 refine⟨_,λ s v=>.of_eq rfl,λ base _ _ bm hk=>(bF0 hP (bj2 hT bm hk) 23 (aE2 hP (bj2 hT bm hk) (λ _=>rfl) 23) (d:=DV.w_law_k60) (f := "law") rfl ⟨F,dD X G a,F.binds bF7⟩ bl7 rfl rfl bQ4 aQ6).imp (λ vs H Q E q=>bP8 (λ ns h=>DV.bT7 (P:=P) 7 ns h) vs H Q E (bb2 hT q))⟩
end My
end
open PySem PySem.W PyProof.Rows
set_option maxRecDepth 100000 in
set_option maxHeartbeats 0 in
theorem PySem.Challenge.cw_leasttolls_k60_words_held_holds : PySem.Challenge.rw_leasttolls_k60_words_held.Holds := by
 refine My.GT.2 ?_
 delta My.GT
 dsimp only
 k_fill
 refine L2.aP2 (l:=PySem.Challenge.rw_leasttolls_k60_words_held) (n:=63) (k:=55) (x := "_law_script") (sp:=L2.spB My.tabN) My.tabN rfl (by decide) rfl ⟨rfl,by decide,by decide⟩ (ts:=[]) (λ w h Y=>⟨PySem.W.kIn_of Y,λ _ hP=>absurd hP (bZ)⟩) (λ w=>?R) (λ w=>?NT) ?F (λ K H a ns hl hB hS hF=>L2.bN9 hl hB hS hF)
 case R=>kernel_rfl
 case NT=>kernel_rfl
 case F =>
  intro w mg fa h KX G hmg
  refine' My.bD4 KX G hmg ?hD ?hz  ?hT ?tnd ?hO ?hM
  case hD =>
   intro p hp
   unfold My.tb at hp
   simp only[aH,bZ,or_false]at hp
   rcases hp with rfl|rfl|rfl|rfl|rfl|rfl|rfl|rfl|rfl|rfl|rfl|rfl|rfl|rfl|rfl
   all_goals walk_at "df"
  case hz =>
   intro x hx
   unfold L2.bNames at hx
   simp only[aH,bZ,or_false]at hx
   rcases hx with rfl|rfl|rfl|rfl|rfl|rfl|rfl|rfl|rfl|rfl|rfl|rfl|rfl|rfl|rfl|rfl|rfl|rfl<;>k_is
  case hT =>
   intro x hx;cases hx
  (case tnd=>kernel_rfl)
  (case hO=>kernel_rfl)
  case hM =>
   intro p hp
   unfold My.mtb at hp
   simp only[aH,bZ,or_false]at hp
   rcases hp with rfl|rfl|rfl|rfl
   all_goals walk_at "mf"
