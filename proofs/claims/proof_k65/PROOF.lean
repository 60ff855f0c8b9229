import PyProof.Rows.All
import Wide.All
import OpenK.AllK
import Wide.FinOn
import PyProof.EqAt
import PyProof.EqKinds
import PyProof.TupleCall
import PyProof.MinMaxWalk
import PyProof.WalkInts
import PyProof.NeKinds
import PyProof.SliceStr2
import PyProof.StrBlockI
import PyProof.MaxThree
import PyProof.ZipIter
import PyProof.Draws
import PyProof.EnumMake
import PyProof.ListMulRoad
import PyProof.Rows.StrRev
import PyProof.DictItems
import PyProof.ListRange
import PyProof.AutoIntG2
import PyProof.FactsAll.int_6
import KE.KMinKey
import PyProof.Rows.TupDisplay
import PyProof.Rows.CatchBare
import KE.KTryMore
import PyProof.RulesAs
import PyProof.StrOps
import KE.KDictList
import KE.IntBitsLaws
import KE.KIntText
import PyProof.CallStr
import PyProof.StrBlockL
import PyProof.StrLawsChain
import PyProof.StrLawsTight
import PyProof.Rows.StrItems
import PySem.Challenge.RW_leasttolls_k65_words_cut_up
set_option bootstrap.genMatcherCode false
set_option genSizeOf false
set_option compiler.extract_closed false
set_option Elab.async false
set_option linter.all false
set_option maxRecDepth 100000
set_option maxHeartbeats 4000000
open List renaming getElem?_eq_some_iff->ac,getElem?_eq_getElem->af,replicate->ai,length_append->am,getElem?_set_ne->ao,getElem?_append_left->au,size_toArray->av,mem_cons_of_mem->ax,getD_eq_getElem?_getD->ay,length_map->az,mem_cons_self->aB,mem_singleton->aD,getElem?_map->aF,mem_cons->aG,map_cons->aH,getElem?_append_right->aI,append_nil->aK,all_eq_true->aL,mem_append->aO,range->aP,append_assoc->aQ,length_cons->aR,length_set->aS,getElem?_set_self->aX,mem_map->aZ,mem_append_right->a8,lookup_cons->a9,mem_of_getElem?->be,map->bj,mem_range->br,mem_map_of_mem->bv,map_append->bw,length_take->bB,replicate_succ->bC,length_range->bI,getElem?_eq_none->bJ,all_cons->bN,getElem?_range->bR,not_mem_nil->bV,set_set->bX,mem_append_left->bZ,mem_iff_getElem->cb,length_drop->cq,take_length->cr,pairwise_cons->cB,set_getElem_self->cC,flatten_cons->cG,map_congr_left->cK,length_eq_zero_iff->cO,lookup->cP,map_nil->cR,drop_eq_nil_of_le->cT,map_map->cU,find?_cons->cX,length_singleton->c4,getElem?_toArray->c5,mem_iff_getElem?->c6,cons_append->dm,any_eq_true->dn,drop_eq_getElem_cons->dr,nodup_cons->dA,foldl_cons->dB,nil_append->dC,getElem?_replicate->dG,reverse_cons->dR,take_of_length_le->dT,getElem_mem->d6,take_append_of_le_length->eD,length_nil->eL,filterMap_cons->eN,mem_filterMap->eX,getElem?_take->fe,getElem?_drop->fg,length->fq,ext_getElem?->fv,getElem?_take_of_lt->fB,any_cons->fF,getElem?_cons_succ->fL,mem_filter->gf,of_mem_zip->gi,length_replicate->gp,set_append_right->gA,filterMap->gG,drop_zero->gJ,set_append_left->gL,length_pos_iff->g6,length_flatten->hJ,sum_cons->ig,take_add_one->i8,all_nil->i9,nodup_append->jb,foldl->jH,forIn_nil->jI,nodup_nil->jS,map_set->km
open PySem.W renaming Frag->ae,findIn->bo,tabIn->bq,keepIn->bz,kia_one->bE,emptyDict->bH,kitOne->bQ,CodeHd->b9,instObj->cf,fnOf->ci,nsIn->cj,OpenLaw->cV,makesIn->cW,plainGet->di,hasDictIn->dM,codeIn->dN,mg_of->ee,plainGet_of->eO,callWith_K0->eP,lookIn->eZ,callWith_K->e6,methodObj->fi,plainOver->fm,isFn->fT,cellsFrom_some->fX,takerIn->gh,methodCall_KW->gn,tabObj->gK,kitx_tuple->iw,specialIn->iO,kitx_list->iP,handedIn->jd,codeHdIn->ji,takesIn->jq,kla_fn->jK,exmOne->jO,TabsAt->jP,noTabs->jQ,WalkO->jV,mroIn->jY,fnX->ku
open PySem renaming Shared->ag,wpAny_bind->ar,Program->aE,wpAny_pure->aJ,sizeLine->aM,starEach->aY,Around->a7,bootBuiltins->bc,mainGlobals->bf,mem_of_lookup->bh,cellsFrom->bt,wpAny_newObj_type->bD,binaryOp->bK,FuncData->bM,wpAny_truthy_bool->bO,wpAny_mono->bT,NameKind->b8,assignEach->cu,wpAny_Call_Name_kw->cy,backTo->cD,wpAny_passesOwn->cF,wpAny_call_entry->cL,wpAny_callSpecial?_slot->cN,keywordEach->cQ,behindInMarks->cY,attributeBase->cZ,wpAny_pyIter_list->c7,foldedSetIterable->c8,compareOp->dh,Arguments->dj,isTrue->dD,sizeLine_eq->dF,wpAny_field->dI,sliceBounds->dJ,sysModules->dY,swapsWith->dZ,pushCells->d5,wpAny_holding->d7,Keyword->d8,relabel->d9,backToKw->ef,Paired->eF,letOwnedTupleGo->eG,pushCells_keeps->eI,typeIs_int->e8,call_meets->e9,wpAny_binaryOp_repeat_ref->fh,IsPart->fC,wpAny_comprehension_free->fD,noFill_tuple_add->fI,builtinsNs->fN,holding->fP,assign->fQ,wpAny_pyNext_range_end->fR,wpAny_pyIter_rangeiter->fS,codeAny->fU,codeAny_mono->fW,getItem->fY,wpAny_typeOf->fZ,codeAny_compStart_list->gc,wpAny_execs_nil->gg,wpAny_isTrue_Compare1->gm,IsRangeIter->gD,strIterType->gH,getMethod->gN,callerA->gO,valueAt->gP,wpAny_standAt->hZ,swappedStores->h8,seq_tuple_add->h9,wpAny_pyIter_tuple->iq,wpAny_pyIter_range->iu,typeIs_str->iB,Within->iI,standAt->iJ,wpAny_assign_Name->iL,concat_meets->iU,wpAny_sequenceKey->iV,seqIndex_neg->iX,slot_list_getitem->iY,notedBy->iZ,Result->je,seqSlot_of->jj,seqIndex_of->jk,BindsTo->jx,argBest->jy,call->jA,IsTupleKey->jB,wpAny_Name->jC,bindArgs->jF,PlainAttrs->jG,wpAny_rule->jJ,KeyKind->jX,pyIter->j9
open Nat renaming le_refl->ah,le_trans->aj,lt_of_lt_of_le->aA,ne_of_lt->aC,zero_add->aU,lt_irrefl->bA,lt_succ_self->bL,zero_le->bS,le_succ->b7,add_sub_cancel_left->ce,testBit_eq_decide_div_mod_eq->cI,lt_trichotomy->c9,add_zero->dW,testBit_two_pow->eS,sub_self->eV,le_of_succ_le->ft,lt_succ_of_lt->fu,le_of_lt->fO,add_comm->gb,testBit_or->gM,lt_of_le_of_lt->iG,ne_of_gt->iM,pow_succ->ja,le_of_not_lt->jh,mul_add->jo,one_mul->jp,strongRecOn->ju,zero_lt_one->jv,two_pow_pos->jw,not_lt->jR,add_assoc->j3,le_of_eq->ka,succ_mul->kc,mul_comm->ke,lt_or_ge->kj
open Bool renaming and_eq_true->ak,false_ne_true->aW,or_eq_true->bn,false_eq_true->cz,true_and->dz,or_eq_false_iff->eg,eq_iff_iff->eM,and_true->fG,not_eq_true->fM,and_eq_true_iff->gC,false_and->jD,and_false->jT,or_false->jZ,false_or->j0
open PySem.Heap renaming get?_push_of_some->aq,lt_size->aN,get?_push_size->aV,size_push->cx,SameBut->dg,get?_update_other->f8,get?_update_self->gq,ExtBut->jm
open Option.some renaming inj->aw
open PyProof.Rows renaming slot_tuple_getitem->bp,callWith_type1->cg,kindOf->d4,AllBare->fj,envOfC->fA,subscriptTail_builtinR->f6,entry_tuple_getitem->gX,Constant_none->hW,tupleItemsOf_->ic,args_tuple_getitem->iz,IntsAre->iW,boot_range->jE
open PySem.Builtin.Str renaming strSliceIndices->bu,tooLong->dX
open PySem.Builtin.SmallTypes renaming nextOf->bF
open Ne renaming symm->bG
open False renaming elim->bP
open PySem.Str renaming ofString->bU,length->iA
open Option renaming isSome_iff_exists->bW,map_eq_some_iff->cS,map_some->gk,isSome_some->iD,getD_none->jg
open Int renaming natCast_nonneg->cw,toNat_natCast->cH,mul_le_mul_of_nonneg_left->eC,toNat_of_nonneg->eQ,fdiv_eq_ediv_of_nonneg->eY,ofNat_lt->i7,zero_add->jc,le_refl->jl,natCast_mul->jt,ediv_one->kb,sub_zero->ki,le_trans->kl
open PySem.F renaming slot_tuple_iterator_next->cA,slot_NoneType_hash->db,args_tuple_add_2->dv,slot_int_rmul->dE,entry_tuple_add->dH,slot_tuple_add->dP,slot_tuple_mul->dS,args_tuple_iterator_next_1->eK,entry_tuple_iterator_next->eT,slot_int_bit_length->eU,slot_tuple_rmul->fJ,plainAttrs_list->fK,slot_list_reverse->f9,slot_list_append->gr,slot_dict_get->gu,slot_str_join->gz,args_int_rmul_2->gF,slot_int_index->gY,entry_int_rmul->gZ,fills_int_mul->iC
open PySem.Builtin.Slice renaming slicePlaces->cE,sliceAdjust->dq,sliceApplied->e7,slicePartIndex->jr,sliceFields->jU
open PySem.Builtin.Tuple renaming tupleExact->cJ,tupleItemsOf->de,tupleTooMany->fc,tupleIsExact->jM
open PySem.Builtin.Range renaming rangeSize->cM,small->g9,rangeFitsLong->jz
open Array renaming length_toList->dt,getElem?_toList->gv,toArray_toList->gI,append_assoc->ip,toList->iK
open PySem.Paired renaming length->du,snoc->kx
open PySem.Builtin.List renaming listTooLong->dw
open Classical renaming propDecidable->dL
open PySem.Calls renaming callWith_builtin->dQ,Name_function_global->eW,evalArgs_plain->gE,spliced_cons->iy,spliced_nil->iT
open PySem.Builtin renaming bitNot->dU,bitOr->fy,bitAnd->jN
open PySem.SeqAt.EqAt renaming same->eE,none_int->gQ,none_str->gS,int_none->gT,str_none->gW,int_str->ii,str_int->io,of_refs->iH
open PySem.Txt renaming slice->eJ
open PySem.Builtin.Int renaming intBits->eR
open PySem.W.OpenLaw renaming wellSaid->fx
open PySem.Obj renaming mapSeq->f7,data_mapFields->iE
open PySem.SeqAt renaming EqAt->gd,RcNeAt->kh,RcAt->kA
open PySem.PassesOwn renaming never->gj
open PySem.Heap.SameBut renaming update->g7
open PySem.AutoIntG2 renaming int_bit_length_int_0->g8
open PySem.Around renaming under->iQ
open PySem.Code renaming isFrame->iR,frames->kt
open PyProof.Rows.IsTup renaming new->jf
open PySem.Walks renaming list->jL,range->kq
open PySem.Value renaming isStrOf->jW,isInt->ko
open List.cons renaming inj->j4
open PySem.StrLaws renaming found_one->j7
open PySem.W.OpenRow renaming toRowW->j8
open Nat.succ renaming inj->kg
open PySem.IsRange renaming new->kr
open PySem.W.Looks renaming here->ky
open PySem.Heap.IsSliceOf renaming new->kz
abbrev yA:=List (PySem.Addr×PySem.Obj)
abbrev yB:=List (PySem.Str×PySem.Addr)
abbrev yC:=PySem.Str->Option PySem.Value
abbrev yD:=List (Option Nat)
abbrev yE:=Array (Option PySem.Value)
abbrev yF:=List (PySem.Addr×PySem.Addr)
abbrev yG:=List PySem.Value
abbrev yH:=List PySem.Str
abbrev yI:=Option PySem.Addr
abbrev yJ:=Array PySem.Value
abbrev yK:=List PySem.Expr
abbrev yL:=List PySem.Stmt
noncomputable section
namespace L2
open PySem PySem.Spec PyProof.Rows
theorem head_of {l:cV}{q:aE}{loose:yH}{H:PySem.W.Hook}{N:Nat}{d:DefRec}{h:List (Str×Expr)}
  (left:PySem.W.LeftO l.row.prog q loose (λ s=>PySem.W.xlAt q [] s&&PySem.W.recOk (PySem.W.RowW.records (j8 l.row)) s) H.obs H.val N)
  (z:PySem.W.defOf q l.row.name=some (d,h)) (G:l.row.prog.theDef l.row.name=some (d.params,d.body,d.scope)) (hk:PySem.W.kwWritten? d.params.kwonlyargs d.params.kw_defaults=some h) (F:(!l.row.writes||l.row.records.isEmpty)=true)
  (k1:l.row.wellSaid=true) (ok:(PySem.W.chainsOk q&&PySem.W.opensWell l.row.prog&&(PySem.W.frees l.row.toRowW&&l.row.within.isEmpty))=true) (hb:l.row.prog.bare) (hw:l.row.toRowW.promised)
  (call:jV q loose (PySem.W.XL q []) H.says l.row.toRowW d h λ f vs=>jA f vs):l.row.Holds :=
 PySem.W.holds_open left H.of H.keeps (λ s e=>PySem.W.xl_of s (gC.mp e).1) PySem.W.XL.keeps z G hk (λ s e=>PySem.W.recFacts_of (gC.mp e).2) F k1 ok hb hw call
end L2
end
noncomputable section
namespace My
open PySem L2
noncomputable def nmS:Stmt->Bool
 | .Assign [.Name x _] _ _=>decide (x=("__name__":Str))
 | _=>false
noncomputable def vq:aE:={ PySem.Challenge.pw_leasttolls_k65_words_cut_up with main:={ (PySem.Challenge.pw_leasttolls_k65_words_cut_up).main with body:=(PySem.Challenge.pw_leasttolls_k65_words_cut_up).main.body.filter λ s=>!nmS s } }
inductive IsL:cV->Prop|mk:IsL PySem.Challenge.rw_leasttolls_k65_words_cut_up
theorem bL4 {l:cV}(h:IsL l):PySem.Challenge.rw_leasttolls_k65_words_cut_up=l:=by cases h;rfl
noncomputable def lwp:{ l:cV // IsL l }:=by
 refine⟨?p,?h⟩
 case h =>
  have e:PySem.Challenge.rw_leasttolls_k65_words_cut_up=?p:=by
   conv=>lhs;reduce
  exact e▸IsL.mk
theorem ws1:fx lwp.1=true:=by k_qdec
theorem ws:fx PySem.Challenge.rw_leasttolls_k65_words_cut_up=true:=by
 rw[bL4 lwp.2];exact ws1
end My
end
section
open PySem PySem.W PyProof.Rows
local macro_rules | `(tactic| o_head $H) => `(tactic| refine L2.head_of (q := My.vq) (loose := ["Rooms"]) (H := $H) (N := 4000) (λ w => by kernel_rfl) (by rfl) (by rfl) (by rfl) rfl (by assumption) (by decide +kernel) ⟨rfl, rfl, rfl, rfl, rfl, by decide +kernel⟩ ?_ ?_)
set_option maxRecDepth 100000 in
set_option maxHeartbeats 0 in
noncomputable def My.GT:{ G:Prop // G->PySem.Challenge.rw_leasttolls_k65_words_cut_up.Holds }:=by
 refine⟨?G,?h⟩
 case h =>
  intro g
  w_on;refine holds_law My.ws λ said=>?_;k_head;(focus w_witness2)
  exact g
end
noncomputable section
namespace L2
open PySem PySem.Spec PyProof.Rows
noncomputable abbrev Key:=Sum Int Str
noncomputable def aD7:Key->Value->Bool
 | .inl k,v=>ko k v
 | .inr x,v=>jW x v
noncomputable def ci8 (w:World):Key->Int
 | .inl k=>hashInt k
 | .inr x=>hashStr w x
theorem zh:∀ {k:Key} {v:Value},aD7 k v=true->(∃ i t,k=Sum.inl i/\v=Value.int i t)\/(∃ x t,k=Sum.inr x/\v=Value.str x t)
 | .inl i,v,h=>by
  obtain⟨t,e⟩:=Value.isInt_shape (k:=i) (v:=v) h
  exact .inl ⟨i,t,rfl,e⟩
 | .inr x,v,h=>by
  obtain⟨t,e⟩:=Value.isStrOf_shape (x:=x) (v:=v) h
  exact .inr ⟨x,t,rfl,e⟩
theorem bc7 (i:Int)(t:Tok):aD7 (.inl i) (.int i t)=true:=by simp[aD7,ko]
theorem aT4 (x:Str)(t:Tok):aD7 (.inr x) (.str x t)=true:=by simp[aD7,jW]
theorem bL1 (a b:Int):decide ((Sum.inl a:Key)=Sum.inl b)=(a==b):=by
 by_cases e:a=b
 .subst e;simp
 .have h:¬(Sum.inl a:Key)=Sum.inl b:=λ q=>e (Sum.inl.inj q)
  rw[decide_eq_false h]
  exact(beq_eq_false_iff_ne.mpr e).symm
theorem bP4 (a b:Str):decide ((Sum.inr a:Key)=Sum.inr b)=decide (a=b):=by
 by_cases e:a=b
 .subst e;simp
 .have h:¬(Sum.inr a:Key)=Sum.inr b:=λ q=>e (Sum.inr.inj q)
  rw[decide_eq_false h,decide_eq_false e]
theorem bN5 (a:Int)(b:Str):decide ((Sum.inl a:Key)=Sum.inr b)=false:=decide_eq_false (λ q=>nomatch q)
theorem bP0 (a:Str)(b:Int):decide ((Sum.inr a:Key)=Sum.inl b)=false:=decide_eq_false (λ q=>nomatch q)
noncomputable def zu (prog:aE)(w:World):jX prog w Key where
 is:=aD7
 hash:=ci8 w
 inj:=λ v a b ha hb=>by
  rcases zh ha with⟨i,t,rfl,rfl⟩|⟨x,t,rfl,rfl⟩
  .rcases zh hb with⟨j,u,rfl,e⟩|⟨y,u,rfl,e⟩
   .injection e with e1 _;rw[e1]
   .exact nomatch e
  .rcases zh hb with⟨j,u,rfl,e⟩|⟨y,u,rfl,e⟩
   .exact nomatch e
   .injection e with e1 _;rw[e1]
 byValue:=λ k v h=>by
  rcases zh h with⟨i,t,rfl,rfl⟩|⟨x,t,rfl,rfl⟩<;>rfl
 pyHash:=λ hv h=>by
  rcases zh hv with⟨i,t,rfl,rfl⟩|⟨x,t,rfl,rfl⟩
  .exact wpAny_pyHash_int h
  .exact wpAny_pyHash_str h
 eqBool:=λ hu hv h=>by
  rcases zh hu with⟨i,t,rfl,rfl⟩|⟨x,t,rfl,rfl⟩
  .rcases zh hv with⟨j,u,rfl,rfl⟩|⟨y,u,rfl,rfl⟩
   .rw[bL1]at h;exact wpAny_eqBool_int h
   .rw[bN5]at h;exact ii i t y u _ _ _ _ h
  .rcases zh hv with⟨j,u,rfl,rfl⟩|⟨y,u,rfl,rfl⟩
   .rw[bP0]at h;exact io x t j u _ _ _ _ h
   .rw[bP4]at h;exact wpAny_eqBool_str h
 «strs»:=λ k x t v h=>by
  rcases zh h with⟨i,u,rfl,e⟩|⟨y,u,rfl,e⟩
  .exact nomatch e
  .injection e with e1 _
   subst e1
   cases v<;>rfl
theorem aB9 (prog:aE)(w:World)(i:Int)(t:Tok):(zu prog w).is (.inl i) (.int i t)=true:=bc7 i t
theorem aE6 (prog:aE)(w:World)(x:Str)(t:Tok):(zu prog w).is (.inr x) (.str x t)=true:=aT4 x t
noncomputable abbrev FK:=Option Key
noncomputable def fIs:FK->Value->Bool
 | none,v=>match v with|.none=>true|_=>false
 | some k,v=>aD7 k v
noncomputable def fH (w:World):FK->Int
 | none=>0xFCA86420
 | some k=>ci8 w k
theorem z8 {v:Value}(h:fIs none v=true):v=.none:=by
 cases v with
 | none=>rfl
 | _=>exact nomatch h
theorem aX2 {P:aE}{w:World}{A:a7}{E:Value->ag->Prop}{s:ag}{Q:Int->ag->Prop}(h:Q 0xFCA86420 { s with toks:=s.toks+1 }):wpAny (model P w) A (PySem.pyHash .none) Q E s:=by
 have hT:s.TypeIs .none "NoneType":=rfl
 unfold PySem.pyHash pyHashByItsType
 refine ar (wpAny_cRoomFor_byValue rfl ?_)
 refine ar (wpAny_specialOf hT db.lookup ?_)
 show wpAny _ _ (if(some (Value.builtin "NoneType.__hash__")==some Value.none)=true then _ else _) Q E s
 rw[if_neg (by rw[beq_builtin_none];exact aW)]
 refine ar (wpAny_specialOf hT db.lookup ?_)
 show wpAny _ _ (callSpecialIfBoundUnlessNone? .none "__hash__" _ >>= _) Q E s
 refine ar (wpAny_callSpecialIfBoundUnlessNone?_slot hT db (cL db hT F.entry_NoneType_hash
   (show wpAny _ _ (retInt 0xFCA86420) _ _ s from wpAny_ret_mkInt ?_) (F.args_NoneType_hash_1 _)))
 show wpAny _ _ (if _ then _ else _) Q E _
 rw[if_pos (by decide)]
 exact aJ h
noncomputable def aN4 (prog:aE)(w:World):jX prog w FK where
 is:=fIs
 hash:=fH w
 inj:=λ v a b ha hb=>by
  cases a with
  | none =>
   cases z8 ha
   cases b with
   | none=>rfl
   | some k=>rcases zh hb with⟨_,_,_,e⟩|⟨_,_,_,e⟩<;>exact nomatch e
  | some k =>
   cases b with
   | none=>cases z8 hb;rcases zh ha with⟨_,_,_,e⟩|⟨_,_,_,e⟩<;>exact nomatch e
   | some j=>exact congrArg some ((zu prog w).inj v k j ha hb)
 byValue:=λ k v h=>by
  cases k with
  | none=>cases z8 h;rfl
  | some k=>exact(zu prog w).byValue k v h
 pyHash:=λ {A E s k v Q} hv h=>by
  cases k with
  | none=>cases z8 hv;exact aX2 h
  | some k=>exact(zu prog w).pyHash (k:=k) hv h
 eqBool:=λ {A E s a b u v Q} hu hv h=>by
  cases a with
  | none =>
   cases z8 hu
   cases b with
   | none=>cases z8 hv;exact eE _ prog w E Q h
   | some k =>
    rcases zh hv with⟨i,t,rfl,rfl⟩|⟨x,t,rfl,rfl⟩
    .exact gQ i t _ _ _ _ h
    .exact gS x t _ _ _ _ h
  | some k =>
   cases b with
   | none =>
    cases z8 hv
    rcases zh hu with⟨i,t,rfl,rfl⟩|⟨x,t,rfl,rfl⟩
    .exact gT i t _ _ _ _ h
    .exact gW x t _ _ _ _ h
   | some j =>
    refine(zu prog w).eqBool (a:=k) (b:=j) hu hv ?_
    have e:decide (k=j)=decide (some k=some j):=by simp
    rw[e];exact h
 «strs»:=λ k x t v h=>by
  cases k with
  | none=>exact nomatch z8 h
  | some k=>exact(zu prog w).strs k x t v h
noncomputable abbrev NI:=Sum FK (List FK)
section
variable (P:aE) (w:World)
noncomputable def NIs (h:Heap):NI->Value->Prop
 | .inl f,v=>fIs f v=true
 | .inr l,v=>∃ b,v=.ref b/\jB (aN4 P w) h l b
def bZ9 (h:Heap)(ks:List NI)(a:Addr):Prop:=∃ o its n,h.get? a=some o/\o.cls=.type "tuple"/\o.data=.seq its n/\eF (NIs P w h) ks its.toList
end
section
variable {P:aE} {w:World} {h h':Heap}
theorem NIs.inj {x y:NI}{v:Value}(hx:NIs P w h x v)(hy:NIs P w h y v):x=y:=by
 cases x with
 | inl f =>
  cases y with
  | inl g=>exact congrArg Sum.inl ((aN4 P w).inj v f g hx hy)
  | inr l =>
   obtain⟨b,rfl,_⟩:=hy
   exact absurd ((aN4 P w).byValue f _ hx) (by nofun)
 | inr l =>
  obtain⟨b,rfl,hb⟩:=hx
  cases y with
  | inl g=>exact absurd ((aN4 P w).byValue g _ hy) (by nofun)
  | inr m =>
   obtain⟨c,e,hc⟩:=hy
   cases e
   exact congrArg Sum.inr (hb.inj hc)
theorem NIs.all_inj:∀ {x y:List NI} {vs:yG},eF (NIs P w h) x vs->eF (NIs P w h) y vs->x=y
 | _,_,_,.nil,.nil=>rfl
 | _,_,_,.cons a p,.cons b q=>by rw[a.inj b,NIs.all_inj p q]
theorem bZ9.inj {a:Addr}{x y:List NI}(hx:bZ9 P w h x a)(hy:bZ9 P w h y a):x=y:=by
 obtain⟨o,i,n,e,_,d,p⟩:=hx
 obtain⟨z,F,G,e',_,d',p'⟩:=hy
 rw[e]at e';cases e'
 rw[d]at d';cases d'
 exact NIs.all_inj p p'
theorem NIs.keep {x:NI}{v:Value}(k:∀ b l,jB (aN4 P w) h l b->jB (aN4 P w) h' l b)(hx:NIs P w h x v):NIs P w h' x v:=by
 cases x with
 | inl f=>exact hx
 | inr l=>obtain⟨b,e,p⟩:=hx;exact⟨b,e,k _ _ p⟩
end
inductive V where
 | non|bl (b:Bool)|int (i:Int)|str (x:Str)|byt (b:Array UInt8)|flt (b:UInt64)|ref (a:Addr)|ty (n:String)
 deriving DecidableEq
noncomputable def RelV:V->Value->Prop
 | .non,u=>u=Value.none
 | .bl b,u=>u=Value.bool b
 | .int i,u=>∃ t,u=Value.int i t
 | .str x,u=>∃ t,u=Value.str x t
 | .byt b,u=>∃ t,u=Value.bytes b t
 | .flt b,u=>∃ t,u=Value.float b t
 | .ref a,u=>u=Value.ref a
 | .ty n,u=>u=Value.type n
abbrev Vals:List V->List Value->Prop:=eF RelV
theorem Vals.length {h:List V}{us:yG}(r:Vals h us):h.length=us.length:=du r
theorem Vals.get:∀ {h:List V} {us:yG} {i:Nat} {x:V},Vals h us->h[i]?=some x->∃ u,us[i]?=some u/\RelV x u
 | _,_,_,_,.nil,e=>by simp at e
 | _,_,0,_,.cons r _,e=>by simp at e;subst e;exact⟨_,rfl,r⟩
 | _,_,i+1,x,.cons _ t,e=>by
  obtain⟨u,z,F⟩:=Vals.get (i:=i) (x:=x) t (by simpa using e)
  exact⟨u,by simpa using z,F⟩
theorem Vals.set {x:V}{u:Value}(r:RelV x u):∀ {h:List V} {us:yG} (i:Nat),Vals h us->Vals (h.set i x) (us.set i u)
 | _,_,_,.nil=>.nil
 | _,_,0,.cons _ t=>.cons r t
 | _,_,i+1,.cons q t=>.cons q (Vals.set r i t)
theorem Vals.append:∀ {h ys:List V} {us ws:yG},Vals h us->Vals ys ws->Vals (h++ys) (us++ws)
 | _,_,_,_,.nil,s=>s
 | _,_,_,_,.cons r t,s=>.cons r (Vals.append t s)
theorem Vals.take:∀ {h:List V} {us:yG} (n:Nat),Vals h us->Vals (h.take n) (us.take n)
 | _,_,0,_=>.nil
 | _,_,_+1,.nil=>.nil
 | _,_,n+1,.cons r t=>.cons r (Vals.take n t)
theorem Vals.drop:∀ {h:List V} {us:yG} (n:Nat),Vals h us->Vals (h.drop n) (us.drop n)
 | _,_,0,r=>r
 | _,_,_+1,.nil=>.nil
 | _,_,n+1,.cons _ t=>Vals.drop n t
noncomputable def ay8:Option V->Option Value->Prop
 | some v,some u=>RelV v u
 | none,none=>True
 | _,_=>False
def KV {κ:Type}:List (κ×V)->List (κ×Value)->Prop:=eF λ(p:κ×V) (q:κ×Value)=>p.1=q.1/\RelV p.2 q.2
noncomputable def kV:Key->V
 | .inl i=>.int i
 | .inr x=>.str x
inductive HO where
 | lst (xs:List V)
 | tup (xs:List V)
 | dK (kvs:List (Key×V))
 | ins (Cc dx:Addr) (fs:List (Str×V))
 | own (x:Addr)
 | xd (fs:List (Str×V))
 | met (f x:Addr)
 | rng (lo hi:Int)
 | frz (o:Obj) (u:HO)
 | tbl (ps:yJ)
 | ext (C:Heap->Prop)
noncomputable abbrev Hp:=Addr->Option HO
noncomputable def fV:FK->V
 | none=>.non
 | some k=>kV k
noncomputable def NAt (H:Hp):NI->V->Prop
 | .inl f,v=>v=fV f
 | .inr l,v=>∃ c,v=.ref c/\H c=some (.tup (l.map fV))
def NK (H:Hp)(k:List NI)(b:Addr):Prop:=∃ xs,H b=some (.tup xs)/\eF (NAt H) k xs
theorem NAt.mono {H H':Hp}{k:NI}{v:V}(ht:∀ b z,H b=some (.tup z)->H' b=some (.tup z))(h:NAt H k v):NAt H' k v:=by
 cases k with
 | inl f=>exact h
 | inr l=>obtain⟨c,e,q⟩:=h;exact⟨c,e,ht _ _ q⟩
theorem NK.mono {H H':Hp}{k:List NI}{b:Addr}(ht:∀ b F,H b=some (.tup F)->H' b=some (.tup F))(h:NK H k b):NK H' k b:=let⟨F,e,p⟩:=h;⟨F,ht _ _ e,Paired.mono (λ _ _ z=>z.mono ht) p⟩
noncomputable def upd (H:Hp)(a:Addr)(o:HO):Hp:=λ b=>if b=a then some o else H b
theorem zq {H:Hp}{a:Addr}{o:HO}:upd H a o a=some o:=by unfold upd;rw[if_pos rfl]
theorem ze {H:Hp}{a b:Addr}{o:HO}(h:b≠a):upd H a o b=H b:=by unfold upd;rw[if_neg h]
theorem zt {H:Hp}{a b:Addr}{o:HO}(h:H a=some o)(h':H b=none):a≠b:=by
 intro e;subst e;rw[h]at h';cases h'
section
variable (P:aE) (w:World)
noncomputable def ab7 (H:Hp)(h:Heap)(a:Addr):HO->Prop
 | .lst xs=>xs.length<=aM/\∃(its:yG) (n:Nat),Vals xs its/\h.get? a=some { cls:=.type "list",data:=.seq its.toArray n }
 | .tup xs=>xs.length<=aM/\∃ its:List Value,Vals xs its/\IsTup h a its.toArray
 | .dK kvs=>kvs.length<=aM/\(a==dY)=false/\∃ vs,KV kvs vs/\h.DictOf (zu P w) a vs
 | .ins Cc dx fs=>H dx=some (.own a)/\fs.length<=1000/\dx≠a/\h.get? a=some (cf Cc dx) /\
   ∃ mA,h.Ns1 dx mA/\(∀ f,ay8 (fs.lookup f) (mA f))/\iI mA (fs.map (·.1))
 | .own _=>∃ o,h.get? a=some o
 | .xd fs=>∃ mA,h.Ns1 a mA/\∀ f,ay8 (fs.lookup f) (mA f)
 | .rng lo hi=>∃ t u v,h.get? a=some { cls:=.type "range",data:=.fields #[.int lo t,.int hi u,.int 1 v] }
 | .frz o u=>h.get? a=some o/\ab7 H h a u
 | .tbl ps=>h.get? a=some { cls:=.none,data:=.fields ps }
 | .met f x=>h.get? a=some (fi (.ref f) (.ref x))
 | .ext C=>C h/\(∃ o,h.get? a=some o)/\∀ h1 h2:Heap,C h1->(∀ o,h1.get? a=some o->h2.get? a=some o)->C h2
def HOk (H:Hp)(h:Heap):Prop:=∀ a o,H a=some o->ab7 P w H h a o
end
section
variable {P:aE} {w:World} {H H':Hp} {h h':Heap} {a:Addr} {o:HO}
theorem ab7.lt (x:ab7 P w H h a o):a<h.objs.size:=by
 cases o with
 | lst xs=>obtain⟨_,_,_,_,e⟩:=x;exact aN e
 | tup xs=>obtain⟨_,_,_,p⟩:=x;exact p.lt
 | dK kvs=>obtain⟨_,_,_,_,o,_,_,e,_⟩:=x;exact aN e
 | ins Cc dx fs=>obtain⟨_,_,_,e,_⟩:=x;exact aN e
 | own y=>obtain⟨_,e⟩:=x;exact aN e
 | xd fs=>obtain⟨_,⟨_,_,_,e,_⟩,_⟩:=x;exact aN e
 | rng lo hi=>obtain⟨_,_,_,e⟩:=x;exact aN e
 | frz ob u=>obtain⟨e,_⟩:=x;exact aN e
 | tbl ps=>exact aN (show h.get? a=some _ from x)
 | met f y=>exact aN (show h.get? a=some _ from x)
 | ext C=>obtain⟨_,⟨_,e⟩,_⟩:=x;exact aN e
theorem eF.mapP {α β:Type}{F G:α->β->Prop}:∀ {z:List α} {h:List β},eF F z h->(∀ a b,F a b->G a b)->eF G z h
 | _,_,.nil,_=>.nil
 | _,_,.cons r t,f=>.cons (f _ _ r) (eF.mapP t f)
theorem ab7.stay (x:ab7 P w H h a o)(k:∀ b u,(b=a\/H b=some (.own a))->h.get? b=some u->h'.get? b=some u)
  (ho:∀ b,H b=some (.own a)->H' b=some (.own a)) (ht:∀ b F,H b=some (.tup F)->H' b=some (.tup F)):ab7 P w H' h' a o:=by
 induction o with
 | lst F=>obtain⟨z,its,n,r,e⟩:=x;exact⟨z,its,n,r,k _ _ (.inl rfl) e⟩
 | tup F=>obtain⟨z,its,r,ob,e,c⟩:=x;exact⟨z,its,r,ob,k _ _ (.inl rfl) e,c⟩
 | dK kvs=>obtain⟨z,y,vs,r,ob,es,ep,e,c⟩:=x;exact⟨z,y,vs,r,ob,es,ep,k _ _ (.inl rfl) e,c⟩
 | ins Cc dx fs =>
  obtain⟨d,z,ne,e,G,⟨od,es,ep,e2,c⟩,r⟩:=x
  exact⟨ho _ d,z,ne,k _ _ (.inl rfl) e,G,⟨od,es,ep,k _ _ (.inr d) e2,c⟩,r⟩
 | own y=>obtain⟨ob,e⟩:=x;exact⟨ob,k _ _ (.inl rfl) e⟩
 | xd fs=>obtain⟨G,⟨od,es,ep,e,c⟩,r⟩:=x;exact⟨G,⟨od,es,ep,k _ _ (.inl rfl) e,c⟩,r⟩
 | rng lo hi=>obtain⟨t,u,v,e⟩:=x;exact⟨t,u,v,k _ _ (.inl rfl) e⟩
 | frz ob u ih=>obtain⟨e,q⟩:=x;exact⟨k _ _ (.inl rfl) e,ih q⟩
 | tbl ps =>
  have e:h.get? a=some { cls:=.none,data:=.fields ps }:=x
  show h'.get? a=some { cls:=.none,data:=.fields ps }
  exact k a _ (.inl rfl) e
 | met f y =>
  have e:h.get? a=some (fi (.ref f) (.ref y)):=x
  show h'.get? a=some (fi (.ref f) (.ref y))
  exact k a _ (.inl rfl) e
 | ext C=>obtain⟨p,⟨o,e⟩,st⟩:=x;exact⟨st _ _ p λ o q=>k _ _ (.inl rfl) q,⟨o,k _ _ (.inl rfl) e⟩,st⟩
theorem HOk.lt (x:HOk P w H h)(e:H a=some o):a<h.objs.size:=(x a o e).lt
theorem HOk.fresh (x:HOk P w H h)(e:h.objs.size<=a):H a=none:=by
 cases q:H a with
 | none=>rfl
 | some u=>exact absurd (aA (x.lt q) e) (bA _)
theorem HOk.kept (x:HOk P w H h)(k:∀ b u,h.get? b=some u->h'.get? b=some u):HOk P w H h':=λ a o e =>
 (x a o e).stay (λ b u _ q=>k b u q) (λ _ q=>q) λ _ _ q=>q
theorem HOk.laid (x:HOk P w H h)(k:∀ b u,h.get? b=some u->h'.get? b=some u)(z:h.objs.size<=a)(new:ab7 P w (upd H a o) h' a o):HOk P w (upd H a o) h':=λ b u e=>by
 have hn:=x.fresh z
 by_cases hb:b=a
 .subst hb;rw[zq]at e;cases e;exact new
 .rw[ze hb]at e
  exact(x b u e).stay (λ c v _ q=>k c v q) (λ c q=>by rw[ze (zt q hn)];exact q) λ c F q=>by rw[ze (zt q hn)];exact q
end
def Rd (H:Hp)(a:Addr)(u:HO):Prop:=H a=some u\/∃ o,H a=some (.frz o u)
theorem Rd.ok {P:aE}{w:World}{H:Hp}{h:Heap}{a:Addr}{u:HO}(r:Rd H a u)(x:HOk P w H h):ab7 P w H h a u:=by
 rcases r with r|⟨o,r⟩
 .exact x a u r
 .obtain⟨_,q⟩:=x a _ r
  exact q
noncomputable def Mut:Option HO->Prop
 | some (.lst _)=>True
 | some (.dK _)=>True
 | some (.ins _ _ _)=>True
 | some (.ext _)=>True
 | _=>False
section
variable {P:aE} {w:World} {H:Hp} {h h':Heap} {x e:Addr} {o':HO}
theorem HOk.write (ok:HOk P w H h)(mu:Mut (H x))(Z:e=x\/H e=some (.own x))(k:∀ b u,b≠e->h.get? b=some u->h'.get? b=some u)(Y:∃ u,h'.get? e=some u)
  (new:ab7 P w (upd H x o') h' x o'):HOk P w (upd H x o') h':=λ b u q=>by
 have F:∀ c y,H c=some (.own y)->c≠x:=λ c y r z=>by subst z;rw[r]at mu;exact mu
 have G:∀ c J,H c=some (.tup J)->c≠x:=λ c J r z=>by subst z;rw[r]at mu;exact mu
 by_cases hb:b=x
 .subst hb;rw[zq]at q;cases q;exact new
 .rw[ze hb]at q
  by_cases hbe:b=e
  .have q':H b=some (.own x):=by
    rcases Z with z|z
    .exact absurd (hbe.trans z) hb
    .rw[hbe];exact z
   rw[q]at q';cases q'
   obtain⟨v,hv⟩:=Y
   exact⟨v,by rw[hbe];exact hv⟩
  .refine(ok b u q).stay (λ c v hc r=>k c v ?_ r) (λ c r=>by rw[ze (F c b r)];exact r) λ c J r=>by rw[ze (G c J r)];exact r
   rcases hc with rfl|hc
   .exact hbe
   .rintro rfl
    rcases Z with z|z
    .exact F c b hc z
    .rw[hc]at z;cases z;exact hb rfl
end
structure Un (fs ex:List Addr)(H H':Hp)(h h':Heap):Prop where
 keep:∀ b o,h.get? b=some o->H b=none->b ∉ fs->b ∉ ex->h'.get? b=some o
 slot:∀ b o,h.get? b=some o->H b=none->b∈fs->b ∉ ex->∃ sl,h'.get? b=some { o with slots:=sl }
 free:∀ b o,h.get? b=some o->H b=none->b ∉ ex->H' b=none
 there:∀ b o,h.get? b=some o->b ∉ ex->∃ o',h'.get? b=some o'
 tups:∀ b xs,H b=some (.tup xs)->H' b=some (.tup xs)
 frzs:∀ b o u,H b=some (.frz o u)->H' b=some (.frz o u)
 tbls:∀ b ps,H b=some (.tbl ps)->∃ more,H' b=some (.tbl (ps++more))
section
variable {fs fs' ex ex':List Addr} {H H1 H2:Hp} {h h1 h2 h':Heap} {a x e:Addr} {o:HO}
theorem Un.any (u:Un fs ex H H1 h h1){b:Addr}{ob:Obj}(q:h.get? b=some ob)(n:H b=none)(hx:b ∉ ex):∃ sl,h1.get? b=some { ob with slots:=sl }:=by
 by_cases hb:b∈fs
 .exact u.slot b ob q n hb hx
 .exact⟨ob.slots,u.keep b ob q n hb hx⟩
theorem Un.kept (k:∀ b u,h.get? b=some u->h'.get? b=some u):Un fs ex H H h h' :=
 ⟨λ b ob q _ _ _=>k b ob q,λ b ob q _ _ _=>⟨ob.slots,k b ob q⟩,λ _ _ _ n _=>n,λ b ob q _=>⟨ob,k b ob q⟩,λ _ _ q=>q,λ _ _ _ q=>q,λ _ ps q=>⟨#[],by rw[q];simp⟩⟩
theorem Un.refl:Un fs ex H H h h:=Un.kept λ _ _ q=>q
theorem Un.laid (k:∀ b u,h.get? b=some u->h'.get? b=some u)(F:h.objs.size<=a)(hn:H a=none):Un fs ex H (upd H a o) h h' where
 keep:=λ b u q _ _ _=>k b u q
 slot:=λ b u q _ _ _=>⟨u.slots,k b u q⟩
 free:=λ b u q n _=>by rw[ze (aC (aA (aN q) F))];exact n
 there:=λ b u q _=>⟨u,k b u q⟩
 tups:=λ b z q=>by rw[ze (zt q hn)];exact q
 frzs:=λ b u z q=>by rw[ze (zt q hn)];exact q
 tbls:=λ b ps q=>⟨#[],by rw[ze (zt q hn),q];simp⟩
theorem Un.write (mu:Mut (H x))(Y:e=x\/H e=some (.own x))(k:∀ b u,b≠e->h.get? b=some u->h'.get? b=some u)(G:∃ u,h'.get? e=some u):Un fs ex H (upd H x o) h h':=by
 have hx:∀ b,H b=none->b≠x:=λ b n z=>by subst z;rw[n]at mu;exact mu
 have hb:∀ b,H b=none->b≠e:=λ b n z=>by
  subst z
  rcases Y with r|r
  .exact hx b n r
  .rw[n]at r;cases r
 have F:∀ b u,H b=some u->¬ Mut (some u)->b≠x:=λ b u q J z=>by subst z;rw[q]at mu;exact J mu
 refine⟨λ b u q n _ _=>k b u (hb b n) q,λ b u q n _ _=>⟨u.slots,k b u (hb b n) q⟩,λ b u q n _=>by rw[ze (hx b n)];exact n,λ b u q _=>?_,
  λ b Z q=>by rw[ze (F b _ q λ z=>z)];exact q,λ b u Z q=>by rw[ze (F b _ q λ z=>z)];exact q,λ b ps q=>⟨#[],by rw[ze (F b _ q λ z=>z),q];simp⟩⟩
 by_cases hbe:b=e
 .subst hbe;exact G
 .exact⟨u,k b u hbe q⟩
end
noncomputable def trk (h:Heap)(H:Hp):List Addr:=(aP h.objs.size).filter λ a=>(H a).isSome
noncomputable def be5 (h:Heap)(H:Hp):Heap:=PySem.W.hideAll h (trk h H)
theorem aX6 (h:Heap)(H:Hp):(be5 h H).objs.size=h.objs.size:=PySem.W.hideAll_size _ _
theorem aj9 {h:Heap}{H:Hp}{b:Addr}{o:Obj}(e:h.get? b=some o)(n:H b=none):(be5 h H).get? b=some o :=
 PySem.W.hideAll_get _ e λ z=>by
  have q:(H b).isSome=true:=(gf.mp z).2
  rw[n]at q;simp at q
theorem bx2 {h:Heap}{H:Hp}{b:Addr}{o:Obj}(e:(be5 h H).get? b=some o):h.get? b=some o/\H b=none:=by
 have e':h.get? b=some o:=PySem.W.of_hideAll (trk h H) e
 refine⟨e',?_⟩
 cases q:H b with
 | none=>rfl
 | some x =>
  have F:b∈trk h H:=gf.mpr ⟨br.mpr (aN e'),by simp[q]⟩
  have z:(be5 h H).get? b=none:=PySem.W.hideAll_none (trk h H) F
  rw[z]at e;cases e
noncomputable def bC4 (g h:Heap)(L:Addr):List (Addr×Obj):=(aP h.objs.size).filterMap λ a=>if a=L\/(g.get? a).isSome=true then none else(h.get? a).map λ o=>(a,o)
noncomputable def rest (g h:Heap)(L d:Addr):List (Addr×Obj):=(bC4 g h L).filter λ p=>decide (p.1≠d)
structure Mod (K:ae)(mg:yC)(base:Heap):Prop where
 kin:K.In base
 glob:base.Ns bf mg
 blt:∃ mb,base.Ns fN mb/\∀ x:Str,x ≠ "__name__"->mb x=bc x
 nolimit:base.NoLimit
structure Cx where
 prog:aE
 w:World
 K:ae
 mg:Str->Option Value
 base:Heap
 A:a7
 N:List Str
 s₀:ag
 H₀:Hp
 env:Env
 outer:List Env
 stack:List Env
 ex:List Addr
 fn:Str->Bool
 calm:Bool
 pn:List (Addr×Obj)
 xe:Value->ag->Prop
noncomputable def frs (l:List Env):List Addr:=l.filterMap (·.frame)
noncomputable abbrev Cx.fs (X:Cx):List Addr:=frs X.outer
def Vis (sc:Scope)(x:Str):Prop:=sc.names.lookup x=some .local\/sc.names.lookup x=some .cell\/sc.names.lookup x=some .free
def Loc (sc:Scope)(x:Str):Prop:=sc.names.lookup x=some .local\/sc.names.lookup x=some .cell
def Look (env:Env)(h:Heap)(m:yC)(x:Str)(u:Value):Prop :=
 (env.kindOf x=some .local/\m x=some u)\/((env.kindOf x=some .cell\/env.kindOf x=some .free)/\∃ c,env.cells.lookup x=some c/\h.IsCell c (some u))
structure Cx.Ok (X:Cx):Prop where
 mod:Mod X.K X.mg X.base
 kind:X.env.scope.kind=.function
 glob:X.env.globals=bf
 blt:X.env.builtins=fN
 above:X.s₀.heap.objs.size<=X.env.locals
 inj:∀ x y c,X.env.cells.lookup x=some c->X.env.cells.lookup y=some c->x=y
 has:∀ x,(X.env.kindOf x=some .cell\/X.env.kindOf x=some .free)->∃ c,X.env.cells.lookup x=some c
 cab:∀ x c,X.fn x=true->X.env.cells.lookup x=some c->X.s₀.heap.objs.size<=c
 hd:X.calm=true->X.A.handled=none
 frames:X.A.frames=some X.stack
 stk:X.stack=X.outer\/(X.stack=X.env::X.outer/\X.env.frame=some X.env.locals)
 exf:∀ b∈X.ex,b≠X.env.locals/\∀ x c,X.env.cells.lookup x=some c->c≠b
 bs:∀ b o,X.base.get? b=some o->X.s₀.heap.get? b=some o/\X.H₀ b=none
 bsz:X.base.objs.size<=X.s₀.heap.objs.size
 noex:∀ b o,X.base.get? b=some o->b ∉ X.ex
 exfs:∀ b∈X.ex,b ∉ X.fs
 funs:X.s₀.heap.FunFrames X.base X.outer
 frf:∀ b∈X.fs,X.H₀ b=none
structure Inv (X:Cx)(pins:yA)(W:List (Option V))(H:Hp)(s:ag):Prop where
 ok:X.Ok
 os:s.os=X.s₀.os
 bare:fj s.gens
 base:Un X.fs X.ex X.H₀ H X.s₀.heap s.heap
 loc:∃ m,s.heap.Ns X.env.locals m/\∀(i:Nat) (x:Str) (v:V),X.N[i]?=some x->W[i]?=some (some v)->Vis X.env.scope x->∃ u,RelV v u/\Look X.env s.heap m x u
 cell:∀ x c,X.env.cells.lookup x=some c->∃ v,s.heap.IsCell c v
 free:H X.env.locals=none
 freeC:∀ x c,X.env.cells.lookup x=some c->H c=none
 pin:∀ p∈X.pn++pins,s.heap.get? p.1=some p.2/\H p.1=none/\p.1≠X.env.locals/\p.1 ∉ X.fs/\∀ v,p.2.data≠.cell v
 hok:HOk X.prog X.w H s.heap
 len:W.length=X.N.length
section
variable {X:Cx} {pins:yA} {W:List (Option V)} {H H':Hp} {s:ag} {h':Heap}
theorem Cx.Ok.nofr (ok:X.Ok){b:Addr}{o:Obj}(e:X.base.get? b=some o):b ∉ X.fs:=λ hb=>by
 have:=(ok.funs.mem hb).1
 rw[e]at this;cases this
theorem Inv.bs (I:Inv X pins W H s):∀ b o,X.base.get? b=some o->s.heap.get? b=some o/\H b=none:=λ b o e =>
 ⟨I.base.keep b o (I.ok.bs b o e).1 (I.ok.bs b o e).2 (I.ok.nofr e) (I.ok.noex b o e),I.base.free b o (I.ok.bs b o e).1 (I.ok.bs b o e).2 (I.ok.noex b o e)⟩
theorem Inv.bk (I:Inv X pins W H s):∀ b o,X.base.get? b=some o->s.heap.get? b=some o:=λ b o e=>(I.bs b o e).1
theorem Inv.mod (I:Inv X pins W H s):Mod X.K X.mg X.base:=I.ok.mod
theorem Inv.kIn (I:Inv X pins W H s):X.K.In s.heap:=I.ok.mod.kin.keeps I.bk
theorem Inv.nolimit (I:Inv X pins W H s):s.heap.NoLimit:=I.ok.mod.nolimit.keeps I.bk
theorem Inv.lt (I:Inv X pins W H s):X.env.locals<s.heap.objs.size:=let⟨_,hn,_⟩:=I.loc;hn.lt
theorem Inv.sz (I:Inv X pins W H s):X.s₀.heap.objs.size<=s.heap.objs.size:=aj I.ok.above (fO I.lt)
theorem Inv.nofs (I:Inv X pins W H s){a:Addr}(h:s.heap.objs.size<=a):a ∉ X.fs:=λ hb=>by
 obtain⟨_,o,ho,_⟩:=I.ok.funs.mem hb
 exact absurd (aA (aN ho) (aj I.sz h)) (bA _)
theorem Inv.cne (I:Inv X pins W H s):∀ x c,X.env.cells.lookup x=some c->c≠X.env.locals:=λ x c e z=>by
 obtain⟨v,o,ho,hd⟩:=I.cell x c e
 obtain⟨m,⟨G,es,ep,F,h,_⟩,_⟩:=I.loc
 rw[z,F]at ho;cases ho;rw[h]at hd;cases hd
theorem Inv.funs (I:Inv X pins W H s):s.heap.FunFrames X.base X.outer:=by
 have all:∀(l:List Env),(∀ b∈frs l,b∈X.fs)->X.s₀.heap.FunFrames X.base l->s.heap.FunFrames X.base l:=by
  intro l
  induction l with
  | nil=>intro _ _;trivial
  | cons env r ih =>
   intro hs hl
   obtain⟨hk,⟨L,o,h,hn,ho,hd⟩,G⟩:=hl
   have F:L∈X.fs:=hs L (by unfold frs;rw[eN,h];exact aB)
   obtain⟨sl,e⟩:=I.base.slot L o ho (I.ok.frf L F) F λ z=>I.ok.exfs L z F
   exact⟨hk,⟨L,_,h,hn,e,hd⟩,ih (λ b hb=>hs b (by unfold frs;rw[eN,h];exact ax _ hb)) G⟩
 exact all X.outer (λ _ hb=>hb) I.ok.funs
theorem Inv.stack (I:Inv X pins W H s):s.heap.FunFrames X.base X.stack:=by
 rcases I.ok.stk with e|⟨e,h⟩
 .rw[e];exact I.funs
 .rw[e]
  obtain⟨m,hn,_⟩:=I.loc
  refine .cons (by rw[I.ok.kind];decide) h hn ?_ I.funs
  exact Heap.get?_none_of_le (aj I.ok.bsz I.ok.above)
theorem Inv.stkSub (I:Inv X pins W H s):∀ b∈frs X.stack,b∈X.env.locals::X.fs:=λ b hb=>by
 rcases I.ok.stk with e|⟨e,h⟩
 .rw[e]at hb;exact ax _ hb
 .rw[e]at hb
  unfold frs at hb
  rw[eN,h]at hb
  exact hb
theorem Inv.stkFree (I:Inv X pins W H s):∀ b∈frs X.stack,H b=none:=λ b hb=>by
 rcases aG.mp (I.stkSub b hb)with e|hb
 .rw[e];exact I.free
 .obtain⟨_,o,ho,_⟩:=I.ok.funs.mem hb
  exact I.base.free b o ho (I.ok.frf b hb) λ z=>I.ok.exfs b z hb
theorem Inv.step {g':Array GenState}{t':Nat}{d':Drawn}{ch:List Addr}(I:Inv X pins W H s)
  (F:∀ b∈ch,(b∈X.ex\/X.s₀.heap.objs.size<=b)/\b≠X.env.locals/\(∀ x c,X.env.cells.lookup x=some c->c≠b)/\∀ p∈X.pn++pins,p.1≠b)
  (keep:∀ b o,b≠X.env.locals->b ∉ X.fs->b ∉ ch->s.heap.get? b=some o->H b=none->h'.get? b=some o)
  (slot:∀ b o,b≠X.env.locals->b∈X.fs->b ∉ ch->s.heap.get? b=some o->H b=none->∃ sl,h'.get? b=some { o with slots:=sl }) (free:∀ b o,b ∉ ch->s.heap.get? b=some o->H b=none->H' b=none)
  (there:∀ b o,b ∉ ch->s.heap.get? b=some o->∃ Z,h'.get? b=some Z)
  (tups:∀ b Y,H b=some (.tup Y)->H' b=some (.tup Y)) (frzs:∀ b o u,H b=some (.frz o u)->H' b=some (.frz o u)) (tbls:∀ b ps,H b=some (.tbl ps)->∃ a1,H' b=some (.tbl (ps++a1)))
  (ns:∀ m,s.heap.Ns X.env.locals m->h'.Ns X.env.locals m) (hok:HOk X.prog X.w H' h') (hg:fj g') :
  Inv X pins W H' { s with heap:=h',gens:=g',drawn:=d',toks:=t' }:=by
 have a0:∀ b o,X.s₀.heap.get? b=some o->b≠X.env.locals:=λ b o e=>aC (aA (aN e) I.ok.above)
 have J:∀ b o,X.s₀.heap.get? b=some o->b ∉ X.ex->b ∉ ch:=λ b o e hx hb=>by
  rcases(F b hb).1 with z|z
  .exact hx z
  .exact absurd (aA (aN e) z) (bA _)
 have G:∀ x c,X.env.cells.lookup x=some c->∀ v,s.heap.IsCell c v->h'.IsCell c v:=λ x c e v ⟨o,ho,hd⟩=>by
  have h:c ∉ ch:=λ z=>(F c z).2.2.1 x c e rfl
  by_cases hc:c∈X.fs
  .obtain⟨sl,q⟩:=slot c o (I.cne x c e) hc h ho (I.freeC x c e)
   exact⟨_,q,hd⟩
  .exact⟨o,keep c o (I.cne x c e) hc h ho (I.freeC x c e),hd⟩
 refine⟨I.ok,I.os,hg,⟨λ b o e n hb hx=>?_,λ b o e n hb hx=>?_,λ b o e n hx=>?_,λ b o e hx=>?_,λ b Y e=>tups b Y (I.base.tups b Y e),λ b o Y e=>frzs b o Y (I.base.frzs b o Y e),λ b ps e=>?_⟩,?_,λ x c e=>?_,?_,λ x c e=>?_,λ p hp=>?_,hok,I.len⟩
 .exact keep b o (a0 b o e) hb (J b o e hx) (I.base.keep b o e n hb hx) (I.base.free b o e n hx)
 .obtain⟨sl,e1⟩:=I.base.slot b o e n hb hx
  obtain⟨a2,e2⟩:=slot b _ (a0 b o e) hb (J b o e hx) e1 (I.base.free b o e n hx)
  exact⟨a2,e2⟩
 .obtain⟨Z,e1⟩:=I.base.there b o e hx
  exact free b Z (J b o e hx) e1 (I.base.free b o e n hx)
 .obtain⟨Z,e1⟩:=I.base.there b o e hx
  exact there b Z (J b o e hx) e1
 .obtain⟨m1,e1⟩:=I.base.tbls b ps e
  obtain⟨m2,e2⟩:=tbls b _ e1
  exact⟨m1++m2,by rw[e2,ip]⟩
 .obtain⟨m,hn,hl⟩:=I.loc
  refine⟨m,ns m hn,λ i x v e1 e2 e3=>?_⟩
  obtain⟨u,r,l⟩:=hl i x v e1 e2 e3
  refine⟨u,r,?_⟩
  rcases l with l|⟨k,c,e,z⟩
  .exact .inl l
  .exact .inr ⟨k,c,e,G x c e _ z⟩
 .obtain⟨v,z⟩:=I.cell x c e
  exact⟨v,G x c e v z⟩
 .obtain⟨m,⟨o,_,_,ho,_⟩,_⟩:=I.loc
  exact free _ o (λ z=>(F _ z).2.1 rfl) ho I.free
 .obtain⟨v,o,ho,hd⟩:=I.cell x c e
  exact free c o (λ z=>(F c z).2.2.1 x c e rfl) ho (I.freeC x c e)
 .obtain⟨e,n,ne,nf,d⟩:=I.pin p hp
  have h:p.1 ∉ ch:=λ z=>(F p.1 z).2.2.2 p hp rfl
  exact⟨keep p.1 p.2 ne nf h e n,free p.1 p.2 h e n,ne,nf,d⟩
theorem Inv.un {t':Nat}(I:Inv X pins W H s)(u:Un X.fs [] H H' s.heap h')(hok:HOk X.prog X.w H' h'):Inv X pins W H' { s with heap:=h',toks:=t' }:=by
 obtain⟨m,⟨o,es,ep,ho,r⟩,_⟩:=id I.loc
 obtain⟨sl,Y⟩:=u.any ho I.free (by simp)
 exact I.step (g':=s.gens) (d':=s.drawn) (ch:=[]) (λ _ z=>nomatch z) (λ b o _ hb _ e n=>u.keep b o e n hb (by simp)) (λ b o _ hb _ e n=>u.slot b o e n hb (by simp)) (λ b o _ e n=>u.free b o e n (by simp)) (λ b o _ e=>u.there b o e (by simp)) u.tups u.frzs u.tbls (λ m' J=>by
  obtain⟨Z,G,F,h,r'⟩:=J
  rw[ho]at h;cases h
  exact⟨_,G,F,Y,r'⟩) hok I.bare
theorem Inv.call {g':Array GenState}{t':Nat}{d':Drawn}{ch:List Addr}(I:Inv X pins W H s)(u:Un (frs X.stack) ch H H' s.heap h')(hok:HOk X.prog X.w H' h')(hg:fj g')
  (h:∀ b∈ch,(b∈X.ex\/X.s₀.heap.objs.size<=b)/\b≠X.env.locals/\(∀ x c,X.env.cells.lookup x=some c->c≠b)/\∀ p∈X.pn++pins,p.1≠b) :
  Inv X pins W H' { s with heap:=h',gens:=g',drawn:=d',toks:=t' }:=by
 obtain⟨m,⟨o,es,ep,ho,r⟩,_⟩:=id I.loc
 obtain⟨sl,Y⟩:=u.any ho I.free λ z=>(h _ z).2.1 rfl
 exact I.step (ch:=ch) h (λ b o Y hb hc e n=>u.keep b o e n (λ z=>(aG.mp (I.stkSub b z)).elim Y hb) hc) (λ b o _ _ hc e n=>u.any e n hc) (λ b o hc e n=>u.free b o e n hc) (λ b o hc e=>u.there b o e hc) u.tups u.frzs u.tbls (λ m' Z=>by
  obtain⟨o',G,J,F,r'⟩:=Z
  rw[ho]at F;cases F
  exact⟨_,G,J,Y,r'⟩) hok hg
theorem Inv.turned {t':Nat}{it:Addr}(I:Inv X pins W H s)(k:∀ b o,b≠it->s.heap.get? b=some o->h'.get? b=some o)(hn:H it=none)(F:it≠X.env.locals)
  (G:it∈X.ex\/X.s₀.heap.objs.size<=it) (Y:∀ x c,X.env.cells.lookup x=some c->c≠it) (h3:∀ p∈X.pn++pins,p.1≠it):Inv X pins W H { s with heap:=h',toks:=t' }:=by
 have h:∀ b u,H b=some u->b≠it:=λ b u e z=>by rw[z,hn]at e;cases e
 refine I.step (g':=s.gens) (d':=s.drawn) (ch:=[it]) (λ b hb=>?_) (λ b o _ _ hc e _=>k b o (λ z=>hc (by simp[z])) e) (λ b o _ _ hc e _=>⟨o.slots,k b o (λ z=>hc (by simp[z])) e⟩) (λ _ _ _ _ n=>n)
  (λ b o hc e=>⟨o,k b o (λ z=>hc (by simp[z])) e⟩) (λ _ _ e=>e) (λ _ _ _ e=>e) (λ b ps e=>⟨#[],by rw[e];simp⟩) (λ m J=>?_) (λ b u e=>?_) I.bare
 .have e:b=it:=by simpa using hb
  subst e
  exact⟨G,F,Y,h3⟩
 .obtain⟨o,es,ep,ho,r⟩:=J
  exact⟨o,es,ep,k _ o (bG F) ho,r⟩
 .refine(I.hok b u e).stay (λ c v hc q=>k c v ?_ q) (λ _ q=>q) λ _ _ q=>q
  rcases hc with z|z
  .rw[z];exact h b u e
  .exact h c _ z
theorem Inv.tok (I:Inv X pins W H s)(t:Nat):Inv X pins W H { s with toks:=t }:=I.un (h':=s.heap) (t':=t) Un.refl I.hok
theorem Inv.kept {t':Nat}(I:Inv X pins W H s)(k:∀ b u,s.heap.get? b=some u->h'.get? b=some u):Inv X pins W H { s with heap:=h',toks:=t' }:=I.un (Un.kept k) (I.hok.kept k)
theorem Inv.laid {a:Addr}{o:HO}{t':Nat}(I:Inv X pins W H s)(k:∀ b u,s.heap.get? b=some u->h'.get? b=some u)(h:s.heap.objs.size<=a)(new:ab7 X.prog X.w (upd H a o) h' a o) :
  Inv X pins W (upd H a o) { s with heap:=h',toks:=t' }:=I.un (Un.laid k h (I.hok.fresh h)) (I.hok.laid k h new)
theorem Inv.write {x e:Addr}{o:HO}{t':Nat}(I:Inv X pins W H s)(mu:Mut (H x))(z:e=x\/H e=some (.own x))(k:∀ b u,b≠e->s.heap.get? b=some u->h'.get? b=some u)(h:∃ u,h'.get? e=some u)
  (new:ab7 X.prog X.w (upd H x o) h' x o):Inv X pins W (upd H x o) { s with heap:=h',toks:=t' }:=I.un (Un.write mu z k h) (I.hok.write mu z k h new)
theorem Inv.pins_of {F:yA}(I:Inv X pins W H s)(h:∀ p∈F,s.heap.get? p.1=some p.2/\H p.1=none/\p.1≠X.env.locals/\p.1 ∉ X.fs/\∀ v,p.2.data≠.cell v):Inv X F W H s :=
 ⟨I.ok,I.os,I.bare,I.base,I.loc,I.cell,I.free,I.freeC,λ p G=>(aO.mp G).elim (λ z=>I.pin p (bZ _ z)) (h p),I.hok,I.len⟩
theorem aJ1 {N:yH}(hN:N.Nodup){i j:Nat}{x:Str}(a:N[i]?=some x)(b:N[j]?=some x):i=j:=by
 obtain⟨h,e1⟩:=ac.mp a
 obtain⟨z,e2⟩:=ac.mp b
 exact(List.getElem_inj hN).mp (e1.trans e2.symm)
theorem ax0 {M:Model}{A:a7}{E:Value->ag->Prop}{i:Nat}{x:Str}{v:V}{u:Value}{Q:Unit->ag->Prop}(I:Inv X pins W H s)(hN:X.N.Nodup)(hi:X.N[i]?=some x)(hx:Loc X.env.scope x)(r:RelV v u)
  (h:∀ s',Inv X pins (W.set i (some v)) H s'->(∃ a,dg a s.heap s'.heap/\(a=X.env.locals\/X.env.cells.lookup x=some a))->Q () s') (hf:X.fn x=true\/X.env.scope.names.lookup x=some .local:=by first|exact .inl rfl|exact .inr rfl|assumption):wpAny M A (storeName X.env x u) Q E s:=by
 obtain⟨m,hn,hl⟩:=id I.loc
 have Y:(X.env.scope.kind==.class||(X.env.scope.kind==.module&&X.env.locals != X.env.globals))=false:=by rw[I.ok.kind];rfl
 have Z:i < W.length:=by rw[I.len];exact(ac.mp hi).1
 have cne:=I.cne
 have F:∀ {a:Addr} {h':Heap},(∃ o,s.heap.get? a=some o/\H a=none)->dg a s.heap h'->HOk X.prog X.w H h':=λ {a h'} ha hs b ob e=>by
  obtain⟨_,_,G⟩:=ha
  refine(I.hok b ob e).stay (λ c w' hc q=>(hs.2 c ?_).trans q) (λ _ q=>q) λ _ _ q=>q
  rintro rfl
  rcases hc with rfl|hc
  .rw[G]at e;cases e
  .rw[G]at hc;cases hc
 rcases hx with hk|hk
 .refine wpAny_storeName_local hk hn (λ h' a4 hs=>?_) Y
  obtain⟨oL,_,_,a3,_⟩:=id hn
  refine h _ ⟨I.ok,I.os,I.bare,⟨λ b o e n hb hx=>?_,λ b o e n hb hx=>?_,I.base.free,λ b o e hx=>?_,I.base.tups,I.base.frzs,I.base.tbls⟩,⟨_,a4,λ j y v' e1 e2 e3=>?_⟩,λ y c e=>?_,I.free,I.freeC,λ p hp=>?_,F ⟨oL,a3,I.free⟩ hs,by simpa using I.len⟩ ⟨_,hs,.inl rfl⟩
  .exact(hs.2 b (aC (aA (aN e) I.ok.above))).trans (I.base.keep b o e n hb hx)
  .obtain⟨sl,e1⟩:=I.base.slot b o e n hb hx
   exact⟨sl,(hs.2 b (aC (aA (aN e) I.ok.above))).trans e1⟩
  .obtain⟨o',e1⟩:=I.base.there b o e hx
   exact⟨o',(hs.2 b (aC (aA (aN e) I.ok.above))).trans e1⟩
  .by_cases hj:j=i
   .subst hj
    rw[hi]at e1;cases e1
    rw[aX Z]at e2
    cases e2
    exact⟨u,r,.inl ⟨hk,by simp⟩⟩
   .rw[ao (bG hj)]at e2
    obtain⟨u',r',q⟩:=hl j y v' e1 e2 e3
    refine⟨u',r',?_⟩
    rcases q with⟨k,e⟩|⟨k,c,e,z⟩
    .refine .inl ⟨k,?_⟩
     have:y≠x:=λ e=>hj (aJ1 hN e1 (e▸hi))
     simp[this,e]
    .exact .inr ⟨k,c,e,z.sameBut hs (cne y c e)⟩
  .obtain⟨w',z⟩:=I.cell y c e
   exact⟨w',z.sameBut hs (cne y c e)⟩
  .obtain⟨e,n,ne,nf,d⟩:=I.pin p hp
   exact⟨(hs.2 p.1 ne).trans e,n,ne,nf,d⟩
 .have J:X.fn x=true:=by
   rcases hf with z|z
   .exact z
   .rw[z]at hk;cases hk
  obtain⟨c,hc⟩:=I.ok.has x (.inl hk)
  obtain⟨w',z⟩:=I.cell x c hc
  refine wpAny_storeName_cell I.ok.kind hk hc z (λ h' a1 hs=>?_)
  obtain⟨oc,a0,a2⟩:=id z
  refine h { s with heap:=h' } ⟨I.ok,I.os,I.bare,⟨λ b o e n hb hx=>?_,λ b o e n hb hx=>?_,I.base.free,λ b o e hx=>?_,I.base.tups,I.base.frzs,I.base.tbls⟩,⟨m,hn.sameBut hs (bG (cne x c hc)),λ j y v' e1 e2 e3=>?_⟩,λ y c' e=>?_,I.free,I.freeC,λ p hp=>?_,F ⟨oc,a0,I.freeC x c hc⟩ hs,by simpa using I.len⟩ ⟨c,hs,.inr hc⟩
  .exact(hs.2 b (aC (aA (aN e) (I.ok.cab x c J hc)))).trans (I.base.keep b o e n hb hx)
  .obtain⟨sl,e1⟩:=I.base.slot b o e n hb hx
   exact⟨sl,(hs.2 b (aC (aA (aN e) (I.ok.cab x c J hc)))).trans e1⟩
  .obtain⟨o',e1⟩:=I.base.there b o e hx
   exact⟨o',(hs.2 b (aC (aA (aN e) (I.ok.cab x c J hc)))).trans e1⟩
  .by_cases hj:j=i
   .subst hj
    rw[hi]at e1;cases e1
    rw[aX Z]at e2
    cases e2
    exact⟨u,r,.inr ⟨.inl hk,c,hc,a1⟩⟩
   .rw[ao (bG hj)]at e2
    obtain⟨u',r',q⟩:=hl j y v' e1 e2 e3
    refine⟨u',r',?_⟩
    rcases q with q|⟨k,c',e,z'⟩
    .exact .inl q
    .refine .inr ⟨k,c',e,z'.sameBut hs ?_⟩
     rintro rfl
     exact hj (aJ1 hN e1 (I.ok.inj _ _ _ e hc▸hi))
  .by_cases hcc:c'=c
   .subst hcc;exact⟨_,a1⟩
   .obtain⟨w2,z2⟩:=I.cell y c' e
    exact⟨w2,z2.sameBut hs hcc⟩
  .obtain⟨e,n,ne,nf,d⟩:=I.pin p hp
   refine⟨(hs.2 p.1 ?_).trans e,n,ne,nf,d⟩
   intro q
   rw[q,a0]at e
   have q':oc=p.2:=aw e
   exact d w' (by rw[<-q'];exact a2)
theorem aJ9 {M:Model}{A:a7}{E:Value->ag->Prop}{i:Nat}{x:Str}{v:V}{u:Value}{Q:Unit->ag->Prop}(I:Inv X pins W H s)(hN:X.N.Nodup)(G:X.N[i]?=some x)(hx:Loc X.env.scope x)(r:RelV v u)
  (h:∀ s',Inv X pins (W.set i (some v)) H s'->Q () s') (z:X.fn x=true\/X.env.scope.names.lookup x=some .local:=by first|exact .inl rfl|exact .inr rfl|assumption):wpAny M A (storeName X.env x u) Q E s :=
 ax0 I hN G hx r (λ s' F _=>h s' F) z
theorem Inv.call' {s':ag}{ch:List Addr}(I:Inv X pins W H s)(ho:s'.os=s.os)(u:Un (frs X.stack) ch H H' s.heap s'.heap)(hok:HOk X.prog X.w H' s'.heap)(hg:fj s'.gens)
  (h:∀ b∈ch,(b∈X.ex\/X.s₀.heap.objs.size<=b)/\b≠X.env.locals/\(∀ x c,X.env.cells.lookup x=some c->c≠b)/\∀ p∈X.pn++pins,p.1≠b):Inv X pins W H' s':=by
 obtain⟨h',g',d',t',z⟩:=s'
 have e:z=s.os:=ho
 subst e
 exact I.call (g':=g') (t':=t') (d':=d') u hok hg h
end
abbrev XK:=Value->Option Addr->Hp->Prop
noncomputable abbrev St:=List (Option V)
abbrev VK:=V->Hp->Prop
abbrev TE:=St->Hp->VK->Prop
abbrev TT:=St->Hp->(Bool->Hp->Prop)->Prop
abbrev TA:=St->Hp->(List V->Hp->Prop)->Prop
structure Ends where
 nx:St->Hp->Prop
 rt:VK
 bk:St->Hp->Prop:=λ _ _=>False
 ct:St->Hp->Prop:=λ _ _=>False
abbrev TS:=Ends->St->Hp->Prop
def EP (X:Cx)(pins:yA)(W:St)(Q:VK)(u:Value)(s':ag):Prop:=∃ v H',Inv X pins W H' s'/\RelV v u/\Q v H'
def TP (X:Cx)(pins:yA)(W:St)(Q:Bool->Hp->Prop)(b:Bool)(s':ag):Prop:=∃ H',Inv X pins W H' s'/\Q b H'
def AP (X:Cx)(pins:yA)(W:St)(Q:List V->Hp->Prop)(us:yG)(s':ag):Prop:=∃ vs H',Inv X pins W H' s'/\Vals vs us/\Q vs H'
def SP (X:Cx)(pins:yA)(D:Ends)(f:Flow)(s':ag):Prop :=
 match f with
 | .next=>∃ W' H',Inv X pins W' H' s'/\D.nx W' H'
 | .brk=>∃ W' H',Inv X pins W' H' s'/\D.bk W' H'
 | .cont=>∃ W' H',Inv X pins W' H' s'/\D.ct W' H'
 | .ret u=>∃ v W' H',Inv X pins W' H' s'/\RelV v u/\D.rt v H'
def PE (X:Cx)(e:Expr)(t:TE):Prop :=
 ∀(pins:yA) (s:ag) (W:St) (H:Hp) (Q:VK),Inv X pins W H s->t W H Q->wpAny (model X.prog X.w) X.A (eval e X.env) (EP X pins W Q) X.xe s
def PT (X:Cx)(e:Expr)(t:TT):Prop :=
 ∀(pins:yA) (s:ag) (W:St) (H:Hp) (Q:Bool->Hp->Prop),Inv X pins W H s->t W H Q->wpAny (model X.prog X.w) X.A (dD e X.env (eval e X.env)) (TP X pins W Q) X.xe s
def PW (X:Cx)(e:Expr)(t:TT):Prop :=
 ∀(whole:Sem Value) (pins:yA) (s:ag) (W:St) (H:Hp) (Q:Bool->Hp->Prop),Inv X pins W H s->t W H Q->wpAny (model X.prog X.w) X.A (dD e X.env whole) (TP X pins W Q) X.xe s
theorem PW.pt {X:Cx}{e:Expr}{t:TT}(h:PW X e t):PT X e t:=h _
def PA (X:Cx)(es:yK)(t:TA):Prop :=
 ∀(pos:Pos) (pins:yA) (s:ag) (W:St) (H:Hp) (Q:List V->Hp->Prop),Inv X pins W H s->t W H Q->wpAny (model X.prog X.w) X.A (spliced (cD pos (aY es X.env))) (AP X pins W Q) X.xe s
def PS (X:Cx)(st:Stmt)(t:TS):Prop :=
 ∀(pins:yA) (s:ag) (W:St) (H:Hp) (D:Ends),Inv X pins W H s->t D W H->wpAny (model X.prog X.w) X.A (exec st X.env) (SP X pins D) X.xe s
def PSs (X:Cx)(st:yL)(t:TS):Prop :=
 ∀(pins:yA) (s:ag) (W:St) (H:Hp) (D:Ends),Inv X pins W H s->t D W H->wpAny (model X.prog X.w) X.A (execs st X.env) (SP X pins D) X.xe s
theorem thn {α:Type}{t:Sem α}{Q z:α->ag->Prop}{M:Model}{A:a7}{E:Value->ag->Prop}{s:ag}(h:wpAny M A t Q E s)(F:∀ a s,Q a s->z a s):wpAny M A t z E s:=bT h F λ _ _ x=>x
section
variable {X:Cx}
theorem bin {a b:Expr}{J tb:TE}(ha:PE X a J)(hb:PE X b tb){z:yA}{s:ag}{W:St}{H:Hp}{R:V->V->Hp->Prop}(I:Inv X z W H s)(h:J W H λ x G=>tb W G λ y F=>R x y F)
  {α:Type} {Q:α->ag->Prop} {f:Value->Value->Sem α}
  (Y:∀ v u s2 x y F,Inv X z W F s2->RelV x v->RelV y u->R x y F->wpAny (model X.prog X.w) X.A (f v u) Q X.xe s2) :
  wpAny (model X.prog X.w) X.A (eval a X.env) (λ v Z=>wpAny (model X.prog X.w) X.A (eval b X.env) (λ u s₂=>wpAny (model X.prog X.w) X.A (f v u) Q X.xe s₂) X.xe Z) X.xe s:=by
 refine thn (ha z s W H _ I h) λ v s1 ⟨x,G,I1,r1,q1⟩=>?_
 refine thn (hb z s1 W G _ I1 q1) λ u s2 ⟨y,F,I2,r2,q2⟩=>?_
 exact Y v u s2 x y F I2 r1 r2 q2
def cj2 (i:Nat):TE:=λ W H Q=>∃ v,W[i]?=some (some v)/\Q v H
def tC (v:V):TE:=λ _ H Q=>Q v H
theorem bO0 {i:Nat}{x:Str}{pos:Pos}(hN:X.N[i]?=some x)(hv:Vis X.env.scope x)(hd:(x==("__debug__":Str))=false:=by decide)(F:(x==("__classdict__":Str))=false:=by decide):PE X (.Name x pos) (cj2 i):=by
 intro z s W H Q I h
 obtain⟨v,e,h⟩:=h
 obtain⟨m,hn,hl⟩:=I.loc
 obtain⟨u,r,l⟩:=hl i x v hN e hv
 have fin:EP X z W Q u s:=⟨v,H,I,r,h⟩
 rcases l with⟨hk,G⟩|⟨hk,c,hc,hcell⟩
 .exact jC (wpAny_loadName_local I.ok.kind hk hn G fin) hd
 .rcases hk with hk|hk
  .exact jC (wpAny_loadName_cell I.ok.kind hk hc hcell fin) hd
  .exact jC (wpAny_loadName_free I.ok.kind hk hc hcell fin F) hd
theorem bt1 {i j pos}:PE X (.Constant (.int i) j pos) (tC (.int i)):=λ _ _ _ H _ I h=>wpAny_Constant_int ⟨.int i,H,I.tok _,⟨_,rfl⟩,h⟩
theorem ca3 {b j pos}:PE X (.Constant (.bool b) j pos) (tC (.bl b)):=λ _ _ _ H _ I h=>Constant_bool ⟨.bl b,H,I,rfl,h⟩
theorem bO5 {j pos}:PE X (.Constant .none j pos) (tC .non):=λ _ _ _ H _ I h=>hW ⟨.non,H,I,rfl,h⟩
theorem bK7 {x j pos}:PE X (.Constant (.str x) j pos) (tC (.str x)):=λ _ _ _ H _ I h=>Calls.Constant_str ⟨.str x,H,I.tok _,⟨_,rfl⟩,h⟩
def Gl (X:Cx)(x:Str):Prop:=X.env.kindOf x=some .globalImplicit
theorem ak6 {E:Value->ag->Prop}{z:yA}{s:ag}{W:St}{H:Hp}{x:Str}{u:Value}{pos:Pos}{Q:Value->ag->Prop}(I:Inv X z W H s)(hg:Gl X x)(F:X.mg x=some u)(h:Q u s)
  (hd:(x==("__debug__":Str))=false:=by decide):wpAny (model X.prog X.w) X.A (eval (.Name x pos) X.env) Q E s :=
 eW I.ok.kind hg (Calls.loadGlobal_global (by rw[I.ok.glob];exact I.mod.glob.keeps I.bk) F h) hd
theorem aq9 {E:Value->ag->Prop}{z:yA}{s:ag}{W:St}{H:Hp}{x:Str}{u:Value}{pos:Pos}{Q:Value->ag->Prop}(I:Inv X z W H s)(hg:Gl X x)(G:X.mg x=none)(hv:bc x=some u)(h:Q u s)
  (hn:x ≠ "__name__":=by decide) (hd:(x==("__debug__":Str))=false:=by decide):wpAny (model X.prog X.w) X.A (eval (.Name x pos) X.env) Q E s:=by
 obtain⟨Y,F,J⟩:=I.mod.blt
 exact eW I.ok.kind hg (Calls.loadGlobal_builtin (by rw[I.ok.glob];exact I.mod.glob.keeps I.bk) G (by rw[I.ok.blt];exact F.keeps I.bk) ((J x hn).trans hv) h) hd
theorem bI1 {x:Str}{v:V}{u:Value}{pos:Pos}(hg:Gl X x)(z:X.mg x=some u)(r:RelV v u)(hd:(x==("__debug__":Str))=false:=by decide):PE X (.Name x pos) (tC v) :=
 λ _ _ _ H _ I h=>ak6 I hg z ⟨v,H,I,r,h⟩ hd
theorem bu3 {x:Str}{v:V}{u:Value}{pos:Pos}(hg:Gl X x)(z:X.mg x=none)(hv:bc x=some u)(r:RelV v u)(hn:x ≠ "__name__":=by decide)(hd:(x==("__debug__":Str))=false:=by decide):PE X (.Name x pos) (tC v) :=
 λ _ _ _ H _ I h=>aq9 I hg z hv ⟨v,H,I,r,h⟩ hn hd
variable {a b:Expr} {ta tb:TE} {pos:Pos}
def PC (X:Cx)(op:CmpOp)(a b:Expr)(t:TE):Prop :=
 ∀(pins:yA) (s:ag) (W:St) (H:Hp) (Q:VK),Inv X pins W H s->t W H Q ->
  wpAny (model X.prog X.w) X.A (eval a X.env) (λ v s₁=>wpAny (model X.prog X.w) X.A (eval b X.env) (λ u s₂=>wpAny (model X.prog X.w) X.A (dh op v u) (EP X pins W Q) X.xe s₂) X.xe s₁) X.xe s
theorem aM0 (b:Expr){op:CmpOp}(h:op≠.In)(z:op≠.NotIn):cY op b=false:=by
 have e1:(op==CmpOp.In)=false:=by cases op<;>first|rfl|exact absurd rfl h
 have e2:(op==CmpOp.NotIn)=false:=by cases op<;>first|rfl|exact absurd rfl z
 cases b<;>simp[cY,e1,e2]
def cj8 (ta:TE):TE:=λ W H Q=>ta W H λ x H1=>Q (.bl (decide (x=.non))) H1
def bS1 (ta:TE):TE:=λ W H Q=>ta W H λ x H1=>Q (.bl (!decide (x=.non))) H1
theorem RelV.none_iff {x:V}{v:Value}(r:RelV x v):(v==Value.none)=decide (x=.non):=by
 cases x with
 | non=>cases r;rfl
 | bl _=>cases r;rfl
 | int _=>obtain⟨t,rfl⟩:=r;rfl
 | str _=>obtain⟨t,rfl⟩:=r;rfl
 | byt _=>obtain⟨t,rfl⟩:=r;rfl
 | flt _=>obtain⟨t,rfl⟩:=r;rfl
 | ref _=>cases r;rfl
 | ty _=>cases r;rfl
theorem br2 {j pos'}(ha:PE X a ta):PC X .Is a (.Constant .none j pos') (cj8 ta):=by
 intro z s W H Q I h
 refine thn (ha z s W H _ I h) λ v s1 ⟨x,J,G,r1,F⟩=>?_
 exact hW (is_none_gen ⟨.bl _,J,G,by rw[r1.none_iff];rfl,F⟩)
theorem aZ4 {j pos'}(ha:PE X a ta):PC X .IsNot a (.Constant .none j pos') (bS1 ta):=by
 intro z s W H Q I h
 refine thn (ha z s W H _ I h) λ v s1 ⟨x,J,G,r1,F⟩=>?_
 exact hW (isnot_none_gen ⟨.bl _,J,G,by rw[r1.none_iff];rfl,F⟩)
def tB (t:TE):TT:=λ W H Q=>t W H λ x H1=>∃ c,x=.bl c/\Q c H1
theorem bq5 {op:CmpOp}{t:TE}(h:PC X op a b t)(F:cY op b=false:=by first|exact aM0 _ (by decide) (by decide)|rfl):PE X (.Compare a [op] [b] pos) t:=λ z s W H Q I hw=>wpAny_Compare1 (h z s W H Q I hw) F
theorem bq0 {op:CmpOp}{t:TE}(h:PC X op a b t)(F:cY op b=false:=by first|exact aM0 _ (by decide) (by decide)|rfl):PT X (.Compare a [op] [b] pos) (tB t):=by
 intro z s W H Q I hw
 refine gm (thn (h z s W H _ I hw) λ v s1 F=>thn F λ u s2 Z=>thn Z λ c s3 ⟨x,Y,J,r1,G⟩=>?_) F
 obtain⟨d,rfl,q⟩:=G
 cases r1
 exact bO ⟨Y,J,q⟩
theorem bR9 {e:Expr}{t:TE}(h:PE X e t)(J:∀ z,dD e X.env z=(do let v <- z;iJ e.pos;fP [v] (truthy v)):=by intro _;rfl):PT X e (tB t):=by
 intro F s W H Q I hw
 refine isTrue_plain (thn (h F s W H _ I hw) λ v s1 ⟨x,Z,Y,r1,G⟩=>?_) (J _)
 obtain⟨d,rfl,q⟩:=G
 cases r1
 exact bO ⟨Z,Y,q⟩
variable {tA tB':TT} {rest:yK}
def cj9 (t u:TT):TT:=λ W H Q=>t W H λ c H1=>if c=true then u W H1 Q else Q false H1
def tOr (t u:TT):TT:=λ W H Q=>t W H λ c H1=>if c=true then Q true H1 else u W H1 Q
def cj4 (t:TT):TT:=λ W H Q=>t W H λ c H1=>Q (!c) H1
theorem bz3 (ha:PT X a tA):PW X (.BoolOp .And [a] pos) tA:=by
 intro F z s W H Q I h
 refine isTrue_and (thn (ha z s W H Q I h) λ c s1 e=>?_)
 cases c with
 | true=>exact isTrue_and_nil e
 | false=>exact e
theorem bP6 (ha:PT X a tA):PW X (.BoolOp .Or [a] pos) tA:=by
 intro F z s W H Q I h
 refine isTrue_or (thn (ha z s W H Q I h) λ c s1 e=>?_)
 cases c with
 | false=>exact isTrue_or_nil e
 | true=>exact e
theorem bs1 (ha:PT X a tA)(hb:PW X (.BoolOp .And (b::rest) pos) tB'):PW X (.BoolOp .And (a::b::rest) pos) (cj9 tA tB'):=by
 intro Y z s W H Q I h
 refine isTrue_and (thn (ha z s W H _ I h) λ c s1 ⟨J,G,F⟩=>?_)
 cases c with
 | true=>exact hb Y z s1 W J Q G F
 | false=>exact⟨J,G,F⟩
theorem bU3 (ha:PT X a tA)(hb:PW X (.BoolOp .Or (b::rest) pos) tB'):PW X (.BoolOp .Or (a::b::rest) pos) (tOr tA tB'):=by
 intro Y z s W H Q I h
 refine isTrue_or (thn (ha z s W H _ I h) λ c s1 ⟨J,G,F⟩=>?_)
 cases c with
 | true=>exact⟨J,G,F⟩
 | false=>exact hb Y z s1 W J Q G F
theorem bK6 (ha:PT X a tA):PT X (.UnaryOp .Not a pos) (cj4 tA):=by
 intro z s W H Q I h
 exact isTrue_not (ha z s W H (λ c F=>Q (!c) F) I h)
def bK0 (ta tb:TE):TE:=λ W H Q=>ta W H λ x H1=>∃ c,x=.bl c/\if c=true then tb W H1 Q else Q (.bl false) H1
def ch3 (ta tb:TE):TE:=λ W H Q=>ta W H λ x H1=>∃ c,x=.bl c/\if c=true then Q (.bl true) H1 else tb W H1 Q
def bU8 (ta:TE):TE:=λ W H Q=>ta W H λ x H1=>∃ c,x=.bl c/\Q (.bl (!c)) H1
theorem bq1 {op}{t:TE}(h:PE X a t):PE X (.BoolOp op [a] pos) t:=λ z s W H Q I hw=>BoolOp_one (h z s W H Q I hw)
theorem bs5 (ha:PE X a ta)(hb:PE X (.BoolOp .And (b::rest) pos) tb):PE X (.BoolOp .And (a::b::rest) pos) (bK0 ta tb):=by
 intro z s W H Q I h
 refine BoolOp_and (thn (ha z s W H _ I h) λ v s1 ⟨x,J,G,r1,F⟩=>?_)
 obtain⟨c,rfl,F⟩:=F
 cases r1
 refine bO ?_
 cases c with
 | true=>exact hb z s1 W J Q G F
 | false=>exact⟨.bl false,J,G,rfl,F⟩
theorem bL7 (ha:PE X a ta)(hb:PE X (.BoolOp .Or (b::rest) pos) tb):PE X (.BoolOp .Or (a::b::rest) pos) (ch3 ta tb):=by
 intro z s W H Q I h
 refine BoolOp_or (thn (ha z s W H _ I h) λ v s1 ⟨x,J,G,r1,F⟩=>?_)
 obtain⟨c,rfl,F⟩:=F
 cases r1
 refine bO ?_
 cases c with
 | false=>exact hb z s1 W J Q G F
 | true=>exact⟨.bl true,J,G,rfl,F⟩
theorem bV2 (ha:PE X a ta):PE X (.UnaryOp .Not a pos) (bU8 ta):=by
 intro z s W H Q I h
 refine UnaryOp_ (thn (ha z s W H _ I h) λ v s1 ⟨x,J,G,r1,F⟩=>?_)
 obtain⟨c,rfl,F⟩:=F
 cases r1
 exact not_of (bO ⟨.bl (!c),J,G,rfl,F⟩)
def tIf (t:TT)(ta tb:TE):TE:=λ W H Q=>t W H λ c H1=>if c=true then ta W H1 Q else tb W H1 Q
theorem bo3 {c:Expr}(hc:PT X c tA)(ha:PE X a ta)(hb:PE X b tb):PE X (.IfExp c a b pos) (tIf tA ta tb):=by
 intro z s W H Q I h
 refine wpAny_IfExp (thn (hc z s W H _ I h) λ d s1 ⟨J,G,F⟩=>?_)
 cases d with
 | true=>exact ha z s1 W J Q G F
 | false=>exact hb z s1 W J Q G F
end
def SqL (K:ae)(H:Hp)(a:Addr)(xs:List V):Prop :=
 Rd H a (.lst xs) \/
  ∃(o:Obj) (its:yJ) (n:Nat),K.lookup a=some o/\o.cls=.type "list"/\o.dict=none/\o.data=.seq its n/\its.size<=aM/\Vals xs its.toList
def SqT (K:ae)(H:Hp)(a:Addr)(xs:List V):Prop :=
 Rd H a (.tup xs) \/
  ∃(o:Obj) (its:yJ) (n:Nat),K.lookup a=some o/\o.cls=.type "tuple"/\o.data=.seq its n/\its.size<=aM/\Vals xs its.toList
noncomputable def cm7:Value->Option V
 | .none=>some .non
 | .bool b=>some (.bl b)
 | .int i _=>some (.int i)
 | .str x _=>some (.str x)
 | .bytes b _=>some (.byt b)
 | .float b _=>some (.flt b)
 | .ref a=>some (.ref a)
 | .type n=>some (.ty n)
 | _=>none
theorem RelV.abs {x:V}{u:Value}(r:RelV x u):cm7 u=some x:=by
 cases x with
 | non=>cases r;rfl
 | bl _=>cases r;rfl
 | int _=>obtain⟨t,rfl⟩:=r;rfl
 | str _=>obtain⟨t,rfl⟩:=r;rfl
 | byt _=>obtain⟨t,rfl⟩:=r;rfl
 | flt _=>obtain⟨t,rfl⟩:=r;rfl
 | ref _=>cases r;rfl
 | ty _=>cases r;rfl
theorem RelV.inj {x y:V}{u:Value}(r:RelV x u)(q:RelV y u):x=y:=aw (r.abs.symm.trans q.abs)
theorem Vals.inj:∀ {h ys:List V} {us:yG},Vals h us->Vals ys us->h=ys
 | _,_,_,.nil,.nil=>rfl
 | _,_,_,.cons r t,.cons r' t'=>by rw[r.inj r',Vals.inj t t']
section
variable {X:Cx} {pins:yA} {W:St} {H:Hp} {s:ag} {a:Addr} {xs ys:List V}
theorem SqL.of {K:ae}(h:H a=some (.lst xs)):SqL K H a xs:=.inl (.inl h)
theorem SqT.of {K:ae}(h:H a=some (.tup xs)):SqT K H a xs:=.inl (.inl h)
theorem Inv.list (I:Inv X pins W H s)(h:SqL X.K H a xs):∃ its:List Value,Vals xs its/\PlainL s.heap a its.toArray/\xs.length<=aM:=by
 rcases h with h|⟨o,its,n,hk,hc,hd,hs,hz,r⟩
 .obtain⟨z,its,n,r,e⟩:=h.ok I.hok
  exact⟨its,r,⟨_,n,e,rfl,rfl,rfl⟩,z⟩
 .refine⟨its.toList,r,⟨o,n,I.kIn a o hk,hc,hd,by simpa using hs⟩,?_⟩
  have e:=r.length
  simp only[dt]at e
  lia
theorem Inv.tuple (I:Inv X pins W H s)(h:SqT X.K H a xs):∃ its:List Value,Vals xs its/\IsTup s.heap a its.toArray/\xs.length<=aM:=by
 rcases h with h|⟨o,its,n,hk,hc,hs,hz,r⟩
 .obtain⟨z,its,r,p⟩:=h.ok I.hok
  exact⟨its,r,p,z⟩
 .refine⟨its.toList,r,⟨o,I.kIn a o hk,hc,n,by simpa using hs⟩,?_⟩
  have e:=r.length
  simp only[dt]at e
  omega
theorem Inv.list_inj (I:Inv X pins W H s)(h:SqL X.K H a xs)(h':SqL X.K H a ys):xs=ys:=by
 obtain⟨its,r,⟨o,n,e,_,_,d⟩,_⟩:=I.list h
 obtain⟨its',r',⟨z,F,e',_,_,d'⟩,_⟩:=I.list h'
 rw[e]at e';cases e'
 rw[d]at d'
 injection d' with d1 _
 have:its=its':=by simpa using congrArg iK d1
 subst this
 exact r.inj r'
theorem Inv.tuple_inj (I:Inv X pins W H s)(h:SqT X.K H a xs)(h':SqT X.K H a ys):xs=ys:=by
 obtain⟨its,r,⟨o,e,_,n,d⟩,_⟩:=I.tuple h
 obtain⟨its',r',⟨z,e',_,F,d'⟩,_⟩:=I.tuple h'
 rw[e]at e';cases e'
 rw[d]at d'
 injection d' with d1 _
 have:its=its':=by simpa using congrArg iK d1
 subst this
 exact r.inj r'
end
noncomputable abbrev Cx.wish (X:Cx)(E:Value->ag->Prop):Cx:={ X with xe:=E }
noncomputable abbrev Cx.nox (X:Cx):Cx:=X.wish λ _ _=>False
theorem Cx.Ok.wish {X:Cx}(ok:X.Ok)(E:Value->ag->Prop):(X.wish E).Ok :=
 ⟨ok.mod,ok.kind,ok.glob,ok.blt,ok.above,ok.inj,ok.has,ok.cab,ok.hd,ok.frames,ok.stk,ok.exf,ok.bs,ok.bsz,ok.noex,ok.exfs,ok.funs,ok.frf⟩
theorem Cx.Ok.unwish {X:Cx}{E:Value->ag->Prop}(ok:(X.wish E).Ok):X.Ok :=
 ⟨ok.mod,ok.kind,ok.glob,ok.blt,ok.above,ok.inj,ok.has,ok.cab,ok.hd,ok.frames,ok.stk,ok.exf,ok.bs,ok.bsz,ok.noex,ok.exfs,ok.funs,ok.frf⟩
section
variable {X:Cx} {pins:yA} {W:St} {H:Hp} {s:ag} {E:Value->ag->Prop}
theorem Inv.wish (I:Inv X pins W H s)(E:Value->ag->Prop):Inv (X.wish E) pins W H s:=⟨I.ok.wish E,I.os,I.bare,I.base,I.loc,I.cell,I.free,I.freeC,I.pin,I.hok,I.len⟩
theorem Inv.unwish (I:Inv (X.wish E) pins W H s):Inv X pins W H s:=⟨I.ok.unwish,I.os,I.bare,I.base,I.loc,I.cell,I.free,I.freeC,I.pin,I.hok,I.len⟩
theorem SP.unwish {D:Ends}{f:Flow}{s':ag}(h:SP (X.wish E) pins D f s'):SP X pins D f s':=by
 cases f with
 | next=>obtain⟨W',H',I,q⟩:=h;exact⟨W',H',I.unwish,q⟩
 | brk=>obtain⟨W',H',I,q⟩:=h;exact⟨W',H',I.unwish,q⟩
 | cont=>obtain⟨W',H',I,q⟩:=h;exact⟨W',H',I.unwish,q⟩
 | ret u=>obtain⟨v,W',H',I,r,q⟩:=h;exact⟨v,W',H',I.unwish,r,q⟩
theorem PSs.nox {st:yL}{t:TS}(h:PSs X.nox st t):PSs X st t:=λ F s W H D I hw =>
 bT (h F s W H D (I.wish _) hw) (λ _ _ q=>q.unwish) λ _ _ z=>bP z
end
section
variable {X:Cx} {st:Stmt} {rest:yL} {t u:TS} {e:Expr} {te:TE} {pos:Pos}
def bS7:TS:=λ D W H=>D.nx W H
noncomputable def ch2 (t u:TS):TS:=λ D W H=>t { D with nx:=u D } W H
theorem bH1:PSs X [] bS7:=λ _ _ W H _ I h=>gg ⟨W,H,I,h⟩
theorem bp3 (F:PS X st t)(J:PSs X rest u):PSs X (st::rest) (ch2 t u):=by
 intro z s W H D I h
 refine wpAny_execs_cons (thn (F z s W H { D with nx:=u D } I h) λ f s1 q=>?_)
 cases f with
 | next =>
  obtain⟨W',H',G,q⟩:=q
  exact J z s1 W' H' D G q
 | ret v=>exact q
 | brk=>exact q
 | cont=>exact q
theorem Inv.quiet {h:yA}{W:St}{H:Hp}{s:ag}(I:Inv X h W H s):interactive X.env=false:=by simp[interactive,I.ok.kind]
def bJ3 (te:TE):TS:=λ D W H=>te W H λ _ H1=>D.nx W H1
theorem bB2 (G:PE X e te)(hs:dZ e none pos.line X.env=pure false:=by rfl):PS X (.Expr e pos) (bJ3 te):=by
 intro z s W H D I h
 exact wpAny_Expr_any (thn (G z s W H _ I h) λ v s1 ⟨x,Y,J,r1,F⟩=>⟨W,Y,J,F⟩) I.quiet hs
def ci4 (te:TE):TS:=λ D W H=>te W H D.rt
theorem bU1 (G:PE X e te):PS X (.Return (some e) pos) (ci4 te):=by
 intro z s W H D I h
 exact wpAny_Return_some (thn (G z s W H _ I h) λ v s1 ⟨x,Y,J,r1,F⟩=>⟨x,W,Y,J,r1,F⟩)
def ch9 (c:TT)(t u:TS):TS:=λ D W H=>c W H λ b H1=>if b=true then t D W H1 else u D W H1
theorem cd9 {c:Expr}{a b:yL}{Y:TT}(hc:PT X c Y)(ha:PSs X a t)(hb:PSs X b u):PS X (.If c a b pos) (ch9 Y t u):=by
 intro z s W H D I h
 refine wpAny_If (thn (hc z s W H _ I h) λ d s1 ⟨J,G,F⟩=>?_)
 cases d with
 | true=>exact ha z s1 W J D G F
 | false=>exact hb z s1 W J D G F
end
abbrev TG:=V->St->Hp->(St->Hp->Prop)->Prop
abbrev TGs:=List V->St->Hp->(St->Hp->Prop)->Prop
def PG (X:Cx)(target:Expr)(t:TG):Prop :=
 ∀(pins:yA) (s:ag) (W:St) (H:Hp) (v:V) (u:Value) (Q:St->Hp->Prop),Inv X pins W H s->RelV v u->t v W H Q ->
  wpAny (model X.prog X.w) X.A (fQ target X.env u) (λ _ s'=>∃ W' H',Inv X pins W' H' s'/\Q W' H') X.xe s
def PGs (X:Cx)(ts:yK)(t:TGs):Prop :=
 ∀(pins:yA) (s:ag) (W:St) (H:Hp) (vs:List V) (us:yG) (Q:St->Hp->Prop),Inv X pins W H s->Vals vs us->t vs W H Q ->
  wpAny (model X.prog X.w) X.A (assignInOrder ((cu ts X.env).map (·.2)) us) (λ _ s'=>∃ W' H',Inv X pins W' H' s'/\Q W' H') X.xe s
abbrev bY6:=V->V->V->Hp->(Hp->Prop)->Prop
def cc6 (X:Cx)(t:bY6):Prop :=
 ∀(pins:yA) (s:ag) (W:St) (H:Hp) (o i v:V) (ov iv u:Value) (Q:Hp->Prop),Inv X pins W H s->RelV o ov->RelV i iv->RelV v u->t o i v H Q ->
  wpAny (model X.prog X.w) X.A (setItem ov iv u) (λ _ s'=>∃ H',Inv X pins W H' s'/\Q H') X.xe s
section
variable {X:Cx} {pos:Pos}
def ax6 (i:Nat):TG:=λ v W H Q=>Q (W.set i (some v)) H
theorem aV8 {i:Nat}{x:Str}(hN:X.N.Nodup)(J:X.N[i]?=some x)(hx:Loc X.env.scope x)(F:X.fn x=true\/X.env.scope.names.lookup x=some .local:=by first|exact .inl rfl|exact .inr rfl|assumption):PG X (.Name x pos) (ax6 i):=by
 intro z s W H v u Q I r h
 exact iL (aJ9 I hN J hx r (λ s' G=>⟨_,H,G,h⟩) F)
def cj0:TGs:=λ vs W H Q=>vs=[]/\Q W H
def bL5 (t:TG)(u:TGs):TGs:=λ vs W H Q=>∃ v r,vs=v::r/\t v W H λ W' H'=>u r W' H' Q
theorem bD4:PGs X [] cj0:=by
 intro z s W H vs us Q I r h
 obtain⟨e,h⟩:=h
 subst e
 cases r
 exact assignInOrder_nil ⟨W,H,I,h⟩
theorem bi8 {e:Expr}{es:yK}{t:TG}{u:TGs}(G:PG X e t)(Z:PGs X es u)
  (hs:(cu (e::es) X.env).map (·.2)=fQ e X.env::(cu es X.env).map (·.2):=by rfl):PGs X (e::es) (bL5 t u):=by
 intro z s W H vs us Q I r h
 obtain⟨v,vr,e1,h⟩:=h
 subst e1
 cases r with
 | cons r rr =>
  rw[hs]
  refine assignInOrder_cons (thn (G z s W H _ _ _ I r h) λ _ s1 ⟨W1,J,Y,F⟩=>?_)
  exact Z z s1 W1 J _ _ Q Y rr F
def cc4 (K:ae)(n:Nat)(t:TGs):TG:=λ v W H Q=>∃ a xs,v=.ref a/\SqT K H a xs/\xs.length=n/\t xs W H Q
theorem bU6 {es:yK}{k:Nat}{t:TGs}{n:Nat}(hc:X.calm=true)(h:PGs X es t)
  (hn:(cu es X.env).length=n:=by rfl) (F:(cu es X.env).findIdx? (·.1)=none:=by rfl):PG X (.Tuple es k pos) (cc4 X.K n t):=by
 intro z s W H v u Q I r hw
 obtain⟨a,J,e1,hq,hl,hw⟩:=hw
 subst e1
 cases r
 obtain⟨its,G,ht,hz⟩:=I.tuple hq
 refine assign_Tuple_tuple (I.ok.hd hc) ht (by simp[hn,<-hl,G.length]) F λ h' hx=>?_
 have Y:Inv X z W H { s with heap:=h' }:=I.kept (t':=s.toks) λ b o e=>hx b o (aC (aN e)) e
 exact h z _ W H J _ Q Y (by simpa using G) hw
def cj1 (to ti:TE)(t:bY6):TG:=λ v W H Q=>to W H λ o H1=>ti W H1 λ i H2=>t o i v H2 λ H3=>Q W H3
theorem bP7 {o i:Expr}{G F:TE}{t:bY6}(ho:PE X o G)(Z:PE X i F)(hs:cc6 X t)
  (ha:∀ v,fQ (.Subscript o i pos) X.env v=(do
   let ov <- fP [v] (eval o X.env)
   let iv <- fP [v,ov] (eval i X.env)
   iJ pos
   fP [v,ov,iv] (setItem ov iv v)
   release [v,ov,iv] []):=by intro _;rfl):PG X (.Subscript o i pos) (cj1 G F t):=by
 intro z s W H v u Q I r h
 rw[ha]
 refine ar (d7 (thn (ho z s W H _ I h) λ ov s1 ⟨x,H1,I1,r1,q1⟩=>?_))
 refine ar (d7 (thn (Z z s1 W H1 _ I1 q1) λ iv s2 ⟨y,J,I2,r2,q2⟩=>?_))
 refine ar (hZ (ar (d7 (thn (hs z s2 W J x y v ov iv u _ I2 r1 r2 r q2) λ _ s3 ⟨Y,I3,q3⟩=>?_))))
 exact wpAny_release ⟨W,Y,I3,q3⟩
def bm4 (te:TE)(g:TG):TS:=λ D W H=>te W H λ x H1=>g x W H1 D.nx
theorem bt2 {tg e:Expr}{F:TE}{g:TG}(Y:PE X e F)(hg:PG X tg g)(hs:swapsWithSole [tg] e pos.line X.env=pure false:=by rfl)(hw:h8 [tg] e X.env=pure none:=by rfl)
  (J:(cu [tg] X.env).map (·.2)=[fQ tg X.env]:=by rfl):PS X (.Assign [tg] e pos) (bm4 F g):=by
 intro z s W H D I h
 refine wpAny_Assign_stores (thn (Y z s W H _ I h) λ v s1 ⟨x,H1,Z,r1,G⟩=>?_) hs hw
 rw[J]
 exact thn (hg z s1 W H1 x v _ Z r1 G) λ _ s2 q=>q
theorem bt6 {i:Nat}{x:Str}{e:Expr}{G:TE}{z:Pos}(hN:X.N.Nodup)(Z:X.N[i]?=some x)(hx:Loc X.env.scope x)(Y:PE X e G)(hs:dZ e (some (.Name x z)) pos.line X.env=pure false:=by rfl)(J:X.fn x=true\/X.env.scope.names.lookup x=some .local:=by first|exact .inl rfl|exact .inr rfl|assumption) :
  PS X (.Assign [.Name x z] e pos) (bm4 G (ax6 i)):=by
 intro F s W H D I h
 refine wpAny_Assign_Name (thn (Y F s W H _ I h) λ v s1 ⟨y,H1,I1,r1,q1⟩=>?_) hs
 exact aJ9 I1 hN Z hx r1 (λ s2 I2=>⟨_,H1,I2,q1⟩) J
end
section
variable {X:Cx} {pos:Pos}
def br9 (c:TT)(tb:TS):TS:=λ D W H=>∃ Ww:Nat->St->Hp->Prop,(∃ m,Ww m W H)/\∀ m W H,Ww m W H ->
 c W H λ b H1=>if b=true then ∃ N:St->Hp->Prop,(∀ W' H',N W' H'->∃ m',m'<m/\Ww m' W' H')/\tb { D with nx:=N,ct:=N,bk:=D.nx } W H1 else D.nx W H1
theorem be8 {c:Expr}{body:yL}{tc:TT}{tb:TS}(hp:PassesOwn (model X.prog X.w) X.A X.env X.xe)(hc:PT X c tc)(hb:PSs X body tb):PS X (.While c body [] pos) (br9 tc tb):=by
 intro z s W H D I h
 obtain⟨Ww,⟨m0,w0⟩,turn⟩:=h
 refine wpAny_While (codeAny_whileLoop (λ n s'=>∃ W' H',Inv X z W' H' s'/\Ww n W' H') ?_ m0 ⟨W,H,I,w0⟩)
 rintro n s1 ⟨W1,H1,I1,w1⟩
 refine cF hp (thn (hc z s1 W1 H1 _ I1 (turn n W1 H1 w1)) λ b s2 ⟨H2,I2,q2⟩=>?_)
 cases b with
 | true =>
  obtain⟨N,hN,q2⟩:=q2
  rw[if_pos rfl]
  refine cF hp (thn (hb z s2 W1 H2 _ I2 q2) λ f s3 q3=>?_)
  cases f with
  | next =>
   obtain⟨W3,F,J,G⟩:=q3
   obtain⟨m',Y,Z⟩:=hN W3 F G
   exact⟨m',Y,W3,F,J,Z⟩
  | cont =>
   obtain⟨W3,F,J,G⟩:=q3
   obtain⟨m',Y,Z⟩:=hN W3 F G
   exact⟨m',Y,W3,F,J,Z⟩
  | brk=>exact q3
  | ret v=>exact q3
 | false =>
  rw[if_neg aW]
  exact gg ⟨W1,H2,I2,q2⟩
end
structure It where
 go:Nat->Hp->Prop
 yld:Nat->Hp->V->Hp->Prop
 stop:Nat->Hp->Prop
def FpOk (X:Cx)(pins:yA)(H:Hp)(b:Addr):Prop :=
 H b=none/\b≠X.env.locals/\b ∉ X.fs/\(b∈X.ex\/X.s₀.heap.objs.size<=b)/\(∀ x c,X.env.cells.lookup x=some c->c≠b)/\∀ p∈X.pn++pins,p.1≠b
theorem Inv.fpOk {X:Cx}{h:yA}{W:St}{H H':Hp}{s:ag}{b:Addr}(I:Inv X h W H s)(hb:s.heap.objs.size<=b)(hn:H' b=none):FpOk X h H' b:=by
 refine⟨hn,iM (aA I.lt hb),I.nofs hb,.inr (aj I.sz hb),λ x c e z=>?_,λ p F z=>?_⟩
 .obtain⟨v,q⟩:=I.cell x c e
  exact absurd (aA q.lt (by rw[z];exact hb)) (bA _)
 .exact absurd (aA (aN (I.pin p F).1) (by rw[z];exact hb)) (bA _)
structure Turn (P:aE)(w:World)(K:ae)(tg:Expr)(J:It)(fp:List Addr)(it:Addr)(tn:Nat->Heap->Prop):Prop where
 mem:it∈fp
 obj:∀ i h,tn i h->∀ b∈fp,∃ o,h.get? b=some o/\∀ v,o.data≠.cell v
 keep:∀ i h h',tn i h->(∀ b∈fp,∀ o,h.get? b=some o->h'.get? b=some o)->tn i h'
 item:∀(X:Cx),X.prog=P->X.w=w->X.K=K->X.calm=true->∀(i:Nat) (pins:yA) (s:ag) (W:St) (H:Hp) (E:Value->ag->Prop),Inv X pins W H s->(∀ b∈fp,FpOk X pins H b)->tn i s.heap->J.go i H ->
  wpAny (model P w) X.A (pyNext (.ref it)) (λ r s1=>∃ u,r=some u /\
   wpAny (model P w) X.A (eG tg (.ref it) u) (λ _ s2=>∃ x H',Inv X pins W H' s2/\RelV x u/\J.yld i H x H'/\tn (i+1) s2.heap/\∀ b∈fp,H' b=none) E s1) E s
 done:∀(X:Cx),X.prog=P->X.w=w->X.K=K->X.calm=true->∀(i:Nat) (pins:yA) (s:ag) (W:St) (H:Hp) (E:Value->ag->Prop),Inv X pins W H s->(∀ b∈fp,FpOk X pins H b)->tn i s.heap->J.stop i H ->
  wpAny (model P w) X.A (pyNext (.ref it)) (λ r s1=>r=none/\Inv X pins W H s1) E s
 self:∀(A:a7) (i:Nat) (s:ag) (Q:Value->ag->Prop) (E:Value->ag->Prop),tn i s.heap->Q (.ref it) s->wpAny (model P w) A (j9 (.ref it)) Q E s
abbrev TI:=St->Hp->(It->Hp->Prop)->Prop
def PIE (X:Cx)(pins:yA)(W:St)(tg:Expr)(R:It->Hp->Prop)(itv:Value)(s2:ag):Prop :=
 ∃(it:Addr) (fp:List Addr) (tn:Nat->Heap->Prop) (J:It) (H':Hp),itv=.ref it/\Inv X pins W H' s2/\Turn X.prog X.w X.K tg J fp it tn/\tn 0 s2.heap/\(∀ b∈fp,FpOk X pins H' b)/\R J H'
def PI (X:Cx)(tg iter:Expr)(wi:TI):Prop :=
 ∀(pins:yA) (s:ag) (W:St) (H:Hp) (R:It->Hp->Prop),Inv X pins W H s->wi W H R ->
  wpAny (model X.prog X.w) X.A (eval iter X.env) (λ v s1=>wpAny (model X.prog X.w) X.A (j9 v) (PIE X pins W tg R) X.xe s1) X.xe s
theorem aQ4 {M : Model} {A : Around} {E : Value -> Shared -> Prop} {s : Shared} {tg : Expr} {it : Addr} {u : Value} {o : Obj} {n : String} {vs : Array Value} {Q : Unit -> Shared -> Prop} (ho : s.heap.get? it = some o) (hc : o.cls = .type n) (hd : o.data = .fields vs)
    (hn : ["enumerate", "zip", "dict_itemiterator", "dict_reverseitemiterator", "odict_iterator", "itertools.zip_longest", "itertools.pairwise"].contains n = false) (hQ : Q () s) : wpAny M A (eG tg (.ref it) u) Q E s := by
  unfold eG
  cases tg <;> first
    | exact aJ hQ
    | (cases u <;> first
        | exact aJ hQ
        | (refine ar (wpAny_load ho ?_)
           rw[hc, hd]
           show wpAny M A (if(["enumerate", "zip", "dict_itemiterator", "dict_reverseitemiterator", "odict_iterator", "itertools.zip_longest", "itertools.pairwise"].contains n && vs[0]? == some (rawInt _)) = true then _ else _) Q E s
           rw[if_neg (by intro h; rw[hn, jD]at h; cases h)]
           exact aJ hQ))
noncomputable def Itl (K:ae)(a:Addr):It :=
 ⟨λ i H=>∃ xs x,SqL K H a xs/\xs[i]?=some x,λ i H x H'=>H'=H/\∀ xs,SqL K H a xs->xs[i]?=some x,λ i H=>∃ xs,SqL K H a xs/\xs.length<=i⟩
noncomputable def Itt (K:ae)(a:Addr):It :=
 ⟨λ i H=>∃ xs x,SqT K H a xs/\xs[i]?=some x,λ i H x H'=>H'=H/\∀ xs,SqT K H a xs->xs[i]?=some x,λ i H=>∃ xs,SqT K H a xs/\xs.length<=i⟩
noncomputable def Itr (lo:Int)(n:Nat):It:=⟨λ i _=>i<n,λ i H x H'=>H'=H/\x=.int (lo+i),λ i _=>n<=i⟩
theorem aY2 {P:aE}{w:World}{K:ae}{tg:Expr}(a it:Addr):Turn P w K tg (Itl K a) [it] it (λ i h=>h.IsListIter it a i) where
 mem:=by simp
 obj:=λ i h st b hb=>by
  have e:b=it:=by simpa using hb
  subst e
  obtain⟨o,e,c,d⟩:=st
  exact⟨o,e,λ v z=>by rw[d]at z;cases z⟩
 keep:=λ i h h' st k=>st.at λ o e=>k it (by simp) o e
 item:=by
  intro X hP hw hK hc i F s W H E I J st hg
  subst hP hw hK
  obtain⟨xs,x,hq,hx⟩:=hg
  obtain⟨its,rv,p,hz⟩:=I.list hq
  obtain⟨u,hu,ru⟩:=rv.get hx
  obtain⟨f0,Y,f2,f3,f4,Z⟩:=J it (by simp)
  refine wpAny_pyNext_list_item st p.isList (x:=u) (by simpa using hu) λ h' G sb=>?_
  have I1:Inv X F W H { s with heap:=h' }:=I.turned (t':=s.toks) (λ b o hb e=>(sb.2 b hb).trans e) f0 Y f3 f4 Z
  obtain⟨o,e,c,d⟩:=id G
  exact⟨u,rfl,aQ4 (s:={ s with heap:=h' }) e c d (by decide) ⟨x,H,I1,ru,⟨rfl,λ ys hy=>by rw[I.list_inj hy hq];exact hx⟩,G,λ b hb=>(J b hb).1⟩⟩
 done:=by
  intro X hP hw hK hc i F s W H E I J st hg
  subst hP hw hK
  obtain⟨xs,hq,hx⟩:=hg
  obtain⟨its,rv,p,hz⟩:=I.list hq
  obtain⟨f0,Y,f2,f3,f4,Z⟩:=J it (by simp)
  have hl:=rv.length
  exact wpAny_pyNext_list_end (I.ok.hd hc) st p.isList (by simp;lia) λ h' eb=>⟨rfl,I.turned (t':=s.toks) (λ b o hb e=>eb b o hb e) f0 Y f3 f4 Z⟩
 self:=λ _ _ _ _ _ st h=>wpAny_pyIter_listiter st h
theorem aO1 {P:aE}{w:World}{K:ae}{tg:Expr}(a it:Addr):Turn P w K tg (Itt K a) [it] it (λ i h=>h.IsTupleIter it a i) where
 mem:=by simp
 obj:=λ i h st b hb=>by
  have e:b=it:=by simpa using hb
  subst e
  obtain⟨o,e,c,d⟩:=st
  exact⟨o,e,λ v z=>by rw[d]at z;cases z⟩
 keep:=λ i h h' st k=>st.at λ o e=>k it (by simp) o e
 item:=by
  intro X hP hw hK hc i F s W H E I J st hg
  subst hP hw hK
  obtain⟨xs,x,hq,hx⟩:=hg
  obtain⟨its,rv,p,hz⟩:=I.tuple hq
  obtain⟨u,hu,ru⟩:=rv.get hx
  obtain⟨f0,Y,f2,f3,f4,Z⟩:=J it (by simp)
  refine wpAny_pyNext_tuple_item st (show s.heap.IsTuple a its.toArray from p) (x:=u) (by simpa using hu) λ h' G sb=>?_
  have I1:Inv X F W H { s with heap:=h' }:=I.turned (t':=s.toks) (λ b o hb e=>(sb.2 b hb).trans e) f0 Y f3 f4 Z
  obtain⟨o,e,c,d⟩:=id G
  exact⟨u,rfl,aQ4 (s:={ s with heap:=h' }) e c d (by decide) ⟨x,H,I1,ru,⟨rfl,λ ys hy=>by rw[I.tuple_inj hy hq];exact hx⟩,G,λ b hb=>(J b hb).1⟩⟩
 done:=by
  intro X hP hw hK hc i F s W H E I J st hg
  subst hP hw hK
  obtain⟨xs,hq,hx⟩:=hg
  obtain⟨its,rv,p,hz⟩:=I.tuple hq
  obtain⟨f0,Y,f2,f3,f4,Z⟩:=J it (by simp)
  have hl:=rv.length
  exact wpAny_pyNext_tuple_end (I.ok.hd hc) st (show s.heap.IsTuple a its.toArray from p) (by simp;omega) λ h' eb=>⟨rfl,I.turned (t':=s.toks) (λ b o hb e=>eb b o hb e) f0 Y f3 f4 Z⟩
 self:=λ _ _ _ _ _ st h=>wpAny_pyIter_tupleiter st h
theorem aP9 {P:aE}{w:World}{K:ae}{tg:Expr}(it:Addr)(Y:Int)(n:Nat):Turn P w K tg (Itr Y n) [it] it (λ i h=>gD h it (Y+(i:Nat)*1) ((n:Int) - (i:Nat)) 1) where
 mem:=by simp
 obj:=λ i h st b hb=>by
  have e:b=it:=by simpa using hb
  subst e
  exact⟨_,st,λ v z=>by
   have z':Data.fields _=Data.cell v:=z
   cases z'⟩
 keep:=λ i h h' st k=>k it (by simp) _ st
 item:=by
  intro X hP hw hK hc i F s W H E I J st hg
  subst hP hw hK
  obtain⟨f0,Z,f2,f3,f4,f5⟩:=J it (by simp)
  have Ww:=kq (prog:=X.prog) (w:=X.w) (I.ok.hd hc) it Y 1 n
  refine Ww.item i s _ _ hg st λ v h' tk hv G kk=>?_
  obtain⟨t,rfl⟩:=hv
  have I1:Inv X F W H { s with heap:=h',toks:=tk }:=I.turned (λ b o hb e=>kk b o (by simpa using hb) e) f0 Z f3 f4 f5
  refine⟨_,rfl,aQ4 (s:={ s with heap:=h',toks:=tk }) (n := "range_iterator") G rfl rfl (by decide) ⟨.int (Y+i),H,I1,⟨t,?_⟩,⟨rfl,rfl⟩,G,λ b hb=>(J b hb).1⟩⟩
  rw[Int.mul_one]
 done:=by
  intro X hP hw hK hc i F s W H E I J st hg
  subst hP hw hK
  obtain⟨f0,Z,f2,f3,f4,f5⟩:=J it (by simp)
  exact fR (I.ok.hd hc) st (by have:n<=i:=hg;lia) λ h' eb=>⟨rfl,I.turned (t':=s.toks) (λ b o hb e=>eb b o hb e) f0 Z f3 f4 f5⟩
 self:=λ _ _ _ _ _ st h=>fS st h
section
variable {X:Cx} {tg:Expr}
def bB7 (K:ae)(tl:TE):TI:=λ W H R=>tl W H λ x H1=>∃ a,x=.ref a/\(∃ xs,SqL K H1 a xs)/\R (Itl K a) H1
def cc5 (K:ae)(tl:TE):TI:=λ W H R=>tl W H λ x H1=>∃ a,x=.ref a/\(∃ xs,SqT K H1 a xs)/\R (Itt K a) H1
theorem bD6 {l:Expr}{G:TE}(hl:PE X l G):PI X tg l (bB7 X.K G):=by
 intro z s W H R I h
 refine thn (hl z s W H _ I h) λ v s1 ⟨x,Y,F,r1,J⟩=>?_
 obtain⟨a,e,⟨Z,hq⟩,q⟩:=J
 subst e
 cases r1
 obtain⟨its,rv,p,hz⟩:=F.list hq
 refine c7 p.isList ?_
 refine⟨s1.heap.objs.size,[s1.heap.objs.size],_,_,Y,rfl,F.kept (t':=s1.toks) λ b o e=>aq _ e,aY2 a _,⟨_,aV _ rfl,rfl,rfl⟩,λ b hb=>?_,q⟩
 have e:b=s1.heap.objs.size:=by simpa using hb
 subst e
 exact F.fpOk (ah _) (F.hok.fresh (ah _))
theorem bT5 {l:Expr}{G:TE}(hl:PE X l G):PI X tg l (cc5 X.K G):=by
 intro z s W H R I h
 refine thn (hl z s W H _ I h) λ v s1 ⟨x,Y,F,r1,J⟩=>?_
 obtain⟨a,e,⟨Z,hq⟩,q⟩:=J
 subst e
 cases r1
 obtain⟨its,rv,p,hz⟩:=F.tuple hq
 refine iq (show s1.heap.IsTuple a its.toArray from p) ?_
 refine⟨s1.heap.objs.size,[s1.heap.objs.size],_,_,Y,rfl,F.kept (t':=s1.toks) λ b o e=>aq _ e,aO1 a _,⟨_,aV _ rfl,rfl,rfl⟩,λ b hb=>?_,q⟩
 have e:b=s1.heap.objs.size:=by simpa using hb
 subst e
 exact F.fpOk (ah _) (F.hok.fresh (ah _))
theorem aL7 {F:yA}{W:St}{H:Hp}{s:ag}{R:It->Hp->Prop}{E:Value->ag->Prop}{h z:Int}{t u v:Tok}{tk:Nat}(I:Inv X F W H s)(J:-(2^62)<=h)(Z:h<2^62)(h3:-(2^62)<=z)(Y:z<2^62)
  (q:R (Itr h (z - h).toNat) H):wpAny (model X.prog X.w) X.A (j9 (.ref s.heap.objs.size)) (PIE X F W tg R) E { s with heap:=s.heap.push { cls:=.type "range",data:=.fields #[.int h t,.int z u,.int 1 v] },toks:=tk }:=by
 refine iu (kr ..) (small_one J Z h3 Y) ?_
 have G:Inv X F W H { s with heap:=s.heap.push { cls:=.type "range",data:=.fields #[.int h t,.int z u,.int 1 v] },toks:=tk }:=I.kept λ b o e=>aq _ e
 refine⟨(s.heap.push { cls:=.type "range",data:=.fields #[.int h t,.int z u,.int 1 v] }).objs.size,[(s.heap.push { cls:=.type "range",data:=.fields #[.int h t,.int z u,.int 1 v] }).objs.size],_,_,H,rfl,
  G.kept (t':=tk) λ b o e=>aq _ e,aP9 _ h (z - h).toNat,?_,λ b hb=>?_,q⟩
 .have e1:h+((0:Nat):Int)*1=h:=by simp
  have e2:(((z - h).toNat:Nat):Int) - ((0:Nat):Int)=cM h z 1:=by rw[rangeSize_one];split<;>lia
  show gD _ _ (h+((0:Nat):Int)*1) ((((z - h).toNat:Nat):Int) - ((0:Nat):Int)) 1
  rw[e1,e2]
  exact aV _ rfl
 .have e:b=(s.heap.push { cls:=.type "range",data:=.fields #[.int h t,.int z u,.int 1 v] }).objs.size:=by simpa using hb
  subst e
  exact G.fpOk (ah _) (G.hok.fresh (ah _))
def bS4 (ta:TA):TI:=λ W H R=>ta W H λ vs H1=>∃ j:Int,vs=[.int j]/\-(2^62)<=j/\j<2^62/\R (Itr 0 j.toNat) H1
def bW7 (ta:TA):TI:=λ W H R=>ta W H λ vs H1=>∃ i j:Int,vs=[.int i,.int j]/\(-(2^62)<=i/\i<2^62/\-(2^62)<=j/\j<2^62)/\R (Itr i (j - i).toNat) H1
theorem aW7 {a:Expr}{G:TA}{p pos:Pos}(hg:Gl X "range")(J:X.mg "range"=none)(ha:PA X [a] G)(hs:aY [a] X.env=[(false,eval a X.env)]:=by rfl):PI X tg (.Call (.Name "range" p) [a] [] pos) (bS4 G):=by
 intro z s W H R I h
 refine Call_ (aq9 I hg J jE (cg (thn (ha pos z s W H _ I h) λ us s1 ⟨vs,Z,Y,r1,F⟩=>?_) hs rfl))
 obtain⟨j,e,F,q2,q⟩:=F
 subst e
 cases r1 with
 | cons r rr =>
  cases rr
  obtain⟨t,rfl⟩:=r
  exact call_range_1 (aL7 Y (by lia) (by lia) F q2 (by simpa using q))
theorem aX3 {a b:Expr}{J:TA}{p pos:Pos}(hg:Gl X "range")(Y:X.mg "range"=none)(ha:PA X [a,b] J)(hs:aY [a,b] X.env=[(false,eval a X.env),(false,eval b X.env)]:=by rfl)(z:aY [b] X.env=[(false,eval b X.env)]:=by rfl) :
  PI X tg (.Call (.Name "range" p) [a,b] [] pos) (bW7 J):=by
 intro F s W H R I h
 refine Call_ (aq9 I hg Y jE (cg (thn (ha pos F s W H _ I h) λ us s1 ⟨vs,H1,Z,r1,G⟩=>?_) (by rw[hs,z]) (by rw[z];rfl)))
 obtain⟨i,j,e,⟨G,q2,q3,q4⟩,q⟩:=G
 subst e
 cases r1 with
 | cons r rr =>
  cases rr with
  | cons r' rr =>
   cases rr
   obtain⟨t,rfl⟩:=r
   obtain⟨t',rfl⟩:=r'
   exact call_range_2 (aL7 Z G q2 q3 q4 q)
def cd4 (wi:TI)(g:TG)(tb:TS):TS:=λ D W H=>wi W H λ J H1=>∃ Ww:Nat->Nat->St->Hp->Prop,(∃ m,Ww 0 m W H1)/\∀ i m W H,Ww i m W H ->
 (J.stop i H/\D.nx W H)\/(J.go i H/\∃ N:St->Hp->Prop,(∀ W' H',N W' H'->∃ m',m'<m/\Ww (i+1) m' W' H')/\∀ x H',J.yld i H x H'->g x W H' λ W2 H2=>tb { D with nx:=N,ct:=N,bk:=D.nx } W2 H2)
noncomputable def az3 (fp:List Addr)(h:Heap):List (Addr×Obj):=fp.filterMap λ b=>(h.get? b).map λ o=>(b,o)
theorem qv {z:List Addr}{h:Heap}{b:Addr}{o:Obj}(hb:b∈z)(e:h.get? b=some o):(b,o)∈az3 z h:=eX.mpr ⟨b,hb,by rw[e];rfl⟩
theorem bb1 {z:List Addr}{h:Heap}{p:Addr×Obj}(F:p∈az3 z h):p.1∈z/\h.get? p.1=some p.2:=by
 obtain⟨b,hb,e⟩:=eX.mp F
 cases q:h.get? b with
 | none=>rw[q]at e;cases e
 | some o =>
  rw[q]at e
  have e':(b,o)=p:=aw e
  subst e'
  exact⟨hb,q⟩
theorem Inv.pinned {h:yA}{W:St}{H:Hp}{s:ag}{F:List Addr}(I:Inv X h W H s)(J:∀ b∈F,FpOk X h H b)(ho:∀ b∈F,∃ o,s.heap.get? b=some o/\∀ v,o.data≠.cell v):Inv X (h++az3 F s.heap) W H s :=
 I.pins_of λ p Z=>(aO.mp Z).elim (λ z=>I.pin p (a8 _ z)) λ z=>by
  obtain⟨hb,e⟩:=bb1 z
  obtain⟨Y,G,f2,_⟩:=J p.1 hb
  obtain⟨o,e',d⟩:=ho p.1 hb
  rw[e]at e';cases e'
  exact⟨e,Y,G,f2,d⟩
theorem Inv.unpinned {h pl:yA}{W:St}{H:Hp}{s:ag}(I:Inv X (h++pl) W H s):Inv X h W H s:=I.pins_of λ p z=>I.pin p (a8 _ (bZ _ z))
theorem br1 {iter:Expr}{body:yL}{wi:TI}{g:TG}{tb:TS}{pos:Pos}(hp:PassesOwn (model X.prog X.w) X.A X.env X.xe)(hc:X.calm=true)(hi:PI X tg iter wi)(hg:PG X tg g)(hb:PSs X body tb)
  (hs:∀ x,c8 iter X.env x=pure x:=by intro _;rfl):PS X (.For tg iter body [] pos) (cd4 wi g tb):=by
 intro z s W H D I h
 refine wpAny_For (thn (hi z s W H _ I h) λ v s1 h1=>thn h1 λ a6 s2 h2=>?_) hs
 obtain⟨it,fp,tn,J,H2,e,I2,T,a5,f2,Ww,⟨m0,w0⟩,turn⟩:=h2
 subst e
 have G:∀ {H':Hp},(∀ b∈fp,H' b=none)->∀ b∈fp,FpOk X z H' b:=λ hn b hb=>⟨hn b hb,(f2 b hb).2⟩
 refine codeAny_forLoop_any (λ n s'=>∃ i W' H',Inv X z W' H' s'/\tn i s'.heap/\(∀ b∈fp,H' b=none)/\Ww i n W' H') ?_ m0 ⟨0,W,H2,I2,a5,λ b hb=>(f2 b hb).1,w0⟩
 rintro n s3 ⟨i,W3,H3,I3,a1,a2,w3⟩
 rcases turn i n W3 H3 w3 with⟨stop,qn⟩|⟨go,N,hN,step⟩
 .refine cF hp (thn (T.done X rfl rfl rfl hc i z s3 W3 H3 X.xe I3 (G a2) a1 stop) λ r s4 ⟨hr,I4⟩=>?_)
  subst hr
  exact gg ⟨W3,H3,I4,qn⟩
 .refine cF hp (thn (T.item X rfl rfl rfl hc i z s3 W3 H3 X.xe I3 (G a2) a1 go) λ r s4 ⟨u,hr,h4⟩=>?_)
  subst hr
  refine cF hp (thn h4 λ _ s5 ⟨x,H5,I5,r5,y5,a0,a3⟩=>?_)
  have a4:=I5.pinned (G a3) (T.obj _ _ a0)
  refine cF hp (thn (hg _ s5 W3 H5 x u _ a4 r5 (step x H5 y5)) λ _ s6 ⟨W6,H6,I6,q6⟩=>?_)
  refine cF hp (thn (hb _ s6 W6 H6 _ I6 q6) λ f s7 q7=>?_)
  have F:∀ {W7:St} {Y:Hp},Inv X (z++az3 fp s5.heap) W7 Y s7->N W7 Y->∃ m,m<n/\∃ i W' H',Inv X z W' H' s7/\tn i s7.heap/\(∀ b∈fp,H' b=none)/\Ww i m W' H':=λ {W7 Y} Z n7=>by
   obtain⟨m',hm,w7⟩:=hN W7 Y n7
   refine⟨m',hm,i+1,W7,Y,Z.unpinned,T.keep _ _ _ a0 λ b hb o e=>(Z.pin (b,o) (a8 _ (a8 _ (qv hb e)))).1,λ b hb=>?_,w7⟩
   obtain⟨o,e,d⟩:=T.obj _ _ a0 b hb
   exact(Z.pin (b,o) (a8 _ (a8 _ (qv hb e)))).2.1
  cases f with
  | next=>obtain⟨W7,Y,Z,n7⟩:=q7;exact F Z n7
  | cont=>obtain⟨W7,Y,Z,n7⟩:=q7;exact F Z n7
  | brk=>obtain⟨W7,Y,Z,q7⟩:=q7;exact⟨W7,Y,Z.unpinned,q7⟩
  | ret v=>obtain⟨x7,W7,Y,Z,r7,q7⟩:=q7;exact⟨x7,W7,Y,Z.unpinned,r7,q7⟩
end
abbrev R2:=V->V->Hp->VK->Prop
def OpR (X:Cx)(f:Value->Value->Sem Value)(r:R2):Prop :=
 ∀(pins:yA) (s:ag) (W:St) (H:Hp) (x y:V) (v u:Value) (Q:VK),Inv X pins W H s->RelV x v->RelV y u->r x y H Q ->
  wpAny (model X.prog X.w) X.A (f v u) (EP X pins W Q) X.xe s
def UnR (X:Cx)(f:Value->Sem Value)(r:V->Hp->VK->Prop):Prop :=
 ∀(pins:yA) (s:ag) (W:St) (H:Hp) (x:V) (v:Value) (Q:VK),Inv X pins W H s->RelV x v->r x H Q ->
  wpAny (model X.prog X.w) X.A (f v) (EP X pins W Q) X.xe s
def ac0 (X:Cx)(f:Value)(r:List V->Hp->VK->Prop):Prop :=
 ∀(pins:yA) (s:ag) (W:St) (H:Hp) (xs:List V) (us:yG) (Q:VK),Inv X pins W H s->Vals xs us->r xs H Q ->
  wpAny (model X.prog X.w) X.A (call f us) (EP X pins W Q) X.xe s
def tOp (r:R2)(ta tb:TE):TE:=λ W H Q=>ta W H λ x H1=>tb W H1 λ y H2=>r x y H2 Q
def tUn (r:V->Hp->VK->Prop)(ta:TE):TE:=λ W H Q=>ta W H λ x H1=>r x H1 Q
def rI (Cc:Int->Int->Prop)(g:Int->Int->V):R2:=λ x y H Q=>∃ i j,x=.int i/\y=.int j/\Cc i j/\Q (g i j) H
def rI0 (g:Int->Int->V):R2:=λ x y H Q=>∃ i j,x=.int i/\y=.int j/\Q (g i j) H
def rU (g:Int->V):V->Hp->VK->Prop:=λ x H Q=>∃ i,x=.int i/\Q (g i) H
section
variable {X:Cx} {a b c:Expr} {ta tb tc:TE} {pos:Pos}
theorem cc3 (ha:PE X a ta)(hb:PE X b tb){z:yA}{s:ag}{W:St}{H:Hp}{R:V->V->Hp->Prop}(I:Inv X z W H s)
  (h:ta W H λ x G=>tb W G λ y F=>R x y F) {Q:Value->ag->Prop} {f:Value->Value->Sem Value}
  (J:∀ v u s2 x y F,Inv X z W F s2->RelV x v->RelV y u->R x y F->wpAny (model X.prog X.w) X.A (f v u) Q X.xe s2) :
  wpAny (model X.prog X.w) X.A (eval a X.env) (λ v Y=>wpAny (model X.prog X.w) X.A (eval b X.env) (λ u s₂=>wpAny (model X.prog X.w) X.A (f v u) Q X.xe s₂) X.xe Y) X.xe s:=by
 refine thn (ha z s W H _ I h) λ v s1 ⟨x,G,I1,r1,q1⟩=>?_
 refine thn (hb z s1 W G _ I1 q1) λ u s2 ⟨y,F,I2,Z,q2⟩=>?_
 exact J v u s2 x y F I2 r1 Z q2
theorem cg2 {op:Operator}{r:R2}(ho:OpR X (bK op) r)(ha:PE X a ta)(hb:PE X b tb):PE X (.BinOp a op b pos) (tOp r ta tb):=by
 intro z s W H Q I h
 exact wpAny_BinOp (cc3 ha hb I h λ v u s2 x y F G Y J q=>ho z s2 W F x y v u Q G Y J q)
theorem cd8 {op:UnaryOp}{r:V->Hp->VK->Prop}(ho:UnR X (unaryOp op) r)(ha:PE X a ta):PE X (.UnaryOp op a pos) (tUn r ta):=by
 intro z s W H Q I h
 exact UnaryOp_ (thn (ha z s W H _ I h) λ v s1 ⟨x,J,G,r1,F⟩=>ho z s1 W J x v Q G r1 F)
theorem opI {f:Value->Value->Sem Value}{Cc:Int->Int->Prop}{g:Int->Int->Int}
  (z:∀(i j:Int) (t u:Tok) (s:ag) (Q:Value->ag->Prop) (E:Value->ag->Prop),Cc i j->Q (.int (g i j) s.toks) { s with toks:=s.toks+1 }->wpAny (model X.prog X.w) X.A (f (.int i t) (.int j u)) Q E s) :
  OpR X f (rI Cc λ i j=>.int (g i j)):=by
 intro F s W H x y v u Q I J G h
 obtain⟨i,j,rfl,rfl,hc,q⟩:=h
 obtain⟨t,rfl⟩:=J
 obtain⟨t',rfl⟩:=G
 exact z i j t t' s _ _ hc ⟨.int (g i j),H,I.tok _,⟨_,rfl⟩,q⟩
theorem bZ8 {f:Value->Value->Sem Value}{g:Int->Int->Int}
  (z:∀(i j:Int) (t u:Tok) (s:ag) (Q:Value->ag->Prop) (E:Value->ag->Prop),Q (.int (g i j) s.toks) { s with toks:=s.toks+1 }->wpAny (model X.prog X.w) X.A (f (.int i t) (.int j u)) Q E s) :
  OpR X f (rI0 λ i j=>.int (g i j)):=by
 intro F s W H x y v u Q I J G h
 obtain⟨i,j,rfl,rfl,q⟩:=h
 obtain⟨t,rfl⟩:=J
 obtain⟨t',rfl⟩:=G
 exact z i j t t' s _ _ ⟨.int (g i j),H,I.tok _,⟨_,rfl⟩,q⟩
theorem cc1 {f:Value->Value->Sem Value}{g:Int->Int->Bool}
  (z:∀(i j:Int) (t u:Tok) (s:ag) (Q:Value->ag->Prop) (E:Value->ag->Prop),Q (.bool (g i j)) s->wpAny (model X.prog X.w) X.A (f (.int i t) (.int j u)) Q E s) :
  OpR X f (rI0 λ i j=>.bl (g i j)):=by
 intro F s W H x y v u Q I J G h
 obtain⟨i,j,rfl,rfl,q⟩:=h
 obtain⟨t,rfl⟩:=J
 obtain⟨t',rfl⟩:=G
 exact z i j t t' s _ _ ⟨.bl (g i j),H,I,rfl,q⟩
def ci5 (i j:Int):Prop:=0<=j/\j<=1000000/\i.natAbs<2^64
def bY7 (i j:Int):Prop:=(-(2^64)<i/\i<2^64)\/(-(2^64)<j/\j<2^64)
theorem bY7.ok {i j:Int}(h:bY7 i j):IntMulOk i j:=by
 rcases h with⟨F,z⟩|⟨F,z⟩
 .exact .of_left (intBits_le_64 F z)
 .exact .of_right (intBits_le_64 F z)
theorem aN6 (k:Nat):(0:Int)<=2^k:=by
 rw[two_pow_cast]
 exact cw _
theorem bV5:OpR X (bK .Add) (rI0 λ i j=>.int (i+j)):=bZ8 λ _ _ _ _ _ _ _ q=>add_int q
theorem bJ9:OpR X (bK .Sub) (rI0 λ i j=>.int (i - j)):=bZ8 λ _ _ _ _ _ _ _ q=>sub_int q
theorem bJ4:OpR X (bK .Mod) (rI (λ _ j=>0<j) λ i j=>.int (i % j)):=opI λ i j _ _ _ _ _ hc q=>by
 have h:(0:Int)<j:=hc
 exact mod_int' (by lia) (by rw[Int.fmod_eq_emod_of_nonneg i (by lia)];exact q)
theorem bX6:OpR X (bK .Pow) (rI ci5 λ i j=>.int (i^j.toNat)):=opI λ _ _ _ _ _ _ _ hc q=>pow_int_small hc.1 hc.2.1 hc.2.2 q
theorem bX9:OpR X (bK .LShift) (rI ci5 λ i j=>.int (i*2^j.toNat)):=opI λ _ _ _ _ _ _ _ hc q=>lshift_int_small hc.1 hc.2.1 hc.2.2 q
theorem bM9:OpR X (bK .RShift) (rI (λ _ j=>0<=j) λ i j=>.int (i / 2^j.toNat)):=opI λ i j _ _ _ _ _ hc q =>
 rshift_int hc (by rw[eY i (aN6 _)];exact q)
theorem cd0:OpR X (bK .BitOr) (rI0 λ i j=>.int (fy i j)):=bZ8 λ _ _ _ _ _ _ _ q=>or_int q
theorem unI {f:Value->Sem Value}{g:Int->Int}
  (z:∀(i:Int) (t:Tok) (s:ag) (Q:Value->ag->Prop) (E:Value->ag->Prop),Q (.int (g i) s.toks) { s with toks:=s.toks+1 }->wpAny (model X.prog X.w) X.A (f (.int i t)) Q E s) :
  UnR X f (rU λ i=>.int (g i)):=by
 intro F s W H x v Q I G h
 obtain⟨i,rfl,q⟩:=h
 obtain⟨t,rfl⟩:=G
 exact z i t s _ _ ⟨.int (g i),H,I.tok _,⟨_,rfl⟩,q⟩
theorem bM0:UnR X (unaryOp .USub) (rU λ i=>.int (-i)):=unI λ _ _ _ _ _ q=>neg_int q
end
section
variable {X:Cx} {a b c:Expr} {ta tb tc:TE} {pos:Pos}
theorem cf2:OpR X (dh .Lt) (rI0 λ i j=>.bl (decide (i<j))):=cc1 λ _ _ _ _ _ _ _ q=>lt_int q
theorem ca0:OpR X (dh .LtE) (rI0 λ i j=>.bl (decide (i<=j))):=cc1 λ _ _ _ _ _ _ _ q=>le_int q
theorem ce8:OpR X (dh .Gt) (rI0 λ i j=>.bl (decide (j<i))):=cc1 λ _ _ _ _ _ _ _ q=>gt_int q
theorem bv6 {op:CmpOp}{r:R2}(ho:OpR X (dh op) r)(ha:PE X a ta)(hb:PE X b tb)(G:cY op b=false):PE X (.Compare a [op] [b] pos) (tOp r ta tb):=by
 intro z s W H Q I h
 exact wpAny_Compare1 (cc3 ha hb I h λ v u s2 x y F J Z Y q=>ho z s2 W F x y v u Q J Z Y q) G
def bY2 (t:TE):TT:=λ W H Q=>t W H λ x H'=>∃ k,x=.bl k/\Q k H'
theorem by9 {op:CmpOp}{r:R2}(ho:OpR X (dh op) r)(ha:PE X a ta)(hb:PE X b tb)(hm:cY op b=false):PT X (.Compare a [op] [b] pos) (bY2 (tOp r ta tb)):=by
 intro F s W H Q I h
 refine gm (thn (ha F s W H _ I h) λ v s1 ⟨x,H1,I1,r1,Z⟩=>thn (hb F s1 W H1 _ I1 Z) λ u s2 ⟨y,G,I2,Y,q2⟩ =>
  thn (ho F s2 W G x y v u _ I2 r1 Y q2) λ c s3 ⟨z,J,I3,r3,k,e,q3⟩=>?_) hm
 subst e
 cases r3
 exact bO ⟨J,I3,q3⟩
theorem al9:(aM:Nat)<2^63:=by rw[dF];decide
theorem aP0:OpR X (bK .Add) (λ x y H Q=>∃ i j,x=.str i/\y=.str j/\i.length+j.length<=aM/\Q (.str (i++j)) H):=by
 intro z s W H x y v u Q I G F h
 obtain⟨i,j,rfl,rfl,hz,q⟩:=h
 obtain⟨t,rfl⟩:=G
 obtain⟨t',rfl⟩:=F
 exact add_str (λ t' tk=>⟨.str (i++j),H,I.tok _,⟨_,rfl⟩,q⟩) hz
theorem qu {x:V}{us:yG}(r:Vals [x] us):∃ u,us=[u]/\RelV x u:=by
 cases r with
 | cons r1 r2=>cases r2;exact⟨_,rfl,r1⟩
theorem bF7 {x y:V}{us:yG}(r:Vals [x,y] us):∃ u h,us=[u,h]/\RelV x u/\RelV y h:=by
 cases r with
 | cons r1 r2 =>
  cases r2 with
  | cons r3 r4=>cases r4;exact⟨_,_,rfl,r1,r3⟩
theorem bl8:ac0 X (.builtin "abs") (λ z H Q=>∃ i,z=[.int i]/\Q (.int (if i<0 then -i else i)) H):=by
 intro F s W H z us Q I r h
 obtain⟨i,rfl,q⟩:=h
 obtain⟨u,rfl,t,rfl⟩:=qu r
 exact call_abs_int λ u tk=>⟨.int (if i<0 then -i else i),H,I.tok _,⟨_,rfl⟩,q⟩
theorem aU2 (hc:X.calm=true):ac0 X (.builtin "max") (λ z H Q=>∃ i j,z=[.int i,.int j]/\Q (.int (if j > i then j else i)) H):=by
 intro F s W H z us Q I r h
 obtain⟨i,j,rfl,q⟩:=h
 obtain⟨u,G,rfl,⟨t,rfl⟩,⟨t',rfl⟩⟩:=bF7 r
 refine max_two_ints (I.ok.hd hc) λ h' tk k=>⟨_,H,I.kept k,?_,q⟩
 by_cases hj:j > i
 .rw[if_pos hj,if_pos hj];exact⟨_,rfl⟩
 .rw[if_neg hj,if_neg hj];exact⟨_,rfl⟩
theorem bb7 (hc:X.calm=true):ac0 X (.builtin "min") (λ z H Q=>∃ i j,z=[.int i,.int j]/\Q (.int (if j<i then j else i)) H):=by
 intro F s W H z us Q I r h
 obtain⟨i,j,rfl,q⟩:=h
 obtain⟨u,G,rfl,⟨t,rfl⟩,⟨t',rfl⟩⟩:=bF7 r
 refine min_two_ints (I.ok.hd hc) λ h' tk k=>⟨_,H,I.kept k,?_,q⟩
 by_cases hj:j<i
 .rw[if_pos hj,if_pos hj];exact⟨_,rfl⟩
 .rw[if_neg hj,if_neg hj];exact⟨_,rfl⟩
theorem aV6:ac0 X (.type "int") (λ z H Q=>(∃ i,z=[.int i]/\Q (.int i) H)\/∃ k,z=[.bl k]/\Q (.int (if k then 1 else 0)) H):=by
 intro F s W H z us Q I r h
 rcases h with⟨i,rfl,q⟩|⟨k,rfl,q⟩
 .obtain⟨u,rfl,t,rfl⟩:=qu r
  exact call_int_int ⟨.int i,H,I,⟨_,rfl⟩,q⟩
 .obtain⟨u,rfl,r1⟩:=qu r
  cases r1
  exact call_int_bool ⟨.int (if k then 1 else 0),H,I.tok _,⟨_,rfl⟩,q⟩
end
structure ObjM (h:Heap)(x dx Cc:Addr)(mA:yC):Prop where
 obj:h.get? x=some (cf Cc dx)
 ns:h.Ns1 dx mA
 ne:dx≠x
theorem be0 {h:Heap}{G:Addr}{J:yC}(n:h.Ns1 G J):∃ od,h.get? G=some od/\∀ name,eZ name od=some (J name):=by
 obtain⟨o,es,ep,ho,hd,hk,_,Z⟩:=n
 refine⟨o,ho,λ name=>?_⟩
 have e:=Z name
 unfold nsFind findBy at e
 rw[<-Array.find?_toList]at e
 unfold eZ
 rw[hd]
 dsimp only
 split
 .rename_i y q
  rw[q]at e
  exact congrArg some e
 .rename_i q
  rw[q]at e
  have a:es.toList.any (·.refKey)=false:=by
   rw[List.any_eq_false]
   intro y hy
   obtain⟨z,t,F⟩:=hk y (Array.mem_toList_iff.mp hy)
   simp[DictEntry.refKey,F]
  have Y:¬ es.toList.any (·.refKey)=true:=by rw[a];exact aW
  rw[if_neg Y]
  exact congrArg some e
theorem ObjM.look {h:Heap}{x z Cc:Addr}{F:yC}(I:ObjM h x z Cc F):∃ od,PySem.W.InstAt h x (cf Cc z) Cc (some od)/\∀ name,eZ name od=some (F name) :=
 let⟨od,ho,hl⟩:=be0 I.ns
 ⟨od,⟨I.obj,rfl,rfl,ho⟩,hl⟩
section
variable {prog:aE} {w:World} {A:a7} {E:Value->ag->Prop} {s:ag} {K:ae} {x dx Cc f:Addr} {mA:yC} {name:Str} {v:Value}
theorem bF0 {z:Bool}{Q:Value->ag->Prop}(X:K.In s.heap)(I:ObjM s.heap x dx Cc mA)(hg:di K Cc name=true)(G:dM K Cc=true)
  (ha:bo K (.ref Cc) name=some none) (hv:mA name=some v) (F:jd v=true) (h:Q v { s with toks:=s.toks+1 }) :
  wpAny (model prog w) A (getAttr (.ref x) name z) Q E s:=by
 obtain⟨od,J,hl⟩:=I.look
 exact PySem.W.get_value X J (eO hg).1 (PySem.W.findObj_own G ha rfl (by rw[hl,hv])) F h
theorem bj6 {pl:Sem Bool}{Q:Value×List Value->ag->Prop}(X:K.In s.heap)(I:ObjM s.heap x dx Cc mA)(hg:di K Cc name=true)
  (z:bo K (.ref Cc) name=some (some (.ref f))) (ht:fT K (.ref f)=true) (hv:mA name=none) (h:Q (.ref f,[.ref x]) s) :
  wpAny (model prog w) A (gN (.ref x) name pl) Q E s:=by
 obtain⟨od,J,hl⟩:=I.look
 exact PySem.W.method_fn X J (eO hg).1 (eO hg).2 z (beq_iff_eq.mp ht) (by show(eZ name od).map (·.isSome)=some false;rw[hl,hv];rfl) h
theorem bA2 {ns:yH}{Q:Unit->ag->Prop}(X:K.In s.heap)(I:ObjM s.heap x dx Cc mA)
  (hs:bo K (.ref Cc) "__setattr__"=some (some (.builtin "object.__setattr__"))) (hp:fm K Cc=true) (ht:gh K Cc name=some none) (hh:dM K Cc=true)
  (hw:iI mA ns) (hsz:ns.length<=aM)
  (h:∀ h',ObjM h' x dx Cc (λ y=>if y=name then some v else mA y)->dg dx s.heap h'->Q () { s with heap:=h',toks:=s.toks+2 }) :
  wpAny (model prog w) A (setAttr (.ref x) name v) Q E s:=by
 obtain⟨od,J,hl⟩:=I.look
 refine PySem.W.set_plain X J hs (PySem.W.osa_open (s:={ s with toks:=s.toks+1 }) (r:=none) X J hp ht λ b=>?_)
 obtain⟨cd,hc,Z⟩:=PySem.W.any_some hh
 have hx:s.heap.get? x=some ⟨.ref Cc,some dx,.plain,#[]⟩:=I.obj
 refine ar (aJ (ar (ar (wpAny_loadPart hx (ar (ky (s:={ s with toks:=s.toks+1 }) (PySem.W.looks_clsIn X hc) ?_))))))
 rw[Z]
 refine aJ (a:=some dx) (ar (aJ (ar ?_)))
 refine wpAny_nsSet1 (s:={ s with toks:=s.toks+1 }) I.ns λ h' F z=>?_
 obtain⟨oD,a1,a2,Y,a0,G⟩:=F.count (PySem.Within.cons name v hw)
 refine ar (wpAny_lookBehind Y (by rw[a0];exact pastItsLine_dict (aj G (by rw[aR];lia))) ?_)
 exact aJ (h _ ⟨(z.2 _ (bG I.ne)).trans I.obj,F,I.ne⟩ z)
theorem bh8 {R:je->ag->Prop}{vs:yG}{z:List (Str×Value)}(X:K.In s.heap)(G:cW K Cc=true)
  (J:bo K (.ref Cc) "__init__"=some (some (.ref f))) (F:PySem.W.typeIn K (.ref f)=some (.type "function"))
  (h:fU (model prog w) (A.under (.builtin "type.__call__" ⟨.ref Cc::vs,z⟩)) (.call (.ref f) ⟨.ref (s.heap.objs.size+1)::vs,z⟩) (PySem.W.InitBack (s.heap.objs.size+1) R)
   { s with heap:=(s.heap.push bH).push (cf Cc s.heap.objs.size) }) :
  fU (model prog w) A (.call (.ref Cc) ⟨vs,z⟩) R s:=by
 obtain⟨Y,g,d,t,os⟩:=s
 exact PySem.W.make_core (PySem.W.makes_of X G) (PySem.W.looks_findIn X J) (λ self=>PySem.W.bind_fn X self F) (.inl rfl) h
end
noncomputable def al3 (f:Str)(v:V):List (Str×V)->List (Str×V)
 | []=>[(f,v)]
 | (g,x)::r=>if g=f then(g,v)::r else(g,x)::al3 f v r
theorem ao0 (f g:Str)(v:V):∀ fs:List (Str×V),(al3 f v fs).lookup g=if g=f then some v else fs.lookup g
 | []=>by
  show cP g [(f,v)]=_
  by_cases h:g=f
  .have hb:(g==f)=true:=beq_iff_eq.mpr h
   simp only[cP,hb,if_pos h]
  .have hb:(g==f)=false:=beq_eq_false_iff_ne.mpr h
   simp only[cP,hb,if_neg h]
 | (k,x)::r=>by
  have z:=ao0 f g v r
  rw[show al3 f v ((k,x)::r)=(if k=f then(k,v)::r else(k,x)::al3 f v r)from rfl]
  by_cases hk:k=f
  .rw[if_pos hk]
   by_cases h:g=k
   .have hb:(g==k)=true:=beq_iff_eq.mpr h
    simp only[cP,hb,if_pos (h.trans hk)]
   .have hb:(g==k)=false:=beq_eq_false_iff_ne.mpr h
    simp only[cP,hb,if_neg (λ e:g=f=>h (e.trans hk.symm))]
  .rw[if_neg hk]
   by_cases h:g=k
   .have hb:(g==k)=true:=beq_iff_eq.mpr h
    simp only[cP,hb,if_neg (λ e:g=f=>hk (h.symm.trans e))]
   .have hb:(g==k)=false:=beq_eq_false_iff_ne.mpr h
    simp only[cP,hb]
    exact z
theorem am0 (f:Str)(v:V):∀ fs:List (Str×V),f∈(al3 f v fs).map (·.1)/\∀ g,g∈fs.map (·.1)->g∈(al3 f v fs).map (·.1)
 | []=>⟨by simp[al3],λ g h=>by simp at h⟩
 | (k,x)::r=>by
  obtain⟨z,F⟩:=am0 f v r
  rw[show al3 f v ((k,x)::r)=(if k=f then(k,v)::r else(k,x)::al3 f v r)from rfl]
  by_cases hk:k=f
  .rw[if_pos hk]
   subst hk
   exact⟨by simp,λ g h=>by simpa using h⟩
  .rw[if_neg hk]
   refine⟨?_,λ g h=>?_⟩
   .rw[aH]
    exact ax _ z
   .rw[aH]at h ⊢
    rcases aG.mp h with e|e
    .exact aG.mpr (.inl e)
    .exact ax _ (F g e)
theorem ak7 (f:Str)(v:V):∀ fs:List (Str×V),(al3 f v fs).length<=fs.length+1
 | []=>by simp[al3]
 | (k,x)::r=>by
  have h:=ak7 f v r
  rw[show al3 f v ((k,x)::r)=(if k=f then(k,v)::r else(k,x)::al3 f v r)from rfl]
  by_cases hk:k=f
  .rw[if_pos hk,aR,aR];lia
  .rw[if_neg hk,aR,aR];lia
theorem ay8.some_of {v:V}{o:Option Value}(r:ay8 (some v) o):∃ u,o=some u/\RelV v u:=by
 cases o with
 | none=>exact(show False from r).elim
 | some u=>exact⟨u,rfl,r⟩
theorem ay8.none_of {o:Option Value}(r:ay8 none o):o=none:=by
 cases o with
 | none=>rfl
 | some u=>exact(show False from r).elim
theorem aS0 {v:V}{u:Value}(r:RelV v u):jd u=true:=by
 cases v with
 | non=>cases(show u=Value.none from r);rfl
 | bl b=>cases(show u=Value.bool b from r);rfl
 | int i=>obtain⟨t,e⟩:=(show ∃ t,u=Value.int i t from r);cases e;rfl
 | str x=>obtain⟨t,e⟩:=(show ∃ t,u=Value.str x t from r);cases e;rfl
 | byt b=>obtain⟨t,e⟩:=(show ∃ t,u=Value.bytes b t from r);cases e;rfl
 | flt b=>obtain⟨t,e⟩:=(show ∃ t,u=Value.float b t from r);cases e;rfl
 | ref a=>cases(show u=Value.ref a from r);rfl
 | ty n=>cases(show u=Value.type n from r);rfl
section
variable {P:aE} {w:World} {H H':Hp} {h h':Heap} {a Cc dx:Addr} {fs fs':List (Str×V)}
theorem at9 (hok:HOk P w H h)(e:H a=some (.ins Cc dx fs)):∃ F,ObjM h a dx Cc F/\(∀ f,ay8 (fs.lookup f) (F f))/\iI F (fs.map (·.1))/\fs.length<=1000/\H dx=some (.own a):=by
 obtain⟨d,z,ne,ob,F,n,r,q⟩:=(show ab7 P w H h a (.ins Cc dx fs)from hok a _ e)
 exact⟨F,⟨ob,n,ne⟩,r,q,z,d⟩
end
structure Cls (K:ae)(Cc:Addr):Prop where
 pg:di K Cc Str.empty=true
 hd:dM K Cc=true
 po:fm K Cc=true
 sa:bo K (.ref Cc) "__setattr__"=some (some (.builtin "object.__setattr__"))
theorem Cls.get {K:ae}{Cc:Addr}(c:Cls K Cc)(f:Str):di K Cc f=true:=c.pg
def NoAttr (K:ae)(Cc:Addr)(f:Str):Prop:=bo K (.ref Cc) f=some none
theorem NoAttr.taker {K:ae}{Cc:Addr}{f:Str}(n:NoAttr K Cc f):gh K Cc f=some none:=by
 unfold gh
 rw[show bo K (.ref Cc) f=some none from n]
 rfl
structure Meth (K:ae)(Cc:Addr)(m:Str)(f:Addr):Prop where
 at_:bo K (.ref Cc) m=some (some (.ref f))
 fn:fT K (.ref f)=true
 kp:bz K (.ref f)=true
section
variable {X:Cx} {pins:yA} {W:St} {H:Hp} {s:ag} {a Cc dx:Addr} {fs:List (Str×V)} {f:Str} {v:V} {A:a7} {E:Value->ag->Prop}
theorem aO2 {b:Bool}{Q:Value->ag->Prop}(I:Inv X pins W H s)(e:H a=some (.ins Cc dx fs))(c:Cls X.K Cc)(n:NoAttr X.K Cc f)(l:fs.lookup f=some v)
  (h:∀ u s',Inv X pins W H s'->RelV v u->Q u s'):wpAny (model X.prog X.w) A (getAttr (.ref a) f b) Q E s:=by
 obtain⟨F,O,r,_,_,_⟩:=at9 I.hok e
 obtain⟨u,hu,z⟩:=ay8.some_of (v:=v) (o:=F f) (by rw[<-l];exact r f)
 exact bF0 I.kIn O (c.get f) c.hd n hu (aS0 z) (h u _ (I.tok _) z)
theorem ap8 {m:Str}{g:Addr}{pl:Sem Bool}{Q:Value×List Value->ag->Prop}(I:Inv X pins W H s)(e:H a=some (.ins Cc dx fs))(c:Cls X.K Cc)(k:Meth X.K Cc m g)(l:fs.lookup m=none)
  (h:Q (.ref g,[.ref a]) s):wpAny (model X.prog X.w) A (gN (.ref a) m pl) Q E s:=by
 obtain⟨z,O,r,_,_,_⟩:=at9 I.hok e
 have hn:z m=none:=ay8.none_of (by rw[<-l];exact r m)
 exact bj6 I.kIn O (c.get m) k.at_ k.fn hn h
theorem aN2 {y:V}{u:Value}{Q:Unit->ag->Prop}(I:Inv X pins W H s)(e:H a=some (.ins Cc dx fs))(c:Cls X.K Cc)(n:NoAttr X.K Cc f)(hl:fs.length<1000)(Y:RelV y u)
  (h:∀ s',Inv X pins W (upd H a (.ins Cc dx (al3 f y fs))) s'->Q () s'):wpAny (model X.prog X.w) A (setAttr (.ref a) f u) Q E s:=by
 obtain⟨G,O,r,J,_,ho⟩:=at9 I.hok e
 have hz:(fs.map (·.1)).length<=aM:=by rw[az,dF];lia
 refine bA2 I.kIn O c.sa c.po n.taker c.hd J hz λ h' F Z=>h _ ?_
 have hd:∃ o,h'.get? dx=some o:=let⟨o,_,_,e',_⟩:=F.ns;⟨o,e'⟩
 refine I.write (x:=a) (e:=dx) (by rw[e];exact True.intro) (.inr ho) (λ b q hb z=>(Z.2 b hb).trans z) hd ?_
 refine⟨by rw[ze O.ne];exact ho,?_,O.ne,F.obj,_,F.ns,λ g=>?_,λ g hg=>?_⟩
 .have:=ak7 f y fs;lia
 .show ay8 ((al3 f y fs).lookup g) (if g=f then some u else G g)
  rw[ao0]
  by_cases q:g=f
  .rw[if_pos q,if_pos q];exact Y
  .rw[if_neg q,if_neg q];exact r g
 .by_cases q:g=f
  .rw[q];exact(am0 f y fs).1
  .refine(am0 f y fs).2 g (J g λ z=>hg ?_)
   show(if g=f then some u else G g)=none
   rw[if_neg q];exact z
theorem Inv.made (I:Inv X pins W H s):Inv X pins W (upd (upd H s.heap.objs.size (.own (s.heap.objs.size+1))) (s.heap.objs.size+1) (.ins Cc s.heap.objs.size []))
  { s with heap:=(s.heap.push bH).push (cf Cc s.heap.objs.size) }:=by
 have e1:(s.heap.push bH).get? s.heap.objs.size=some bH:=aV s.heap rfl
 have e2:((s.heap.push bH).push (cf Cc s.heap.objs.size)).get? (s.heap.objs.size+1)=some (cf Cc s.heap.objs.size):=by
  have:=aV (s.heap.push bH) (o:=cf Cc s.heap.objs.size) rfl
  rwa [cx]at this
 have F:(s.heap.push bH).Ns s.heap.objs.size (λ _=>none):=⟨bH,#[],_,e1,rfl,(λ e h=>absurd h (by simp)),λ _=>rfl⟩
 have z:=I.laid (a:=s.heap.objs.size) (o:=.own (s.heap.objs.size+1)) (h':=s.heap.push bH) (t':=s.toks) (λ b u q=>aq _ q) (ah _) ⟨_,e1⟩
 refine z.laid (a:=s.heap.objs.size+1) (o:=.ins Cc s.heap.objs.size []) (t':=s.toks) (λ b u q=>aq _ q) (ka (cx _ _)) ?_
 have ne:s.heap.objs.size≠s.heap.objs.size+1:=aC (bL _)
 refine⟨by rw[ze ne,zq],bS _,ne,e2,λ _=>none,(Heap.Ns1.of_empty F).at λ o q=>aq _ q,λ _=>True.intro,λ y hy=>absurd rfl hy⟩
theorem bC3 {prog:aE}{w:World}{env:Env}{e:Expr}{f:Str}{pos:Pos}{s:ag}{Q:Value->ag->Prop}(hb:cZ e f env (eval e env)=eval e env)
  (h:wpAny (model prog w) A (eval e env) (λ o z=>wpAny (model prog w) A (getAttr o f true) Q E z) E s):wpAny (model prog w) A (eval (.Attribute e f pos) env) Q E s :=
 Attribute_any_ h (by rw[arm_eval_Attribute,hb])
end
def ck9 (K:ae)(ta:TE)(f:Str):TE:=λ W H Q=>ta W H λ x H1=>∃ a Cc dx fs v,x=.ref a/\H1 a=some (.ins Cc dx fs)/\Cls K Cc/\NoAttr K Cc f/\fs.lookup f=some v/\Q v H1
def cm8 (K:ae)(ta tv:TE)(f:Str):TS:=λ D W H=>tv W H λ y H1=>ta W H1 λ x H2=>∃ a Cc dx fs,x=.ref a/\H2 a=some (.ins Cc dx fs)/\Cls K Cc/\NoAttr K Cc f/\fs.length<1000 /\
 D.nx W (upd H2 a (.ins Cc dx (al3 f y fs)))
section
variable {X:Cx} {o e value:Expr} {f:Str} {pos pos' tpos:Pos} {ta tv:TE}
theorem bK5 (F:PE X e ta)(hb:cZ e f X.env (eval e X.env)=eval e X.env):PE X (.Attribute e f pos) (ck9 X.K ta f):=by
 intro z s W H Q I h
 refine bC3 hb (thn (F z s W H _ I h) λ u s1 ⟨x,Y,I1,rx,a,Cc,dx,fs,v,ex,J,c,n,l,q⟩=>?_)
 subst ex
 obtain rfl:u=Value.ref a:=rx
 exact aO2 I1 J c n l λ u' s2 Z G=>⟨v,Y,Z,G,q⟩
theorem bK3 (ha:PE X o ta)(hv:PE X value tv)(hs:dZ value (some (.Attribute o f pos')) pos.line X.env=pure false):PS X (.Assign [.Attribute o f pos'] value pos) (cm8 X.K ta tv f):=by
 intro z s W H D I h
 refine plainObj_wpAny_Assign_Attribute (thn (hv z s W H _ I h) λ u s1 ⟨y,J,I1,F,q⟩=>thn (ha z s1 W J _ I1 q) λ ov s2 ⟨x,H2,Y,Z,a,Cc,dx,fs,ex,G,c,n,l,q2⟩=>?_) hs
 subst ex
 obtain rfl:ov=Value.ref a:=Z
 exact aN2 Y G c n l F λ s3 I3=>⟨W,_,I3,q2⟩
end
section
variable {X:Cx} {pins:yA} {W:St} {H:Hp} {s:ag} {A:a7} {E:Value->ag->Prop} {Q:Value->ag->Prop} {c:Value} {b:Bool}
inductive TyOf (K:ae)(H:Hp):V->Value->Prop where
 | non:TyOf K H .non (.type "NoneType")
 | bl (x:Bool):TyOf K H (.bl x) (.type "bool")
 | int (i:Int):TyOf K H (.int i) (.type "int")
 | str (x:Str):TyOf K H (.str x) (.type "str")
 | flt (x:UInt64):TyOf K H (.flt x) (.type "float")
 | lst {a:Addr} {xs:List V} (e:H a=some (.lst xs)):TyOf K H (.ref a) (.type "list")
 | frz {a:Addr} {o:Obj} {xs:List V} (e:H a=some (.frz o (.lst xs))):TyOf K H (.ref a) (.type "list")
 | tup {a:Addr} {xs:List V} (e:H a=some (.tup xs)):TyOf K H (.ref a) (.type "tuple")
 | dK {a:Addr} {kvs:List (Key×V)} (e:H a=some (.dK kvs)):TyOf K H (.ref a) (.type "dict")
 | ins {a Cc dx:Addr} {fs:List (Str×V)} (e:H a=some (.ins Cc dx fs)) (cl:Cls K Cc) (ha:bo K (.ref Cc) "__class__"=some (some (.builtin "object.__class__")))
   (hn:iO K (.builtin "object.__class__") "__get__"=some (some (.builtin "getset_descriptor.__get__"))) (htk:jq K (.builtin "object.__class__")=some true)
   (hm:jY K Cc (.type "object")=some true):TyOf K H (.ref a) (.ref Cc)
theorem qp {x:V}{u t:Value}(I:Inv X pins W H s)(F:RelV x u)(Z:TyOf X.K H x t)(e:bQ X.K t c=some b)(h:∀ tk,Q (.bool b) { s with toks:=tk }) :
  wpAny (model X.prog X.w) A (call (.builtin "isinstance") [u,c]) Q E s:=by
 cases Z with
 | non=>cases(show u=Value.none from F);exact bE PySem.W.kitx_none I.kIn True.intro e (λ z=>nomatch z) h
 | bl y=>cases(show u=Value.bool y from F);exact bE PySem.W.kitx_bool I.kIn True.intro e (λ z=>nomatch z) h
 | int i=>obtain⟨t,q⟩:=(show ∃ t,u=Value.int i t from F);cases q;exact bE PySem.W.kitx_int I.kIn True.intro e (λ z=>nomatch z) h
 | str y=>obtain⟨t,q⟩:=(show ∃ t,u=Value.str y t from F);cases q;exact bE PySem.W.kitx_str I.kIn True.intro e (λ z=>nomatch z) h
 | flt y=>obtain⟨t,q⟩:=(show ∃ t,u=Value.float y t from F);cases q;exact bE PySem.W.kitx_float I.kIn True.intro e (λ z=>nomatch z) h
 | @lst a xs ea =>
  cases(show u=Value.ref a from F)
  obtain⟨_,_,n,_,G⟩:=(show ab7 X.prog X.w H s.heap a (.lst xs)from I.hok a _ ea)
  exact bE iP I.kIn ⟨_,G,rfl⟩ e (λ z=>nomatch z) h
 | @frz a ob xs ea =>
  cases(show u=Value.ref a from F)
  obtain⟨_,_,_,n,_,G⟩:=(show ab7 X.prog X.w H s.heap a (.frz ob (.lst xs))from I.hok a _ ea)
  exact bE iP I.kIn ⟨_,G,rfl⟩ e (λ z=>nomatch z) h
 | @tup a xs ea =>
  cases(show u=Value.ref a from F)
  obtain⟨_,_,_,p⟩:=(show ab7 X.prog X.w H s.heap a (.tup xs)from I.hok a _ ea)
  obtain⟨o,G,Y,_⟩:=p
  exact bE iw I.kIn ⟨o,G,Y⟩ e (λ z=>nomatch z) h
 | @dK a kvs ea =>
  cases(show u=Value.ref a from F)
  obtain⟨_,_,vs,_,p⟩:=(show ab7 X.prog X.w H s.heap a (.dK kvs)from I.hok a _ ea)
  obtain⟨o,es,ep,G,Y,_⟩:=p
  exact bE PySem.W.kitx_dict I.kIn ⟨o,G,Y.1⟩ e (λ z=>nomatch z) h
 | @ins a Cc dx fs ea cl ha hn htk hm =>
  cases(show u=Value.ref a from F)
  obtain⟨mA,O,_⟩:=at9 I.hok ea
  obtain⟨od,J,_⟩:=O.look
  exact bE (PySem.W.kitx_own (cl.get _) cl.hd ha hn htk hm) I.kIn J e (λ z=>nomatch z) h
end
structure Room (k:Nat)(A:a7):Prop where
 hd:A.handled=none
 dp:A.depth+3*k+5<recursionLimit
 un:A.units+16*k+200<cLine
theorem Room.mono {j k:Nat}{A:a7}(r:Room k A)(h:j<=k):Room j A:=⟨r.hd,by have:=r.dp;lia,by have:=r.un;lia⟩
theorem Room.deeper {k:Nat}{A:a7}(r:Room (k+1) A)(env:Env):Room k (A.deeper env) :=
 ⟨r.hd,by have:=r.dp;show A.depth+1+3*k+5<_;lia,by have:=r.un;show A.units+3+16*k+200<_;lia⟩
theorem Room.in1 {k:Nat}{A:a7}(r:Room (k+1) A):Room k A.in1 :=
 ⟨r.hd,by have:=r.dp;show A.depth+3*k+5<_;lia,by have:=r.un;show A.units+1+16*k+200<_;lia⟩
theorem aO7 {A:a7}{Cc:Addr}{us:yG}{h:List (Str×Value)}:(A.under (.builtin "type.__call__" ⟨.ref Cc::us,h⟩)).depth=A.depth+1:=by
 first|rfl|simp[iQ,Code.weight,Code.isCreation,Code.isGuard,Code.isCaller,kt,iR,guardIds]
theorem aP7 {A:a7}{Cc:Addr}{us:yG}{h:List (Str×Value)}:(A.under (.builtin "type.__call__" ⟨.ref Cc::us,h⟩)).units=A.units+1:=by
 first|rfl|simp[iQ,Code.cUnits,kt,iR]
theorem Room.make {k:Nat}{A:a7}(r:Room (k+1) A)(Cc:Addr)(us:yG)(h:List (Str×Value)):Room k (A.under (.builtin "type.__call__" ⟨.ref Cc::us,h⟩)) :=
 ⟨r.hd,by have:=r.dp;rw[aO7];lia,by have:=r.un;rw[aP7];lia⟩
theorem Room.depth {k:Nat}{A:a7}(r:Room k A):A.depth<recursionLimit:=by have:=r.dp;lia
theorem Room.units {k:Nat}{A:a7}(r:Room k A):A.units+64<cLine:=by have:=r.un;lia
theorem Room.units0 {k:Nat}{A:a7}(r:Room k A):A.units<cLine:=by have:=r.un;lia
def aQ1:TA:=λ _ H Q=>Q [] H
def an1 (ta:TE)(tr:TA):TA:=λ W H Q=>ta W H λ x H1=>tr W H1 λ xs H2=>Q (x::xs) H2
section
variable {X:Cx} {e:Expr} {es:yK} {te:TE} {t:TA} {pos:Pos}
theorem ad4:PA X [] aQ1:=λ _ _ _ _ H Q I h=>iT ⟨[],H,I,.nil,h⟩
theorem zx (ha:PE X e te)(J:PA X es t)(hs:aY (e::es) X.env=(false,eval e X.env)::aY es X.env:=by rfl):PA X (e::es) (an1 te t):=by
 intro pos z s W H Q I h
 rw[hs]
 show wpAny _ _ (spliced ((false,eval e X.env)::cD pos (aY es X.env))) _ _ s
 refine iy (thn (ha z s W H _ I h) λ u s1 ⟨x,H1,Z,r1,F⟩=>?_)
 exact thn (J pos z s1 W H1 _ Z F) λ us s2 ⟨Y,G,I2,r2,q2⟩=>⟨x::Y,G,I2,.cons r1 r2,q2⟩
def cg8 (t:TA):TE:=λ W H Q=>t W H λ xs H1=>xs.length<=aM/\∀ p,H1 p=none->Q (.ref p) (upd H1 p (.tup xs))
def ck4 (t:TA):TE:=λ W H Q=>t W H λ xs H1=>xs.length<=aM/\∀ p,H1 p=none->Q (.ref p) (upd H1 p (.lst xs))
theorem bP9 {x1}(h:PA X es t):PE X (.Tuple es x1 pos) (cg8 t):=by
 intro F s W H Q I hq
 refine wpAny_Tuple_spliced (thn (h pos F s W H _ I hq) λ us s1 ⟨Z,J,G,r,z,q⟩=>⟨by rw[<-r.length];exact z,?_⟩)
 have Y:J s1.heap.objs.size=none:=G.hok.fresh (ah _)
 refine⟨.ref s1.heap.objs.size,upd J s1.heap.objs.size (.tup Z),G.laid (t':=s1.toks) (λ b u e=>aq _ e) (ah _) ?_,rfl,q _ Y⟩
 exact⟨z,us,r,⟨_,aV _ rfl,rfl,_,rfl⟩⟩
theorem bt7 (h:PA X es t):PE X (.List es pos) (ck4 t):=by
 intro F s W H Q I hq
 refine wpAny_List_spliced (thn (h pos F s W H _ I hq) λ us s1 ⟨Z,J,G,r,z,q⟩=>⟨by rw[<-r.length];exact z,?_⟩)
 have Y:J s1.heap.objs.size=none:=G.hok.fresh (ah _)
 refine⟨.ref s1.heap.objs.size,upd J s1.heap.objs.size (.lst Z),G.laid (t':=s1.toks) (λ b u e=>aq _ e) (ah _) ?_,rfl,q _ Y⟩
 exact⟨z,us,0,r,aV _ rfl⟩
end
abbrev Sp:=List V->Hp->VK->XK->Prop
abbrev CXT:=List Env->Hp->ag->XK->Value->ag->Prop
structure Env0 (P:aE)(w:World)(K:ae)(mg:yC)(base:Heap)(A:a7)(outer:List Env)(s:ag)(H:Hp):Prop where
 frames:A.frames=some outer
 mod:Mod K mg base
 bs:∀ b o,base.get? b=some o->s.heap.get? b=some o/\H b=none
 bsz:base.objs.size<=s.heap.objs.size
 funs:s.heap.FunFrames base outer
 frf:∀ b∈frs outer,H b=none
 hok:HOk P w H s.heap
 bare:fj s.gens
def CE (outer:List Env)(P:aE)(w:World)(H:Hp)(s:ag)(Q:VK)(u:Value)(s':ag):Prop :=
 ∃ v H',s'.os=s.os/\fj s'.gens/\Un (frs outer) [] H H' s.heap s'.heap/\HOk P w H' s'.heap/\RelV v u/\Q v H'
def CR (CX:CXT)(outer:List Env)(P:aE)(w:World)(H:Hp)(s:ag)(Q:VK)(E:XK)(r:je)(s':ag):Prop :=
 match r with
 | .ok (.ret u)=>CE outer P w H s Q u s'
 | .ok _=>False
 | .error e=>CX outer H s E e s'
structure FnOk (P:aE)(w:World)(K:ae)(mg:yC)(base:Heap)(CX:CXT)(k:Nat)(f:Addr)(fd:bM)(ps:yH)(sp:Sp):Prop where
 len:∀ vs H Q E,sp vs H Q E->vs.length=ps.length
 run:∀(A:a7) (outer:List Env) (s:ag) (H:Hp) (args:Args) (us:yG) (vs:List V) (Q:VK) (E:XK),Room k A->Env0 P w K mg base A outer s H->jx s fd args (ps.zip us)->Vals vs us->sp vs H Q E ->
  fU (model P w) A (.call (.ref f) args) (CR CX outer P w H s Q E) s
theorem FnOk.imp {P:aE}{w:World}{K:ae}{Z:yC}{base:Heap}{J:CXT}{k:Nat}{f:Addr}{Y:bM}{ps:yH}{sp G:Sp}(F:FnOk P w K Z base J k f Y ps sp)
  (h:∀ vs H Q E,G vs H Q E->sp vs H Q E):FnOk P w K Z base J k f Y ps G :=
 ⟨λ vs H Q E q=>F.len vs H Q E (h _ _ _ _ q),λ A z s H args us vs Q E hr he hb hv hs=>F.run A z s H args us vs Q E hr he hb hv (h _ _ _ _ hs)⟩
theorem Env0.make {P:aE}{w:World}{K:ae}{z:yC}{base:Heap}{A:a7}{h:List Env}{s:ag}{H:Hp}(e:Env0 P w K z base A h s H)(Cc:Addr)(us:yG)(F:List (Str×Value)) :
  Env0 P w K z base (A.under (.builtin "type.__call__" ⟨.ref Cc::us,F⟩)) h s H:=⟨by first|exact e.frames|(simpa [iQ,Code.envs,iR,pushEnvs]using e.frames),e.mod,e.bs,e.bsz,e.funs,e.frf,e.hok,e.bare⟩
section
variable {X:Cx} {pins:yA} {W:St} {H:Hp} {s s':ag}
theorem Inv.env0 (I:Inv X pins W H s):Env0 X.prog X.w X.K X.mg X.base X.A X.stack s H :=
 ⟨I.ok.frames,I.ok.mod,I.bs,aj I.ok.bsz I.sz,I.stack,I.stkFree,I.hok,I.bare⟩
theorem Inv.after {Q:VK}{u:Value}(I:Inv X pins W H s)(h:CE X.stack X.prog X.w H s Q u s'):EP X pins W Q u s':=by
 obtain⟨v,H',os,bare,un,hok,r,q⟩:=h
 obtain⟨G,g,d,t,F⟩:=s'
 obtain rfl:F=s.os:=os
 exact⟨v,H',I.call (h':=G) (g':=g) (d':=d) (t':=t) (ch:=[]) un hok bare (λ b z=>absurd z (by simp)),r,q⟩
end
def aN5 (sp:Sp)(dvs:List V)(E:XK)(t:TA):TE:=λ W H Q=>t W H λ vs H1=>sp (vs++dvs) H1 Q E
def be9 (Cc:Addr)(m:Str)(sp:Sp)(dvs:List V)(E:XK)(ta:TE)(t:TA):TE:=λ W H Q=>ta W H λ x H1=>∃ a dx fs,x=.ref a/\H1 a=some (.ins Cc dx fs)/\fs.lookup m=none /\
 t W H1 λ vs H2=>sp (x::(vs++dvs)) H2 Q E
def bb4 (Cc:Addr)(sp:Sp)(dvs:List V)(E:XK)(t:TA):TE:=λ W H Q=>t W H λ vs H1=>∀ x dx,H1 x=none->H1 dx=none->dx≠x ->
 sp (.ref x::(vs++dvs)) (upd (upd H1 dx (.own x)) x (.ins Cc dx [])) (λ v H2=>v=.non/\Q (.ref x) H2) E
def Binds (K:ae)(fd:bM)(ps:yH)(ds:yG):Prop :=
 ∀(s:ag) (us:yG),K.In s.heap->(us++ds).length=ps.length->jx s fd ⟨us,[]⟩ (ps.zip (us++ds))
theorem Binds.all {K:ae}{z:bM}{ps:yH}(h:∀ us:List Value,us.length=ps.length->jF z ⟨us,[]⟩=pure (ps.zip us)):Binds K z ps []:=λ s us _ hl=>by
 rw[aK]at hl ⊢
 exact .of_eq (h us hl)
def ae7 (CX:CXT)(X:Cx)(E:XK):Prop:=∀(pins:yA) (W:St) (H:Hp) (s:ag) (e:Value) (s':ag),Inv X pins W H s->CX X.stack H s E e s'->X.xe e s'
section
variable {X:Cx} {CX:CXT} {k:Nat} {f Cc:Addr} {fd:bM} {ps:yH} {sp:Sp} {dvs:List V} {ds:yG} {E:XK} {x m:Str} {p pos apos:Pos} {e o:Expr} {es:yK} {ta:TE} {t:TA}
theorem aJ0 {z:yA}{W:St}{H:Hp}{s:ag}{Q:VK}{us:yG}{vs:List V}(F:FnOk X.prog X.w X.K X.mg X.base CX k f fd ps sp)(J:Room k X.A)(hb:Binds X.K fd ps ds)(hd:Vals dvs ds)(hx:ae7 CX X E)
  (I:Inv X z W H s) (r:Vals vs us) (h:sp (vs++dvs) H Q E):wpAny (model X.prog X.w) X.A (call (.ref f) us) (EP X z W Q) X.xe s:=by
 have G:Vals (vs++dvs) (us++ds):=r.append hd
 have hl:(us++ds).length=ps.length:=by rw[<-G.length];exact F.len _ _ _ _ h
 refine wpAny_call (fW (F.run X.A X.stack s H ⟨us,[]⟩ (us++ds) (vs++dvs) Q E J I.env0 (hb s us I.kIn hl) G h) λ r s' hq=>?_)
 cases r with
 | error e=>exact hx z W H s e s' I hq
 | ok fl =>
  cases fl with
  | ret u=>exact I.after hq
  | next=>exact bP hq
  | brk=>exact bP hq
  | cont=>exact bP hq
theorem bv1 (F:FnOk X.prog X.w X.K X.mg X.base CX k f fd ps sp)(Z:Room k X.A)(hg:Gl X x)(hm:X.mg x=some (.ref f))(hk:bz X.K (.ref f)=true)(hb:Binds X.K fd ps ds)(hd:Vals dvs ds)(hx:ae7 CX X E)
  (ha:PA X (e::es) t) (J:(x==("__debug__":Str))=false:=by decide) (he:aY (e::es) X.env=(false,eval e X.env)::aY es X.env:=by rfl) (G:(cD pos (aY es X.env)).any (·.1)=false:=by rfl) :
  PE X (.Call (.Name x p) (e::es) [] pos) (aN5 sp dvs E t):=by
 intro z s W H Q I h
 refine cy (ak6 I hg hm ?_ J)
 refine e6 (h₀:=X.base) I.ok.mod.kin hk (thn (ha pos z s W H _ I h) λ us s1 ⟨vs,H1,Y,r,q⟩=>⟨Y.kIn,?_⟩) he G
 exact aJ0 F Z hb hd hx Y r q
theorem bo0 (F:FnOk X.prog X.w X.K X.mg X.base CX k f fd ps sp)(J:Room k X.A)(hg:Gl X x)(Y:X.mg x=some (.ref f))(hk:bz X.K (.ref f)=true)(hb:Binds X.K fd ps ds)(hd:Vals dvs ds)(hx:ae7 CX X E)
  (z:(x==("__debug__":Str))=false:=by decide):PE X (.Call (.Name x p) [] [] pos) (aN5 sp dvs E aQ1):=by
 intro G s W H Q I h
 refine cy (ak6 I hg Y ?_ z)
 exact eP I.kIn hk (aJ0 (us:=[]) F J hb hd hx I .nil h)
theorem bI4 {pl:Sem Bool}(he:PE X o ta)(c:Cls X.K Cc)(Z:Meth X.K Cc m f)(F:FnOk X.prog X.w X.K X.mg X.base CX k f fd ps sp)(hr:Room k X.A)(hb:Binds X.K fd ps ds)(hd:Vals dvs ds)(hx:ae7 CX X E)(ha:PA X (e::es) t)
  (G:aY (e::es) X.env=(false,eval e X.env)::aY es X.env:=by rfl) (J:(cD pos (aY es X.env)).any (·.1)=false:=by rfl)
  (ht:eval (.Call (.Attribute o m apos) (e::es) [] pos) X.env=(do
   let ov <- eval o X.env
   iJ apos.atName
   let(f,first) <- fP [ov] (gN ov m pl)
   callWith pos f first (cD pos (aY (e::es) X.env)) (ef pos (cQ [] X.env))):=by rfl) :
  PE X (.Call (.Attribute o m apos) (e::es) [] pos) (be9 Cc m sp dvs E ta t):=by
 intro z s W H Q I h
 refine gn (pl:=pl) (thn (he z s W H _ I h) λ u s1 ⟨x,H1,I1,rx,a,dx,fs,ex,ea,l,q⟩=>?_) ht
 subst ex
 obtain rfl:u=Value.ref a:=rx
 refine ap8 I1 ea c Z l ?_
 refine e6 (first:=[.ref a]) (h₀:=X.base) I.ok.mod.kin Z.kp (thn (ha pos z s1 W H1 _ I1 q) λ us s2 ⟨vs,H2,Y,r,q2⟩=>⟨Y.kIn,?_⟩) G J
 exact aJ0 (us:=.ref a::us) (vs:=.ref a::vs) F hr hb hd hx Y (.cons rfl r) q2
theorem bh3 {pl:Sem Bool}(Y:PE X o ta)(c:Cls X.K Cc)(J:Meth X.K Cc m f)(F:FnOk X.prog X.w X.K X.mg X.base CX k f fd ps sp)(hr:Room k X.A)(hb:Binds X.K fd ps ds)(hd:Vals dvs ds)(hx:ae7 CX X E)
  (ht:eval (.Call (.Attribute o m apos) [] [] pos) X.env=(do
   let ov <- eval o X.env
   iJ apos.atName
   let(f,first) <- fP [ov] (gN ov m pl)
   callWith pos f first (cD pos (aY [] X.env)) (ef pos (cQ [] X.env))):=by rfl) :
  PE X (.Call (.Attribute o m apos) [] [] pos) (be9 Cc m sp dvs E ta aQ1):=by
 intro z s W H Q I h
 refine gn (pl:=pl) (thn (Y z s W H _ I h) λ u s1 ⟨x,H1,G,rx,a,dx,fs,ex,Z,l,q⟩=>?_) ht
 subst ex
 obtain rfl:u=Value.ref a:=rx
 refine ap8 G Z c J l ?_
 exact eP (first:=[.ref a]) G.kIn J.kp (aJ0 (us:=[.ref a]) (vs:=[.ref a]) F hr hb hd hx G (.cons rfl .nil) q)
structure Mk (K:ae)(Cc f:Addr):Prop where
 makes:cW K Cc=true
 init:bo K (.ref Cc) "__init__"=some (some (.ref f))
 fn:fT K (.ref f)=true
 kp:bz K (.ref Cc)=true
theorem aI5 {z:yA}{W:St}{H:Hp}{s:ag}{Q:VK}{us:yG}{vs:List V}(M:Mk X.K Cc f)(F:FnOk X.prog X.w X.K X.mg X.base CX k f fd ps sp)(hr:Room (k+1) X.A)(hb:Binds X.K fd ps ds)(hd:Vals dvs ds)
  (hx:ae7 CX X E) (I:Inv X z W H s) (r:Vals vs us)
  (h:∀ x G,H x=none->H G=none->G≠x->sp (.ref x::(vs++dvs)) (upd (upd H G (.own x)) x (.ins Cc G [])) (λ v Z=>v=.non/\Q (.ref x) Z) E) :
  wpAny (model X.prog X.w) X.A (call (.ref Cc) us) (EP X z W Q) X.xe s:=by
 have hq:=h (s.heap.objs.size+1) s.heap.objs.size (I.hok.fresh (b7 _)) (I.hok.fresh (ah _)) (aC (bL _))
 have J:=Inv.made (Cc:=Cc) I
 have Y:Vals (V.ref (s.heap.objs.size+1)::(vs++dvs)) (Value.ref (s.heap.objs.size+1)::(us++ds)):=.cons rfl (r.append hd)
 have hl:(Value.ref (s.heap.objs.size+1)::us++ds).length=ps.length:=by
  have e:=Y.length
  rw[F.len _ _ _ _ hq]at e
  exact e.symm
 refine wpAny_call (bh8 (f:=f) I.kIn M.makes M.init (beq_iff_eq.mp M.fn) (fW (F.run _ X.stack _ _ ⟨Value.ref (s.heap.objs.size+1)::us,[]⟩ (Value.ref (s.heap.objs.size+1)::(us++ds)) _ _ E (hr.make Cc us [])
  (J.env0.make Cc us []) (hb _ (Value.ref (s.heap.objs.size+1)::us) J.kIn hl) Y hq) λ r s' hq'=>?_))
 cases r with
 | error e=>exact hx z W _ _ e s' J hq'
 | ok fl =>
  cases fl with
  | ret u =>
   obtain⟨v,H',I3,rv,ev,q3⟩:=J.after hq'
   subst ev
   exact⟨rv,⟨V.ref (s.heap.objs.size+1),H',I3,rfl,q3⟩⟩
  | next=>exact bP hq'
  | brk=>exact bP hq'
  | cont=>exact bP hq'
theorem bx5 (M:Mk X.K Cc f)(F:FnOk X.prog X.w X.K X.mg X.base CX k f fd ps sp)(hr:Room (k+1) X.A)(hg:Gl X x)(hm:X.mg x=some (.ref Cc))(hb:Binds X.K fd ps ds)(hd:Vals dvs ds)(hx:ae7 CX X E)
  (ha:PA X (e::es) t) (G:(x==("__debug__":Str))=false:=by decide) (Z:aY (e::es) X.env=(false,eval e X.env)::aY es X.env:=by rfl) (J:(cD pos (aY es X.env)).any (·.1)=false:=by rfl) :
  PE X (.Call (.Name x p) (e::es) [] pos) (bb4 Cc sp dvs E t):=by
 intro z s W H Q I h
 refine cy (ak6 I hg hm ?_ G)
 refine e6 (h₀:=X.base) I.ok.mod.kin M.kp (thn (ha pos z s W H _ I h) λ us s1 ⟨vs,H1,Y,r,q⟩=>⟨Y.kIn,?_⟩) Z J
 exact aI5 M F hr hb hd hx Y r q
theorem bj8 (M:Mk X.K Cc f)(F:FnOk X.prog X.w X.K X.mg X.base CX k f fd ps sp)(J:Room (k+1) X.A)(hg:Gl X x)(Y:X.mg x=some (.ref Cc))(hb:Binds X.K fd ps ds)(hd:Vals dvs ds)(hx:ae7 CX X E)
  (z:(x==("__debug__":Str))=false:=by decide):PE X (.Call (.Name x p) [] [] pos) (bb4 Cc sp dvs E aQ1):=by
 intro G s W H Q I h
 refine cy (ak6 I hg Y ?_ z)
 exact eP I.kIn M.kp (aI5 (us:=[]) M F J hb hd hx I .nil h)
end
section
variable {X:Cx} {CX:CXT} {k:Nat} {f Cc:Addr} {fd:bM} {ps ks:yH} {sp:Sp} {E:XK} {x m:Str} {p pos apos kpos:Pos} {e o:Expr} {es:yK} {kws:List d8} {te ta:TE} {t tk:TA} {nm:Option Str}
variable {g:List Value->List Value->List Value} {gV:List V->List V->List V}
end
structure FnScope (N P:yH)(sc:Scope):Prop where
 kind:sc.kind=.function
 co:sc.isCoroutine=false
 gen:sc.isGenerator=false
 nd:N.Nodup
 pre:N.take P.length=P
 par:∀ x∈P,sc.names.lookup x=some .local\/sc.names.lookup x=some .cell
 nofree:∀ y∈sc.names,y.2≠.free
theorem ax7 {d4:Str->Option b8}{x:Str}:∀ {binds:List (Str×Value)} {m:yC},(∀ v,(x,v) ∉ binds)->bindL d4 binds m x=m x
 | [],_,_=>rfl
 | (n,v)::r,m,h=>by
  unfold bindL
  rw[ax7 λ w hw=>h w (ax _ hw)]
  split
  .have:x≠n:=by rintro rfl;exact h v aB
   simp[this]
  .rfl
theorem av8 {d4:Str->Option b8}{x:Str}:∀ {binds:List (Str×Value)} {m:yC},(∀ v,(x,v) ∉ binds)->bindC d4 binds m x=m x
 | [],_,_=>rfl
 | (n,v)::r,m,h=>by
  unfold bindC
  rw[av8 λ w hw=>h w (ax _ hw)]
  split
  .rfl
  .have:x≠n:=by rintro rfl;exact h v aB
   simp[this]
theorem aw7 {d4:Str->Option b8}{x:Str}{v:Value}:∀ {P:yH} {vs:yG} {i:Nat} {m:yC},P.Nodup->P[i]?=some x->vs[i]?=some v->d4 x=some .local ->
  bindL d4 (P.zip vs) m x=some v
 | [],_,_,_,_,h,_,_=>by simp at h
 | _::_,[],_,_,_,_,h,_=>by simp at h
 | p::P,w::vs,0,m,nd,h1,h2,hk=>by
  simp at h1 h2;subst h1;subst h2
  show bindL d4 ((p,w)::P.zip vs) m p=_
  unfold bindL
  rw[ax7 λ v hv=>(dA.mp nd).1 (gi hv).1,if_pos hk]
  simp
 | p::P,w::vs,i+1,m,nd,h1,h2,hk=>by
  show bindL d4 ((p,w)::P.zip vs) m x=_
  unfold bindL
  exact aw7 (i:=i) (dA.mp nd).2 (by simpa using h1) (by simpa using h2) hk
theorem az6 {d4:Str->Option b8}{x:Str}{v:Value}:∀ {P:yH} {vs:yG} {i:Nat} {m:yC},P.Nodup->P[i]?=some x->vs[i]?=some v->d4 x≠some .local ->
  bindC d4 (P.zip vs) m x=some v
 | [],_,_,_,_,h,_,_=>by simp at h
 | _::_,[],_,_,_,_,h,_=>by simp at h
 | p::P,w::vs,0,m,nd,h1,h2,hk=>by
  simp at h1 h2;subst h1;subst h2
  show bindC d4 ((p,w)::P.zip vs) m p=_
  unfold bindC
  rw[av8 λ v hv=>(dA.mp nd).1 (gi hv).1,if_neg hk]
  simp
 | p::P,w::vs,i+1,m,nd,h1,h2,hk=>by
  show bindC d4 ((p,w)::P.zip vs) m x=_
  unfold bindC
  exact az6 (i:=i) (dA.mp nd).2 (by simpa using h1) (by simpa using h2) hk
noncomputable def aj4 (N:yH)(vs:List V):St:=vs.map some++ai (N.length - vs.length) none
noncomputable def br5 (CX:CXT)(P:aE)(w:World)(K:ae)(mg:yC)(base:Heap)(N:yH)(qual:Str)(scope:Scope)(f:Addr)(cd:Value)(A:a7)(outer:List Env)(s:ag)(H:Hp)(E:XK):Cx where
 prog:=P
 w:=w
 K:=K
 mg:=mg
 base:=base
 A:=A.deeper (fA qual scope s.heap.objs.size f cd)
 N:=N
 s₀:=s
 H₀:=H
 env:=fA qual scope s.heap.objs.size f cd
 outer:=outer
 stack:=fA qual scope s.heap.objs.size f cd::outer
 ex:=[]
 calm:=true
 fn:=λ _=>true
 pn:=[]
 xe:=λ e s'=>wpAny (model P w) (A.deeper (fA qual scope s.heap.objs.size f cd)) (leaving (fA qual scope s.heap.objs.size f cd) e) (λ _ s''=>CX outer H s E e s'') (λ e' s''=>CX outer H s E e' s'') s'
theorem ak4 {sc:Scope}{n:Nat}{x:Str}(h:sc.names.lookup x=some .cell):∃ c,(bt n sc.names []).lookup x=some c:=by
 have q:=fX sc.names n [] (.inl h)
 exact bW.mp q
theorem aR8 {CX:CXT}{P:aE}{w:World}{K:ae}{mg:yC}{base:Heap}{N ps:yH}{qual:Str}{scope:Scope}{f:Addr}{cd:Value}{A:a7}{F:List Env}{s s1:ag}{H:Hp}{E:XK}{us:yG}{vs:List V}
  (S:FnScope N ps scope) (hd:A.handled=none) (J:Env0 P w K mg base A F s H) (hl:vs.length=ps.length) (r:Vals vs us)
  (x:InCallC s s.heap.objs.size (bindL (fA qual scope s.heap.objs.size f cd).kindOf (ps.zip us) λ _=>none) (bt (s.heap.objs.size+1) scope.names []) (bindC (fA qual scope s.heap.objs.size f cd).kindOf (ps.zip us) λ _=>none) s1) :
  Inv (br5 CX P w K mg base N qual scope f cd A F s H E) [] (aj4 N vs) H s1:=by
 have a0:ps.length<=N.length:=by have:=congrArg fq S.pre;rw[bB]at this;lia
 obtain⟨h1,tk,rfl,hk⟩:=x.done
 have Y:∀ b:Addr,b ∉ (br5 CX P w K mg base N qual scope f cd A F s H E).ex:=λ b z=>absurd (show b∈([]:List Addr)from z) (by simp)
 refine⟨⟨J.mod,S.kind,rfl,rfl,ah _,λ y z c h1 G=>?_,λ y hy=>?_,λ y c _ h=>?_,λ _=>hd,Around.frames_deeper J.frames,.inr ⟨rfl,rfl⟩,λ b z=>absurd z (Y b),J.bs,J.bsz,λ b _ _=>Y b,λ b z=>absurd z (Y b),J.funs,J.frf⟩,
  rfl,J.bare,Un.kept hk,⟨_,x.toInCall.ns,λ i y v h1 G h3=>?_⟩,λ y c h=>⟨_,x.cell y c h⟩,J.hok.fresh (ah _),λ y c h=>?_,λ p hp=>absurd (show p∈([]:yA)from hp) (by simp),J.hok.kept hk,?_⟩
 .exact name_of_addr x.apart (bh h1) (bh G)
 .have hy:scope.names.lookup y=some .cell\/scope.names.lookup y=some .free:=hy
  rcases hy with hy|hy
  .exact ak4 hy
  .exact absurd rfl (S.nofree _ (bh hy))
 .exact fO (x.above y c (bh h))
 .have hi:i<vs.length:=by
   unfold aj4 at G
   by_cases hi:i<vs.length
   .exact hi
   .rw[aI (by simpa using hi)]at G
    rw[dG]at G
    split at G<;>cases G
  have ha:vs[i]?=some v:=by
   unfold aj4 at G
   rw[au (by simpa using hi),aF]at G
   cases e:vs[i]? with
   | none=>rw[e]at G;cases G
   | some a=>rw[e]at G;cases G;rfl
  obtain⟨u,hu,rv⟩:=r.get ha
  have hp:ps[i]?=some y:=by
   rw[<-S.pre,fB (by lia)];exact h1
  have Z:ps.Nodup:=by rw[<-S.pre];exact S.nd.sublist (List.take_sublist _ _)
  refine⟨u,rv,?_⟩
  rcases S.par y (be hp)with k|k
  .exact .inl ⟨k,aw7 Z hp hu k⟩
  .obtain⟨c,e⟩:=ak4 (n:=s.heap.objs.size+1) k
   refine .inr ⟨.inl k,c,e,?_⟩
   have q:=x.cell y c e
   rw[az6 Z hp hu (by show scope.names.lookup y≠_;rw[k];decide)]at q
   exact q
 .exact J.hok.fresh (fO (x.above y c (bh h)))
 .unfold aj4
  show _=N.length
  rw[am,az,gp]
  lia
theorem cd6 {CX:CXT}{P:aE}{w:World}{K:ae}{mg:yC}{base:Heap}{k:Nat}{f:Addr}{name qual:Str}{params:dj}{body:yL}{scope:Scope}{dV kV Y pm z ct oc:Value}{an od:yI}
  {a3:yE} {N ps:yH} {sp:Sp} (lk:K.lookup f=some ⟨oc,od,.func (ci name qual params body scope dV kV Y pm an z ct),a3⟩) (a1:dN K z qual=true) (S:FnScope N ps scope)
  (len:∀ vs H Q E,sp vs H Q E->vs.length=ps.length)
  (G:∀(A:a7) (h:List Env) (s:ag) (H:Hp) (vs:List V) (Q:VK) (E:XK),Room k (A.deeper (fA qual scope s.heap.objs.size f z))->sp vs H Q E ->
   ∃ t,PSs (br5 CX P w K mg base N qual scope f z A h s H E) body t/\t { nx:=λ _ H'=>Q .non H',rt:=Q } (aj4 N vs) H) :
  FnOk P w K mg base CX (k+1) f (ci name qual params body scope dV kV Y pm an z ct) ps sp:=by
 refine⟨len,λ A h s H args us vs Q E hr Z hb r a0=>?_⟩
 have hl:=len _ _ _ _ a0
 have KX:K.In s.heap:=Z.mod.kin.keeps λ b o e=>(Z.bs b o e).1
 have a2:s.heap.NoLimit:=Z.mod.nolimit.keeps λ b o e=>(Z.bs b o e).1
 have F:∀ y∈ps.zip us,scope.names.lookup y.1=some .local\/(scope.names.lookup y.1=some .cell/\((bt (s.heap.objs.size+1) scope.names []).lookup y.1).isSome=true):=λ⟨n,v⟩ hy=>by
  rcases S.par n (gi hy).1 with q|q
  .exact .inl q
  .exact .inr ⟨q,fX _ _ _ (.inl q)⟩
 refine codeAny_call_function hr.depth (KX _ _ lk) rfl S.co S.gen rfl (PySem.W.codeRec_of KX a1) (hb _ _ _ _ ?_)
 refine wpAny_newFunctionEnv_cells S.kind F λ env he s1 x=>?_
 subst he
 refine⟨a2.keeps x.toInCall.keep,codeAny_func ?_⟩
 obtain⟨t,ht,hq⟩:=G A h s H vs Q E (hr.deeper _) a0
 have I:Inv (br5 CX P w K mg base N qual scope f z A h s H E) [] (aj4 N vs) H s1:=aR8 S hr.hd Z hl r x
 refine bT (ht [] s1 (aj4 N vs) H _ I hq) (λ fl s' hs=>?_) λ e s' hs=>hs
 have fin:∀ {W':St} {H':Hp} {v:V} {u:Value},Inv (br5 CX P w K mg base N qual scope f z A h s H E) [] W' H' s'->RelV v u->Q v H'->CE h P w H s Q u s' :=
  λ {W' H' v u} J rv q=>⟨v,H',J.os,J.bare,J.base,J.hok,rv,q⟩
 cases fl with
 | ret u =>
  obtain⟨v,W',H',J,rv,q⟩:=hs
  exact fin J rv q
 | next =>
  obtain⟨W',H',J,q⟩:=hs
  exact fin (v:=V.non) (u:=Value.none) J rfl q
 | brk =>
  obtain⟨_,_,_,q⟩:=hs
  exact bP q
 | cont =>
  obtain⟨_,_,_,q⟩:=hs
  exact bP q
section
variable {X:Cx} {x:Str} {p pos:Pos} {e:Expr} {es:yK} {t:TA} {id T:String} {r:List V->Hp->VK->Prop}
def tCB (r:List V->Hp->VK->Prop)(t:TA):TE:=λ W H Q=>t W H λ vs H1=>r vs H1 Q
theorem ak5 (hc:ac0 X (.builtin id) r)(hg:Gl X x)(Z:X.mg x=none)(hv:bc x=some (.builtin id))(ha:PA X (e::es) t)(hn:x ≠ "__name__":=by decide)(G:(x==("__debug__":Str))=false:=by decide)
  (Y:aY (e::es) X.env=(false,eval e X.env)::aY es X.env:=by rfl) (F:(cD pos (aY es X.env)).any (·.1)=false:=by rfl):PE X (.Call (.Name x p) (e::es) [] pos) (tCB r t):=by
 intro z s W H Q I h
 refine cy (aq9 I hg Z hv ?_ hn G)
 exact PyProof.Rows.callWith_builtin1 (thn (ha pos z s W H _ I h) λ us s1 ⟨vs,H1,I1,r1,J⟩=>hc z s1 W H1 vs us Q I1 r1 J) Y F
theorem af7 (hc:ac0 X (.type T) r)(hg:Gl X x)(Z:X.mg x=none)(hv:bc x=some (.type T))(ha:PA X (e::es) t)(hn:x ≠ "__name__":=by decide)(G:(x==("__debug__":Str))=false:=by decide)
  (Y:aY (e::es) X.env=(false,eval e X.env)::aY es X.env:=by rfl) (F:(cD pos (aY es X.env)).any (·.1)=false:=by rfl):PE X (.Call (.Name x p) (e::es) [] pos) (tCB r t):=by
 intro z s W H Q I h
 refine cy (aq9 I hg Z hv ?_ hn G)
 exact cg (thn (ha pos z s W H _ I h) λ us s1 ⟨vs,H1,I1,r1,J⟩=>hc z s1 W H1 vs us Q I1 r1 J) Y F
end
end L2
end
noncomputable section
namespace HT
open PySem PyProof.Rows
section
open PySem.SeqAt
open PySem.AutoSeq1 (wpAny_loadPart')
open PySem.MeetsSeq PySem.MeetsSeq2 PySem.MeetsSeq3
end
section
variable {prog:aE} {w:World} {A:a7} {E:Value->ag->Prop} {s:ag}
theorem cat_tup {t b:Addr}{vs ws:yG}{Q:Value->ag->Prop}(ht:IsTup s.heap t vs.toArray)(hb:IsTup s.heap b ws.toArray)(hv:vs≠[])
  (h1:ws=[]->Q (.ref t) s) (h2:ws≠[]->Q (.ref s.heap.objs.size) { s with heap:=s.heap.push { cls:=.type "tuple",data:=.seq (vs++ws).toArray } })
  (hsz:vs.length+ws.length<=aM):wpAny (model prog w) A (bK .Add (.ref t) (.ref b)) Q E s:=by
 obtain⟨⟨cls,dd,data,sl⟩,ho,hc,n,hd⟩:=id ht
 obtain⟨⟨Z,G,Y,F⟩,h,J,n2,z⟩:=id hb
 simp only at hc hd J z
 subst hc hd J z
 have e:vs.toArray++ws.toArray=(vs++ws).toArray:=by simp
 by_cases hw:ws=[]
 .exact iU ⟨_,ho,rfl⟩ ⟨_,h,rfl⟩ fI h9 dP dH (dv _ _)
   (tuple_addW1 t b vs.toArray ws.toArray n n2 dd G sl F (by simpa using hv) (by simp[hw])) ⟨ho,h,h1 hw⟩
 .refine iU ⟨_,ho,rfl⟩ ⟨_,h,rfl⟩ fI h9 dP dH (dv _ _)
   (tuple_addW2 t b vs.toArray ws.toArray n n2 dd G sl F (by simpa using hv) (by simpa using hw) (by rw[av,av];exact hsz)) ⟨ho,h,?_⟩
  rw[e]
  exact h2 hw
noncomputable def sIx (n d:Nat):Option Int->Nat
 | none=>d
 | some v=>if v<0 then(v+(n:Int)).toNat else min v.toNat n
theorem sIx_le (n d:Nat)(hd:d<=n)(o:Option Int):sIx n d o<=n:=by
 cases o with
 | none=>exact hd
 | some v =>
  show(if v<0 then(v+(n:Int)).toNat else min v.toNat n)<=n
  by_cases hv:v<0
  .rw[if_pos hv];lia
  .rw[if_neg hv];exact Nat.min_le_right _ _
theorem clip_eq (v:Int)(n d:Nat):(if v<0 then max (v+(n:Int)) 0 else min v (n:Int))=((sIx n d (some v):Nat):Int):=by
 show(if v<0 then max (v+(n:Int)) 0 else min v (n:Int))=(((if v<0 then(v+(n:Int)).toNat else min v.toNat n):Nat):Int)
 by_cases hv:v<0
 .simp only[if_pos hv];lia
 .simp only[if_neg hv];lia
theorem adjust_gen (h z:Option Int)(n:Nat):dq h z 1 (n:Int)=(((sIx n 0 h:Nat):Int),((sIx n n z:Nat):Int)):=by
 have F:¬((1:Int)<0):=by lia
 unfold dq
 simp only[F,if_false]
 refine Prod.ext ?_ ?_
 .cases h with
  | none=>rfl
  | some v=>exact clip_eq v n 0
 .cases z with
  | none=>rfl
  | some v=>exact clip_eq v n n
theorem places_gen (i j:Nat):cE (i:Int) (j:Int) 1=j - i:=by
 unfold cE
 have h:(1:Int) > 0:=by lia
 simp only[h,if_true,kb]
 split<;>lia
theorem slicePart_ {v:Value}{o:Option Int}{Q:Option Int->ag->Prop}(p:fC v o)(h:Q o s):wpAny (model prog w) A (jr v) Q E s:=by
 cases p with
 | none=>exact slicePart_none h
 | int i t=>exact slicePart_int h
theorem sliceApplied_gen {sl:Addr}{vl vu:Value}{z G:Option Int}{n:Nat}{Q:Int×Int×Nat->ag->Prop}(hs:s.heap.IsSliceOf sl vl vu .none)(pl:fC vl z)(pu:fC vu G)
  (h:Q (((sIx n 0 z:Nat):Int),1,sIx n n G - sIx n 0 z) s):wpAny (model prog w) A (e7 (.ref sl) (pure (n:Int))) Q E s:=by
 obtain⟨os,F,Y,J⟩:=id hs
 unfold e7 jU
 refine ar (ar (dI F J (x:=vl) rfl (ar (dI F J (x:=vu) rfl (ar (dI F J (x:=.none) rfl (aJ ?_)))))))
 refine ar (slicePart_none ?_)
 show wpAny _ _ (if((1:Int)==0)=true then _ else _) _ _ s
 rw[if_neg (by decide)]
 refine ar (slicePart_ pl (ar (slicePart_ pu (ar (aJ ?_)))))
 show wpAny _ _ (match dq z G 1 (n:Int)with|(z,G)=>pure (z,(1:Int),cE z G 1)) _ _ s
 rw[adjust_gen z G n]
 show wpAny _ _ (pure (((sIx n 0 z:Nat):Int),(1:Int),cE ((sIx n 0 z:Nat):Int) ((sIx n n G:Nat):Int) 1)) _ _ s
 rw[places_gen]
 exact aJ h
theorem pick_gen (h:yJ)(i k:Nat):((aP k).filterMap λ(m:Nat)=>h[((i:Int)+(m:Int)*1).toNat]?).toArray=((h.toList.drop i).take k).toArray:=by
 have e:(λ(m:Nat)=>h[((i:Int)+(m:Int)*1).toNat]?)=λ m=>h[i+m]?:=by
  funext m
  have:((i:Int)+(m:Int)*1).toNat=i+m:=by lia
  rw[this]
 rw[e]
 have:=pick_run h i k
 rw[List.filterMap_map]at this
 have e2:((λ x=>h[x]?) ∘ λ x=>i+x)=λ m=>h[i+m]?:=rfl
 rw[e2]at this
 rw[this]
theorem getItem_tuple_cut {t sl:Addr}{z:yJ}{vl vu:Value}{G J:Option Int}{Q:Value->ag->Prop}(ht:IsTup s.heap t z)(hs:s.heap.IsSliceOf sl vl vu .none)(pl:fC vl G)(pu:fC vu J)
  (hw:¬(sIx z.size 0 G=0/\sIx z.size z.size J=z.size))
  (h:Q (.ref s.heap.objs.size) { s with heap:=s.heap.push { cls:=.type "tuple",data:=.seq ((z.toList.drop (sIx z.size 0 G)).take (sIx z.size z.size J - sIx z.size 0 G)).toArray } })
  (hsz:z.size<=aM):wpAny (model prog w) A (fY (.ref t) (.ref sl)) Q E s:=by
 have F:sizeOk (.seq ((z.toList.drop (sIx z.size 0 G)).take (sIx z.size z.size J - sIx z.size 0 G)).toArray):=by
  show((z.toList.drop (sIx z.size 0 G)).take (sIx z.size z.size J - sIx z.size 0 G)).toArray.size<=aM
  rw[av,bB,cq,dt]
  omega
 have hj:sIx z.size z.size J<=z.size:=sIx_le _ _ (ah _) J
 obtain⟨os,Y,Z,a2⟩:=id hs
 have a1:s.TypeIs (.ref sl) "slice":=⟨os,Y,Z⟩
 unfold fY
 try with_reducible refine d7 ?_
 first|refine ar (aJ ?_)|skip
 refine ar (iV ht.typeIs (by decide) ?_)
 refine ar (cN (name:=bU "__getitem__") ht.typeIs bp
  (cL bp ht.typeIs gX ?_ (iz _ _)))
 show wpAny _ _ (de (.ref t) >>= _) _ _ s
 refine ar (ic ht ?_)
 refine ar (fZ a1 ?_)
 rw[if_pos (by decide)]
 refine ar (sliceApplied_gen hs pl pu ?_)
 have a0:¬((((sIx z.size 0 G:Nat):Int)==0&&(1:Int)==1&&(sIx z.size z.size J - sIx z.size 0 G)==z.size)=true):=by
  intro q
  rw[ak,ak]at q
  have q1:((sIx z.size 0 G:Nat):Int)=0:=eq_of_beq q.1.1
  have q2:sIx z.size z.size J - sIx z.size 0 G=z.size:=eq_of_beq q.2
  exact hw ⟨by lia,by omega⟩
 show wpAny _ _ (if(((sIx z.size 0 G:Nat):Int)==0&&(1:Int)==1&&(sIx z.size z.size J - sIx z.size 0 G)==z.size)=true then _ else _) _ _ s
 rw[if_neg a0,pick_gen]
 first
  | exact ar (m:=cJ _) (bD (aJ ⟨_,rfl,aJ h⟩) F)
  | exact ar (m:=cJ _) (bD (ar (aJ (aJ ⟨_,rfl,aJ h⟩))) F)
  | exact ar (ar (m:=cJ _) (bD (aJ (aJ ⟨_,rfl,aJ h⟩)) F))
  | exact ar (ar (m:=cJ _) (bD (aJ ⟨_,rfl,aJ h⟩) F))
end
end HT
noncomputable section
namespace L2
open PySem PySem.Spec PyProof.Rows
abbrev TO:=St->Hp->(Option Int->Hp->Prop)->Prop
def PO (X:Cx)(e:Option Expr)(t:TO):Prop :=
 ∀(pins:yA) (s:ag) (W:St) (H:Hp) (Q:Option Int->Hp->Prop),Inv X pins W H s->t W H Q ->
  wpAny (model X.prog X.w) X.A (evalPart e X.env) (λ u s'=>∃ o H',Inv X pins W H' s'/\fC u o/\Q o H') X.xe s
noncomputable def aC3:TO:=λ _ H Q=>Q none H
noncomputable def aV1 (t:TE):TO:=λ W H Q=>t W H λ x H1=>∃ i,x=.int i/\Q (some i) H1
theorem aO6 {ns:List Int}:∀ {us:yG},Vals (ns.map V.int) us->iW us ns:=by
 induction ns with
 | nil=>intro us r;rw[cR]at r;cases r;exact .nil
 | cons n ns ih =>
  intro us r
  rw[aH]at r
  cases r with
  | cons r1 r2 =>
   obtain⟨t,e⟩:=r1
   subst e
   exact .cons n t (ih r2)
section
variable {X:Cx} {e:Expr} {te:TE} {lo hi:Option Expr} {tl th:TO} {pos p2:Pos}
theorem bc6:PO X none aC3:=by
 intro z s W H Q I h
 rw[evalPart_none]
 exact aJ ⟨none,H,I,.none,h⟩
theorem au7 (h:PE X e te):PO X (some e) (aV1 te):=by
 intro z s W H Q I hw
 rw[evalPart_some]
 refine thn (h z s W H _ I hw) λ u s1 ⟨x,J,G,r1,F⟩=>?_
 obtain⟨i,rfl,q⟩:=F
 obtain⟨t,rfl⟩:=r1
 exact⟨some i,J,G,.int i t,q⟩
def SlR (X:Cx)(r:V->Option Int->Option Int->Hp->VK->Prop):Prop :=
 ∀(pins:yA) (s:ag) (W:St) (H:Hp) (x:V) (v vl vu:Value) (lo hi:Option Int) (sl:Addr) (Q:VK),Inv X pins W H s->RelV x v->s.heap.IsSliceOf sl vl vu .none->fC vl lo->fC vu hi->r x lo hi H Q ->
  ∃ T id,typeLookup (.type T) "__getitem__"=pure (some (.builtin id))/\s.TypeIs v T/\wpAny (model X.prog X.w) X.A (fY v (.ref sl)) (EP X pins W Q) X.xe s
def tSl (r:V->Option Int->Option Int->Hp->VK->Prop)(te:TE)(tl th:TO):TE:=λ W H Q=>te W H λ x H1=>tl W H1 λ l H2=>th W H2 λ u H3=>r x l u H3 Q
theorem au0 {r:V->Option Int->Option Int->Hp->VK->Prop}(hr:SlR X r)(J:PE X e te)(hl:PO X lo tl)(hu:PO X hi th):PE X (.Subscript e (.Slice lo hi none p2) pos) (tSl r te tl th):=by
 intro z s W H Q I h
 refine Subscript_ (thn (J z s W H _ I h) λ v s1 ⟨x,Z,I1,r1,Y⟩=>?_)
 refine wpAny_Slice (thn (hl z s1 W Z _ I1 Y) λ vl s2 ⟨l,G,I2,pl,q2⟩=>thn (hu z s2 W G _ I2 q2) λ vu s3 ⟨u,F,I3,pu,q3⟩=>?_)
 rw[evalPart_none]
 refine aJ ?_
 have I4:Inv X z W F { s3 with heap:=s3.heap.push { cls:=.type "slice",data:=.fields #[vl,vu,.none] } }:=I3.kept (t':=s3.toks) λ b ob q=>aq _ q
 obtain⟨T,id,hT,ht,hg⟩:=hr z { s3 with heap:=s3.heap.push { cls:=.type "slice",data:=.fields #[vl,vu,.none] } } W F x v vl vu l u s3.heap.objs.size Q I4 r1 (kz ..) pl pu q3
 show wpAny (model X.prog X.w) X.A (subscriptTail e (.Slice lo hi none p2) v (.ref s3.heap.objs.size)) (EP X z W Q) X.xe { s3 with heap:=s3.heap.push { cls:=.type "slice",data:=.fields #[vl,vu,.none] } }
 exact tail_any (ops:=[.ref s3.heap.objs.size,v]) ht hT hg (by with_unfolding_all rfl)
noncomputable def aN9 (xs:List V)(lo hi:Option Int):List V:=(xs.drop (HT.sIx xs.length 0 lo)).take (HT.sIx xs.length xs.length hi - HT.sIx xs.length 0 lo)
theorem an6 (h:List V)(z F:Option Int):(aN9 h z F).length<=h.length:=by
 unfold aN9
 rw[bB,cq]
 lia
def cl7 (K:ae):V->Option Int->Option Int->Hp->VK->Prop:=λ x lo hi H Q=>∃ a xs,x=.ref a/\SqT K H a xs /\
 ¬(HT.sIx xs.length 0 lo=0/\HT.sIx xs.length xs.length hi=xs.length)/\∀ p,H p=none->Q (.ref p) (upd H p (.tup (aN9 xs lo hi)))
theorem bK1:SlR X (cl7 X.K):=by
 intro Y s W H x v vl vu G J sl Q I Z hs pl pu h
 obtain⟨a,F,rfl,hx,hw,q⟩:=h
 cases Z
 obtain⟨its,r,ht,hz⟩:=I.tuple hx
 have z:its.toArray.size=F.length:=by rw[av];exact r.length.symm
 refine⟨"tuple",_,bp.lookup,ht.typeIs,?_⟩
 refine HT.getItem_tuple_cut ht hs pl pu (by rw[z];exact hw) ?_ (by rw[z];exact hz)
 rw[z]
 refine⟨.ref s.heap.objs.size,_,I.laid (t':=s.toks) (o:=.tup (aN9 F G J)) (λ b ob q=>aq _ q) (ah _) ?_,rfl,q _ (I.hok.fresh (ah _))⟩
 exact⟨aj (an6 F G J) hz,_,(r.drop (HT.sIx F.length 0 G)).take (HT.sIx F.length F.length J - HT.sIx F.length 0 G),jf _ _⟩
def cb4 (K:ae):R2:=λ x y H Q=>∃ a b xs ys,x=.ref a/\y=.ref b/\SqT K H a xs/\SqT K H b ys/\xs≠[]/\xs.length+ys.length<=aM /\
 (ys=[]->Q (.ref a) H)/\(ys≠[]->∀ p,H p=none->Q (.ref p) (upd H p (.tup (xs++ys))))
theorem Vals.nil_iff {h:List V}{us:yG}(r:Vals h us):us=[]↔h=[]:=by
 cases r with
 | nil=>simp
 | cons _ _=>simp
theorem bz1:OpR X (bK .Add) (cb4 X.K):=by
 intro J s W H x y v u Q I rx ry h
 obtain⟨a,b,Y,ys,rfl,rfl,ha,hb,hx,hz,q1,q2⟩:=h
 cases rx
 cases ry
 obtain⟨its,r1,p1,_⟩:=I.tuple ha
 obtain⟨G,F,Z,_⟩:=I.tuple hb
 refine HT.cat_tup p1 Z (λ z=>hx (r1.nil_iff.mp z)) (λ z=>⟨.ref a,H,I,rfl,q1 (F.nil_iff.mp z)⟩) (λ z=>?_) (by rw[<-r1.length,<-F.length];exact hz)
 refine⟨.ref s.heap.objs.size,_,I.laid (t':=s.toks) (o:=.tup (Y++ys)) (λ b ob q=>aq _ q) (ah _) ?_,rfl,q2 (λ w=>z (F.nil_iff.mpr w)) _ (I.hok.fresh (ah _))⟩
 exact⟨by rw[am];exact hz,_,r1.append F,jf _ _⟩
end
noncomputable def ixN (n:Nat)(i:Int):Option Nat:=if 0<=i then(if i<n then some i.toNat else none)else if -(n:Int)<=i then some (i+n).toNat else none
noncomputable def atI {α:Type}(xs:List α)(i:Int):Option α:=(ixN xs.length i).bind λ j=>xs[j]?
theorem be2 {n:Nat}{i:Int}{j:Nat}(h:ixN n i=some j):seqIndex? i n=some j/\j<n/\-(n:Int)<=i/\i<n:=by
 unfold ixN at h
 by_cases h0:0<=i
 .rw[if_pos h0]at h
  by_cases h1:i<n
  .rw[if_pos h1]at h
   have e:i.toNat=j:=aw h
   exact⟨by rw[jk h0 h1,e],by lia,by lia,h1⟩
  .rw[if_neg h1]at h;cases h
 .rw[if_neg h0]at h
  by_cases h1:-(n:Int)<=i
  .rw[if_pos h1]at h
   have e:(i+n).toNat=j:=aw h
   exact⟨by rw[iX (by lia) h1,e],by lia,h1,by lia⟩
  .rw[if_neg h1]at h;cases h
theorem aE7 {α:Type}{z:List α}{i:Int}{v:α}(h:atI z i=some v):∃ j,seqIndex? i z.length=some j/\z[j]?=some v/\j<z.length/\-(z.length:Int)<=i/\i<z.length:=by
 unfold atI at h
 cases e:ixN z.length i with
 | none=>rw[e]at h;cases h
 | some j =>
  rw[e]at h
  obtain⟨F,J,h3,G⟩:=be2 e
  exact⟨j,F,h,J,h3,G⟩
def aZ7 (b:Expr):Prop:=∀ o i,subscripted b false o i=operate [o,i] (fY o i)
def IxR (X:Cx)(r:R2):Prop :=
 ∀(value slice:Expr) (pins:yA) (s:ag) (W:St) (H:Hp) (x y:V) (v u:Value) (Q:VK),Inv X pins W H s->RelV x v->RelV y u->r x y H Q ->
  subscripted slice false v u=operate [v,u] (fY v u)->wpAny (model X.prog X.w) X.A (subscriptTail value slice v u) (EP X pins W Q) X.xe s
def MtR (X:Cx)(id:String)(r:V->List V->Hp->VK->Prop):Prop :=
 ∀(pins:yA) (s:ag) (W:St) (H:Hp) (x:V) (xs:List V) (v:Value) (us:yG) (Q:VK),Inv X pins W H s->RelV x v->Vals xs us->r x xs H Q ->
  wpAny (model X.prog X.w) X.A (call (.builtin id) (v::us)) (EP X pins W Q) X.xe s
section
variable {X:Cx} {a b:Expr} {ta tb:TE} {pos:Pos}
theorem cc0 {r:R2}(G:IxR X r)(ha:PE X a ta)(hb:PE X b tb)(hs:aZ7 b):PE X (.Subscript a b pos) (tOp r ta tb):=by
 intro z s W H Q I h
 exact Subscript_ (cc3 ha hb I h λ v u s2 x y F J Z Y q=>G a b z s2 W F x y v u Q J Z Y q (hs _ _))
def ci0 (K:ae):R2:=λ x y H Q=>∃ p xs i v,x=.ref p/\y=.int i/\SqL K H p xs/\atI xs i=some v/\Q v H
def ch1 (K:ae):R2:=λ x y H Q=>∃ p xs i v,x=.ref p/\y=.int i/\SqT K H p xs/\atI xs i=some v/\Q v H
def cl4:R2:=λ x y H Q=>∃ z i c,x=.str z/\y=.int i/\z.length<=aM/\atI z.cps.toList i=some c/\Q (.str ⟨#[c]⟩) H
theorem bw5:IxR X (ci0 X.K):=by
 intro Y J F s W H x y v u Q I rx ry h hs
 obtain⟨p,xs,i,z,rfl,rfl,hq,he,q⟩:=h
 cases rx
 obtain⟨t,rfl⟩:=ry
 obtain⟨its,r,pl,hz⟩:=I.list hq
 obtain⟨j,G,h2,h3,h4,h5⟩:=aE7 he
 obtain⟨w,ew,Z⟩:=r.get h2
 have hl:=r.length
 have hn:=al9
 have fin:EP X F W Q w s:=⟨z,H,I,Z,q⟩
 by_cases h0:0<=i
 .have hj:i.toNat=j:=by
   rw[jk h0 h5]at G
   exact aw G
  exact item_listR pl.isList h0 (by lia) (by rw[hj];simpa using ew) fin hs
 .have hj:(i+(its.toArray.size:Int)).toNat=j:=by
   rw[iX (by lia) h4]at G
   rw[av,<-hl]
   exact aw G
  exact f6 (x:=w) pl.isList.typeIs iY.lookup
   (wpAny_getItem_list_neg (Q:=λ r s'=>r=w/\EP X F W Q r s') pl.isList (by omega) (by rw[av]<;>lia) (by lia) (by rw[hj];simpa using ew) ⟨rfl,fin⟩) hs
theorem ix_tup:IxR X (ch1 X.K):=by
 intro J G F s W H x y v u Q I rx ry h hs
 obtain⟨p,xs,i,z,rfl,rfl,hq,Z,q⟩:=h
 cases rx
 obtain⟨t,rfl⟩:=ry
 obtain⟨its,r,pl,hz⟩:=I.tuple hq
 obtain⟨j,h1,h2,h3,h4,h5⟩:=aE7 Z
 obtain⟨w,ew,Y⟩:=r.get h2
 have hl:=r.length
 have hn:=al9
 have fin:EP X F W Q w s:=⟨z,H,I,Y,q⟩
 exact f6 (x:=w) pl.typeIs bp.lookup
  (getItem_tuple (j:=j) (Q:=λ r s'=>r=w/\EP X F W Q r s') pl (by lia) (by lia) (by rw[av,<-hl];exact h1) (by simpa using ew) ⟨rfl,fin⟩) hs
theorem ix_str:IxR X cl4:=by
 intro G F Y s W H x y v u Q I rx ry h hs
 obtain⟨z,i,c,rfl,rfl,hz,Z,q⟩:=h
 obtain⟨t,rfl⟩:=rx
 obtain⟨t',rfl⟩:=ry
 obtain⟨j,J,h2,h3,h4,h5⟩:=aE7 Z
 have hl:z.cps.toList.length=z.length:=by simp[iA]
 rw[hl]at J h4 h5
 have hn:=al9
 exact tail_any (iB s z t) slot_str_getitem.lookup (getItem_str (c:=c) (by
  have e1:decide (i < -(2^63:Int))=false:=decide_eq_false (by lia)
  have e2:decide (i ≥ 2^63)=false:=decide_eq_false (by lia)
  rw[e1,e2,jZ]) (by rw[J];simpa using h2) ⟨.str ⟨#[c]⟩,H,I.tok _,⟨_,rfl⟩,q⟩) hs
theorem aN3 (its:yG)(n j:Nat)(u:Value):f7 (·.setIfInBounds j u) { cls:=.type "list",data:=.seq its.toArray n }={ cls:=.type "list",data:=.seq (its.set j u).toArray n }:=by
 simp[f7]
theorem Inv.lst {F:yA}{W:St}{H:Hp}{s:ag}{p:Addr}{G:List V}(I:Inv X F W H s)(h:H p=some (.lst G)) :
  ∃(its:yG) (n:Nat),Vals G its/\s.heap.get? p=some { cls:=.type "list",data:=.seq its.toArray n }/\G.length<=aM:=by
 obtain⟨z,its,n,r,e⟩:=I.hok p _ h
 exact⟨its,n,r,e,z⟩
theorem Inv.lstUpd {z:yA}{W:St}{H:Hp}{s:ag}{p:Addr}{J ys:List V}{its its':yG}{n F:Nat}{f:Obj->Obj}(I:Inv X z W H s)(h:H p=some (.lst J))
  (ho:s.heap.get? p=some { cls:=.type "list",data:=.seq its.toArray n }) (G:f { cls:=.type "list",data:=.seq its.toArray n }={ cls:=.type "list",data:=.seq its'.toArray F }) (r:Vals ys its') (hz:ys.length<=aM) (t:Nat) :
  Inv X z W (upd H p (.lst ys)) { s with heap:=s.heap.update p f,toks:=t }:=by
 have e:(s.heap.update p f).get? p=some { cls:=.type "list",data:=.seq its'.toArray F }:=by
  rw[gq f ho (by rw[G]<;>rfl),G]
 refine I.write (x:=p) (e:=p) (by rw[h];trivial) (.inl rfl) (λ b u hb q=>(f8 _ _ (bG hb)).trans q) ⟨_,e⟩ ?_
 exact⟨hz,its',F,r,e⟩
def cb0:V->V->V->Hp->(Hp->Prop)->Prop:=λ o i v H Q=>∃ p xs k j,o=.ref p/\i=.int k/\H p=some (.lst xs)/\ixN xs.length k=some j/\Q (upd H p (.lst (xs.set j v)))
theorem bh4:cc6 X cb0:=by
 intro z s W H o i v ov iv u Q I ro ri rv h
 obtain⟨p,Z,k,j,rfl,rfl,J,hj,q⟩:=h
 cases ro
 obtain⟨t,rfl⟩:=ri
 obtain⟨its,n,r,ho,hz⟩:=I.lst J
 obtain⟨F,h2,h3,Y⟩:=be2 hj
 have hl:=r.length
 have hn:=al9
 have G:Inv X z W (upd H p (.lst (Z.set j v))) { s with heap:=s.heap.update p (f7 (·.setIfInBounds j u)) } :=
  I.lstUpd J ho (aN3 its n j u) (r.set rv j) (by rw[aS];exact hz) s.toks
 by_cases h0:0<=k
 .have hk:k.toNat=j:=by
   rw[jk h0 Y]at F
   exact aw F
  exact PySem.W.ki_setAt ho h0 (by lia) (by rw[av,<-hl];exact Y) (by rw[hk];exact⟨_,G,q⟩)
 .have hk:(k+(its.toArray.size:Int)).toNat=j:=by
   rw[iX (by lia) h3]at F
   rw[av,<-hl]
   exact aw F
  exact PySem.W.ki_setBack ho (by omega) (by rw[av,<-hl];exact h3) (by lia) (by rw[hk];exact⟨_,G,q⟩)
theorem aB3 (z F:Option Int)(n:Nat):(dJ z F none n).1=((HT.sIx n 0 z:Nat):Int)/\(dJ z F none n).2.1=((HT.sIx n n F:Nat):Int)/\(dJ z F none n).2.2=1:=by
 refine⟨?_,?_,rfl⟩
 .cases z with
  | none=>simp[dJ,HT.sIx]
  | some i =>
   simp only[dJ,HT.sIx,jg,show(1:Int) > 0 by decide,if_true]
   by_cases h:i<0
   .simp only[h,if_true]<;>lia
   .simp only[h,if_false]<;>lia
 .cases F with
  | none=>simp[dJ,HT.sIx]
  | some i =>
   simp only[dJ,HT.sIx,jg,show(1:Int) > 0 by decide,if_true]
   by_cases h:i<0
   .simp only[h,if_true]<;>omega
   .simp only[h,if_false]<;>omega
theorem au2 (its:yG)(h z:Option Int):slicePick its.toArray h z none=((its.drop (HT.sIx its.length 0 h)).take (HT.sIx its.length its.length z - HT.sIx its.length 0 h)).toArray:=by
 obtain⟨G,F,h3⟩:=aB3 h z its.toArray.size
 unfold slicePick
 rw[G,F,h3]
 simp only[sliceRange_one,pick_run,av]<;>rfl
def cg9 (K:ae):V->Option Int->Option Int->Hp->VK->Prop:=λ x lo hi H Q=>∃ a xs,x=.ref a/\SqL K H a xs/\∀ p,H p=none->Q (.ref p) (upd H p (.lst (aN9 xs lo hi)))
theorem bx1:SlR X (cg9 X.K):=by
 intro Y s W H x v vl vu G J sl Q I Z hs pl pu h
 obtain⟨a,z,rfl,hx,q⟩:=h
 cases Z
 obtain⟨its,r,ht,hz⟩:=I.list hx
 have F:=r.length
 refine⟨"list",_,iY.lookup,ht.isList.typeIs,?_⟩
 refine wpAny_getItem_list_slice ht.isList hs pl pu .none (by simp) ?_ (by rw[av]<;>lia)
 rw[au2,<-F]
 refine⟨.ref s.heap.objs.size,_,I.laid (t':=s.toks) (o:=.lst (aN9 z G J)) (λ b ob q=>aq _ q) (ah _) ?_,rfl,q _ (I.hok.fresh (ah _))⟩
 exact⟨aj (an6 z G J) hz,_,0,(r.drop (HT.sIx z.length 0 G)).take (HT.sIx z.length z.length J - HT.sIx z.length 0 G),aV _ rfl⟩
theorem az2:ac0 X (.builtin "len") (λ F H Q=>∃ p ys,F=[.ref p]/\(SqL X.K H p ys\/SqT X.K H p ys)/\Q (.int ys.length) H):=by
 intro G s W H F us Q I r h
 obtain⟨p,ys,rfl,hq,q⟩:=h
 obtain⟨u,rfl,J⟩:=qu r
 cases J
 have hn:=al9
 rcases hq with hq|hq
 .obtain⟨its,r',pl,hz⟩:=I.list hq
  have z:=r'.length
  exact Calls.call_len_list pl.isList (by simp only[av]<;>lia) ⟨.int ys.length,H,I.tok _,⟨s.toks+1,by rw[av,z]⟩,q⟩
 .obtain⟨its,r',pl,hz⟩:=I.tuple hq
  have z:=r'.length
  exact len_tuple pl (by simp only[av]<;>omega) ⟨.int ys.length,H,I.tok _,⟨s.toks+1,by rw[av,z]⟩,q⟩
theorem ay5:ac0 X (.builtin "len") (λ F H Q=>∃ z,F=[.str z]/\z.length<=aM/\Q (.int z.length) H):=by
 intro G s W H F us Q I r h
 obtain⟨z,rfl,hz,q⟩:=h
 obtain⟨u,rfl,t,rfl⟩:=qu r
 have hn:=al9
 exact len_str (by lia) ⟨.int z.length,H,I.tok _,⟨_,rfl⟩,q⟩
theorem ac0.or {f:Value}{r r':List V->Hp->VK->Prop}(h:ac0 X f r)(h':ac0 X f r'):ac0 X f (λ F H Q=>r F H Q\/r' F H Q):=by
 intro z s W H F us Q I G q
 rcases q with q|q
 .exact h z s W H F us Q I G q
 .exact h' z s W H F us Q I G q
theorem aA4:ac0 X (.type "list") (λ J H Q=>∃ p ys,J=[.ref p]/\(SqL X.K H p ys\/SqT X.K H p ys)/\∀ l,H l=none->Q (.ref l) (upd H l (.lst ys))):=by
 intro G s W H J us Q I r h
 obtain⟨p,ys,rfl,hq,q⟩:=h
 obtain⟨u,rfl,Z⟩:=qu r
 cases Z
 have fin:∀(its:yG),Vals ys its->ys.length<=aM->∀(h':Heap) (z:Nat),(∀ b Y,s.heap.get? b=some Y->h'.get? b=some Y) ->
   h'.get? s.heap.objs.size=some { cls:=.type "list",dict:=none,data:=.seq its.toArray z,slots:=#[] }->EP X G W Q (.ref s.heap.objs.size) { s with heap:=h' }:=λ its r' hz h' z kp e =>
  ⟨.ref s.heap.objs.size,_,I.laid (t':=s.toks) kp (ah _) (show ab7 X.prog X.w _ h' _ (.lst ys)from⟨hz,its,z,r',e⟩),rfl,q _ (I.hok.fresh (ah _))⟩
 rcases hq with hq|hq
 .obtain⟨its,r',pl,hz⟩:=I.list hq
  have F:=r'.length
  obtain⟨o,ho,hc,n,hd⟩:=pl.isList
  exact call_list_seq p (.inl rfl) ho hc hd (λ h' z kp e=>fin its r' hz h' z kp e) (by simp only[av]<;>omega)
 .obtain⟨its,r',pl,hz⟩:=I.tuple hq
  have F:=r'.length
  obtain⟨o,ho,hc,n,hd⟩:=pl
  exact call_list_seq p (.inr rfl) ho hc hd (λ h' z kp e=>fin its r' hz h' z kp e) (by simp only[av]<;>omega)
theorem as0:ac0 X (.type "tuple") (λ F H Q=>∃ p ys,F=[.ref p]/\((SqL X.K H p ys/\∀ l,H l=none->Q (.ref l) (upd H l (.tup ys)))\/(SqT X.K H p ys/\Q (.ref p) H))):=by
 intro z s W H F us Q I r h
 obtain⟨p,ys,rfl,h⟩:=h
 obtain⟨u,rfl,Z⟩:=qu r
 cases Z
 rcases h with⟨hq,q⟩|⟨hq,q⟩
 .obtain⟨its,r',pl,hz⟩:=I.list hq
  have G:=r'.length
  refine call_tuple_list pl.isList (λ h' kp=>?_) (by simp only[av]<;>omega)
  have J:Inv X z W H { s with heap:=h' }:=I.kept (t':=s.toks) kp
  have Y:Inv X z W (upd H h'.objs.size (.tup ys)) { s with heap:=h'.push { cls:=.type "tuple",data:=.seq its.toArray } } :=
   J.laid (t':=s.toks) (λ b o e=>aq _ e) (ah _) (show ab7 X.prog X.w _ _ _ (.tup ys)from⟨hz,its,r',jf _ _⟩)
  exact⟨.ref h'.objs.size,_,Y,rfl,q _ (J.hok.fresh (ah _))⟩
 .obtain⟨its,r',pl,hz⟩:=I.tuple hq
  exact call_tuple_same pl ⟨.ref p,H,I,rfl,q⟩
def tyV (K:ae)(T:String)(x:V)(H:Hp):Prop:=match x with
 | .str _=>T = "str"
 | .int _=>T = "int"
 | .ref p=>(T = "list"/\∃ xs,SqL K H p xs)\/(T = "tuple"/\∃ o,K.lookup p=some o/\o.cls=.type "tuple"/\o.dict=none) \/
   (T = "dict"/\((∃ kvs,H p=some (.dK kvs))))
 | _=>False
theorem br6 {h:yA}{W:St}{H:Hp}{s:ag}{T:String}{x:V}{v:Value}(I:Inv X h W H s)(r:RelV x v)(F:tyV X.K T x H) :
  s.TypeIs v T/\∀ a,v=.ref a->∃ ob,s.heap.get? a=some ob/\ob.dict=none:=by
 cases x with
 | str z =>
  obtain⟨t,rfl⟩:=r
  cases(show T = "str" from F)
  exact⟨iB s z t,λ _ e=>nomatch e⟩
 | int i =>
  obtain⟨t,rfl⟩:=r
  cases(show T = "int" from F)
  exact⟨e8 s i t,λ _ e=>nomatch e⟩
 | ref p =>
  cases r
  rcases F with⟨rfl,G,hq⟩|⟨rfl,o,hk,hc,hd⟩|⟨rfl,kvs,hk⟩
  .obtain⟨its,_,pl,_⟩:=I.list hq
   refine⟨pl.isList.typeIs,λ a e=>?_⟩
   cases e
   obtain⟨o,n,e,c,hd,_⟩:=pl
   exact⟨o,e,hd⟩
  .refine⟨⟨o,I.kIn p o hk,hc⟩,λ a e=>?_⟩
   cases e
   exact⟨o,I.kIn _ o hk,hd⟩
  .obtain⟨_,_,_,_,o,_,_,e,ex,_⟩:=I.hok p _ hk
   refine⟨⟨o,e,ex.1⟩,λ a e2=>?_⟩
   cases e2
   exact⟨o,e,ex.2.1⟩
 | _=>exact bP F
def cj3 (K:ae)(T:String)(r:V->List V->Hp->VK->Prop)(to:TE):TE:=λ W H Q=>to W H λ x H1=>tyV K T x H1/\r x [] H1 Q
def tBM (K:ae)(T:String)(r:V->List V->Hp->VK->Prop)(to:TE)(t:TA):TE:=λ W H Q=>to W H λ x H1=>tyV K T x H1/\t W H1 λ xs H2=>r x xs H2 Q
variable {o e:Expr} {es:yK} {to:TE} {t:TA} {name:Str} {apos cpos:Pos} {T id:String} {r:V->List V->Hp->VK->Prop}
theorem bs7 (pa:jG T)(slot:Slot T name id)(J:typeOf (.builtin id)=pure (.type "method_descriptor"))(hm:MtR X id r)(ho:PE X o to)
  (F:cZ o name X.env (eval o X.env)=eval o X.env:=by rfl) (G:(apos.endLine==cpos.line)=true:=by rfl):PE X (.Call (.Attribute o name apos) [] [] cpos) (cj3 X.K T r to):=by
 intro z s W H Q I h
 refine wpAny_Call_method0_late F G (thn (ho z s W H _ I h) λ v s1 ⟨x,H1,Y,r1,Z,q1⟩=>?_)
 obtain⟨h1,h2⟩:=br6 Y r1 Z
 exact⟨T,id,pa,slot,J,h1,h2,dQ rfl (PySem.evalArgs_none (hm z s1 W H1 x [] v [] Q Y r1 .nil q1))⟩
theorem cd5 (pa:jG T)(slot:Slot T name id)(Z:typeOf (.builtin id)=pure (.type "method_descriptor"))(hm:MtR X id r)(ho:PE X o to)(ha:PA X (e::es) t)
  (G:cZ o name X.env (eval o X.env)=eval o X.env:=by rfl)
  (Y:((cD cpos (aY (e::es) X.env)).all (λ x=>!x.1)&&(ef cpos (cQ [] X.env)).all (λ x=>x.1.isSome)
   && decide ((e::es).length+([]:List d8).length+(if([]:List d8).isEmpty then 0 else 1)<30))=true:=by rfl)
  (J:(apos.endLine==cpos.line)=true:=by rfl) (hs:aY (e::es) X.env=(false,eval e X.env)::aY es X.env:=by rfl) (F:(cD cpos (aY es X.env)).any (·.1)=false:=by rfl) :
  PE X (.Call (.Attribute o name apos) (e::es) [] cpos) (tBM X.K T r to t):=by
 intro z s W H Q I h
 refine wpAny_Call_method_late G Y J rfl (thn (ho z s W H _ I h) λ v s1 ⟨x,H1,I1,r1,ty,q1⟩=>?_)
 obtain⟨h1,h2⟩:=br6 I1 r1 ty
 refine⟨T,id,pa,slot,Z,h1,h2,?_⟩
 have hA:=ha cpos z s1 W H1 _ I1 q1
 rw[hs]at hA ⊢
 refine dQ (by show(false||(cD cpos (aY es X.env)).any (·.1))=false;rw[F]<;>rfl) (gE ?_)
 exact thn hA λ us s2 ⟨vs,H2,I2,r2,q2⟩=>hm z s2 W H2 x vs v us Q I2 r1 r2 q2
end
def MtM (X:Cx)(id:String)(r:V->List V->Hp->VK->Prop):Prop :=
 ∀(pins:yA) (s:ag) (W:St) (H:Hp) (x:V) (xs:List V) (v:Value) (us:yG) (Q:VK),Inv X pins W H s->RelV x v->Vals xs us->r x xs H Q ->
  wpAny (model X.prog X.w) X.A (call (.builtin id) (v::us)) (EP X pins W Q) X.xe s
theorem Vals.one:∀ {x:V} {us:yG},Vals [x] us->∃ u,us=[u]/\RelV x u
 | _,_,.cons r .nil=>⟨_,rfl,r⟩
theorem Vals.zero:∀ {us:yG},Vals [] us->us=[]
 | _,.nil=>rfl
theorem Vals.reverse {z:List V}{us:yG}(h:Vals z us):Vals z.reverse us.reverse:=by
 induction h with
 | nil=>exact .nil
 | cons r t ih=>rw[dR,dR];exact Vals.append ih (.cons r .nil)
theorem Vals.rep {z:List V}{us:yG}(h:Vals z us):∀ k:Nat,Vals (ai k z).flatten (ai k us).flatten
 | 0=>.nil
 | k+1=>by
  rw[bC,bC,cG,cG]
  exact Vals.append h (Vals.rep h k)
theorem aw9 (its:yG):∀(k:Nat) (h:yG),
  jH (λ x1 x2=>x1++x2) h.toArray (ai k its.toArray)=(h++(ai k its).flatten).toArray
 | 0,h=>by simp
 | k+1,h=>by
  have e:h.toArray++its.toArray=(h++its).toArray:=by simp
  have e2:(h++its)++(ai k its).flatten=h++(ai (k+1) its).flatten:=by
   rw[bC,cG,aQ]
  rw[<-e2,<-aw9 its k (h++its),<-e,bC,dB]
section
variable {X:Cx} {pins:yA} {W:St} {H:Hp} {s:ag} {l b:Addr} {xs ys zs:List V}
theorem Inv.lset {its its':yG}{n:Nat}{f:Array Value->Array Value}{t':Nat}(I:Inv X pins W H s)(z:H l=some (.lst xs))
  (e:s.heap.get? l=some { cls:=.type "list",data:=.seq its.toArray n }) (h:f its.toArray=its'.toArray) (hv:Vals ys its') (hz:ys.length<=aM) :
  Inv X pins W (upd H l (.lst ys)) { s with heap:=s.heap.update l (f7 f),toks:=t' }:=by
 have q:=PySem.IsL.update e f
 rw[h]at q
 refine I.write (x:=l) (e:=l) (by rw[z];exact trivial) (.inl rfl) (λ F u hb hu=>(f8 s.heap (f7 f) (bG hb)).trans hu) ⟨_,q⟩ ?_
 exact⟨hz,its',_,hv,q⟩
theorem Inv.lnew {its:yG}{t':Nat}(I:Inv X pins W H s)(hv:Vals ys its)(hz:ys.length<=aM) :
  Inv X pins W (upd H s.heap.objs.size (.lst ys)) { s with heap:=s.heap.push { cls:=.type "list",data:=.seq its.toArray },toks:=t' } :=
 I.laid (λ _ _ q=>aq _ q) (ah _) ⟨hz,its,0,hv,aV _ rfl⟩
theorem Inv.fresh (I:Inv X pins W H s):H s.heap.objs.size=none:=I.hok.fresh (ah _)
theorem Inv.lstM (I:Inv X pins W H s)(h:H l=some (.lst xs)):xs.length<=aM/\∃(its:yG) (n:Nat),Vals xs its/\xs.length=its.length/\s.heap.get? l=some { cls:=.type "list",data:=.seq its.toArray n }:=by
 obtain⟨z,its,n,r,e⟩:=I.hok l _ h
 exact⟨z,its,n,r,r.length,e⟩
theorem bk4 {n:Nat}(h:n<=aM):dw n=false:=by
 unfold dw
 exact decide_eq_false (by lia)
end
section
variable {X:Cx}
def by0:V->List V->Hp->VK->Prop:=λ x vs H Q=>∃ l xs y,x=.ref l/\vs=[y]/\H l=some (.lst xs)/\xs.length<aM/\Q .non (upd H l (.lst (xs++[y])))
theorem av9:MtM X "list.append" by0:=by
 intro J s W H x vs v us Q I rx Y h
 obtain⟨l,xs,y,rfl,rfl,G,hz,q⟩:=h
 cases rx
 obtain⟨u,rfl,Z⟩:=Y.one
 obtain⟨z,its,n,r,hl,e⟩:=I.lstM G
 refine e9 gr ⟨_,e,rfl⟩ F.entry_list_append (F.args_list_append_2 _ _) (PySem.list_append l its.toArray n u (by rw[av];lia)) ⟨e,?_⟩
 refine⟨.non,_,I.lset (its':=its++[u]) G e (by simp) (r.append (.cons Z .nil)) ?_,rfl,q⟩
 rw[am,c4]
 lia
def bh7:V->List V->Hp->VK->Prop:=λ x vs H Q=>∃ l xs,x=.ref l/\vs=[]/\H l=some (.lst xs)/\Q .non (upd H l (.lst xs.reverse))
theorem aN1:MtM X "list.reverse" bh7:=by
 intro Y s W H x vs v us Q I rx Z h
 obtain⟨l,xs,rfl,rfl,J,q⟩:=h
 cases rx
 have G:=Z.zero
 subst G
 obtain⟨z,its,n,r,hl,e⟩:=I.lstM J
 refine e9 f9 ⟨_,e,rfl⟩ F.entry_list_reverse (F.args_list_reverse_1 _) (AutoSeq1.list_reverse_list_0 l its.toArray n (by rw[av];lia)) ⟨e,?_⟩
 refine⟨.non,_,I.lset (its':=its.reverse) J e (by simp) r.reverse ?_,rfl,q⟩
 rw[List.length_reverse]
 omega
def cl9:R2:=λ x y H Q=>∃ l b xs zs,x=.ref l/\y=.ref b/\H l=some (.lst xs)/\H b=some (.lst zs)/\xs.length+zs.length<=aM/\∀ p,H p=none->Q (.ref p) (upd H p (.lst (xs++zs)))
theorem bR1:OpR X (bK .Add) cl9:=by
 intro G s W H x y v u Q I rx Z h
 obtain⟨l,b,xs,zs,rfl,rfl,Y,hB,hz,q⟩:=h
 cases rx
 cases Z
 obtain⟨z,its,n,r,hl,e⟩:=I.lstM Y
 obtain⟨z2,F,n2,r2,J,e2⟩:=I.lstM hB
 refine PySem.P.add_list e e2 ?_ (by rw[av,av];lia)
 have ea:its.toArray++F.toArray=(its++F).toArray:=by simp
 rw[ea]
 exact⟨.ref _,_,I.lnew (t':=s.toks) (r.append r2) (by rw[am];omega),rfl,q _ I.fresh⟩
def ck8:R2:=λ x y H Q=>∃ l k xs,x=.ref l/\y=.int k/\H l=some (.lst xs)/\-(2^63)<=k/\k<2^63/\xs.length*k.toNat<=aM /\
 ∀ p,H p=none->Q (.ref p) (upd H p (.lst (ai k.toNat xs).flatten))
theorem bv5 {α:Type}(h:List α)(k:Nat):(ai k h).flatten.length=k*h.length:=by
 induction k with
 | zero=>simp
 | succ k ih=>rw[bC,cG,am,ih,kc,gb]
theorem bT8:OpR X (bK .Mult) ck8:=by
 intro a1 s W H x y v u Q I rx ry h
 obtain⟨l,k,xs,rfl,rfl,hH,h1,h2,hz,q⟩:=h
 cases rx
 obtain⟨t,rfl⟩:=ry
 obtain⟨z,its,n,r,hl,e⟩:=I.lstM hH
 have Z:its.toArray.size*k.toNat<=aM:=by rw[av,<-hl];exact hz
 have Y:¬ its.toArray.size*k.toNat > (2^63 - 1) / 8:=by
  have:(aM:Nat)<=(2^63 - 1) / 8:=by decide
  lia
 have J:¬(!Builtin.List.listFitsIndex k)=true:=by
  rw[fitsIndex_both h1 h2]
  exact aW
 have G:¬ dw (its.toArray.size*k.toNat)=true:=by
  rw[bk4 Z]
  exact aW
 have a0:jH (λ x1 x2=>x1++x2) #[] (ai (if its.toArray.isEmpty=true then 0 else k.toNat) its.toArray)=(ai k.toNat its).flatten.toArray:=by
  have f0:∀ m:Nat,jH (λ x1 x2=>x1++x2) #[] (ai m its.toArray)=(ai m its).flatten.toArray:=λ m=>by
   have:=aw9 its m []
   rw[dC]at this
   exact this
  rw[f0]
  cases its with
  | nil=>simp
  | cons a r'=>rw[if_neg (by simp)]
 refine fh (T := "list") (U := "int") (by decide) ⟨_,e,rfl⟩ (λ s'=>e8 s' k t) noFill_list_mul iC dE repeat_list gY.lookup
  (e9 dE (e8 s k t) gZ (gF _ _) (int___rmul___int_list k t l its.toArray n)
   ⟨e,rfl,⟨_,e,rfl⟩,e9 F.slot_list_mul ⟨_,e,rfl⟩ F.entry_list_mul (F.args_list_mul_2 _ _) (AutoListH.list___mul___list_int_3 l its.toArray n k t J Y G) ⟨e,?_⟩⟩)
 rw[a0]
 exact⟨.ref _,_,I.lnew (t':=s.toks) (r.rep k.toNat) (by rw[bv5,ke];exact hz),rfl,q _ I.fresh⟩
end
section
variable {prog:aE} {w:World} {A:a7} {E:Value->ag->Prop} {s:ag}
end
section
variable {X:Cx}
end
end L2
end
noncomputable section
namespace Att
open PySem PySem.W PySem.Calls PyProof.Rows
theorem ints_of_wellAll {P:Params}{h:Heap}:∀(ns:List Int) (vs:yG),WellAll P h vs (ns.map WData.int)->iW vs ns:=by
 intro ns
 induction ns with
 | nil =>
  intro vs w
  rw[cR]at w
  cases w
  exact .nil
 | cons n ns ih =>
  intro vs w
  rw[aH]at w
  cases w with
  | cons a b =>
   cases a
   exact .cons _ _ (ih _ b)
theorem script_of {l:OpenLaw}{n:Nat}(hn:l.most=some n){P:Params}{h:Heap}{args:List WData}{F:yG}
  (z:l.row.toRowW.claim.pre args=true) (a0:WellAll P h F args) :
  ∃ a vs ns,F=[Value.ref a]/\args=[WData.list (ns.map WData.int)]/\h.get? a=some { cls:=.type "list",data:=.seq vs.toArray }/\iW vs ns/\ns.length<=n:=by
 have Z:WShape.hasAll [] args [.list .int]=true:=(pre_splitW z).1
 have hc:l.pre.holds [] { args:=args }=true:=(pre_splitW z).2
 obtain⟨d,r,rfl,h1,h2⟩:=hasAllW_cons Z
 obtain rfl:=hasAllW_nil h2
 obtain⟨xs,rfl,h3⟩:=hasW_list h1
 obtain⟨ns,rfl⟩:=items_int h3
 have G:ns.length<=n:=by
  unfold OpenLaw.pre at hc
  have Y:(WTm.not (.lt (.lit (.int (n:Int))) (.len (.arg 0)))).holds [] { args:=[.list (ns.map .int)] }=true:=by
   have Y:=(holds_andW hc).1
   rw[hn]at Y
   exact Y
  have J:=condW_of Y (w_not (w_lt w_lit (w_len_list (w_arg rfl))))
  rw[az]at J
  refine jh λ q=>?_
  have q':(n:Int)<((ns.length:Nat):Int):=by omega
  first
   | (rw[decide_eq_true q']at J;exact absurd J (by decide))
   | (simp at J;omega)
 cases a0 with
 | cons w1 w2 =>
  cases w2
  cases w1 with
  | list ho hall=>exact⟨_,_,ns,rfl,rfl,ho,ints_of_wellAll ns _ hall,G⟩
theorem post_true (l:OpenLaw)(args:List WData):l.row.toRowW.claim.post args (.bool true) args=true :=
 postW_of (r:=l.row.toRowW) (X:=(true==true))
  (show WShape.has [] (.bool true) .bool=true by first|rfl|decide|simp[WShape.has,WShape.arms,WShape.armsAll])
  (show(WTm.eq .res (.lit (.bool true))).value [] { args:=args,res:=some (.bool true),after:=args }=some (.bool (true==true))from w_eq_bool (w_res rfl) w_lit) rfl
theorem attach_call {l:OpenLaw}{n:Nat}{q:aE}{loose:yH}{XP:(Str->Option Value)->Heap->Prop}{YP:World->Heap->Prop}{d:DefRec}
  (hn:l.most=some n) (a2:d.params.defaults=[])
  (call:∀(w:World) (s₀ h:ag) (mg mb:yC) (fa:Addr) (o:Obj) (pm cd F:Value) (a:Addr) (vs:yG) (ns:List Int),
   Ground q loose [] XP w s₀ mg mb h.heap->YP w h.heap ->
   h.heap.get? fa=some o->o.data=.func (docDef d.name d.params d.body d.scope pm cd F)->h.heap.CodeRec cd d.name->mg d.name=some (.ref fa) ->
   h.heap.get? a=some { cls:=.type "list",data:=.seq vs.toArray }->iW vs ns->ns.length<=n->h.gens=#[] ->
   fU (model l.prog w) gO (.call (.ref fa) ⟨[.ref a],[]⟩) (λ r s'=>r=.ok (.ret (.bool true))/\OldK h.heap s'.heap/\s'.os=h.os/\fj s'.gens) h) :
  WalkO q loose XP YP l.row.toRowW d [] (λ f vs=>jA f vs):=by
 intro w s₀ h mg mb G Y fa o pm cd F dV kV ho hd a3 hD a1 hg args a6 as a0 a5 b1 a4 b0
 obtain rfl:dV=.none:=Dflts.none hD a2
 obtain rfl:kV=.none:=Dflts.noKw hD
 obtain⟨a,vs,ns,rfl,rfl,J,z,Z⟩:=script_of hn a0 a4
 refine enter_call (fW (call w s₀ h mg mb fa o pm cd F a vs ns G Y ho (fd_plain hd) a3 a1 J z Z hg) λ r s' hq=>?_)
 obtain⟨rfl,h2,h3,h4⟩:=hq
 exact⟨.inl ⟨.bool true,.bool true,[],rfl,λ _=>rfl,.bool true,post_true l _,λ _=>⟨List.Pairwise.nil,λ _ hm=>(nomatch hm)⟩⟩,h2,h3,h4⟩
section
variable {prog:aE} {w:World} {A:a7} {E:Value->ag->Prop} {s:ag} {K:Frag}
end
end Att
noncomputable section
namespace L2
open PySem PySem.Spec PyProof.Rows
theorem am9:∀ {vs:yG} {ns:List Int},iW vs ns->Vals (ns.map V.int) vs
 | _,_,.nil=>.nil
 | _,_,.cons n t h=>.cons ⟨t,rfl⟩ (am9 h)
noncomputable def defArgs (s:Stmt):dj:=match s with
 | .FunctionDef _ a _ _ _ _ _ _ _ _=>a
 | _=>{ posonlyargs:=[],args:=[],vararg:=none,kwonlyargs:=[],kw_defaults:=[],kwarg:=none,defaults:=[] }
noncomputable def defBody (s:Stmt):List Stmt:=match s with
 | .FunctionDef _ _ b _ _ _ _ _ _ _=>b
 | _=>[]
noncomputable def defScope (s:Stmt):Scope:=match s with
 | .FunctionDef _ _ _ _ _ _ sc _ _ _=>sc
 | _=>{ kind:=.function,names:=[],isGenerator:=false,isCoroutine:=false }
noncomputable abbrev CX0:CXT:=λ _ _ _ _ _ _=>False
abbrev E0:XK:=λ _ _ _=>False
theorem aP1 {X:Cx}:ae7 CX0 X E0:=λ _ _ _ _ _ _ _ h=>h.elim
structure Fun (K:ae)(x qual:Str)(st:Stmt)(f:Addr)(fd:bM):Prop where
 ex:∃(oc:Value) (od:yI) (kV doc pm:Value) (an:yI) (cdv ct:Value) (osl:yE),
  fd=ci x qual (defArgs st) (defBody st) (defScope st) .none kV doc pm an cdv ct/\K.lookup f=some ⟨oc,od,.func fd,osl⟩/\dN K cdv qual=true
 kp:bz K (.ref f)=true
section
variable {P:aE} {w:World} {K:ae} {mg:yC} {base:Heap}
theorem Fun.ok {x qual:Str}{st:Stmt}{f:Addr}{fd:bM}{N ps:yH}{k:Nat}{sp:Sp}(F:Fun K x qual st f fd)(S:FnScope N ps (defScope st))(len:∀ vs H Q E,sp vs H Q E->vs.length=ps.length)
  (J:∀(G:Value) (A:a7) (z:List Env) (s:ag) (H:Hp) (vs:List V) (Q:VK) (E:XK),Room k (A.deeper (fA qual (defScope st) s.heap.objs.size f G))->sp vs H Q E ->
   ∃ t,PSs (br5 CX0 P w K mg base N qual (defScope st) f G A z s H E).nox (defBody st) t/\t { nx:=λ _ H'=>Q .non H',rt:=Q } (aj4 N vs) H):FnOk P w K mg base CX0 (k+1) f fd ps sp:=by
 obtain⟨oc,od,kV,a0,pm,an,G,ct,a1,rfl,lk,Y⟩:=F.ex
 refine cd6 lk Y S len λ A z s H vs Q E hr Z=>?_
 obtain⟨t,h,q⟩:=J G A z s H vs Q E hr Z
 exact⟨t,h.nox,q⟩
theorem Fun.binds {x qual:Str}{st:Stmt}{f:Addr}{Z:bM}{ps:yH}(F:Fun K x qual st f Z)
  (h:∀(kV G Y:Value) (J:yI) (z ct:Value) (us:yG),us.length=ps.length->jF (ci x qual (defArgs st) (defBody st) (defScope st) .none kV G Y J z ct) ⟨us,[]⟩=pure (ps.zip us)):Binds K Z ps []:=by
 obtain⟨oc,od,kV,G,Y,J,z,ct,a1,rfl,lk,a0⟩:=F.ex
 exact .all (h kV G Y J z ct)
theorem aU3 {x qual:Str}{st:Stmt}{f:Addr}{oc:Value}{od G:yI}{F:yE}{kV z J h ct:Value}(l:K.lookup f=some ⟨oc,od,.func (ci x qual (defArgs st) (defBody st) (defScope st) .none kV z J G h ct),F⟩)
  (c:dN K h qual=true) (k:bz K (.ref f)=true):Fun K x qual st f (ci x qual (defArgs st) (defBody st) (defScope st) .none kV z J G h ct):=⟨⟨oc,od,kV,z,J,G,h,ct,F,rfl,l,c⟩,k⟩
end
section
variable {X:Cx}
end
theorem cl3 {A B:Prop}(h:B):if false=true then A else B:=by
 rw[if_neg aW]
 exact h
theorem iteT {A B:Prop}(h:A):if true=true then A else B:=by
 rw[if_pos rfl]
 exact h
def ae2 (H H':Hp):Prop:=∀ b o,H b=some o->H' b=some o
theorem ae2.refl (H:Hp):ae2 H H:=λ _ _ h=>h
theorem bb2 {prog:aE}{w:World}{A:a7}{R:je->ag->Prop}{s:ag}{G z iter:Expr}{J:yK}{scope:Scope}{pos:Pos}{it F:Value}{env:Env}(I:Nat->ag->Prop)
  (turn:∀ n s,I n s->wpAny (model prog w) A (pyNext it) (λ r Z=>match r with
   | none=>R (.ok .next) Z
   | some v=>wpAny (model prog w) A (eG z it v) (λ _ Y=>wpAny (model prog w) A (fQ z env v) (λ _ s₂ =>
     wpAny (model prog w) A (forIn J true λ c r=>if r=true then do let ok <- dD c env (eval c env);pure (ForInStep.yield ok)else pure (ForInStep.yield r)) (λ ok s₃ =>
      if ok=true then wpAny (model prog w) A (eval G env) (λ x s₄ =>
       wpAny (model prog w) A (call (.builtin "list.append") [F,x]) (λ _ s₅=>∃ m,m<n/\I m s₅) (iZ (model prog w) A env λ e s'=>R (.error e) s') s₄) (iZ (model prog w) A env λ e s'=>R (.error e) s') s₃
      else ∃ m,m<n/\I m s₃) (iZ (model prog w) A env λ e s'=>R (.error e) s') s₂) (iZ (model prog w) A env λ e s'=>R (.error e) s') Y) (iZ (model prog w) A env λ e s'=>R (.error e) s') Z) (iZ (model prog w) A env λ e s'=>R (.error e) s') s)
  (n:Nat) (h:I n s) :
  fU (model prog w) A (.compLoop (.ListComp G [⟨z,iter,J,0⟩] scope pos) 0 it F env) R s:=by
 refine codeAny_loop rfl I (λ n s hI=>?_) n h
 show wpAny _ A ((compTurn (.ListComp G [⟨z,iter,J,0⟩] scope pos) 0 it F env).onRaise (λ x=>do noteFrame x env;theTreesLotGoes x)) _ _ s
 refine wpAny_noted ?_
 rw[compTurn_list]
 refine ar (hZ (ar (bT (turn n s hI) (λ r Z h₁=>?_) λ _ _ h'=>h')))
 cases r with
 | none=>exact aJ h₁
 | some v =>
  refine ar (bT h₁ (λ _ Y a0=>?_) λ _ _ h'=>h')
  refine ar (bT a0 (λ _ s₂ h₂=>ar (bT h₂ (λ ok s₃ h₃=>?_) λ _ _ h'=>h')) λ _ _ h'=>h')
  cases ok with
  | false=>exact aJ ⟨rfl,h₃⟩
  | true =>
   exact ar (ar (bT h₃ (λ x s₄ h₄=>ar (bT h₄ (λ _ s₅ h₅=>aJ (aJ ⟨rfl,h₅⟩)) λ _ _ h'=>h')) λ _ _ h'=>h'))
noncomputable def ao9 (cells:yB):List (Str×b8)->List (Str×Addr)->List (Str×Addr)
 | [],acc=>acc
 | (n,k)::r,acc=>ao9 cells r (if k==.free then(match cells.lookup n with|some c=>(n,c)::acc|none=>acc)else acc)
theorem ag6 {env:Env}:∀(names:List (Str×b8)) (z:yB),(∀ y∈names,y.2=.free->∃ c,env.cells.lookup y.1=some c) ->
  (forIn names z λ(x:Str×b8) (F:yB)=>(if x.2==.free then do let c <- cellOf env x.1;pure (ForInStep.yield ((x.1,c)::F))else pure (ForInStep.yield F):Sem (ForInStep (List (Str×Addr)))))=pure (ao9 env.cells names z)
 | [],z,_=>by rw[jI];rfl
 | (n,k)::r,z,h=>by
  have G:=λ a=>ag6 r a λ y hy=>h y (ax _ hy)
  rw[List.forIn_cons]
  unfold ao9
  cases e:(k==NameKind.free)with
  | false =>
   simp only[cz,if_false]
   exact G z
  | true =>
   have hk:k=.free:=by simpa using e
   obtain⟨c,hc⟩:=h (n,k) aB hk
   have e1:cellOf env n=pure c:=by unfold cellOf;rw[hc]
   simp only[if_true,e1,hc]
   exact G _
theorem af4 {scope:Scope}{env:Env}(h:∀ y∈scope.names,y.2=.free->∃ c,env.cells.lookup y.1=some c):closureFor scope env=pure (ao9 env.cells scope.names []):=by
 have:=ag6 (env:=env) scope.names [] h
 show(forIn scope.names [] (λ(x:Str×b8) (z:yB)=>(if x.2==.free then do let c <- cellOf env x.1;pure (ForInStep.yield ((x.1,c)::z))else pure (ForInStep.yield z):Sem (ForInStep (List (Str×Addr))))) >>= λ z=>pure z)=_
 rw[this]
 rfl
theorem clOf_mem {cells:yB}{n:Str}{c:Addr}:∀ {names:List (Str×b8)} {F:yB},(n,c)∈ao9 cells names F->cells.lookup n=some c\/(n,c)∈F
 | [],_,h=>.inr h
 | (m,k)::r,F,h=>by
  unfold ao9 at h
  rcases clOf_mem h with z|z
  .exact .inl z
  .cases e:(k==NameKind.free)with
   | false=>simp only[e,cz,if_false]at z;exact .inr z
   | true =>
    simp only[e,if_true]at z
    cases q:cells.lookup m with
    | none=>rw[q]at z;exact .inr z
    | some d =>
     rw[q]at z
     rcases aG.mp z with y|y
     .cases y;exact .inl q
     .exact .inr y
theorem aI9 {cells:yB}{n:Str}{c:Addr}(hc:cells.lookup n=some c):∀ {names:List (Str×b8)} {z:yB},((n,NameKind.free)∈names\/(n,c)∈z)->(n,c)∈ao9 cells names z
 | [],_,h=>by rcases h with h|h;(exact absurd h (by simp));exact h
 | (m,k)::r,z,h=>by
  unfold ao9
  refine aI9 hc ?_
  rcases h with h|h
  .rcases aG.mp h with e|h
   .cases e
    right
    simp[hc]
   .exact .inl h
  .right
   cases e:(k==NameKind.free)with
   | false=>simpa using h
   | true =>
    simp only[if_true]
    cases q:cells.lookup m with
    | none=>exact h
    | some d=>exact ax _ h
theorem ag4 {α:Type}{n:Str}{c:α}:∀ {l:List (Str×α)},(n,c)∈l->(∀ d,(n,d)∈l->d=c)->l.lookup n=some c
 | (m,d)::r,h,u=>by
  rw[a9]
  cases e:n==m with
  | true =>
   have e':=beq_iff_eq.mp e
   subst e'
   rw[u d aB]
  | false =>
   rcases aG.mp h with z|z
   .cases z;simp at e
   .exact ag4 z λ d' h'=>u d' (ax _ h')
theorem aB6 {cells:yB}{n:Str}{c:Addr}{names:List (Str×b8)}(hc:cells.lookup n=some c)(h:(n,NameKind.free)∈names):(ao9 cells names []).lookup n=some c:=by
 refine ag4 (aI9 hc (.inl h)) λ d hd=>?_
 rcases clOf_mem hd with z|z
 .rw[hc]at z;exact(aw z).symm
 .exact absurd z (by simp)
theorem zB:∀(names:List (Str×b8)) (n:Nat) (h:yB),bt n names h=bt n names []++h
 | [],_,h=>by simp[bt]
 | (x,k)::r,n,h=>by
  unfold bt
  split
  .rw[zB r (n+1) ((x,n)::h),zB r (n+1) [(x,n)]]
   simp
  .exact zB r n h
theorem zJ:∀ {names:List (Str×b8)} {n:Nat} {F:yB} {x:Str} {c:Addr},(x,c)∈bt n names F->(x,NameKind.cell)∈names\/(x,c)∈F
 | [],_,_,_,_,h=>.inr h
 | (y,k)::r,n,F,x,c,h=>by
  unfold bt at h
  split at h
  .rename_i hk
   rcases zJ h with z|z
   .exact .inl (ax _ z)
   .rcases aG.mp z with e|z
    .cases e
     have:k=.cell:=by simpa using hk
     subst this
     exact .inl aB
    .exact .inr z
  .rcases zJ h with z|z
   .exact .inl (ax _ z)
   .exact .inr z
theorem qz {α:Type}(x:Str):∀(l r:List (Str×α)),(l++r).lookup x=(l.lookup x).or (r.lookup x)
 | [],r=>by simp
 | (y,v)::l,r=>by
  rw[dm,a9,a9]
  cases x==y with
  | true=>rfl
  | false=>exact qz x l r
noncomputable def zN (N':yH)(src:yD)(scope:Scope)(XN:yH)(xs:Scope):Bool :=
 (scope.kind==.function) &&
 (scope.names.all λ y=>!(y.2==.free)||(xs.names.lookup y.1==some .cell||xs.names.lookup y.1==some .free)) &&
 (scope.names.all λ y=>!(y.2==.local)||scope.names.lookup y.1==some .local) &&
 (scope.names.all λ y=>!(y.2==.cell)||(scope.names.all λ z=>!(z.1==y.1)||z.2==.cell)) &&
 (src.length==N'.length) &&
 ((N'.zip src).all λ y=>match y.2 with|none=>true|some j=>XN[j]?==some y.1&&scope.names.lookup y.1==some .free)
structure CompCk (N':yH)(src:yD)(scope:Scope)(XN:yH)(xs:Scope):Prop where
 kind:scope.kind=.function
 fr:∀ y∈scope.names,y.2=.free->xs.names.lookup y.1=some .cell\/xs.names.lookup y.1=some .free
 loc:∀ y∈scope.names,y.2=.local->scope.names.lookup y.1=some .local
 cel:∀ y∈scope.names,y.2=.cell->∀ z∈scope.names,z.1=y.1->z.2=.cell
 len:src.length=N'.length
 sr:∀(i j:Nat) (x:Str),src[i]?=some (some j)->N'[i]?=some x->XN[j]?=some x/\scope.names.lookup x=some .free
theorem bq4 {F:yH}{src:yD}{scope:Scope}{J:yH}{G:Scope}(h:zN F src scope J G=true):CompCk F src scope J G:=by
 unfold zN at h
 simp only[ak]at h
 obtain⟨⟨⟨⟨⟨Z,h2⟩,h3⟩,h4⟩,h5⟩,Y⟩:=h
 refine⟨by simpa using Z,λ y hy e=>?_,λ y hy e=>?_,λ y hy e z hz ez=>?_,by simpa using h5,λ i j x e1 e2=>?_⟩
 .have:=aL.mp h2 y hy
  simpa [e]using this
 .have:=aL.mp h3 y hy
  simpa [e]using this
 .have:=aL.mp h4 y hy
  simp only[e,beq_self_eq_true,Bool.not_true,j0]at this
  have:=aL.mp this z hz
  simpa [ez]using this
 .have hm:(x,some j)∈F.zip src:=by
   refine be (i:=i) ?_
   rw[List.getElem?_zip_eq_some]
   exact⟨e2,e1⟩
  have:=aL.mp Y _ hm
  simpa using this
noncomputable abbrev zy (X:Cx)(N':yH)(scope:Scope)(Cc:Addr)(cells:yB)(s:ag)(H:Hp)(ex:List Addr):Cx where
 prog:=X.prog
 w:=X.w
 K:=X.K
 mg:=X.mg
 base:=X.base
 A:=X.A
 N:=N'
 s₀:=s
 H₀:=H
 env:={ scope:=d9 scope X.env,locals:=Cc,globals:=X.env.globals,cells:=cells,qual:=X.env.qual,func:=none,code:=X.env.code,frame:=X.env.frame,builtins:=X.env.builtins }
 outer:=X.stack
 stack:=X.stack
 ex:=ex
 fn:=λ x=>scope.names.lookup x==some .cell
 calm:=X.calm
 pn:=[]
 xe:=λ _ _=>False
def PIf (X:Cx)(ifs:yK)(t:TT):Prop :=
 ∀(pins:yA) (s:ag) (W:St) (H:Hp) (Q:Bool->Hp->Prop),Inv X pins W H s->t W H Q ->
  wpAny (model X.prog X.w) X.A (forIn ifs true λ c r=>if r=true then do let ok <- dD c X.env (eval c X.env);pure (ForInStep.yield ok)else pure (ForInStep.yield r)) (TP X pins W Q) X.xe s
def cl6:TT:=λ _ H Q=>Q true H
theorem bA7 {X:Cx}:PIf X [] cl6:=λ _ _ _ H _ I h=>wpAny_tests_nil ⟨H,I,h⟩
theorem bw1 {X:Cx}{c:Expr}{t:TT}(h:PT X c t):PIf X [c] t:=λ z s W H Q I hw=>wpAny_tests_one (h z s W H Q I hw)
noncomputable def ax8 (src:yD)(W:St):St:=src.map λ o=>match o with|none=>none|some j=>(W[j]?).join
def tComp (src:yD)(wi:TI)(g:TG)(tc:TT)(te:TE):TE:=λ W H Q=>wi W H λ J H1=>∀ D,H1 D=none ->
 ∃ Ww:Nat->Nat->St->Hp->Prop,(∃ m,Ww 0 m (ax8 src W) (upd H1 D (.lst [])))/\∀ i m W' H',Ww i m W' H' ->
  (J.stop i H'/\Q (.ref D) H')\/(J.go i H'/\∃ N:St->Hp->Prop,(∀ W2 H2,N W2 H2->∃ m',m'<m/\Ww (i+1) m' W2 H2) /\
   ∀ x H2,J.yld i H' x H2->g x W' H2 λ W3 H3=>tc W3 H3 λ b H4=>if b=true then te W3 H4 λ v H5=>∃ ys,H5 D=some (.lst ys)/\ys.length<aM/\N W3 (upd H5 D (.lst (ys++[v])))else N W3 H4)
theorem qc {env:Env}:∀ {names:List (Str×b8)} {x:Str} {k:b8},names.lookup x=some k ->
  (names.map λ(n,k)=>if(k==NameKind.free&&env.scope.kind==.function&&env.kindOf n==some .cell)then(n,NameKind.cell)else(n,k)).lookup x =
   some (if(k==NameKind.free&&env.scope.kind==.function&&env.kindOf x==some .cell)then NameKind.cell else k)
 | [],_,_,h=>by simp at h
 | (n,k)::r,x,k',h=>by
  have z:=@qc env r x k'
  show cP x ((if(k==NameKind.free&&env.scope.kind==.function&&env.kindOf n==some .cell)=true then(n,NameKind.cell)else(n,k))::_)=_
  cases hx:x==n with
  | true =>
   have e:=beq_iff_eq.mp hx
   subst e
   simp only[a9,hx]at h
   cases h
   by_cases hc:(k==NameKind.free&&env.scope.kind==.function&&env.kindOf x==some .cell)=true
   .rw[if_pos hc,if_pos hc];simp only[a9,hx]
   .rw[if_neg hc,if_neg hc];simp only[a9,hx]
  | false =>
   simp only[a9,hx]at h
   by_cases hc:(k==NameKind.free&&env.scope.kind==.function&&env.kindOf n==some .cell)=true
   .rw[if_pos hc];simp only[a9,hx];exact z h
   .rw[if_neg hc];simp only[a9,hx];exact z h
theorem zU {env:Env}:∀ {names:List (Str×b8)} {x:Str},names.lookup x=none ->
  (names.map λ(n,k)=>if(k==NameKind.free&&env.scope.kind==.function&&env.kindOf n==some .cell)then(n,NameKind.cell)else(n,k)).lookup x=none
 | [],_,_=>rfl
 | (n,k)::r,x,h=>by
  have z:=@zU env r x
  show cP x ((if(k==NameKind.free&&env.scope.kind==.function&&env.kindOf n==some .cell)=true then(n,NameKind.cell)else(n,k))::_)=_
  cases hx:x==n with
  | true=>simp only[a9,hx]at h;cases h
  | false =>
   simp only[a9,hx]at h
   by_cases hc:(k==NameKind.free&&env.scope.kind==.function&&env.kindOf n==some .cell)=true
   .rw[if_pos hc];simp only[a9,hx];exact z h
   .rw[if_neg hc];simp only[a9,hx];exact z h
theorem ar2 {X:Cx}{N':yH}{src:yD}{scope:Scope}{a5:yA}{W:St}{H:Hp}{s s4:ag}{fp:List Addr}
  (G:CompCk N' src scope X.N X.env.scope) (I:Inv X a5 W H s) (hf:∀ b∈fp,FpOk X a5 H b) (b0:∀ b∈fp,b<s.heap.objs.size)
  (e4:∃ tk,s4={ s with heap:=d5 (s.heap.push { cls:=.type "dict",data:=.dict #[] }) scope.names,toks:=tk }) :
  Inv (zy X N' scope s.heap.objs.size (bt (s.heap.objs.size+1) scope.names (ao9 X.env.cells scope.names [])) s H fp) [] (ax8 src W) H s4:=by
 obtain⟨tk,rfl⟩:=e4
 have hk:∀ b o,s.heap.get? b=some o->(d5 (s.heap.push { cls:=.type "dict",data:=.dict #[] }) scope.names).get? b=some o:=λ b o e=>eI _ _ b o (aq _ e)
 have ok:=cellsFrom_ok scope.names (s.heap.push { cls:=.type "dict",data:=.dict #[] }) (s.heap.objs.size+1) [] ⟨λ _ _ hm=>(nomatch hm),List.Pairwise.nil⟩ (by rw[cx];exact ah _)
 rw[cx]at ok
 have a0:=zB scope.names (s.heap.objs.size+1) (ao9 X.env.cells scope.names [])
 have lk:∀ x c,(bt (s.heap.objs.size+1) scope.names (ao9 X.env.cells scope.names [])).lookup x=some c ->
   ((x,c)∈bt (s.heap.objs.size+1) scope.names []/\(x,NameKind.cell)∈scope.names)\/(X.env.cells.lookup x=some c/\(bt (s.heap.objs.size+1) scope.names []).lookup x=none):=λ x c e=>by
  rw[a0,qz]at e
  cases q:(bt (s.heap.objs.size+1) scope.names []).lookup x with
  | some d =>
   rw[q]at e
   have e':d=c:=aw e
   subst e'
   have hm:=bh q
   refine .inl ⟨hm,?_⟩
   rcases zJ hm with z|z
   .exact z
   .exact absurd z (by simp)
  | none =>
   rw[q]at e
   have e':(ao9 X.env.cells scope.names []).lookup x=some c:=e
   rcases clOf_mem (bh e')with z|z
   .exact .inr ⟨z,rfl⟩
   .exact absurd z (by simp)
 have up:∀ x c,(x,c)∈bt (s.heap.objs.size+1) scope.names []->s.heap.objs.size+1<=c:=λ x c h=>(ok.empty x c h).2
 have b2:∀ x c,X.env.cells.lookup x=some c->c<s.heap.objs.size:=λ x c h=>by
  obtain⟨v,q⟩:=I.cell x c h
  exact q.lt
 have a4:∀ b,b<s.heap.objs.size->b≠s.heap.objs.size:=λ b h=>aC h
 have b3:∀ b∈fp,H b=none/\b≠X.env.locals/\b ∉ X.fs:=λ b hb=>⟨(hf b hb).1,(hf b hb).2.1,(hf b hb).2.2.1⟩
 have b6:(d5 (s.heap.push { cls:=.type "dict",data:=.dict #[] }) scope.names).Ns s.heap.objs.size (λ _=>none):=(Heap.Ns.new s.heap (.type "dict")).keeps (eI _ _)
 have Z:∀ x k,scope.names.lookup x=some k->(d9 scope X.env).names.lookup x=some (if(k==NameKind.free&&X.env.scope.kind==.function&&X.env.kindOf x==some .cell)then NameKind.cell else k):=λ x k e=>qc (env:=X.env) e
 have a3:∀ x,scope.names.lookup x=none->(d9 scope X.env).names.lookup x=none:=λ x e=>zU (env:=X.env) e
 have b4:∀ x c,(x,NameKind.free)∈scope.names->X.env.cells.lookup x=some c->(bt (s.heap.objs.size+1) scope.names (ao9 X.env.cells scope.names [])).lookup x=some c:=λ x c hx hc=>by
  rw[a0,qz]
  cases q:(bt (s.heap.objs.size+1) scope.names []).lookup x with
  | some d =>
   rcases zJ (bh q)with z|z
   .have:=G.cel _ z rfl _ hx rfl
    cases this
   .exact absurd z (by simp)
  | none=>exact aB6 hc hx
 have a6:∀ x,(x,NameKind.free)∈scope.names->∃ c,X.env.cells.lookup x=some c:=λ x hx=>I.ok.has x (G.fr _ hx rfl)
 refine⟨⟨I.ok.mod,G.kind,I.ok.glob,I.ok.blt,ah _,λ x y c e1 e2=>?_,λ x hx=>?_,λ x c hx e=>?_,I.ok.hd,I.ok.frames,.inl rfl,λ b hb=>⟨a4 b (b0 b hb),λ x c e z=>?_⟩,I.bs,aj I.ok.bsz I.sz,λ b o e hb=>?_,λ b hb z=>?_,I.stack,I.stkFree⟩,
  rfl,I.bare,Un.kept hk,⟨_,b6,λ i x v e1 e2 e3=>?_⟩,λ x c e=>?_,I.hok.fresh (ah _),λ x c e=>?_,λ p hp=>absurd (show p∈([]:yA)from hp) (by simp),I.hok.kept hk,by unfold ax8;rw[az];exact G.len⟩
 .rcases lk x c e1 with⟨a1,_⟩|⟨a1,_⟩<;>rcases lk y c e2 with⟨a2,_⟩|⟨a2,_⟩
  .exact name_of_addr ok.apart a1 a2
  .exact absurd (aA (b2 _ _ a2) (ft (up _ _ a1))) (bA _)
  .exact absurd (aA (b2 _ _ a1) (ft (up _ _ a2))) (bA _)
  .exact I.ok.inj x y c a1 a2
 .cases q:scope.names.lookup x with
  | none =>
   have J:(d9 scope X.env).names.lookup x=some .cell\/(d9 scope X.env).names.lookup x=some .free:=hx
   rw[a3 x q]at J
   rcases J with z|z<;>cases z
  | some k =>
   have J:(d9 scope X.env).names.lookup x=some .cell\/(d9 scope X.env).names.lookup x=some .free:=hx
   rw[Z x k q]at J
   cases k with
   | free =>
    obtain⟨c,hc⟩:=a6 x (bh q)
    exact⟨c,b4 x c (bh q) hc⟩
   | cell =>
    obtain⟨c,hc⟩:=ak4 (n:=s.heap.objs.size+1) q
    exact⟨c,by show(bt _ _ _).lookup x=_;rw[a0,qz,hc];rfl⟩
   | _=>rcases J with z|z<;>cases z
 .have J:(scope.names.lookup x==some .cell)=true:=hx
  have q:scope.names.lookup x=some .cell:=by simpa using J
  rcases lk x c e with⟨a,_⟩|⟨a,b⟩
  .have:=up _ _ a;show s.heap.objs.size<=c;lia
  .obtain⟨d,hd⟩:=ak4 (n:=s.heap.objs.size+1) q
   rw[hd]at b;cases b
 .subst z
  rcases lk x c e with⟨a,_⟩|⟨a,_⟩
  .exact absurd (aA (b0 c hb) (ft (up _ _ a))) (bA _)
  .exact(hf c hb).2.2.2.2.1 x c a rfl
 .rcases(hf b hb).2.2.2.1 with z|z
  .exact I.ok.noex b o e z
  .exact absurd (aA (aN e) (aj I.ok.bsz z)) (bA _)
 .rcases aG.mp (I.stkSub b z)with y|y
  .exact(b3 b hb).2.1 y
  .exact(b3 b hb).2.2 y
 .have F:(ax8 src W)[i]?=some (some v):=e2
  unfold ax8 at F
  rw[aF]at F
  cases q:src[i]? with
  | none=>rw[q]at F;cases F
  | some o =>
   rw[q]at F
   cases o with
   | none=>cases F
   | some j =>
    have Y:(W[j]?).join=some v:=aw F
    have ej:W[j]?=some (some v):=by
     cases q2:W[j]? with
     | none=>rw[q2]at Y;cases Y
     | some o2=>rw[q2]at Y;exact congrArg some Y
    obtain⟨h1,h2⟩:=G.sr i j x q e1
    have hm:=bh h2
    obtain⟨mX,c0,b5⟩:=I.loc
    have b1:Vis X.env.scope x:=by
     rcases G.fr _ hm rfl with z|z
     .exact .inr (.inl z)
     .exact .inr (.inr z)
    obtain⟨u,ru,look⟩:=b5 j x v h1 ej b1
    refine⟨u,ru,.inr ?_⟩
    have hcell:∃ c,X.env.cells.lookup x=some c/\s.heap.IsCell c (some u):=by
     rcases look with⟨z,_⟩|⟨_,c,z1,z2⟩
     .have z':X.env.scope.names.lookup x=some .local:=z
      rcases G.fr _ hm rfl with y|y<;>(rw[z']at y;cases y)
     .exact⟨c,z1,z2⟩
    obtain⟨c,c1,c2⟩:=hcell
    refine⟨?_,c,b4 x c hm c1,c2.keeps hk⟩
    show(d9 scope X.env).names.lookup x=some .cell\/(d9 scope X.env).names.lookup x=some .free
    rw[Z x _ h2]
    by_cases hc:(NameKind.free==NameKind.free&&X.env.scope.kind==.function&&X.env.kindOf x==some .cell)=true
    .rw[if_pos hc];exact .inl rfl
    .rw[if_neg hc];exact .inr rfl
 .rcases lk x c e with⟨a,_⟩|⟨a,_⟩
  .exact⟨_,(ok.empty x c a).1⟩
  .obtain⟨v,q⟩:=I.cell x c a
   exact⟨v,q.keeps hk⟩
 .rcases lk x c e with⟨a,_⟩|⟨a,_⟩
  .exact I.hok.fresh (by have:=up _ _ a;lia)
  .exact I.freeC x c a
theorem aH8 {X:Cx}{N':yH}{scope:Scope}{h:yA}{W W':St}{H Z:Hp}{s s5:ag}{Y:List Addr}{cells:yB}{h':Heap}
  (I:Inv X h W H s) (G:∀ b∈Y,FpOk X h H b) (J:Inv (zy X N' scope s.heap.objs.size cells s H Y) [] W' Z s5) (hs:dg s.heap.objs.size s5.heap h') :
  Inv X h W Z { s5 with heap:=h' }:=by
 have F:∀ b o,s.heap.get? b=some o->b≠s.heap.objs.size:=λ b o e=>aC (aN e)
 have u:Un (frs X.stack) Y H Z s.heap s5.heap:=J.base
 refine I.call' (s':={ s5 with heap:=h' }) (ch:=Y) J.os ⟨λ b o e n hb hx=>?_,λ b o e n hb hx=>?_,λ b o e n hx=>u.free b o e n hx,λ b o e hx=>?_,u.tups,u.frzs,u.tbls⟩ (λ b o e=>?_) J.bare λ b hb=>⟨(G b hb).2.2.2.1,(G b hb).2.1,(G b hb).2.2.2.2.1,(G b hb).2.2.2.2.2⟩
 .exact(hs.2 b (F b o e)).trans (u.keep b o e n hb hx)
 .obtain⟨sl,q⟩:=u.slot b o e n hb hx
  exact⟨sl,(hs.2 b (F b o e)).trans q⟩
 .obtain⟨o',q⟩:=u.there b o e hx
  exact⟨o',(hs.2 b (F b o e)).trans q⟩
 .have fr:Z s.heap.objs.size=none:=J.free
  refine(J.hok b o e).stay (λ c w' hc q=>(hs.2 c ?_).trans q) (λ _ q=>q) λ _ _ q=>q
  rintro rfl
  rcases hc with z|hc
  .rw[<-z,fr]at e;cases e
  .rw[fr]at hc;cases hc
theorem af1 {M:Model}{A:a7}{E:Value->ag->Prop}{s:ag}{scope:Scope}{globals:Addr}{F:yB}{qual:Str}{z:Env}{Q:Env->ag->Prop}
  (h:Q { scope:=scope,locals:=s.heap.objs.size,globals:=globals,cells:=bt (s.heap.objs.size+1) scope.names F,qual:=qual,func:=none,code:=z.code,frame:=z.frame,builtins:=z.builtins }
   { s with heap:=d5 (s.heap.push { cls:=.type "dict",data:=.dict #[] }) scope.names }) :
  wpAny M A (newFunctionEnv scope globals F [] qual none .none (some z)) Q E s:=by
 simp only[newFunctionEnv,iD,if_true]
 refine ar (wpAny_alloc ?_)
 refine ar (wpAny_layCells _ (λ name kind cells=>by cases hkc:kind==NameKind.cell<;>simp[hkc]) _ _ _ _ ?_)
 rw[show({ s with heap:=s.heap.push { cls:=.type "dict",data:=.dict #[] } }:ag).heap.objs.size=s.heap.objs.size+1 from cx ..]
 refine ar ?_
 rw[jI]
 exact aJ (aJ h)
theorem ay4 {X':Cx}{R:je->ag->Prop}{a2 tg iter:Expr}{a5:yK}{scope:Scope}{pos:Pos}{g:TG}{tc:TT}{te:TE}{J:It}{fp:List Addr}{it D:Addr}{tn:Nat->Heap->Prop}{Ww:Nat->Nat->St->Hp->Prop}
  {QD:Hp->Prop} {W0:St} {H0:Hp} {s4:ag} {m0:Nat} (hx:X'.xe=λ _ _=>False) (F:X'.calm=true) (I4:Inv X' [] W0 H0 s4) (T:Turn X'.prog X'.w X'.K tg J fp it tn) (b3:tn 0 s4.heap)
  (Y:∀ H':Hp,(∀ b∈fp,H' b=none)->∀ b∈fp,FpOk X' [] H' b) (a6:∀ b∈fp,H0 b=none) (w0:Ww 0 m0 W0 H0)
  (turn:∀ i m W' H',Ww i m W' H'->(J.stop i H'/\QD H')\/(J.go i H'/\∃ N:St->Hp->Prop,(∀ W2 H2,N W2 H2->∃ m',m'<m/\Ww (i+1) m' W2 H2) /\
   ∀ x H2,J.yld i H' x H2->g x W' H2 λ W3 Z=>tc W3 Z λ b H4=>if b=true then te W3 H4 λ v H5=>∃ ys,H5 D=some (.lst ys)/\ys.length<aM/\N W3 (upd H5 D (.lst (ys++[v])))else N W3 H4))
  (hg:PG X' tg g) (b2:PIf X' a5 tc) (he:PE X' a2 te) (a1:∀ W' H' s',Inv X' [] W' H' s'->QD H'->R (.ok .next) s') :
  fU (model X'.prog X'.w) X'.A (.compLoop (.ListComp a2 [⟨tg,iter,a5,0⟩] scope pos) 0 (.ref it) (.ref D) X'.env) R s4:=by
 have nox:∀ {α:Type} {t:Sem α} {Q Q':α->ag->Prop} {E:Value->ag->Prop} {s:ag},wpAny (model X'.prog X'.w) X'.A t Q X'.xe s->(∀ a s,Q a s->Q' a s)->wpAny (model X'.prog X'.w) X'.A t Q' E s :=
  λ h hQ=>bT h hQ λ _ _ z=>by rw[hx]at z;exact z.elim
 refine bb2 (λ n s'=>∃ i W' H',Inv X' [] W' H' s'/\tn i s'.heap/\(∀ b∈fp,H' b=none)/\Ww i n W' H') ?_ m0 ⟨0,W0,H0,I4,b3,a6,w0⟩
 rintro n s3 ⟨i,W3,Z,I3,a3,a4,w3⟩
 rcases turn i n W3 Z w3 with⟨stop,qn⟩|⟨go,N,hN,step⟩
 .refine nox (T.done X' rfl rfl rfl F i [] s3 W3 Z X'.xe I3 (Y Z a4) a3 stop) λ r s4 ⟨hr,I4⟩=>?_
  subst hr
  exact a1 W3 Z s4 I4 qn
 .refine nox (T.item X' rfl rfl rfl F i [] s3 W3 Z X'.xe I3 (Y Z a4) a3 go) λ r s4 ⟨u,hr,h4⟩=>?_
  subst hr
  refine nox h4 λ _ s5 ⟨x,H5,I5,r5,y5,a0,b0⟩=>?_
  have b1:=I5.pinned (Y H5 b0) (T.obj _ _ a0)
  refine nox (hg _ s5 W3 H5 x u _ b1 r5 (step x H5 y5)) λ _ s6 ⟨W6,H6,I6,q6⟩=>?_
  have G:∀ {W7:St} {H7:Hp} {s7:ag},Inv X' ([]++az3 fp s5.heap) W7 H7 s7->N W7 H7->∃ m,m<n/\∃ i W' H',Inv X' [] W' H' s7/\tn i s7.heap/\(∀ b∈fp,H' b=none)/\Ww i m W' H':=λ {W7 H7 s7} I7 n7=>by
   obtain⟨m',hm,w7⟩:=hN W7 H7 n7
   refine⟨m',hm,i+1,W7,H7,I7.unpinned,T.keep _ _ _ a0 λ b hb o e=>(I7.pin (b,o) (a8 _ (a8 _ (qv hb e)))).1,λ b hb=>?_,w7⟩
   obtain⟨o,e,d⟩:=T.obj _ _ a0 b hb
   exact(I7.pin (b,o) (a8 _ (a8 _ (qv hb e)))).2.1
  refine nox (b2 _ s6 W6 H6 _ I6 q6) λ b s7 ⟨H7,I7,q7⟩=>?_
  cases b with
  | false =>
   rw[if_neg aW]at q7 ⊢
   exact G I7 q7
  | true =>
   rw[if_pos rfl]at q7 ⊢
   refine nox (he _ s7 W6 H7 _ I7 q7) λ v s8 ⟨y,H8,I8,r8,ys,hy,hz,q8⟩=>?_
   refine nox (av9 _ s8 W6 H8 (.ref D) [y] (.ref D) [v] (λ _ H9=>N W6 H9) I8 rfl (.cons r8 .nil) ⟨D,ys,y,rfl,rfl,hy,hz,q8⟩) λ v9 s9 ⟨_,H9,I9,_,q9⟩=>?_
   exact G I9 q9
theorem bc3 {X:Cx}{a4 tg iter:Expr}{a5:yK}{scope:Scope}{pos:Pos}{wi:TI}{g:TG}{tc:TT}{te:TE}(Z:yH)(src:yD)
  (b2:zN Z src scope X.N X.env.scope=true) (hi:PI X tg iter wi) (Y:X.calm=true)
  (b0:∀(Cc:Addr) (cells:yB) (s:ag) (H:Hp) (ex:List Addr),PG (zy X Z scope Cc cells s H ex) tg g/\PIf (zy X Z scope Cc cells s H ex) a5 tc/\PE (zy X Z scope Cc cells s H ex) a4 te)
  (hs:∀ x,c8 iter X.env x=pure x:=by intro _;rfl):PE X (.ListComp a4 [⟨tg,iter,a5,0⟩] scope pos) (tComp src wi g tc te):=by
 intro z s W H Q I h
 have ck:=bq4 b2
 rw[eval_ListComp]
 have b4:=af4 (scope:=scope) (env:=X.env) λ y hy e=>I.ok.has y.1 (ck.fr y hy e)
 refine fD (use:=none) rfl hs b4 ck.kind ck.loc (thn (hi z s W H _ I h) λ v s1 h1=>thn h1 λ c0 s2 h2=>?_)
 obtain⟨it,F,tn,J,H2,e,I2,T,a2,f2,Ww⟩:=h2
 subst e
 have hD:=I2.fresh
 obtain⟨Ww,⟨m0,w0⟩,turn⟩:=Ww _ hD
 have I3:=I2.lnew (its:=[]) (ys:=[]) (t':=s2.toks) .nil (bS _)
 have a3:∀ b∈F,b<s2.heap.objs.size:=λ b hb=>by obtain⟨o,q,_⟩:=T.obj _ _ a2 b hb;exact aN q
 have f3:∀ b∈F,FpOk X z (upd H2 s2.heap.objs.size (.lst [])) b:=λ b hb=>⟨by rw[ze (aC (a3 b hb))];exact(f2 b hb).1,(f2 b hb).2⟩
 refine bD (af1 ?_)
 generalize G:({ s2 with heap:=s2.heap.push { cls:=.type "list",data:=.seq ([]:yG).toArray },toks:=s2.toks }:ag)=s3 at I3
 have b6:({ s2 with heap:=s2.heap.push { cls:=.type "list",data:=.seq ([]:yG).toArray } }:ag)=s3:=G
 have a6:∀ b∈F,b<s3.heap.objs.size:=λ b hb=>by
  rw[<-G]
  show b<(s2.heap.push _).objs.size
  rw[cx]
  exact fu (a3 b hb)
 have I4:=ar2 (s4:={ s3 with heap:=d5 (s3.heap.push { cls:=.type "dict",data:=.dict #[] }) scope.names }) ck I3 f3 a6 ⟨_,rfl⟩
 have a0:tn 0 (d5 (s3.heap.push { cls:=.type "dict",data:=.dict #[] }) scope.names):=T.keep _ _ _ a2 λ b hb o e=>eI _ _ b o (aq _ (by rw[<-G];exact aq _ e))
 obtain⟨hg,b1,he⟩:=b0 s3.heap.objs.size (bt (s3.heap.objs.size+1) scope.names (ao9 X.env.cells scope.names [])) s3 (upd H2 s2.heap.objs.size (.lst [])) F
 have a1:∀ H':Hp,(∀ b∈F,H' b=none)->∀ b∈F,FpOk (zy X Z scope s3.heap.objs.size (bt (s3.heap.objs.size+1) scope.names (ao9 X.env.cells scope.names [])) s3 (upd H2 s2.heap.objs.size (.lst [])) F) [] H' b:=λ H' hn b hb =>
  ⟨hn b hb,(I4.ok.exf b hb).1,I4.ok.exfs b hb,.inl hb,λ x c e=>(I4.ok.exf b hb).2 x c e,λ p hp=>absurd (show p∈([]:yA)from hp) (by simp)⟩
 have T':Turn X.prog X.w X.K tg J F it tn:=T
 have b3:∀ b∈F,upd H2 s2.heap.objs.size (.lst []) b=none:=λ b hb=>(f3 b hb).1
 have L:=ay4 (X':=zy X Z scope s3.heap.objs.size (bt (s3.heap.objs.size+1) scope.names (ao9 X.env.cells scope.names [])) s3 (upd H2 s2.heap.objs.size (.lst [])) F) (R:=compPost (model X.prog X.w) X.A X.xe none (EP X z W Q) (Value.ref s2.heap.objs.size) s3.heap.objs.size) (iter:=iter) (scope:=scope) (pos:=pos) (QD:=λ H'=>Q (.ref s2.heap.objs.size) H') rfl Y I4 T' a0 a1 b3 w0 turn hg b1 he
  (λ W' H' s' J' q=>by
   obtain⟨mm,hn,_⟩:=J'.loc
   exact⟨mm,hn,λ h' b5=>⟨.ref s2.heap.objs.size,H',aH8 I3 f3 J' b5,rfl,q⟩⟩)
 exact gc L (T.self _ _ _ _ _ a0 L)
section
variable {X:Cx}
theorem ca1:bc "abs"=some (.builtin "abs"):=by decide +kernel
theorem cf9:bc "len"=some (.builtin "len"):=by decide +kernel
theorem bW8:bc "min"=some (.builtin "min"):=by decide +kernel
theorem cb3:bc "max"=some (.builtin "max"):=by decide +kernel
theorem ce0:bc "all"=some (.builtin "all"):=by decide +kernel
theorem ay7:bc "isinstance"=some (.builtin "isinstance"):=by decide +kernel
theorem bJ5:bc "int"=some (.type "int"):=by decide +kernel
theorem bO4:bc "bool"=some (.type "bool"):=by decide +kernel
theorem bL2:bc "str"=some (.type "str"):=by decide +kernel
theorem bc4:bc "tuple"=some (.type "tuple"):=by decide +kernel
theorem aZ5:bc "list"=some (.type "list"):=by decide +kernel
def cd2 (i j:Int):Prop:=0<j/\j<2^4096
theorem aQ8 {y:Int}(h0:0<y)(h:y<2^4096):y.natAbs.log2<9000:=by
 have hn:y.natAbs<2^4096:=by
  have:(y.natAbs:Int)=y:=by lia
  have z:(y.natAbs:Int)<((2^4096:Nat):Int):=by rw[this];simpa using h
  exact i7.mp z
 have:=(Nat.log2_lt (by omega)).mpr hn
 lia
theorem bm1:OpR X (bK .FloorDiv) (rI cd2 λ i j=>.int (i / j)):=opI λ i j _ _ _ _ _ hc q=>by
 refine floordiv_int (by have:=hc.1;omega) ?_ (.inl (PyProof.noPylong_of_log2 (aQ8 hc.1 hc.2)))
 rw[eY i (by have:=hc.1;lia)]
 exact q
theorem aH0 {K:ae}(h:X.K=K):IxR X (ci0 K):=by subst h;exact bw5
theorem bw0 {K:ae}(h:X.K=K):IxR X (ch1 K):=by subst h;exact ix_tup
theorem al6 {K:ae}(z:X.K=K):ac0 X (.builtin "len") (λ h H Q=>∃ p ys,h=[.ref p]/\(SqL K H p ys\/SqT K H p ys)/\Q (.int ys.length) H):=by subst z;exact az2
theorem aB7 {K:ae}(z:X.K=K):ac0 X (.type "tuple") (λ h H Q=>∃ p ys,h=[.ref p]/\((SqL K H p ys/\∀ l,H l=none->Q (.ref l) (upd H l (.tup ys)))\/(SqT K H p ys/\Q (.ref p) H))):=by subst z;exact as0
theorem aQ6 {K:ae}(z:X.K=K):ac0 X (.type "list") (λ h H Q=>∃ p ys,h=[.ref p]/\(SqL K H p ys\/SqT K H p ys)/\∀ l,H l=none->Q (.ref l) (upd H l (.lst ys))):=by subst z;exact aA4
theorem bj0 {K:ae}{tg l:Expr}{h:TE}(z:X.K=K)(hl:PE X l h):PI X tg l (bB7 K h):=by subst z;exact bD6 hl
theorem bC9 {K:ae}{tg l:Expr}{h:TE}(z:X.K=K)(hl:PE X l h):PI X tg l (cc5 K h):=by subst z;exact bT5 hl
theorem bv3 {K:ae}{pos:Pos}{es:yK}{k:Nat}{t:TGs}{n:Nat}(F:X.K=K)(hc:X.calm=true)(h:PGs X es t)
  (hn:(cu es X.env).length=n:=by rfl) (z:(cu es X.env).findIdx? (·.1)=none:=by rfl):PG X (.Tuple es k pos) (cc4 K n t):=by subst F;exact bU6 hc h hn z
end
structure DefAt (K:ae)(mg:yC)(x:Str)(st:Stmt)(ps:yH)(f:Addr)(fd:bM):Prop where
 fn:Fun K x x st f fd
 mg:mg x=some (.ref f)
 bi:Binds K fd ps []
@[irreducible] noncomputable def cm9 (p:Prop):Prop:=p
theorem ae2.new {p:Addr}{H z:Hp}{o:HO}(h:ae2 H z)(F:z p=none):ae2 H (L2.upd z p o):=λ x o e=>by
 have e1:=h x o e
 rw[ze (zt e1 F)]
 exact e1
section
variable {prog:aE} {w:World} {A:a7} {R:je->ag->Prop} {I:Addr} {fp wr:List Addr} {n:Nat} {P:Nat->Value->Prop} {St:Nat->Heap->Prop} {kw:List (Str×Value)}
end
theorem am1 (val : Nat -> Int) : ∀ k j, j <= k -> val (jy (λ i j => decide (val i < val j)) k) <= val j
  | 0, j, h => by have : j = 0 := by lia
                  subst this; exact jl _
  | k + 1, j, h => by
    have ih := am1 val k
    unfold jy
    by_cases hb : val (k + 1) < val (jy (λ i j => decide (val i < val j)) k)
    . rw[if_pos (by simpa using hb)]
      by_cases hj : j = k + 1
      . subst hj; exact jl _
      . have := ih j (by lia); lia
    . rw[if_neg (by simpa using hb)]
      by_cases hj : j = k + 1
      . subst hj; omega
      . exact ih j (by omega)
theorem bb5 {ns:List Int}{its:yG}(r:Vals (ns.map V.int) its){i:Nat}{v:Value}(h:its[i]?=some v):∃ z t,ns[i]?=some z/\v=Value.int z t:=by
 have hl:=r.length
 rw[az]at hl
 have F:i<its.length:=(ac.mp h).1
 obtain⟨u,e1,q⟩:=r.get (i:=i) (x:=.int ns[i]) (by rw[aF,af (by omega)];rfl)
 rw[h]at e1;cases e1
 obtain⟨t,rfl⟩:=q
 exact⟨_,t,af (by omega),rfl⟩
inductive D where
 | non|bl (b:Bool)|int (i:Int)|str (x:Str)|tup (l:List D)|lst (l:List D)
mutual
noncomputable def D.deep:D->Nat
 | .tup l=>D.deepL l+1
 | .lst l=>D.deepL l+1
 | _=>0
noncomputable def D.deepL:List D->Nat
 | []=>0
 | d::l=>max (D.deep d) (D.deepL l)
end
theorem all_true (n:Nat):(aP n).all (λ _=>true)=true:=by simp
section
variable {X:Cx}
end
section
variable {X:Cx}
def cg5 (K:ae):R2:=λ x y H Q=>∃ a b xs ys,x=.ref a/\y=.ref b/\SqT K H a xs/\SqT K H b ys/\xs.length+ys.length<=aM/\∀ p H',ae2 H H'->SqT K H' p (xs++ys)->(H' p=some (.tup (xs++ys))\/(p=a/\ys=[])\/(p=b/\xs=[]))->Q (.ref p) H'
theorem bD9 {prog:aE}{w:World}{A:a7}{E:Value->ag->Prop}{s:ag}{t b:Addr}{ws:yG}{Q:Value->ag->Prop}(ht:IsTup s.heap t ([]:yG).toArray)(hb:IsTup s.heap b ws.toArray)(h1:Q (.ref b) s) :
  wpAny (model prog w) A (bK .Add (.ref t) (.ref b)) Q E s:=by
 obtain⟨⟨cls,dd,data,sl⟩,ho,hc,n,hd⟩:=id ht
 obtain⟨⟨Z,Y,G,J⟩,h,F,n2,z⟩:=id hb
 simp only at hc hd F z
 subst hc hd F z
 exact iU ⟨_,ho,rfl⟩ ⟨_,h,rfl⟩ fI h9 dP dH (dv _ _)
   (tuple_addW0 t b _ ws.toArray n n2 dd Y sl J rfl) ⟨ho,h,h1⟩
theorem bz4 {K:ae}(hK:X.K=K):OpR X (bK .Add) (cg5 K):=by
 subst hK
 intro F s W H x y v u Q I Z Y h
 obtain⟨a,b,J,ys,e1,e2,ha,hb,hz,q⟩:=h
 by_cases hx:J=[]
 .subst e1;subst e2;subst hx
  cases Z;cases Y
  obtain⟨its,r1,p1,_⟩:=I.tuple ha
  obtain⟨G,r2,p2,_⟩:=I.tuple hb
  obtain rfl:its=[]:=r1.nil_iff.mpr rfl
  exact bD9 p1 p2 ⟨.ref b,H,I,rfl,q b H (ae2.refl H) hb (.inr (.inr ⟨rfl,rfl⟩))⟩
 .refine bz1 F s W H x y v u Q I Z Y ⟨a,b,J,ys,e1,e2,ha,hb,hx,hz,λ z=>?_,λ z p hp=>?_⟩
  .subst z
   exact q a H (ae2.refl H) (by rw[aK];exact ha) (.inr (.inl ⟨rfl,rfl⟩))
  .exact q p _ ((ae2.refl H).new hp) (SqT.of zq) (.inl zq)
def cl0 (K:ae):V->Option Int->Option Int->Hp->VK->Prop:=λ x lo hi H Q=>∃ a xs,x=.ref a/\SqT K H a xs/\∀ p H',ae2 H H'->SqT K H' p (aN9 xs lo hi)->(H' p=some (.tup (aN9 xs lo hi))\/(p=a/\aN9 xs lo hi=xs))->Q (.ref p) H'
theorem as5 {prog:aE}{w:World}{A:a7}{E:Value->ag->Prop}{s:ag}{t sl:Addr}{z:yJ}{vl vu:Value}{F J:Option Int}{Q:Value->ag->Prop}(ht:IsTup s.heap t z)(hs:s.heap.IsSliceOf sl vl vu .none)(pl:fC vl F)(pu:fC vu J)
  (hw:HT.sIx z.size 0 F=0/\HT.sIx z.size z.size J=z.size) (h:Q (.ref t) s):wpAny (model prog w) A (fY (.ref t) (.ref sl)) Q E s:=by
 obtain⟨os,Y,Z,a1⟩:=id hs
 have a0:s.TypeIs (.ref sl) "slice":=⟨os,Y,Z⟩
 unfold fY
 try with_reducible refine d7 ?_
 first|refine ar (aJ ?_)|skip
 refine ar (iV ht.typeIs (by decide) ?_)
 refine ar (cN (name:=bU "__getitem__") ht.typeIs bp
  (cL bp ht.typeIs gX ?_ (iz _ _)))
 show wpAny _ _ (de (.ref t) >>= _) _ _ s
 refine ar (ic ht ?_)
 refine ar (fZ a0 ?_)
 rw[if_pos (by decide)]
 refine ar (HT.sliceApplied_gen hs pl pu ?_)
 have G:((((HT.sIx z.size 0 F:Nat):Int)==0&&(1:Int)==1&&(HT.sIx z.size z.size J - HT.sIx z.size 0 F)==z.size)=true):=by
  rw[hw.1,hw.2]
  simp
 show wpAny _ _ (if(((HT.sIx z.size 0 F:Nat):Int)==0&&(1:Int)==1&&(HT.sIx z.size z.size J - HT.sIx z.size 0 F)==z.size)=true then _ else _) _ _ s
 rw[if_pos G]
 refine ar (ar (fZ ht.typeIs (aJ ?_)))
 rw[if_pos (by decide)]
 exact ar (jJ (aJ ⟨_,rfl,aJ h⟩))
theorem aq6 {z:List V}{F G:Option Int}(h:HT.sIx z.length 0 F=0/\HT.sIx z.length z.length G=z.length):aN9 z F G=z:=by
 unfold aN9
 rw[h.1,h.2]
 simp
theorem by1 {K:ae}(hK:X.K=K):SlR X (cl0 K):=by
 subst hK
 intro G s W H x v vl vu Z J sl Q I Y hs pl pu h
 obtain⟨a,z,e1,hx,q⟩:=h
 by_cases hw:HT.sIx z.length 0 Z=0/\HT.sIx z.length z.length J=z.length
 .subst e1
  cases Y
  obtain⟨its,r,ht,hz⟩:=I.tuple hx
  have F:its.toArray.size=z.length:=by rw[av];exact r.length.symm
  refine⟨"tuple",_,bp.lookup,ht.typeIs,?_⟩
  exact as5 ht hs pl pu (by rw[F];exact hw) ⟨.ref a,H,I,rfl,q a H (ae2.refl H) (by rw[aq6 hw];exact hx) (.inr ⟨rfl,aq6 hw⟩)⟩
 .exact bK1 G s W H x v vl vu Z J sl Q I Y hs pl pu ⟨a,z,e1,hx,hw,λ p hp=>q p _ ((ae2.refl H).new hp) (SqT.of zq) (.inl zq)⟩
theorem bi6 {K:ae}(h:X.K=K):SlR X (cg9 K):=by subst h;exact bx1
end
noncomputable def Its (x:Str):It:=⟨λ i _=>i<x.cps.size,λ i H v H'=>H'=H/\∃ c,x.cps[i]?=some c/\v=.str ⟨#[c]⟩,λ i _=>x.cps.size<=i⟩
theorem aJ6 {P:aE}{w:World}{K:ae}{tg:Expr}{J:String}{x:Str}{t:Tok}(it:Addr)(hn:["enumerate", "zip", "dict_itemiterator", "dict_reverseitemiterator", "odict_iterator", "itertools.zip_longest", "itertools.pairwise"].contains J=false)
  (Ww:∀ A:a7,A.handled=none->Walks P w A it [it] [it] x.cps.size (SignAt x) (λ i h=>h.IsStrIter it J x t i))
  (Y:∀(A:a7) (s:ag) (i:Nat) (Q:Option Value->ag->Prop) (E:Value->ag->Prop),A.handled=none->s.heap.IsStrIter it J x t i->x.cps[i]?=none->(∀ h',jm it s.heap h'->Q none { s with heap:=h' })->wpAny (model P w) A (pyNext (.ref it)) Q E s)
  (G:∀(A:a7) (i:Nat) (s:ag) (Q:Value->ag->Prop) (E:Value->ag->Prop),s.heap.IsStrIter it J x t i->Q (.ref it) s->wpAny (model P w) A (j9 (.ref it)) Q E s):Turn P w K tg (Its x) [it] it (λ i h=>h.IsStrIter it J x t i) where
 mem:=by simp
 obj:=λ i h st b hb=>by
  have e:b=it:=by simpa using hb
  subst e
  obtain⟨o,ho,hc,hd⟩:=st
  exact⟨o,ho,λ v z=>by rw[hd]at z;cases z⟩
 keep:=λ i h h' st k=>by
  obtain⟨o,ho,r⟩:=st
  exact⟨o,k it (by simp) _ ho,r⟩
 item:=by
  intro X hP hw hK hc i F s W H E I hf st hg
  subst hP hw hK
  obtain⟨f0,f1,f2,f3,f4,f5⟩:=hf it (by simp)
  refine(Ww X.A (I.ok.hd hc)).item i s _ _ hg st λ v h' tk hv Z kk=>?_
  obtain⟨c,u,a0,rfl⟩:=hv
  have I1:Inv X F W H { s with heap:=h',toks:=tk }:=I.turned (λ b o hb e=>kk b o (by simpa using hb) e) f0 f1 f3 f4 f5
  obtain⟨o,ho,a1,hd⟩:=id Z
  exact⟨_,rfl,aQ4 (s:={ s with heap:=h',toks:=tk }) (n:=J) ho a1 hd hn ⟨.str ⟨#[c]⟩,H,I1,⟨u,rfl⟩,⟨rfl,c,a0,rfl⟩,Z,λ b hb=>(hf b hb).1⟩⟩
 done:=by
  intro X hP hw hK hc i F s W H E I hf st hg
  subst hP hw hK
  obtain⟨f0,f1,f2,f3,f4,f5⟩:=hf it (by simp)
  have a2:x.cps.size<=i:=hg
  exact Y X.A s i _ E (I.ok.hd hc) st (by simp;omega) λ h' eb=>⟨rfl,I.turned (t':=s.toks) (λ b o hb e=>eb b o hb e) f0 f1 f3 f4 f5⟩
 self:=λ A i s Q E st h=>G A i s Q E st h
def ci6 (tl:TE):TI:=λ W H R=>tl W H λ v H1=>∃ x,v=.str x/\R (Its x) H1
theorem bQ8 {X:Cx}{tg l:Expr}{Z:TE}(hl:PE X l Z):PI X tg l (ci6 Z):=by
 intro z s W H R I h
 refine thn (hl z s W H _ I h) λ v s1 ⟨v0,H1,Y,r1,q1⟩=>?_
 obtain⟨x,e,q⟩:=q1
 subst e
 obtain⟨t,rfl⟩:=r1
 have fin:∀(G:String) (o:Obj),o={ cls:=.type G,data:=.fields #[.str x t,.int 0 0] }->Turn X.prog X.w X.K tg (Its x) [s1.heap.objs.size] s1.heap.objs.size (λ i h=>h.IsStrIter s1.heap.objs.size G x t i)->PIE X z W tg R (.ref s1.heap.objs.size) { s1 with heap:=s1.heap.push o }:=λ G o eo T=>by
  subst eo
  refine⟨s1.heap.objs.size,[s1.heap.objs.size],_,_,H1,rfl,Y.kept (t':=s1.toks) λ b o e=>aq _ e,T,⟨_,aV _ rfl,rfl,rfl⟩,λ b hb=>?_,q⟩
  have e:b=s1.heap.objs.size:=by simpa using hb
  subst e
  exact Y.fpOk (ah _) (Y.hok.fresh (ah _))
 cases ha:x.cps.all (·<128)
 .exact wpAny_pyIter_wide ha (fin "str_iterator" _ rfl (aJ6 _ (by decide) (λ A F=>Walks.strWide F _ x t) (λ A s i Q E F st hx J=>wpAny_pyNext_wide_end F st hx J) λ A i s Q E st h=>wpAny_pyIter_striter_wide st h))
 .exact wpAny_pyIter_ascii ha (fin "str_ascii_iterator" _ rfl (aJ6 _ (by decide) (λ A F=>Walks.strAscii F _ x t) (λ A s i Q E F st hx J=>wpAny_pyNext_ascii_end F st hx J) λ A i s Q E st h=>wpAny_pyIter_striter_ascii st h))
section
variable {X:Cx} {K:ae} {T id:String} {name:Str} {o e:Expr} {es:yK} {to:TE} {t:TA} {r:V->List V->Hp->VK->Prop} {apos cpos:Pos}
theorem bq7 (hK:X.K=K)(Z:jG T)(slot:Slot T name id)(J:typeOf (.builtin id)=pure (.type "method_descriptor"))(Y:MtR X id r)(ho:PE X o to)(ha:PA X (e::es) t)
  (F:cZ o name X.env (eval o X.env)=eval o X.env:=by rfl)
  (G:((cD cpos (aY (e::es) X.env)).all (λ x=>!x.1)&&(ef cpos (cQ [] X.env)).all (λ x=>x.1.isSome)
   && decide ((e::es).length+([]:List d8).length+(if([]:List d8).isEmpty then 0 else 1)<30))=true:=by rfl)
  (z:(apos.endLine==cpos.line)=true:=by rfl) (hs:aY (e::es) X.env=(false,eval e X.env)::aY es X.env:=by rfl) (h:(cD cpos (aY es X.env)).any (·.1)=false:=by rfl) :
  PE X (.Call (.Attribute o name apos) (e::es) [] cpos) (tBM K T r to t):=by
 subst hK
 exact cd5 Z slot J Y ho ha F G z hs h
end
structure Mach where
 letters:Int
 rooms:Int
 begins:List Int
 ends:List Int
 doors:List (Int×Str×Int×Int)
noncomputable def cb6 (q:Int×Str×Int×Int):D:=.tup [.int q.1,.str q.2.1,.int q.2.2.1,.int q.2.2.2]
noncomputable def Mach.D (M:Mach):D:=.tup [.int M.letters,.int M.rooms,.tup (M.begins.map .int),.tup (M.ends.map .int),.tup (M.doors.map cb6)]
noncomputable def ltr (i:Nat):Str:=⟨#[97+i]⟩
structure DoorOk (letters rooms:Int)(q:Int×Str×Int×Int):Prop where
 s0:0<=q.1
 s1:q.1<rooms
 l:∃ i:Nat,(i:Int)<letters/\q.2.1=ltr i
 g0:0<=q.2.2.1
 g1:q.2.2.1<rooms
 t0:0<=q.2.2.2
 t1:q.2.2.2<=3
structure RoomsOk (rooms:Int)(l:List Int):Prop where
 mem:∀ r∈l,0<=r/\r<rooms
 up:l.Pairwise (· < ·)
structure Mach.Ok (most:Nat)(M:Mach):Prop where
 l0:1<=M.letters
 l1:M.letters<=3
 r0:1<=M.rooms
 r1:M.rooms<=5
 b:RoomsOk M.rooms M.begins
 e:RoomsOk M.rooms M.ends
 d:∀ q∈M.doors,DoorOk M.letters M.rooms q
 m:M.doors.length<=most
mutual
noncomputable def D.tups:D->Bool
 | .lst _=>false
 | .tup l=>D.tupsL l
 | _=>true
noncomputable def D.tupsL:List D->Bool
 | []=>true
 | d::l=>D.tups d&&D.tupsL l
end
end L2
end
noncomputable section
namespace L2
end L2
end
noncomputable section
namespace L2
open PySem PySem.Spec PyProof.Rows
noncomputable def ch8:List Int->Option Int
 | []=>none
 | a::l=>some (match ch8 l with|none=>a|some b=>if b<a then b else a)
theorem aP6 {X:Cx}{Y tg iter:Expr}{Z:yK}{scope:Scope}{pos a0 py:Pos}{y:Str}{i:Nat}{wi:TI}{g:TG}{tc:TT}{te:TE}(N':yH)(src:yD)
  (hN:X.N.Nodup) (c2:X.N[i]?=some y) (a6:X.env.scope.names.lookup y=some .local)
  (c0:zN N' src scope X.N X.env.scope=true) (hi:PI X tg iter wi) (a2:X.calm=true)
  (b5:∀(Cc:Addr) (cells:yB) (s:ag) (H:Hp) (ex:List Addr),PG (zy X N' scope Cc cells s H ex) tg g/\PIf (zy X N' scope Cc cells s H ex) Z tc/\PE (zy X N' scope Cc cells s H ex) Y te)
  (hs:∀ x,c8 iter X.env x=pure x:=by intro _;rfl)
  (b4:dZ (.ListComp Y [⟨tg,iter,Z,0⟩] scope pos) (some (.Name y py)) a0.line X.env=pure true:=by rfl) :
  PS X (.Assign [.Name y py] (.ListComp Y [⟨tg,iter,Z,0⟩] scope pos) a0) (bm4 (tComp src wi g tc te) (ax6 i)):=by
 intro F s W H D0 I h
 have ck:=bq4 c0
 rw[exec_Assign_Name_used _ _ _ _ b4]
 refine ar (hZ (ar ?_))
 show wpAny _ X.A (do let _ <- comprehension (.ListComp Y [⟨tg,iter,Z,0⟩] scope pos) scope X.env _ (newList []) false (eval iter X.env) (some (fQ (.Name y py) X.env))) _ _ s
 have b3:=af4 (scope:=scope) (env:=X.env) λ y hy e=>I.ok.has y.1 (ck.fr y hy e)
 refine ar (bT (fD (use:=some (fQ (.Name y py) X.env)) (Q:=λ _ s'=>SP X F D0 .next s') rfl hs b3 ck.kind ck.loc (thn (hi F s W H _ I h) λ v s1 h1=>thn h1 λ d0 s2 h2=>?_)) (λ _ s' hq=>aJ (aJ hq)) λ _ _ e=>e)
 obtain⟨it,G,tn,J,H2,e,I2,T,a5,f2,Ww⟩:=h2
 subst e
 have hD:=I2.fresh
 obtain⟨Ww,⟨m0,w0⟩,turn⟩:=Ww _ hD
 have I3:=I2.lnew (its:=[]) (ys:=[]) (t':=s2.toks) .nil (bS _)
 have a3:∀ b∈G,b<s2.heap.objs.size:=λ b hb=>by obtain⟨o,q,_⟩:=T.obj _ _ a5 b hb;exact aN q
 have f3:∀ b∈G,FpOk X F (upd H2 s2.heap.objs.size (.lst [])) b:=λ b hb=>⟨by rw[ze (aC (a3 b hb))];exact(f2 b hb).1,(f2 b hb).2⟩
 refine bD (af1 ?_)
 generalize a1:({ s2 with heap:=s2.heap.push { cls:=.type "list",data:=.seq ([]:yG).toArray },toks:=s2.toks }:ag)=s3 at I3
 have c3:({ s2 with heap:=s2.heap.push { cls:=.type "list",data:=.seq ([]:yG).toArray } }:ag)=s3:=a1
 have b1:∀ b∈G,b<s3.heap.objs.size:=λ b hb=>by
  rw[<-a1]
  show b<(s2.heap.push _).objs.size
  rw[cx]
  exact fu (a3 b hb)
 have I4:=ar2 (s4:={ s3 with heap:=d5 (s3.heap.push { cls:=.type "dict",data:=.dict #[] }) scope.names }) ck I3 f3 b1 ⟨_,rfl⟩
 have b0:tn 0 (d5 (s3.heap.push { cls:=.type "dict",data:=.dict #[] }) scope.names):=T.keep _ _ _ a5 λ b hb o e=>eI _ _ b o (aq _ (by rw[<-a1];exact aq _ e))
 obtain⟨hg,b6,he⟩:=b5 s3.heap.objs.size (bt (s3.heap.objs.size+1) scope.names (ao9 X.env.cells scope.names [])) s3 (upd H2 s2.heap.objs.size (.lst [])) G
 have a4:∀ H':Hp,(∀ b∈G,H' b=none)->∀ b∈G,FpOk (zy X N' scope s3.heap.objs.size (bt (s3.heap.objs.size+1) scope.names (ao9 X.env.cells scope.names [])) s3 (upd H2 s2.heap.objs.size (.lst [])) G) [] H' b:=λ H' hn b hb =>
  ⟨hn b hb,(I4.ok.exf b hb).1,I4.ok.exfs b hb,.inl hb,λ x c e=>(I4.ok.exf b hb).2 x c e,λ p hp=>absurd (show p∈([]:yA)from hp) (by simp)⟩
 have T':Turn X.prog X.w X.K tg J G it tn:=T
 have b2:∀ b∈G,upd H2 s2.heap.objs.size (.lst []) b=none:=λ b hb=>(f3 b hb).1
 have L:=ay4 (X':=zy X N' scope s3.heap.objs.size (bt (s3.heap.objs.size+1) scope.names (ao9 X.env.cells scope.names [])) s3 (upd H2 s2.heap.objs.size (.lst [])) G) (R:=compPost (model X.prog X.w) X.A X.xe (some (fQ (.Name y py) X.env)) (λ _ s'=>SP X F D0 .next s') (Value.ref s2.heap.objs.size) s3.heap.objs.size) (iter:=iter) (scope:=scope) (pos:=pos) (QD:=λ H'=>D0.nx (W.set i (some (.ref s2.heap.objs.size))) H') rfl a2 I4 T' b0 a4 b2 w0 turn hg b6 he
  (λ W' H' s' J' q=>by
   have J2:=aH8 I3 f3 J' (Heap.SameBut.refl _ _)
   obtain⟨mm,hn,_⟩:=J'.loc
   have nL:s3.heap.objs.size≠X.env.locals:=iM I3.lt
   have nC:∀ x c,X.env.cells.lookup x=some c->c≠s3.heap.objs.size:=λ x c e=>by
    obtain⟨v,z⟩:=I3.cell x c e
    exact aC z.lt
   show wpAny _ X.A (fQ (.Name y py) X.env (.ref s2.heap.objs.size)) _ _ _
   refine iL (ax0 (v:=.ref s2.heap.objs.size) J2 hN c2 (.inl a6) rfl (λ s5 I5 sb=>?_) (.inr a6))
   obtain⟨aa,sb,ha⟩:=sb
   have na:s3.heap.objs.size≠aa:=by
    rcases ha with z|z
    .rw[z];exact nL
    .exact λ e=>nC _ _ z e.symm
   refine⟨mm,hn.sameBut sb na,λ h' c1=>⟨_,H',I5.turned (t':=s5.toks) (λ b o hb e=>(c1.2 b hb).trans e) J'.free nL (.inr I3.sz) nC λ p hp z=>?_,q⟩⟩
   exact absurd (aN (I3.pin p hp).1) (by rw[z];exact bA _))
 exact gc L (T.self _ _ _ _ _ b0 L)
def cm6:V->Option Int->Option Int->Hp->VK->Prop:=λ x lo hi H Q=>∃ z,x=.str z/\z.length<=aM/\Q (.str (eJ z lo hi)) H
theorem aA8 {v:Value}{o:Option Int}(p:fC v o):∃ q:Option (Int×Tok),v=partValue q/\q.map (·.1)=o:=by
 cases p with
 | none=>exact⟨none,rfl,rfl⟩
 | int i t=>exact⟨some (i,t),rfl,rfl⟩
theorem bW6 {X:Cx}:SlR X cm6:=by
 intro a0 s W H x v vl vu Y J sl Q I rx hs pl pu h
 obtain⟨z,rfl,hz,q⟩:=h
 obtain⟨t,rfl⟩:=rx
 obtain⟨l,rfl,el⟩:=aA8 pl
 obtain⟨u,rfl,eu⟩:=aA8 pu
 refine⟨"str",_,F.slot_str_getitem.lookup,iB s z t,?_⟩
 refine wpAny_getItem_str_slice (l:=l) (u:=u) (st:=none) hs rfl ?_
 unfold sliceMade
 have e:slicePicked z l u none=bu Y J 1 z.length:=by
  unfold slicePicked
  rw[el,eu]
  rfl
 rw[e]
 unfold eJ at q
 split
 .rename_i hc
  have G:((1:Int)==1&&(bu Y J 1 z.length).length==z.length)=true:=hc
  rw[if_pos G]at q
  exact⟨.str z,H,I,⟨t,rfl⟩,q⟩
 .rename_i hc
  have G:¬((1:Int)==1&&(bu Y J 1 z.length).length==z.length)=true:=hc
  rw[if_neg G]at q
  have Z:(Str.mk (gG (λ x=>z.cps[x]?) (bu Y J 1 z.length)).toArray).length<=aM:=by
   show(gG (λ x=>z.cps[x]?) (bu Y J 1 z.length)).toArray.size<=aM
   rw[av]
   exact aj (List.length_filterMap_le _ _) (aj (sliceIndices_le Y J z.length) hz)
  exact⟨Z,.str _,H,I.tok _,⟨_,rfl⟩,q⟩
section
variable {M:Model} {A:a7} {E:Value->ag->Prop} {s₀ s:ag} {m cm:yC} {env:Env} {cs:yB}
end
noncomputable def aP2 (c:Addr)(qual:Str):HO:=.ext λ h=>h.CodeRec (.ref c) qual
noncomputable def bI6 (f:Addr)(fd:bM):HO:=.ext λ h=>h.get? f=some { cls:=.type "function",data:=.func fd }
theorem bk1 {P:aE}{w:World}{H:Hp}{h:Heap}{f:Addr}{z:bM}(x:HOk P w H h)(e:H f=some (bI6 f z)):h.get? f=some { cls:=.type "function",data:=.func z }:=(x f _ e).1
noncomputable def isC (cells:yB)(b:Addr):Bool:=cells.any λ p=>cells.lookup p.1==some b
theorem bG8 {cells:yB}{b:Addr}:isC cells b=true↔∃ x,cells.lookup x=some b:=by
 unfold isC
 rw[dn]
 constructor
 .rintro⟨p,_,e⟩;exact⟨p.1,by simpa using e⟩
 .rintro⟨x,e⟩;exact⟨(x,b),bh e,by simpa using e⟩
noncomputable def aq7 (cells:yB)(H:Hp):Hp:=λ b=>if isC cells b=true then none else H b
noncomputable def Put (cells:yB)(H H':Hp):Hp:=λ b=>if isC cells b=true then H b else H' b
theorem aq7.cell {cells:yB}{H:Hp}{b:Addr}(h:isC cells b=true):aq7 cells H b=none:=if_pos h
theorem aq7.ne {cells:yB}{H:Hp}{b:Addr}(h:isC cells b≠true):aq7 cells H b=H b:=if_neg h
theorem aq7.some {cells:yB}{H:Hp}{b:Addr}{o:HO}(h:aq7 cells H b=some o):isC cells b≠true/\H b=some o:=by
 unfold aq7 at h
 split at h
 .cases h
 .rename_i z;exact⟨z,h⟩
theorem aq7.none {cells:yB}{H:Hp}{b:Addr}(h:H b=none):aq7 cells H b=none:=by
 unfold aq7
 split
 .rfl
 .exact h
theorem Put.cell {cells:yB}{H H':Hp}{b:Addr}(h:isC cells b=true):Put cells H H' b=H b:=if_pos h
theorem Put.ne {cells:yB}{H H':Hp}{b:Addr}(h:isC cells b≠true):Put cells H H' b=H' b:=if_neg h
def Cells (clos:yB)(H:Hp):Prop:=∀ x c,clos.lookup x=some c->∃ o v,H c=some (.frz o (.own c))/\o.data=.cell v
theorem Cells.at {F:yB}{H:Hp}(z:Cells F H){b:Addr}(h:isC F b=true):∃ o v,H b=some (.frz o (.own b))/\o.data=.cell v:=by
 obtain⟨x,e⟩:=bG8.mp h
 exact z x b e
def Cap (clos:yB)(H:Hp)(fr:yH)(cap:List V):Prop:=∀(i:Nat) (x:Str) (v:V),fr[i]?=some x->cap[i]?=some v->∃ c o u,clos.lookup x=some c/\H c=some (.frz o (.own c))/\o.data=.cell (some u)/\RelV v u
theorem HOk.drop {P:aE}{w:World}{H:Hp}{h:Heap}{F:yB}(x:HOk P w H h)(z:Cells F H):HOk P w (aq7 F H) h:=λ b o e=>by
 obtain⟨_,e'⟩:=aq7.some e
 have G:∀ c u,H c=some u->(∀ o v,u≠.frz o v)->isC F c≠true:=λ c u q d y=>by
  obtain⟨o,v,q',_⟩:=z.at y
  rw[q]at q';cases q'
  exact d _ _ rfl
 exact(x b o e').stay (λ _ _ _ q=>q) (λ c q=>by rw[aq7.ne (G c _ q λ _ _=>by nofun)];exact q) λ c J q=>by rw[aq7.ne (G c _ q λ _ _=>by nofun)];exact q
def aU6 (H:Hp)(f:Addr)(qual:Str)(params:dj)(body:Expr)(scope:Scope)(fr:yH)(cap:List V)(clos:yB):Prop :=
 ∃ pm c' ctv,H f=some (bI6 f (jK "<lambda>" qual params body scope clos pm (.ref c') ctv))/\H c'=some (aP2 c' qual)/\Cells clos H /\
  (∀ x y c,clos.lookup x=some c->clos.lookup y=some c->x=y)/\(∀ x,scope.names.lookup x=some .free->∃ c,clos.lookup x=some c)/\Cap clos H fr cap
def BM (mg:yC)(base:Heap):Prop:=∃ bm ob,mg "__builtins__"=some (.ref bm)/\bm≠fN/\base.get? bm=some ob/\ob.cls=.type "module"/\ob.dict=some fN/\ob.data=.plain
noncomputable def bf4 (scope xs:Scope):Bool:=scope.names.all λ y=>!(y.2==.free)||(xs.names.lookup y.1==some .cell||xs.names.lookup y.1==some .free)
structure Caught (cl:yB)(N:yH)(kd:Str->Option b8)(W:St)(H1 H2:Hp):Prop where
 ne:∀ b,isC cl b≠true->H2 b=H1 b
 free:∀ b,isC cl b=true->H1 b=none
 cells:Cells cl H2
 cap:∀(i:Nat) (x:Str) (v:V) (c:Addr),N[i]?=some x->W[i]?=some (some v)->(kd x=some .cell\/kd x=some .free)->cl.lookup x=some c->∃ o u,H2 c=some (.frz o (.own c))/\o.data=.cell (some u)/\RelV v u
 inj:∀ x y c,cl.lookup x=some c->cl.lookup y=some c->x=y
def bY3 (K:ae)(H:Hp)(f:Addr):Prop:=(∃ fd,H f=some (bI6 f fd))\/∃ oc od fd sl,K.lookup f=some ⟨oc,od,.func fd,sl⟩
theorem bY3.at {X:Cx}{z:yA}{W:St}{H:Hp}{s:ag}{f:Addr}(h:bY3 X.K H f)(I:Inv X z W H s):PySem.W.FnAt f s.heap:=by
 rcases h with⟨F,h⟩|⟨oc,od,F,sl,h⟩
 .exact⟨_,_,_,_,bk1 I.hok h⟩
 .exact⟨_,_,_,_,I.kIn _ _ h⟩
noncomputable def az4 (K:ae)(names:yH):List (Str×Addr×Addr):=names.filterMap λ x=>(bq K x).map λ p=>(x,p)
theorem ar0 {K:ae}{names:yH}{y:Str×Addr×Addr}:y∈az4 K names↔y.1∈names/\bq K y.1=some y.2:=by
 unfold az4
 rw[eX]
 constructor
 .rintro⟨x,hx,e⟩
  obtain⟨p,h,rfl⟩:=cS.mp e
  exact⟨hx,h⟩
 .rintro⟨hx,e⟩
  exact⟨y.1,hx,by rw[e];rfl⟩
def bu1 (K:ae)(names:yH)(base:Heap):Prop:=∀ x∈names,∀ c P,bq K x=some (c,P)->b9 base c P
def bD2 (K:ae)(names:yH)(H:Hp):Prop:=∀ x∈names,∀ c P,bq K x=some (c,P)->H P=some (.tbl #[])
noncomputable def bR0 (K:ae)(names:yH)(ts:List Addr):Bool:=names.all λ x=>match bq K x with
 | some (c,P)=>ji K c P&&ts.contains P
 | none=>true
theorem aM4 {K:ae}{x:Str}(h:(bq K x).isSome=true):bq K x=some (((bq K x).getD (0,0)).1,((bq K x).getD (0,0)).2):=by
 obtain⟨p,e⟩:=bW.mp h
 rw[e]
 rfl
def bN6 (H:Hp)(P:Addr)(q:Str):Prop:=∃ ps:Array Value,H P=some (.tbl ps)/\TriplesOk ps.toList/\∀ pos cv,codeAmong pos ps.toList=some cv->∃ c',cv=.ref c'/\H c'=some (aP2 c' q)
def TabsH (T:List (Addr×Str))(H:Hp):Prop:=∀ y∈T,bN6 H y.1 y.2
def bM7 (H H':Hp):Prop:=∀ b o,(∀ ps,o≠.tbl ps)->H b=some o->H' b=some o
theorem bM7.of {H z:Hp}(a:ae2 H z):bM7 H z:=λ c o _ h=>a c o h
theorem TabsH.keep {T:List (Addr×Str)}{H H':Hp}(h:TabsH T H)(k:∀ b o,(∀ z,o≠.lst z)->H b=some o->H' b=some o):TabsH T H':=λ y hy=>by
 obtain⟨ps,e,t,c⟩:=h y hy
 refine⟨ps,k _ _ (λ _=>by nofun) e,t,λ pos G q=>?_⟩
 obtain⟨F,e1,e2⟩:=c pos G q
 exact⟨F,e1,k _ _ (λ _=>by unfold aP2;nofun) e2⟩
theorem TabsH.same {T:List (Addr×Str)}{H H':Hp}(h:TabsH T H)(s:ae2 H H'):TabsH T H':=h.keep λ b o _ e=>s b o e
theorem TabsH.new {T:List (Addr×Str)}{H:Hp}{a:Addr}{o:HO}(h:TabsH T H)(n:H a=none):TabsH T (upd H a o):=h.same ((ae2.refl H).new n)
theorem TabsH.put {T:List (Addr×Str)}{H:Hp}{a:Addr}{o:HO}{F:List V}(h:TabsH T H)(n:H a=some (.lst F)):TabsH T (upd H a o):=h.keep λ b u d e=>by
 rw[ze λ z=>by subst z;rw[n]at e;cases e;exact d _ rfl];exact e
theorem TabsH.init {T:List (Addr×Str)}{H:Hp}(h:∀ p∈T.map (·.1),H p=some (.tbl #[])):TabsH T H:=λ y hy =>
 ⟨#[],h _ (bv hy),trivial,λ pos z e=>by simp[codeAmong]at e⟩
theorem Caught.same {cells:yB}{N:yH}{kd:Str->Option b8}{W:St}{F h:Hp}(G:Caught cells N kd W F h):ae2 F h:=λ b o e=>by
 rw[G.ne b λ z=>by rw[G.free b z]at e;cases e];exact e
theorem aW0 {X:Cx}{K:ae}(hc:X.calm=true)(hK:X.K=K):ac0 X (.builtin "min") (λ xs H Q=>∃ a ns,xs=[.ref a]/\SqL K H a (ns.map V.int)/\ns≠[]/\∀ m∈ns,(∀ y∈ns,m<=y)->Q (.int m) H):=by
 subst hK
 intro a1 s W H xs us Q I r h
 obtain⟨a,ns,rfl,hS,Y,q⟩:=h
 obtain⟨u,rfl,ru⟩:=qu r
 cases ru
 obtain⟨its,J,pl,hz⟩:=I.list hS
 have hl:=J.length
 rw[az]at hl
 have a0:0<ns.length:=g6.mpr Y
 refine call_min_walk (c7 pl.isList ?_)
 have F:a<s.heap.objs.size:=by obtain⟨o,_,e,_⟩:=pl;exact aN e
 have Ww:=jL (prog:=X.prog) (w:=X.w) (A:=X.A.in1) (I.ok.hd hc) s.heap.objs.size a (aC F) its.toArray
 let val:Nat->Int:=λ i=>ns.getD i 0
 have G:∀ i v,its.toArray[i]?=some v->∃ t,v=Value.int (val i) t:=λ i v e=>by
  obtain⟨z,t,e1,e2⟩:=bb5 J (i:=i) (v:=v) (by rw[c5]at e;exact e)
  refine⟨t,?_⟩
  rw[e2]
  show Value.int z t=Value.int (ns.getD i 0) t
  rw[ay,e1]
  rfl
 refine⟨_,_,_,_,_,_,_,rfl,Ww,⟨⟨_,aV _ rfl,rfl,rfl⟩,?_⟩,λ b hb=>?_,by rw[av];lia,CmpOf.ints_lt val G,λ v h' tk hP k=>?_⟩
 .obtain⟨o,e,r⟩:=pl.isList
  exact⟨o,aq _ e,r⟩
 .show b<(s.heap.push _).objs.size
  rw[cx]
  rcases aG.mp hb with z|z
  .rw[z];exact bL _
  .have Z:b=a:=by simpa using z
   rw[Z];exact fu F
 .obtain⟨z,t,e1,e2⟩:=bb5 J (i:=jy (λ i j=>decide (val i<val j)) (its.toArray.size - 1)) (v:=v) (by rw[c5]at hP;exact hP)
  subst e2
  have hv:val (jy (λ i j=>decide (val i<val j)) (its.toArray.size - 1))=z:=by
   show ns.getD _ 0=z
   rw[ay,e1]
   rfl
  refine⟨.int z,H,I.kept (h':=h') (t':=tk) λ b o q=>k b o ?_ (aq _ q),⟨t,rfl⟩,q z (be e1) λ y hy=>?_⟩
  .intro z
   have Z:b=s.heap.objs.size:=by simpa using z
   exact absurd (aN q) (by rw[Z];exact bA _)
  .obtain⟨j,hj,e3⟩:=cb.mp hy
   have:=am1 val (its.toArray.size - 1) j (by simp only[av];lia)
   rw[hv]at this
   have e4:val j=y:=by
    show ns.getD j 0=y
    rw[ay,af hj]
    exact e3
   lia
noncomputable def mx (a b:Int):Int:=if b > a then b else a
section
variable {X:Cx}
end
noncomputable def mx3 (a b c:Int):Int:=mx (mx a b) c
noncomputable def rnd (x:Int):Int:=if x=0\/x=3 then x else 2
noncomputable def sharp (n:Nat)(s:Nat->Nat->Int)(i j:Nat):Int:=(ch8 ((aP n).map λ k=>mx3 (s i k) (rnd (s k k)) (s k j))).getD 3
section
variable {n:Nat} {s:Nat->Nat->Int}
end
def az0 (H:Hp)(f:Addr)(name qual:Str)(params:dj)(body:yL)(scope:Scope)(fr:yH)(cap:List V)(clos:yB):Prop :=
 ∃ doc pm c' ctv,H f=some (bI6 f (ku name qual params body scope clos .none .none doc pm none (.ref c') ctv))/\H c'=some (aP2 c' qual)/\Cells clos H /\
  (∀ x y c,clos.lookup x=some c->clos.lookup y=some c->x=y)/\(∀ x,scope.names.lookup x=some .free->∃ c,clos.lookup x=some c)/\Cap clos H fr cap
theorem az0.fn {K:ae}{H:Hp}{f:Addr}{name qual:Str}{params:dj}{body:yL}{scope:Scope}{fr:yH}{cap:List V}{z:yB}(h:az0 H f name qual params body scope fr cap z):bY3 K H f:=by
 obtain⟨G,Z,Y,J,F,_⟩:=h
 exact .inl ⟨_,F⟩
end L2
end
noncomputable section
namespace L2
open PySem PySem.Spec PyProof.Rows Builtin
section
variable {P:aE} {w:World} {A:a7} {E:Value->ag->Prop} {s:ag}
theorem aF0 {it t:Addr}{i:Nat}{l:yJ}{v:Value}{Q:Value->ag->Prop}(F:s.heap.IsTupleIter it t i)(G:s.heap.IsTuple t l)(hv:l[i]?=some v)
  (k:∀ h',h'.IsTupleIter it t (i+1)->dg it s.heap h'->Q v { s with heap:=h' }):wpAny (model P w) A (bF (.ref it)) Q E s:=by
 obtain⟨o,e1,e2,h⟩:=id F
 obtain⟨p,p1,_,n,J⟩:=G
 unfold bF
 refine ar (cN (name:=bU "__next__") F.typeIs cA (cL cA F.typeIs eT ?_ (eK _)))
 show wpAny _ _ (field (.ref it) 0 >>= _) _ _ _
 refine ar (dI e1 h (x:=.ref t) rfl ?_)
 show wpAny _ _ (if(Value.ref t==Value.none)=true then _ else _) _ _ _
 rw[if_neg (show ¬((Value.ref t==Value.none)=true)from λ z=>nomatch z)]
 show wpAny _ _ (field (.ref it) 1 >>= _) _ _ _
 refine ar (dI e1 h (x:=.int i 0) rfl ?_)
 show wpAny _ _ (seqItems? (.ref t) >>= _) _ _ _
 refine ar (wpAny_seqItems p1 J ?_)
 simp only[cH,hv]
 refine ar (wpAny_setField e1 h (by simp) (aJ ⟨v,rfl,aJ (k _ ⟨_,gq _ e1 (Obj.isFreed_of_fields (iE h _)),(Obj.cls_mapFields ..).trans e2,by rw[iE h];simp[rawInt]⟩ (g7 ..))⟩))
theorem aP5 {it t:Addr}{i:Nat}{l:yJ}{Q:Value->ag->Prop}(G:A.handled=none)(h:s.heap.IsTupleIter it t i)(J:s.heap.IsTuple t l)(hv:l[i]?=none)
  (k:∀ h' e,jm it s.heap h'->(∃ o,h'.get? e=some o/\o.cls=.type "StopIteration")->E (.ref e) { s with heap:=h' }):wpAny (model P w) A (bF (.ref it)) Q E s:=by
 obtain⟨o,e1,e2,F⟩:=id h
 obtain⟨p,p1,_,n,Y⟩:=J
 unfold bF
 refine ar (cN (name:=bU "__next__") h.typeIs cA (cL cA h.typeIs eT ?_ (eK _)))
 show wpAny _ _ (field (.ref it) 0 >>= _) _ _ _
 refine ar (dI e1 F (x:=.ref t) rfl ?_)
 show wpAny _ _ (if(Value.ref t==Value.none)=true then _ else _) _ _ _
 rw[if_neg (show ¬((Value.ref t==Value.none)=true)from λ z=>nomatch z)]
 show wpAny _ _ (field (.ref it) 1 >>= _) _ _ _
 refine ar (dI e1 F (x:=.int i 0) rfl ?_)
 show wpAny _ _ (seqItems? (.ref t) >>= _) _ _ _
 refine ar (wpAny_seqItems p1 Y ?_)
 simp only[cH,hv]
 refine ar (jJ (ar (wpAny_setField e1 F (by simp) ?_)))
 show wpAny _ _ (newExc (.type "StopIteration") [] >>= _) _ _ (_:ag)
 refine ar ?_
 simp only[newExc,newTuple]
 refine ar (bD ?_ (by size_fits))
 refine ar (m:=firstArgMember _ _) (wpAny_of_eq (a:=Value.none) (by first|rfl|(simp only[firstArgMember];rfl)) (bD ?_ (by size_fits)))
 simp only[raiseNew]
 refine ar (wpAny_handled ?_)
 first|rw[show A.in1.handled=none from G]|rw[G]
 exact ar (aJ (wpAny_throw (k _ _ (((g7 ..).extBut.push _).push _) ⟨_,aV _ rfl,rfl⟩)))
end
structure Dw (P:aE)(w:World)(K:ae)(J:It)(it:Addr)(tn:Nat->Heap->Prop):Prop where
 obj:∀ i h,tn i h->∃ o,h.get? it=some o/\∀ v,o.data≠.cell v
 keep:∀ i h h',tn i h->(∀ o,h.get? it=some o->h'.get? it=some o)->tn i h'
 item:∀(X:Cx),X.prog=P->X.w=w->X.K=K->∀(A:a7) (i:Nat) (pins:yA) (s:ag) (W:St) (H:Hp) (Q:Value->ag->Prop) (E:Value->ag->Prop),Inv X pins W H s->tn i s.heap->J.go i H ->
  (∀ x u h' tk,RelV x u->J.yld i H x H->tn (i+1) h'->dg it s.heap h'->Q u { s with heap:=h',toks:=tk })->wpAny (model P w) A (bF (.ref it)) Q E s
 done:∀(X:Cx),X.prog=P->X.w=w->X.K=K->∀(A:a7) (i:Nat) (pins:yA) (s:ag) (W:St) (H:Hp) (Q:Value->ag->Prop) (E:Value->ag->Prop),A.handled=none->Inv X pins W H s->tn i s.heap->J.stop i H ->
  (∀ h' e,jm it s.heap h'->(∃ o,h'.get? e=some o/\o.cls=.type "StopIteration")->E (.ref e) { s with heap:=h' })->wpAny (model P w) A (bF (.ref it)) Q E s
theorem bA0 {P:aE}{w:World}{K:ae}(a it:Addr):Dw P w K (Itl K a) it (λ i h=>h.IsListIter it a i) where
 obj:=λ i h st=>by
  obtain⟨o,e,c,d⟩:=st
  exact⟨o,e,λ v z=>by rw[d]at z;cases z⟩
 keep:=λ i h h' st k=>st.at k
 item:=by
  intro X J hw Z A i F s W H Q E I st hg k
  subst J hw Z
  obtain⟨xs,x,hq,hx⟩:=hg
  obtain⟨its,G,p,hz⟩:=I.list hq
  obtain⟨u,hu,ru⟩:=G.get hx
  exact wpAny_nextOf_list_item st p.isList (x:=u) (by simpa using hu) λ h' Y sb=>k x u h' s.toks ru ⟨rfl,λ ys hy=>by rw[I.list_inj hy hq];exact hx⟩ Y sb
 done:=by
  intro X J hw Z A i F s W H Q E hA I st hg k
  subst J hw Z
  obtain⟨xs,hq,hx⟩:=hg
  obtain⟨its,G,p,hz⟩:=I.list hq
  have hl:=G.length
  exact wpAny_nextOf_list_end hA st p.isList (by simp;omega) k
theorem bM1 {P:aE}{w:World}{K:ae}(a it:Addr):Dw P w K (Itt K a) it (λ i h=>h.IsTupleIter it a i) where
 obj:=λ i h st=>by
  obtain⟨o,e,c,d⟩:=st
  exact⟨o,e,λ v z=>by rw[d]at z;cases z⟩
 keep:=λ i h h' st k=>st.at k
 item:=by
  intro X J hw Z A i F s W H Q E I st hg k
  subst J hw Z
  obtain⟨xs,x,hq,hx⟩:=hg
  obtain⟨its,G,p,hz⟩:=I.tuple hq
  obtain⟨u,hu,ru⟩:=G.get hx
  exact aF0 st (show s.heap.IsTuple a its.toArray from p) (v:=u) (by simpa using hu) λ h' Y sb=>k x u h' s.toks ru ⟨rfl,λ ys hy=>by rw[I.tuple_inj hy hq];exact hx⟩ Y sb
 done:=by
  intro X J hw Z A i F s W H Q E hA I st hg k
  subst J hw Z
  obtain⟨xs,hq,hx⟩:=hg
  obtain⟨its,G,p,hz⟩:=I.tuple hq
  have hl:=G.length
  exact aP5 hA st (show s.heap.IsTuple a its.toArray from p) (by simp;omega) k
theorem bV9 {P:aE}{w:World}{K:ae}(x:Str)(t:Tok)(it:Addr):Dw P w K (Its x) it (λ i h=>h.IsStrIter it (gH x) x t i) where
 obj:=λ i h st=>by
  obtain⟨o,e,c,d⟩:=st
  exact⟨o,e,λ v z=>by rw[d]at z;cases z⟩
 keep:=λ i h h' st k=>by
  obtain⟨o,ho,r⟩:=st
  exact⟨o,k _ ho,r⟩
 item:=by
  intro X Y hw hK A i J s W H Q E I st hg k
  subst Y hw hK
  have F:i<x.cps.size:=hg
  have hc:x.cps[i]?=some x.cps[i]:=by simp[F]
  unfold gH at st k
  cases ha:x.cps.all (·<128)
  .rw[ha]at st k
   exact wpAny_nextOf_wide_item st hc λ h' G Z=>k (.str ⟨#[x.cps[i]]⟩) _ h' (s.toks+1) ⟨_,rfl⟩ ⟨rfl,_,hc,rfl⟩ G Z
  .rw[ha]at st k
   exact wpAny_nextOf_ascii_item st hc λ h' G Z=>k (.str ⟨#[x.cps[i]]⟩) _ h' (s.toks+1) ⟨_,rfl⟩ ⟨rfl,_,hc,rfl⟩ G Z
 done:=by
  intro X Y hw hK A i J s W H Q E hA I st hg k
  subst Y hw hK
  have F:x.cps.size<=i:=hg
  have hc:x.cps[i]?=none:=by simp[F]
  unfold gH at st
  cases ha:x.cps.all (·<128)
  .rw[ha]at st
   exact wpAny_nextOf_wide_end hA st hc k
  .rw[ha]at st
   exact wpAny_nextOf_ascii_end hA st hc k
section
variable {X:Cx} {pins:yA} {W:St} {H:Hp} {s:ag} {A:a7} {E:Value->ag->Prop} {J1 J2:It} {t1 t2:Nat->Heap->Prop} {z ti to i1 i2:Addr} {n:Nat} {a b:Value}
end
def Mkr (v:Value)(o:Obj)(h:Heap):Prop:=∀(P:aE) (w:World) (A:a7) (E:Value->ag->Prop) (s:ag) (Q:Value->ag->Prop),(∀ b u,h.get? b=some u->s.heap.get? b=some u) ->
 Q (.ref s.heap.objs.size) { s with heap:=s.heap.push o }->wpAny (model P w) A (j9 v) Q E s
def Sr (K:ae)(H:Hp)(x:V)(J:It):Prop:=(∃ a,x=.ref a/\(∃ xs,SqL K H a xs)/\J=Itl K a)\/(∃ a,x=.ref a/\(∃ xs,SqT K H a xs)/\J=Itt K a)\/∃ y,x=.str y/\J=Its y
theorem Sr.mk {X:Cx}{z:yA}{W:St}{H:Hp}{s:ag}{x:V}{u:Value}{J:It}(I:Inv X z W H s)(h:Sr X.K H x J)(r:RelV x u) :
  ∃(o:Obj) (F:Addr->Nat->Heap->Prop),o.isFreed=false/\Mkr u o s.heap/\(∀ it,Dw X.prog X.w X.K J it (F it))/\∀ it h',h'.get? it=some o->F it 0 h':=by
 rcases h with⟨a,e,⟨G,hq⟩,e'⟩|⟨a,e,⟨G,hq⟩,e'⟩|⟨y,e,e'⟩
 .subst e e';cases r
  obtain⟨its,Y,p,hz⟩:=I.list hq
  exact⟨_,λ it i h=>h.IsListIter it a i,rfl,λ P w A E s' Q hk q=>c7 (p.isList.at λ o e=>hk _ _ e) q,λ it=>bA0 a it,λ it h' e=>⟨_,e,rfl,rfl⟩⟩
 .subst e e';cases r
  obtain⟨its,Y,p,hz⟩:=I.tuple hq
  exact⟨_,λ it i h=>h.IsTupleIter it a i,rfl,λ P w A E s' Q hk q=>iq (Heap.IsTuple.at (show s.heap.IsTuple a its.toArray from p) λ o e=>hk _ _ e) q,λ it=>bM1 a it,λ it h' e=>⟨_,e,rfl,rfl⟩⟩
 .subst e e';obtain⟨t,rfl⟩:=r
  exact⟨_,λ it i h=>h.IsStrIter it (gH y) y t i,rfl,λ P w A E s' Q hk q=>wpAny_pyIter_strU q,λ it=>bV9 y t it,λ it h' e=>⟨_,e,rfl,rfl⟩⟩
end L2
end
noncomputable section
namespace L2
open PySem PySem.Spec PyProof.Rows Builtin
open AutoSeq1 (wpAny_loadPart')
section
variable {X:Cx} {pins:yA} {W:St} {H:Hp} {s:ag} {A:a7} {E:Value->ag->Prop} {J1:It} {t1:Nat->Heap->Prop} {z it:Addr} {n:Nat} {old:Value}
end
end L2
end
noncomputable section
namespace L2
open PySem PySem.Spec PyProof.Rows Builtin
open AutoSeq1 (wpAny_loadPart')
theorem aC4:fillsNumberSlot (.type "tuple") "mul"=pure false :=
 PySem.fillsNumberSlot_seq (id := "tuple.__mul__") (r:=some (.builtin "tuple.__rmul__")) dS.lookup (by decide +kernel) fJ.lookup (by decide +kernel)
theorem aQ9:seqRepeat? (.type "tuple")=pure (some (.builtin "tuple.__mul__")):=by
 unfold seqRepeat?
 rw[jj (T := "tuple") (name := "__mul__") (id := "tuple.__mul__") dS.lookup (by decide +kernel),jj (T := "tuple") (name := "__rmul__") (id := "tuple.__rmul__") fJ.lookup (by decide +kernel)]
 rfl
theorem ay1 (a:Int)(t:Tok)(l:Addr)(o:Obj)(z:yJ)(n:Nat)(F:yI)(sl:yE) :
  Meets (Builtin.«int.__rmul__» ⟨[.int a t,.ref l],[]⟩) (λ _ R s=>s.heap.get? l=some { cls:=.type "tuple",dict:=F,data:=.seq z n,slots:=sl }/\R (.ok (.ret Value.notImplemented)) s) :=
 .of_wp λ prog w A R s h=>by obtain⟨G,g,d,tk,os⟩:=s;obtain⟨hl,h⟩:=h;wp_walk;exact⟨_,rfl,h⟩
noncomputable def ao5 {α:Type}:Nat->List α->List α
 | 0,_=>[]
 | n+1,a=>a++ao5 n a
theorem aJ8 {α:Type}(l:List α):∀(n:Nat) (h:Array α),(ai n l.toArray).foldl (·++·) h=h++(ao5 n l).toArray
 | 0,h=>by simp[ao5]
 | n+1,h=>by rw[bC,dB,aJ8 l n];simp[ao5]
theorem aB1 {α:Type}(a:Array α):∀(n:Nat) (h:Array α),((ai n a).foldl (·++·) h).size=h.size+a.size*n
 | 0,h=>by simp
 | n+1,h=>by rw[bC,dB,aB1 a n,Array.size_append,Nat.mul_succ];lia
def TmA (items:yJ)(k:Int)(l:Addr)(R:Value->ag->Prop)(s:ag):Prop :=
 ((items.isEmpty||k==1)=true->R (.ref l) s)/\((items.isEmpty||k==1)=false->R (.ref s.heap.objs.size) { s with heap:=s.heap.push { cls:=.type "tuple",data:=.seq ((ai k.toNat items).foldl (·++·) #[]) } })
theorem aX5 {P:aE}{w:World}{A:a7}{E:Value->ag->Prop}{s:ag}{l:Addr}{z:yJ}{k:Int}{t:Tok}{Q:Value->ag->Prop}(h0:0<=k)(Z:k<=1000000)(hz:z.size*k.toNat<=1000000)(hl:IsTup s.heap l z)
  (h:TmA z k l Q s):wpAny (model P w) A (call (.builtin "tuple.__mul__") [.ref l,.int k t]) Q E s:=by
 refine cL dS hl.typeIs PySem.F.entry_tuple_mul ?_ (PySem.F.args_tuple_mul_2 _ _)
 obtain⟨G,q2⟩:=h
 show wpAny _ _ (asIndex (.int k t) >>= _) _ _ _
 refine ar (aJ ?_)
 rw[if_neg (by rw[decide_eq_false (by lia),decide_eq_false (by lia)];decide)]
 show wpAny _ _ (de (.ref l) >>= _) _ _ _
 refine ar (ic hl ?_)
 have J:(z.size:Int)*k<=1000000:=by
  have:((z.size*k.toNat:Nat):Int)<=1000000:=by lia
  rw[jt,eQ h0]at this
  exact this
 cases hb:(z.isEmpty||k==1)with
 | true =>
  rw[if_pos rfl]
  unfold jM
  refine ar (ar (fZ hl.typeIs (aJ ?_)))
  rw[if_pos (by decide)]
  exact ar (jJ (aJ ⟨_,rfl,G hb⟩))
 | false =>
  rw[if_neg aW]
  have Y:z.isEmpty=false:=by
   rw[eg]at hb;exact hb.1
  have q:=q2 hb
  show wpAny _ _ (if(decide (k<=0)||z.isEmpty)=true then _ else _) _ _ _
  by_cases hk:k<=0
  .rw[if_pos (by rw[decide_eq_true hk];rfl)]
   have:k.toNat=0:=by lia
   rw[this]at q
   exact ar (bD (aJ ⟨_,rfl,q⟩) (by size_fits))
  .rw[if_neg (by rw[decide_eq_false hk,Y];decide)]
   show wpAny _ _ (if(z.size:Int)*k > (2^63 - 1) / 8 then _ else _) _ _ _
   rw[if_neg (by lia)]
   show wpAny _ _ (if fc ((z.size:Int)*k)=true then _ else _) _ _ _
   rw[if_neg (by unfold fc;rw[decide_eq_false (by unfold aM;lia)];decide)]
   refine ar (bD (aJ ⟨_,rfl,q⟩) ?_)
   show Array.size _<=aM
   rw[aB1]
   show 0+_<=_
   rw[aU]
   have h3:z.size*k.toNat<=aM:=aj hz (by decide)
   exact h3
theorem aL6 {α:Type}:∀ n,ao5 n ([]:List α)=[]
 | 0=>rfl
 | n+1=>by simp[ao5,aL6 n]
theorem bg4 {α:Type}(l:List α):ao5 1 l=l:=by simp[ao5]
theorem aH7 {α:Type}(l:List α):∀ n,(ao5 n l).length=l.length*n
 | 0=>by simp[ao5]
 | n+1=>by simp[ao5,aH7 l n,jo];lia
theorem Vals.repT {h:List V}{us:yG}(r:Vals h us):∀ n,Vals (ao5 n h) (ao5 n us)
 | 0=>.nil
 | n+1=>r.append (Vals.repT r n)
def cb5 (K:ae):R2:=λ x y H Q=>∃ a xs n,x=.ref a/\y=.int n/\SqT K H a xs/\(0<=n/\n<=1000000/\xs.length*n.toNat<=1000000)/\∀ p H',ae2 H H'->SqT K H' p (ao5 n.toNat xs)->(H' p=some (.tup (ao5 n.toNat xs))\/(p=a/\ao5 n.toNat xs=xs))->Q (.ref p) H'
theorem bF4 {X:Cx}{K:ae}(hK:X.K=K):OpR X (bK .Mult) (cb5 K):=by
 subst hK
 intro G s W H x y v u Q I rx Z h
 obtain⟨a,F,n,rfl,rfl,ha,⟨h0,h1,hz⟩,q⟩:=h
 cases rx
 obtain⟨t,rfl⟩:=Z
 obtain⟨its,r1,p1,a0⟩:=I.tuple ha
 have z:=r1.length
 obtain⟨⟨cls,dd,data,sl⟩,ho,hc,J,hd⟩:=id p1
 simp only at hc hd
 subst hc hd
 refine fh (T := "tuple") (U := "int") (by decide) p1.typeIs (λ s'=>e8 s' n t) aC4 iC dE aQ9 gY.lookup
  (e9 dE (e8 s n t) gZ (gF _ _) (ay1 n t a default its.toArray J dd sl) ⟨ho,⟨rfl,p1.typeIs,aX5 h0 h1 (by rw[av,<-z];exact hz) p1 ⟨λ hb=>?_,λ hb=>?_⟩⟩⟩)
 .have ex:ao5 n.toNat F=F:=by
   rw[bn]at hb
   rcases hb with hb|hb
   .have Y:its=[]:=by simpa using hb
    have hx:F=[]:=r1.nil_iff.mp Y
    rw[hx,aL6]
   .have:n=1:=by simpa using hb
    subst this
    exact bg4 _
  exact⟨.ref a,H,I,rfl,q a H (ae2.refl H) (by rw[ex];exact ha) (.inr ⟨rfl,ex⟩)⟩
 .have hp:=I.hok.fresh (ah s.heap.objs.size)
  refine⟨.ref s.heap.objs.size,_,I.laid (t':=s.toks) (o:=.tup (ao5 n.toNat F)) (λ b ob q=>aq _ q) (ah _) ?_,rfl,q _ _ ((ae2.refl H).new hp) (SqT.of zq) (.inl zq)⟩
  refine⟨by rw[aH7];exact aj hz (by decide),ao5 n.toNat its,r1.repT _,?_⟩
  rw[show(ao5 n.toNat its).toArray=(ai n.toNat its.toArray).foldl (·++·) #[]by rw[aJ8];simp]
  exact⟨_,aV _ rfl,rfl,_,rfl⟩
end L2
end
noncomputable section
namespace L2
open PySem PySem.Spec PyProof.Rows
noncomputable def bG0 (x:List Nat):V:=.str ⟨x.toArray⟩
theorem av5:∀ {z:List (List Nat)} {its:yG},Vals (z.map bG0) its->∃ l:List (Str×Tok),its=strValues l/\l.map (·.1)=z.map λ x=>(⟨x.toArray⟩:Str)
 | [],its,h=>by
  have:=h.length
  cases its with
  | nil=>exact⟨[],rfl,rfl⟩
  | cons _ _=>cases this
 | x::z,its,h=>by
  cases h with
  | cons r h =>
   obtain⟨t,rfl⟩:=r
   obtain⟨l,rfl,e⟩:=av5 h
   exact⟨(⟨x.toArray⟩,t)::l,rfl,by rw[aH,aH,e]⟩
theorem ax2 {A:a7}{k:Nat}(h:Room k A):A.units+2<cLine:=iG (Nat.add_le_add_left (by decide:2<=64) _) h.units
section
variable {κ:Type} [DecidableEq κ]
noncomputable def aL8 (kvs:List (κ×V))(k:κ):Option V:=(kvs.find? λ kv=>decide (kv.1=k)).map (·.2)
noncomputable def aB4 (kvs:List (κ×V))(k:κ)(v:V):List (κ×V) :=
 if(kvs.any λ kv=>decide (kv.1=k))=true then kvs.map (λ kv=>if kv.1=k then(kv.1,v)else kv)else kvs++[(k,v)]
theorem ak1 {p:κ×V}{r:List (κ×V)}{k:κ}(e:p.1=k):aL8 (p::r) k=some p.2:=by simp[aL8,cX,e]
theorem aj8 {p:κ×V}{r:List (κ×V)}{k:κ}(e:¬ p.1=k):aL8 (p::r) k=aL8 r k:=by simp[aL8,cX,e]
theorem as8 (k:κ):∀ kvs:List (κ×V),(kvs.any λ h=>decide (h.1=k))=(aL8 kvs k).isSome
 | []=>rfl
 | p::r=>by
  rw[fF]
  by_cases e:p.1=k
  .simp only[ak1 e,decide_eq_true e,Bool.true_or,iD]
  .rw[aj8 e,decide_eq_false e,j0];exact as8 k r
theorem al0 (kvs:List (κ×V))(k:κ)(v:V):(aB4 kvs k v).length<=kvs.length+1:=by
 unfold aB4
 split
 .rw[az];lia
 .rw[am,aR,eL];lia
theorem ay8.isSome_eq {o:Option V}{u:Option Value}(r:ay8 o u):o.isSome=u.isSome:=by
 cases o with
 | none=>cases u with
  | none=>rfl
  | some _=>exact(show False from r).elim
 | some _=>cases u with
  | none=>exact(show False from r).elim
  | some _=>rfl
theorem ay8.getD {o:Option V}{u:Option Value}{d:V}{d':Value}(r:ay8 o u)(h:RelV d d'):RelV (o.getD d) (u.getD d'):=by
 cases o with
 | none=>cases u with
  | none=>exact h
  | some _=>exact(show False from r).elim
 | some _=>cases u with
  | none=>exact(show False from r).elim
  | some _=>exact r
theorem KV.val {kvs:List (κ×V)}{vs:List (κ×Value)}(r:KV kvs vs)(k:κ):ay8 (aL8 kvs k) (gP vs k):=by
 unfold KV at r
 induction r with
 | nil=>exact True.intro
 | @cons p q ps qs h t ih =>
  obtain⟨F,G⟩:=h
  by_cases e:p.1=k
  .have e':q.1=k:=F.symm.trans e
   have b:gP (q::qs) k=some q.2:=by simp[gP,cX,e']
   rw[ak1 e,b];exact G
  .have e':¬ q.1=k:=λ z=>e (F.trans z)
   have b:gP (q::qs) k=gP qs k:=by simp[gP,cX,e']
   rw[aj8 e,b];exact ih
theorem KV.any {kvs:List (κ×V)}{vs:List (κ×Value)}(r:KV kvs vs)(k:κ):(kvs.any λ z=>decide (z.1=k))=vs.any λ z=>decide (z.1=k):=by
 unfold KV at r
 induction r with
 | nil=>rfl
 | cons h t ih=>rw[fF,fF,ih,h.1]
theorem KV.repl {kvs:List (κ×V)}{vs:List (κ×Value)}(r:KV kvs vs)(k:κ){y:V}{u:Value}(Y:RelV y u) :
  KV (kvs.map λ F=>if F.1=k then(F.1,y)else F) (vs.map λ F=>if F.1=k then(F.1,u)else F):=by
 unfold KV at r ⊢
 induction r with
 | nil=>exact .nil
 | @cons p q ps qs h t ih =>
  rw[aH,aH]
  refine .cons ?_ ih
  obtain⟨G,J⟩:=h
  by_cases e:p.1=k
  .rw[if_pos e,if_pos (G.symm.trans e)];exact⟨G,Y⟩
  .rw[if_neg e,if_neg (λ z=>e (G.trans z))];exact⟨G,J⟩
theorem KV.put {kvs:List (κ×V)}{vs:List (κ×Value)}(r:KV kvs vs)(k:κ){y:V}{u:Value}(h:RelV y u):KV (aB4 kvs k y) (stored vs k u):=by
 unfold aB4 stored
 rw[r.any k]
 by_cases e:(vs.any λ z=>decide (z.1=k))=true
 .rw[if_pos e,if_pos e];exact r.repl k h
 .rw[if_neg e,if_neg e];exact kx r ⟨rfl,h⟩
theorem KV.length {kvs:List (κ×V)}{vs:List (κ×Value)}(r:KV kvs vs):kvs.length=vs.length:=du r
end
theorem aO9 {P:aE}{w:World}{k:Key}{u:Value}(r:RelV (kV k) u):(zu P w).is k u=true:=by
 cases k with
 | inl i=>obtain⟨t,e⟩:=(show ∃ t,u=Value.int i t from r);subst e;exact aB9 P w i t
 | inr x=>obtain⟨t,e⟩:=(show ∃ t,u=Value.str x t from r);subst e;exact aE6 P w x t
abbrev KT (H:Hp):List (List NI×V)->List (List NI×Addr×Value)->Prop:=eF λ p q=>p.1=q.1/\NK H p.1 q.2.1/\RelV p.2 q.2.2
theorem KT.val {H:Hp}{kvs:List (List NI×V)}{G:List (List NI×Addr×Value)}(r:KT H kvs G)(k:List NI):ay8 (aL8 kvs k) ((atKey G k).map (·.2)):=by
 induction r with
 | nil=>exact True.intro
 | @cons p q ps qs h t ih =>
  obtain⟨F,_,J⟩:=h
  by_cases e:p.1=k
  .have e':q.1=k:=F.symm.trans e
   have b:atKey (q::qs) k=some q.2:=by simp[atKey,cX,e']
   rw[ak1 e,b];exact J
  .have e':¬ q.1=k:=λ z=>e (F.trans z)
   have b:atKey (q::qs) k=atKey qs k:=by simp[atKey,cX,e']
   rw[aj8 e,b];exact ih
theorem KT.repl {H:Hp}{kvs:List (List NI×V)}{J:List (List NI×Addr×Value)}(r:KT H kvs J)(k:List NI){y:V}{u:Value}(Z:RelV y u) :
  KT H (kvs.map λ G=>if G.1=k then(G.1,y)else G) (J.map (putAt k u)):=by
 induction r with
 | nil=>exact .nil
 | @cons p q ps qs h t ih =>
  rw[aH,aH]
  refine .cons ?_ ih
  obtain⟨F,Y,h3⟩:=h
  unfold putAt
  by_cases e:p.1=k
  .rw[if_pos e,if_pos (F.symm.trans e)];exact⟨F,Y,Z⟩
  .rw[if_neg e,if_neg (λ z=>e (F.trans z))];exact⟨F,Y,h3⟩
theorem KT.put {H:Hp}{kvs:List (List NI×V)}{h:List (List NI×Addr×Value)}(r:KT H kvs h)(k:List NI){b:Addr}{y:V}{u:Value}(hb:NK H k b)(z:RelV y u) :
  KT H (aB4 kvs k y) (storedH h k b u):=by
 have e:(kvs.any λ F=>decide (F.1=k))=(atKey h k).isSome:=by
  rw[as8,(r.val k).isSome_eq,Option.isSome_map]
 unfold aB4 storedH
 rw[e]
 by_cases q:(atKey h k).isSome=true
 .rw[if_pos q,if_pos q];exact r.repl k z
 .rw[if_neg q,if_neg q];exact kx r ⟨rfl,hb,z⟩
theorem KT.keeps {H H':Hp}{kvs:List (List NI×V)}{h:List (List NI×Addr×Value)}(r:KT H kvs h)(ht:∀ b ys,H b=some (.tup ys)->H' b=some (.tup ys)):KT H' kvs h :=
 eF.mapP r λ _ _ z=>⟨z.1,z.2.1.mono ht,z.2.2⟩
section
variable {P:aE} {w:World} {H:Hp} {h:Heap} {a:Addr}
theorem ce7 {u:HO}(ok:HOk P w H h)(e:Rd H a u):ab7 P w H h a u:=e.ok ok
theorem aF8 {kvs:List (Key×V)}(ok:HOk P w H h)(e:Rd H a (.dK kvs)):kvs.length<=aM/\(a==dY)=false/\∃ vs,KV kvs vs/\h.DictOf (zu P w) a vs :=
 show ab7 P w H h a (.dK kvs)from ce7 ok e
theorem bR7 {kvs:List (Key×V)}(ok:HOk P w H h)(e:H a=some (.dK kvs)):kvs.length<=aM/\(a==dY)=false/\∃ vs,KV kvs vs/\h.DictOf (zu P w) a vs:=aF8 ok (.inl e)
end
def aR5 (H:Hp)(a:Addr)(y:V)(r:Option V):Prop :=
 (∃ kvs k,Rd H a (.dK kvs)/\y=kV k/\r=aL8 kvs k)\/False
def bY4 (H:Hp)(a:Addr)(y v:V)(H':Hp):Prop :=
 (∃ kvs k,H a=some (.dK kvs)/\y=kV k/\kvs.length<aM/\H'=upd H a (.dK (aB4 kvs k v)))\/False
theorem aR5.k {H:Hp}{a:Addr}{kvs:List (Key×V)}{k:Key}(e:H a=some (.dK kvs)):aR5 H a (kV k) (aL8 kvs k):=.inl ⟨kvs,k,.inl e,rfl,rfl⟩
theorem bY4.k {H:Hp}{a:Addr}{kvs:List (Key×V)}{k:Key}{v:V}(e:H a=some (.dK kvs))(hl:kvs.length<aM):bY4 H a (kV k) v (upd H a (.dK (aB4 kvs k v))):=.inl ⟨kvs,k,e,rfl,hl,rfl⟩
section
variable {X:Cx} {pins:yA} {W:St} {H:Hp} {s:ag} {a:Addr} {y v:V} {u r:Value} {o:Option V} {A:a7} {E:Value->ag->Prop}
theorem Inv.big (I:Inv X pins W H s):dY<s.heap.objs.size:=by
 have h:bf<s.heap.objs.size:=(I.mod.glob.keeps I.bk).lt
 exact Nat.lt_trans (by decide) h
theorem aS7 {Q:Value->ag->Prop}(hu:A.units+2<cLine)(I:Inv X pins W H s)(g:aR5 H a y (some v))(Z:RelV y u)(h:∀ F s',Inv X pins W H s'->RelV v F->Q F s') :
  wpAny (model X.prog X.w) A (fY (.ref a) u) Q E s:=by
 rcases g with⟨kvs,k,e,Y,l⟩|g
 .subst Y
  obtain⟨z,hd,vs,J,dd⟩:=aF8 I.hok e
  obtain⟨F,hw,G⟩:=ay8.some_of (v:=v) (o:=gP vs k) (by rw[l];exact J.val k)
  exact wpAny_getItem_of (aO9 Z) dd.mapOf hw (h F _ (I.tok _) G)
 .exact g.elim
theorem cl2 {Q:Value->ag->Prop}(hu:A.units+2<cLine)(I:Inv X pins W H s)(g:aR5 H a y o)(J:RelV y u)(h:∀ s',Inv X pins W H s'->Q (.bool o.isSome) s') :
  wpAny (model X.prog X.w) A (dh .In u (.ref a)) Q E s:=by
 rcases g with⟨kvs,k,e,G,l⟩|g
 .subst G
  obtain⟨z,hd,vs,F,dd⟩:=aF8 I.hok e
  refine wpAny_in_of (aO9 J) hd dd.mapOf ?_
  rw[<-(F.val k).isSome_eq,<-l]
  exact h _ (I.tok _)
 .exact g.elim
theorem bI3 {Q:Value->ag->Prop}(hu:A.units+2<cLine)(I:Inv X pins W H s)(g:aR5 H a y o)(J:RelV y u)(h:∀ s',Inv X pins W H s'->Q (.bool (!o.isSome)) s') :
  wpAny (model X.prog X.w) A (dh .NotIn u (.ref a)) Q E s:=by
 rcases g with⟨kvs,k,e,G,l⟩|g
 .subst G
  obtain⟨z,hd,vs,F,dd⟩:=aF8 I.hok e
  refine wpAny_notIn_of (aO9 J) hd dd.mapOf ?_
  rw[<-(F.val k).isSome_eq,<-l]
  exact h _ (I.tok _)
 .exact g.elim
theorem aX4 {h':Heap}{t':Nat}{ob:HO}(I:Inv X pins W H s)(mu:Mut (H a))(hs:dg a s.heap h')(h:∃ q,h'.get? a=some q)(new:ab7 X.prog X.w (upd H a ob) h' a ob) :
  Inv X pins W (upd H a ob) { s with heap:=h',toks:=t' } :=
 I.write (x:=a) (e:=a) mu (.inl rfl) (λ b q hb z=>(hs.2 b hb).trans z) h new
theorem bq8 {P:aE}{w:World}{H':Hp}{h':Heap}{kvs:List (Key×V)}{vs:List (Key×Value)}(z:kvs.length<=aM)(hd:(a==dY)=false)(h:KV kvs vs)(dd:h'.DictOf (zu P w) a vs) :
  ab7 P w H' h' a (.dK kvs):=⟨z,hd,vs,h,dd⟩
theorem aY1 {H':Hp}{Q:Unit->ag->Prop}(hu:A.units+2<cLine)(I:Inv X pins W H s)(g:bY4 H a y v H')(ry:RelV y u)(Z:RelV v r)(h:∀ s',Inv X pins W H' s'->Q () s') :
  wpAny (model X.prog X.w) A (setItem (.ref a) u r) Q E s:=by
 rcases g with⟨kvs,k,e,J,l,eH⟩|g
 .subst J eH
  obtain⟨z,hd,vs,F,dd⟩:=bR7 I.hok e
  have hz:vs.length<=aM:=by rw[<-F.length];exact z
  have hl:(aB4 kvs k v).length<=aM:=by have:=al0 kvs k v;lia
  refine wpAny_setItem_pairs (hsz:=hz) (aO9 ry) dd λ h' G hs=>h _ ?_
  have Y:∃ q,h'.get? a=some q:=let⟨q,_,_,hq,_⟩:=G;⟨q,hq⟩
  exact aX4 I (by rw[e];exact True.intro) hs Y (bq8 hl hd (F.put k Z) G)
 .exact g.elim
end
section
variable {X:Cx} {pins:yA} {W:St} {H:Hp} {s:ag} {a:Addr} {kvs:List (Key×V)} {k:Key} {u:Value} {A:a7} {E:Value->ag->Prop}
end
theorem aF2 {X:Cx}{h:yA}{W:St}{H:Hp}{s:ag}{a:Addr}{y:V}{o:Option V}(I:Inv X h W H s)(g:aR5 H a y o):s.TypeIs (.ref a) "dict":=by
 rcases g with⟨kvs,k,e,_,_⟩|g
 .obtain⟨_,_,vs,_,dd⟩:=aF8 I.hok e
  exact dd.typeIs
 .exact g.elim
section
variable {X:Cx} {o i e value:Expr} {pos pos' tpos:Pos} {td ty tv:TE}
end
theorem aG7 {P:aE}{w:World}{H:Hp}(h:Heap)(hb:dY<h.objs.size):ab7 P w H (h.push { cls:=.type "dict",data:=.dict #[] }) h.objs.size (.dK []) :=
 ⟨bS _,beq_eq_false_iff_ne.mpr (bG (aC hb)),[],.nil,Heap.DictOf.new h⟩
def bt9:TE:=λ _ H Q=>∀ p,H p=none->Q (.ref p) (upd H p (.dK []))
section
variable {X:Cx} {pos:Pos}
theorem bf0:PE X (.Dict [] [] pos) bt9:=λ z s W H Q I h =>
 wpAny_Dict_empty ⟨.ref s.heap.objs.size,_,I.laid (a:=s.heap.objs.size) (o:=.dK []) (t':=s.toks) (λ _ _ q=>aq _ q) (ah _) (aG7 s.heap I.big),rfl,h _ (I.hok.fresh (ah _))⟩
end
noncomputable def aW3:List (TE×TE)->St->Hp->(List (V×V)->Hp->Prop)->Prop
 | [],_,H,Q=>Q [] H
 | (tk,tv)::r,W,H,Q=>tk W H λ x H1=>tv W H1 λ y H2=>aW3 r W H2 λ ps H3=>Q ((x,y)::ps) H3
abbrev VV:List (V×V)->List (Value×Value)->Prop:=eF λ p q=>RelV p.1 q.1/\RelV p.2 q.2
def PPs (X:Cx)(pos:Pos)(keys:List (Option Expr))(values:yK)(trs:List (TE×TE)):Prop :=
 ∀(pins:yA) (s:ag) (W:St) (H:Hp) (Q:List (V×V)->Hp->Prop),Inv X pins W H s->aW3 trs W H Q ->
  wpAny (model X.prog X.w) X.A (evalPairs (pairTrees keys values X.env pos)) (λ vs s'=>∃ ps H',Inv X pins W H' s'/\VV ps vs/\Q ps H') X.xe s
theorem bD7 {X:Cx}{pos:Pos}:PPs X pos [] [] []:=λ z s W H Q I h=>pairTrees_nil_walk ⟨[],H,I,.nil,h⟩
theorem bl2 {X:Cx}{pos:Pos}{k v:Expr}{J:List (Option Expr)}{vs:yK}{tk Y:TE}{F:List (TE×TE)}(hk:PE X k tk)(hv:PE X v Y)(hr:PPs X pos J vs F) :
  PPs X pos (some k::J) (v::vs) ((tk,Y)::F):=λ z s W H Q I h =>
 pairTrees_cons_walk (thn (hk z s W H _ I h) λ u s1 ⟨x,H1,I1,rx,q1⟩=>thn (hv z s1 W H1 _ I1 q1) λ w2 s2 ⟨y,Z,I2,ry,q2⟩ =>
  thn (hr z s2 W Z _ I2 q2) λ ws s3 ⟨ps,H3,I3,G,q3⟩=>⟨(x,y)::ps,H3,I3,.cons ⟨rx,ry⟩ G,q3⟩)
noncomputable def aw1 (kvs more:List (Key×V)):List (Key×V):=more.foldl (λ acc kv=>aB4 acc kv.1 kv.2) kvs
theorem KV.merge:∀ {z:List (Key×V)} {F:List (Key×Value)} {kvs:List (Key×V)} {vs:List (Key×Value)},KV z F->KV kvs vs->KV (aw1 kvs z) (merged vs F):=by
 intro z F kvs vs r
 unfold KV at r
 induction r generalizing kvs vs with
 | nil=>intro q;exact q
 | @cons p q ps qs h t ih =>
  intro r0
  have e:KV (aB4 kvs p.1 p.2) (stored vs q.1 q.2):=by
   have:=r0.put p.1 h.2
   rw[<-h.1];exact this
  exact ih e
theorem ah1:∀(h kvs:List (Key×V)),(aw1 kvs h).length<=kvs.length+h.length
 | [],kvs=>by show kvs.length<=kvs.length+0;lia
 | p::r,kvs=>by
  have F:=ah1 r (aB4 kvs p.1 p.2)
  have z:=al0 kvs p.1 p.2
  show(aw1 (aB4 kvs p.1 p.2) r).length<=_
  rw[aR];lia
theorem aq2 {P:aE}{w:World}:∀ {kvs:List (Key×V)} {ws:List (Value×Value)},VV (kvs.map λ F=>(kV F.1,F.2)) ws->∃ z,Carries (zu P w) ws z/\KV kvs z
 | [],_,r=>by rw[cR]at r;cases r;exact⟨[],True.intro,.nil⟩
 | p::kvs,_,r=>by
  rw[aH]at r
  cases r with
  | @cons a b as bs h t =>
   obtain⟨z,c,q⟩:=aq2 (P:=P) (w:=w) t
   obtain⟨J,G⟩:=b
   exact⟨(p.1,G)::z,⟨aO9 h.1,rfl,c⟩,.cons ⟨rfl,h.2⟩ q⟩
def bN3 (trs:List (TE×TE)):TE:=λ W H Q=>∀ p,H p=none->aW3 trs W (upd H p (.dK [])) λ ps H2=>H2 p=some (.dK [])/\∃ kvs:List (Key×V),ps=kvs.map (λ kv=>(kV kv.1,kv.2))/\kvs.length<=15/\Q (.ref p) (upd H2 p (.dK (aw1 [] kvs)))
theorem bF3 {X:Cx}{pos:Pos}{keys:List (Option Expr)}{F:yK}{J:List (TE×TE)}(h:PPs X pos keys F J)(Z:keys.all (·.isSome)=true)(hl:keys.length=F.length)(h0:keys≠[])
  (a1:keys.length<=15):PE X (.Dict keys F pos) (bN3 J):=by
 intro Y s W H Q I q
 have hn:=I.hok.fresh (ah s.heap.objs.size)
 have I1:=I.laid (a:=s.heap.objs.size) (o:=.dK []) (h':=s.heap.push { cls:=.type "dict",data:=.dict #[] }) (t':=s.toks) (λ _ _ q=>aq _ q) (ah _) (aG7 s.heap I.big)
 refine wpAny_Dict_walk (knd:=zu X.prog X.w) Z hl h0 a1 (thn (h Y _ W _ _ I1 (q _ hn)) λ ws s2 ⟨ps,H2,I2,a0,e,kvs,ep,lk,q2⟩=>?_)
 subst ep
 obtain⟨rs,c,rk⟩:=aq2 (P:=X.prog) (w:=X.w) a0
 obtain⟨z,hd,a2,r0,dd⟩:=bR7 I2.hok e
 cases r0
 refine⟨rs,c,dd,λ h' G hs=>⟨.ref s.heap.objs.size,_,?_,rfl,q2⟩⟩
 have hz:(aw1 [] kvs).length<=aM:=by
  have h1:=ah1 kvs []
  rw[eL]at h1
  rw[dF];lia
 have he:∃ q,h'.get? s.heap.objs.size=some q:=let⟨q,_,_,hq,_⟩:=G;⟨q,hq⟩
 exact aX4 I2 (by rw[e];exact True.intro) hs he (bq8 hz hd (rk.merge .nil) G)
structure M1 (X:Cx)(o:Expr)(m:Str)(apos:Pos)(e:Expr)(cpos:Pos):Prop where
 base:cZ o m X.env (eval o X.env)=eval o X.env
 few:((cD cpos (aY [e] X.env)).all (λ x=>!x.1)&&(ef cpos (cQ [] X.env)).all (λ x=>x.1.isSome)
  && decide (([e]:yK).length+([]:List d8).length+(if([]:List d8).isEmpty then 0 else 1)<30))=true
 line:(apos.endLine==cpos.line)=true
 trees:cD cpos (aY [e] X.env)=[(false,eval e X.env)]
def IsD (H:Hp)(a:Addr):Prop:=(∃ kvs,Rd H a (.dK kvs))\/False
theorem bS8 {X:Cx}{h:yA}{W:St}{H:Hp}{s:ag}{a:Addr}(I:Inv X h W H s)(d:IsD H a) :
  s.TypeIs (.ref a) "dict"/\(∀ b,Value.ref a=.ref b->∃ ob,s.heap.get? b=some ob/\ob.dict=none)/\(a==dY)=false:=by
 rcases d with⟨kvs,e⟩|g
 .obtain⟨_,hd,vs,_,dd⟩:=aF8 I.hok e
  refine⟨dd.typeIs,λ b q=>?_,hd⟩
  cases q
  obtain⟨ob,_,_,z,F,_⟩:=dd
  exact⟨ob,z,F.2.1⟩
 .exact g.elim
section
variable {X:Cx} {pins:yA} {W:St} {H:Hp} {s:ag} {a:Addr} {y d:V} {u r:Value} {o:Option V} {A:a7} {E:Value->ag->Prop}
theorem bP8 {Q:Value->ag->Prop}(hu:A.units+2<cLine)(I:Inv X pins W H s)(g:aR5 H a y o)(Z:RelV y u)(h:∀ J s',Inv X pins W H s'->RelV (o.getD .non) J->Q J s') :
  wpAny (model X.prog X.w) A (call (.builtin "dict.get") [.ref a,u]) Q E s:=by
 rcases g with⟨kvs,k,e,Y,l⟩|g
 .subst Y
  obtain⟨z,hd,vs,G,dd⟩:=aF8 I.hok e
  refine call_meetsIn gu dd.typeIs PySem.F.entry_dict_get (PySem.F.args_dict_get_2 _ _) (meets_dict_get (zu X.prog X.w) a (aO9 Z) hd) ⟨_,dd.mapOf,h _ _ (I.tok _) ?_⟩
  rw[l]
  exact(G.val k).getD rfl
 .exact g.elim
end
def bN4 (td ty:TE):TE:=λ W H Q=>td W H λ x H1=>∃ a,x=.ref a/\IsD H1 a/\ty W H1 λ y H2=>∃ o,aR5 H2 a y o/\Q (o.getD .non) H2
section
variable {X:Cx} {o e f:Expr} {apos cpos:Pos} {td ty tx:TE}
theorem bf7 (hu:X.A.units+2<cLine)(ho:PE X o td)(Z:PE X e ty)(m:M1 X o "get" apos e cpos):PE X (.Call (.Attribute o "get" apos) [e] [] cpos) (bN4 td ty):=by
 intro z s W H Q I h
 refine wpAny_Call_method m.base m.few m.line PySem.F.plainAttrs_dict gu PySem.F.type_dict_get (thn (ho z s W H _ I h) λ u s1 ⟨x,H1,J,rx,a,ex,d,q1⟩=>?_)
 subst ex
 obtain rfl:u=Value.ref a:=rx
 obtain⟨t1,t2,_⟩:=bS8 J d
 refine⟨t1,t2,?_⟩
 rw[m.trees]
 refine dQ rfl (gE (iy (thn (Z z s1 W H1 _ J q1) λ iv s2 ⟨y,Y,I2,ry,ov,g,q2⟩=>iT ?_)))
 exact bP8 hu I2 g ry λ w' s3 I3 G=>⟨_,Y,I3,G,q2⟩
end
section
variable {P:aE} {w:World} {A:a7} {E:Value->ag->Prop} {s:ag}
end
section
variable {X:Cx} {pins:yA} {W:St} {H:Hp} {s:ag}
theorem HOk.tw {P:aE}{w:World}{h:Heap}{a:Addr}{u v:HO}(ok:HOk P w H h)(hu:H a=some u)(J:∀ y,u≠.own y)(Y:∀ F,u≠.tup F)(new:ab7 P w H h a v):HOk P w (upd H a v) h:=λ b q e=>by
 have no:∀ c y,H c=some (.own y)->upd H a v c=some (.own y):=λ c y r=>by rw[ze λ z=>by subst z;rw[hu]at r;cases r;exact J _ rfl];exact r
 have G:∀ c F,H c=some (.tup F)->upd H a v c=some (.tup F):=λ c F r=>by rw[ze λ z=>by subst z;rw[hu]at r;cases r;exact Y _ rfl];exact r
 by_cases hb:b=a
 .subst hb;rw[zq]at e;cases e
  exact new.stay (λ _ _ _ r=>r) (λ c r=>no c _ r) G
 .rw[ze hb]at e
  exact(ok b q e).stay (λ _ _ _ r=>r) (λ c r=>no c _ r) G
end
section
variable {prog:aE} {w:World} {A:a7} {R:je->ag->Prop} {I:Addr} {fp wr:List Addr} {n:Nat} {P:Nat->Value->Prop} {St:Nat->Heap->Prop} {kw:List (Str×Value)}
end
theorem bB9 (i:Int)(h:0<=i):jN i 1=i % 2:=by
 unfold jN
 rw[decide_eq_true h]
 show((i.toNat &&& (1:Int).toNat:Nat):Int)=_
 rw[show(1:Int).toNat=1 from rfl,Nat.and_one_is_mod]
 lia
theorem bu8 {X:Cx}:OpR X (bK .BitAnd) (rI (λ i j=>0<=i/\j=1) λ i j=>.int (i % 2)):=opI λ i j _ _ _ _ _ hc q=>by
 obtain⟨h0,rfl⟩:=hc
 refine and_int ?_
 rw[bB9 i h0]
 exact q
theorem bE9 {X:Cx}:MtR X "int.bit_length" (λ x vs H Q=>∃ i,x=.int i/\vs=[]/\Q (.int (eR i:Nat)) H):=by
 intro z s W H x vs v us Q I J G h
 obtain⟨i,rfl,rfl,q⟩:=h
 obtain⟨t,rfl⟩:=J
 cases G
 refine call_gives eU (e8 s _ t) PySem.F.entry_int_bit_length (PySem.F.args_int_bit_length_1 _) (g8 i t) ?_
 exact⟨.int _,H,I.tok _,⟨_,rfl⟩,q⟩
section
variable {X:Cx} {pins:yA} {W:St} {H:Hp} {s:ag} {a Cc:Addr} {a0:Value}
end
section
variable {P:aE} {w:World} {K:ae} {mg:yC} {base:Heap} {N:yH} {qual:Str} {scope:Scope} {f:Addr} {cd:Value} {A:a7} {outer:List Env} {s0:ag} {H0:Hp} {E:XK}
end
noncomputable def excTail:List Value:=[.type "ValueError",.type "Exception",.type "BaseException",.type "object"]
structure ExcCls (K:ae)(Cc:Addr):Prop where
 obj:∃ bm N nm q bs hdct sn sub ab col dd k0 k1 k2 k3 k5 mN,K.lookup Cc=some (excClassObj nm q Cc N bs bm hdct sn sub ab col dd k0 k1 k2 k3 k5 "ValueError.__new__")/\(∀ n∈quietNames,mN n=none)/\∀ h:Heap,K.In h->h.Ns N mN/\OwnTailQ h excTail bm
noncomputable def excI (K:ae)(Cc:Addr):Bool:=bo K (.ref Cc) (bU "__getattribute__")==some (some (.builtin "BaseException.__getattribute__"))&&(bo K (.ref Cc) (bU "__getattr__")==some none&&(bo K (.ref Cc) (bU "__class__")==some (some (.builtin "object.__class__"))&&(iO K (.builtin "object.__class__") (bU "__get__")==some (some (.builtin "getset_descriptor.__get__"))&&(jq K (.builtin "object.__class__")==some true&&jY K Cc (.type "object")==some true))))
section
variable {X:Cx} {E:XK} {Cc:Addr} {x:Str}
end
structure Tr (X:Cx)(pins:yA)(W:St)(H:Hp)(s:ag)(a Cc:Addr)(fl:Value):Prop where
 inv:Inv X pins W H s
 n0:X.s₀.heap.get? a=none
 nH:H a=none
 np:∀ p∈X.pn++pins,p.1≠a
 tr:∃ a0 oe vs T oT ts,s.heap.get? a=some oe/\(oe.cls=.ref Cc/\vs[0]?=some a0)/\oe.data=.fields vs/\vs[1]?=some (.ref T)/\X.s₀.heap.get? T=none/\H T=none/\(∀ p∈X.pn++pins,p.1≠T)/\T≠a/\s.heap.get? T=some oT/\oT.data=.fields ts/\ts[3]?=some fl
section
variable {X:Cx} {pins:yA} {W:St} {H:Hp} {s:ag} {a Cc T:Addr} {fl fl' a0:Value} {h':Heap}
end
section
variable {X:Cx} {pins:yA} {W:St} {H:Hp} {s:ag} {a Cc:Addr} {oe:Obj} {fl:Value}
end
section
variable {prog:aE} {w:World} {A:a7} {R:je->ag->Prop} {I:Addr} {fp wr:List Addr} {n:Nat} {P:Nat->Value->Prop} {St:Nat->Heap->Prop} {h₀:Heap}
end
noncomputable def ce5 (lo:Int)(n:Nat):It:=⟨λ i _=>i<n,λ i H x H'=>H'=H/\x=.int (lo+i*(-1)),λ i _=>n<=i⟩
theorem aC8 {P:aE}{w:World}{K:ae}{tg:Expr}(it:Addr)(Y:Int)(n:Nat):Turn P w K tg (ce5 Y n) [it] it (λ i h=>gD h it (Y+(i:Nat)*(-1)) ((n:Int) - (i:Nat)) (-1)) where
 mem:=by simp
 obj:=λ i h st b hb=>by
  have e:b=it:=by simpa using hb
  subst e
  exact⟨_,st,λ v z=>by
   have z':Data.fields _=Data.cell v:=z
   cases z'⟩
 keep:=λ i h h' st k=>k it (by simp) _ st
 item:=by
  intro X hP hw hK hc i F s W H E I J st hg
  subst hP hw hK
  obtain⟨f0,Z,f2,f3,f4,f5⟩:=J it (by simp)
  have Ww:=kq (prog:=X.prog) (w:=X.w) (I.ok.hd hc) it Y (-1) n
  refine Ww.item i s _ _ hg st λ v h' tk hv G kk=>?_
  obtain⟨t,rfl⟩:=hv
  have I1:Inv X F W H { s with heap:=h',toks:=tk }:=I.turned (λ b o hb e=>kk b o (by simpa using hb) e) f0 Z f3 f4 f5
  exact⟨_,rfl,aQ4 (s:={ s with heap:=h',toks:=tk }) (n := "range_iterator") G rfl rfl (by decide) ⟨.int (Y+i*(-1)),H,I1,⟨t,rfl⟩,⟨rfl,rfl⟩,G,λ b hb=>(J b hb).1⟩⟩
 done:=by
  intro X hP hw hK hc i F s W H E I J st hg
  subst hP hw hK
  obtain⟨f0,Z,f2,f3,f4,f5⟩:=J it (by simp)
  exact fR (I.ok.hd hc) st (by have:n<=i:=hg;omega) λ h' eb=>⟨rfl,I.turned (t':=s.toks) (λ b o hb e=>eb b o hb e) f0 Z f3 f4 f5⟩
 self:=λ _ _ _ _ _ st h=>fS st h
theorem az9 {a:Int}(h:-1<=a):cM a (-1) (-1)=a+1:=by
 by_cases z:a=-1
 .subst z;rfl
 unfold cM
 rw[if_neg (by decide),if_pos (by lia),show(-(-1:Int))=1 from rfl,kb]
 lia
theorem aO4 {a:Int}(ha:-1<=a)(h:a<2^20):g9 a (-1) (-1)=true:=by
 unfold g9
 rw[az9 ha]
 simp only[jz,ak,bn,decide_eq_true_eq,beq_iff_eq,show ¬((-1:Int) > 0)by decide,if_false]
 lia
def bV6 (ta:TA):TI:=λ W H R=>ta W H λ vs H1=>∃ i:Int,vs=[.int i,.int (-1),.int (-1)]/\(-1<=i/\i<2^20)/\R (ce5 i (i+1).toNat) H1
theorem aV7 {X:Cx}{tg a b c:Expr}{ta:TA}{p pos:Pos}(hg:Gl X "range")(hm:X.mg "range"=none)(ha:PA X [a,b,c] ta)(hs:aY [a,b,c] X.env=(false,eval a X.env)::aY [b,c] X.env:=by rfl)(Y:aY [b,c] X.env=[(false,eval b X.env),(false,eval c X.env)]:=by rfl) :
  PI X tg (.Call (.Name "range" p) [a,b,c] [] pos) (bV6 ta):=by
 intro G s W H R I h
 refine Call_ (aq9 I hg hm jE (cg (thn (ha pos G s W H _ I h) λ us s1 ⟨vs,H1,I1,r1,J⟩=>?_) hs (by rw[Y];rfl)))
 obtain⟨z,e,⟨J,q2⟩,q⟩:=J
 subst e
 cases r1 with
 | cons r rr =>
  cases rr with
  | cons r' rr =>
   cases rr with
   | cons r'' rr =>
    cases rr
    obtain⟨t,rfl⟩:=r
    obtain⟨t',rfl⟩:=r'
    obtain⟨F,rfl⟩:=r''
    refine call_range_3 (by decide) ?_
    refine iu (kr ..) (aO4 J q2) ?_
    have Z:Inv X G W H1 { s1 with heap:=s1.heap.push { cls:=.type "range",data:=.fields #[.int z t,.int (-1) t',.int (-1) F] },toks:=s1.toks }:=I1.kept λ b o e=>aq _ e
    refine⟨(s1.heap.push { cls:=.type "range",data:=.fields #[.int z t,.int (-1) t',.int (-1) F] }).objs.size,[(s1.heap.push { cls:=.type "range",data:=.fields #[.int z t,.int (-1) t',.int (-1) F] }).objs.size],_,_,H1,rfl,
     Z.kept (t':=s1.toks) λ b o e=>aq _ e,aC8 _ z (z+1).toNat,?_,λ b hb=>?_,q⟩
    .show gD _ _ (z+((0:Nat):Int)*(-1)) ((((z+1).toNat:Nat):Int) - ((0:Nat):Int)) (-1)
     have e1:z+((0:Nat):Int)*(-1)=z:=by simp
     have e2:(((z+1).toNat:Nat):Int) - ((0:Nat):Int)=cM z (-1) (-1):=by rw[az9 J];lia
     rw[e1,e2]
     exact aV _ rfl
    .have e:b=(s1.heap.push { cls:=.type "range",data:=.fields #[.int z t,.int (-1) t',.int (-1) F] }).objs.size:=by simpa using hb
     subst e
     exact Z.fpOk (ah _) (Z.hok.fresh (ah _))
theorem ay0 {X:Cx}{k:Nat}{p1 F:Pos}:PE X (.UnaryOp .USub (.Constant (.int 1) k p1) F) (tC (.int (-1))) :=
 λ z s W H Q I h=>cd8 (X:=X) bM0 bt1 z s W H Q I ⟨1,rfl,h⟩
section
variable {X:Cx} {pins:yA} {W:St} {H:Hp} {s:ag} {a Cc:Addr} {oe:Obj} {fl:Value}
end
section
variable {X:Cx} {pins:yA} {W:St} {H:Hp} {s:ag} {a Cc D':Addr} {oe:Obj} {fl:Value}
end
section
open PySem.AutoSeq1 (wpAny_loadPart')
open PySem.MeetsSeq PySem.MeetsSeq2 PySem.MeetsSeq3 PySem.SeqAt
end
section
variable {A:a7} {s:ag}
end
section
variable {prog:aE} {w:World} {A:a7} {E:Value->ag->Prop} {s:ag} {x y:Str} {t u:Tok}
end
section
variable {X:Cx} {a:Addr} {oe:Obj}
end
theorem br3 {P:aE}{w:World}{k:Key}{u:Value}(h:(zu P w).is k u=true):RelV (kV k) u:=by
 rcases zh h with⟨i,t,rfl,rfl⟩|⟨x,t,rfl,rfl⟩
 .exact⟨t,rfl⟩
 .exact⟨t,rfl⟩
theorem KV.get {κ:Type}:∀ {l:List (κ×V)} {m:List (κ×Value)} {i:Nat} {k:κ} {v:V},KV l m->l[i]?=some (k,v)->∃ u,m[i]?=some (k,u)/\RelV v u:=by
 intro l m i k v r
 induction r generalizing i with
 | nil=>intro e;simp at e
 | cons h t ih =>
  intro e
  cases i with
  | zero=>cases(aw e:_=(k,v));exact⟨_,congrArg some (Prod.ext h.1.symm rfl),h.2⟩
  | succ i=>exact ih (by simpa using e)
section
variable {X:Cx} {pins:yA} {W:St} {H:Hp} {s:ag}
theorem Inv.freezeK {a:Addr}{o:Obj}{kvs:List (Key×V)}(I:Inv X pins W H s)(e:H a=some (.dK kvs))(ho:s.heap.get? a=some o):Inv X pins W (upd H a (.frz o (.dK kvs))) s :=
 I.un (t':=s.toks) (Un.write (by rw[e];trivial) (.inl rfl) (λ _ _ _ q=>q) ⟨o,ho⟩) (I.hok.tw e (by nofun) (by nofun) ⟨ho,I.hok a _ e⟩)
theorem Inv.thawK {a:Addr}{o:Obj}{kvs:List (Key×V)}(I:Inv X pins W H s)(e:H a=some (.frz o (.dK kvs)))(h0:∀ o u,X.H₀ a≠some (.frz o u)):Inv X pins W (upd H a (.dK kvs)) s:=by
 have h:∀ b,H b=none->upd H a (.dK kvs) b=none:=λ b n=>by rw[ze λ z=>by subst z;rw[e]at n;cases n];exact n
 have B:=I.base
 refine⟨I.ok,I.os,I.bare,⟨B.keep,B.slot,λ b o q n hx=>h b (B.free b o q n hx),B.there,λ b F q=>?_,λ b ob u q=>?_,λ b ps q=>?_⟩,I.loc,I.cell,h _ I.free,λ x c q=>h _ (I.freeC x c q),λ p J=>?_,I.hok.tw e (by nofun) (by nofun) ?_,I.len⟩
 .have r:=B.tups b F q
  rw[ze λ z=>by subst z;rw[e]at r;cases r];exact r
 .rw[ze λ z=>by subst z;exact h0 _ _ q];exact B.frzs b ob u q
 .obtain⟨m,r⟩:=B.tbls b ps q
  exact⟨m,by rw[ze λ z=>by subst z;rw[e]at r;cases r];exact r⟩
 .obtain⟨p1,G,p3⟩:=I.pin p J
  exact⟨p1,h _ G,p3⟩
 .exact(show ab7 X.prog X.w H s.heap a (.frz o (.dK kvs))from I.hok a _ e).2
end
noncomputable def Jk (a:Addr)(o:Obj)(kvs:List (Key×V)):It:=⟨λ i H=>H a=some (.frz o (.dK kvs))/\i<kvs.length,
 λ i H x H'=>H'=H/\∃ k v,kvs[i]?=some (k,v)/\x=kV k,λ i H=>H a=some (.frz o (.dK kvs))/\kvs.length<=i⟩
theorem bt4 {P:aE}{w:World}{H:Hp}{h:Heap}{a:Addr}{o:Obj}{kvs:List (Key×V)}{F:Array DictEntry}{ep:Nat}(ok:HOk P w H h)(z:H a=some (.frz o (.dK kvs)))(ho:o.data=.dict F ep):∃ vs,KV kvs vs/\h.DictAt (zu P w) a vs ep:=by
 obtain⟨e,zz,y,vs,r,o',es,Y,G,h2,h3,h4,J,Z⟩:=(show ab7 P w H h a (.frz o (.dK kvs))from ok a _ z)
 rw[e]at G;cases G
 rw[ho]at h3;cases h3
 exact⟨vs,r,o,F,e,h2,ho,h4,J,Z⟩
theorem ba3 {P:aE}{w:World}{K:ae}{tg:Expr}(a it:Addr)(o:Obj)(kvs:List (Key×V))(ep:Nat)(a0:Array DictEntry)(ho:o.data=.dict a0 ep) :
  Turn P w K tg (Jk a o kvs) [it] it (λ i h=>h.IsKeyIter it a i kvs.length ep) where
 mem:=by simp
 obj:=λ i h st b hb=>by
  have e:b=it:=by simpa using hb
  subst e
  obtain⟨o,e,c,d⟩:=st
  exact⟨o,e,λ v z=>by rw[d]at z;cases z⟩
 keep:=λ i h h' st k=>st.at λ o e=>k it (by simp) o e
 item:=by
  intro X hP hw hK hc i F s W H E I J st hg
  subst hP hw hK
  obtain⟨fz,hlt⟩:=hg
  obtain⟨vs,r,da⟩:=bt4 I.hok fz ho
  have hl:kvs.length=vs.length:=du r
  obtain⟨u,hu,_⟩:=KV.get r (af hlt)
  obtain⟨f0,Y,f2,f3,f4,Z⟩:=J it (by simp)
  refine wpAny_pyNext_dict_item (by rw[<-hl];exact st) da hu λ key h' hk G sb=>?_
  rw[<-hl]at G
  have I1:Inv X F W H { s with heap:=h' }:=I.turned (t':=s.toks) (λ b o hb e=>(sb.2 b hb).trans e) f0 Y f3 f4 Z
  obtain⟨o',e,c,d⟩:=id G
  exact⟨key,rfl,aQ4 (s:={ s with heap:=h' }) e c d (by decide) ⟨kV kvs[i].1,H,I1,br3 hk,⟨rfl,_,_,af hlt,rfl⟩,G,λ b hb=>(J b hb).1⟩⟩
 done:=by
  intro X hP hw hK hc i F s W H E I J st hg
  subst hP hw hK
  obtain⟨fz,a1⟩:=hg
  obtain⟨vs,r,da⟩:=bt4 I.hok fz ho
  have hl:kvs.length=vs.length:=du r
  obtain⟨f0,Y,f2,f3,f4,Z⟩:=J it (by simp)
  exact wpAny_pyNext_dict_end (I.ok.hd hc) (by rw[<-hl];exact st) da (bJ (by lia)) λ h' eb=>⟨rfl,I.turned (t':=s.toks) (λ b o hb e=>eb b o hb e) f0 Y f3 f4 Z⟩
 self:=λ _ _ _ _ _ st h=>wpAny_pyIter_keyiter st h
section
variable {X:Cx} {tg:Expr}
def bK9 (tl:TE):TI:=λ W H R=>tl W H λ x H1=>∃ a kvs,x=.ref a/\H1 a=some (.dK kvs)/\∀ o,R (Jk a o kvs) (upd H1 a (.frz o (.dK kvs)))
theorem bH7 {l:Expr}{Y:TE}(hl:PE X l Y):PI X tg l (bK9 Y):=by
 intro F s W H R I h
 refine thn (hl F s W H _ I h) λ v s1 ⟨x,H1,J,r1,a,kvs,ex,ha,q⟩=>?_
 subst ex
 cases r1
 obtain⟨zz,y,vs,r,o,es,z,G,h2,h3,h4,Z,h6⟩:=(show ab7 X.prog X.w H1 s1.heap a (.dK kvs)from J.hok a _ ha)
 have hl:kvs.length=vs.length:=du r
 refine wpAny_pyIter_dict y (knd:=zu X.prog X.w) (kvs:=vs) (ep:=z) ⟨o,es,G,h2,h3,h4,Z,h6⟩ ?_
 have I2:=(J.freezeK ha G).kept (t':=s1.toks) (h':=s1.heap.push { cls:=.type "dict_keyiterator",data:=.fields #[.ref a,.int 0 0,.int vs.length 0,.int z 0] }) λ b u r=>aq _ r
 refine⟨s1.heap.objs.size,[s1.heap.objs.size],_,_,_,rfl,I2,ba3 a s1.heap.objs.size o kvs z es h3,⟨_,aV _ rfl,rfl,by rw[hl];rfl⟩,λ b hb=>?_,q o⟩
 have e:b=s1.heap.objs.size:=by simpa using hb
 subst e
 exact(J.freezeK ha G).fpOk (ah _) ((J.freezeK ha G).hok.fresh (ah _))
theorem aK2:∀ {l:List (Key×V)} {us:yG},us.length=l.length->(∀(j:Nat) (u:Value),us[j]?=some u->∀ k v,l[j]?=some (k,v)->RelV (kV k) u)->Vals (l.map λ G=>kV G.1) us
 | [],[],_,_=>.nil
 | [],_::_,h,_=>by cases h
 | _::_,[],h,_=>by cases h
 | (k,v)::l,u::us,h,q=>.cons (q 0 u rfl k v rfl) (aK2 (kg h) λ j F e z v' e'=>q (j+1) F e z v' e')
theorem aM6 (hc:X.calm=true):ac0 X (.type "list") (λ J H Q=>∃ p kvs,J=[.ref p]/\H p=some (.dK kvs)/\∀ l,H l=none->Q (.ref l) (upd H l (.lst (kvs.map λ z=>kV z.1)))):=by
 intro Y s W H J us Q I r h
 obtain⟨p,kvs,rfl,hd,q⟩:=h
 obtain⟨u,rfl,rx⟩:=qu r
 cases rx
 obtain⟨zz,y,vs,r,o,es,F,h1,h2,h3,h4,Z,h6⟩:=(show ab7 X.prog X.w H s.heap p (.dK kvs)from I.hok p _ hd)
 have hl:kvs.length=vs.length:=du r
 refine PySem.W.kdl_call (PySem.W.kdl_dict (knd:=zu X.prog X.w) (kvs:=vs) (ep:=F) y) (I.ok.hd hc) ⟨o,es,h1,h2,h3,h4,Z,h6⟩ (by lia) λ h' tk G c kp e it=>?_
 refine⟨.ref s.heap.objs.size,_,I.laid (t':=tk) kp (ah _) (show ab7 X.prog X.w _ h' _ (.lst (kvs.map λ z=>kV z.1))from⟨by rw[az];exact zz,G.toList,c,?_,by rw[gI];exact e⟩),rfl,q _ (I.hok.fresh (ah _))⟩
 refine aK2 (by rw[dt];exact it.1.trans hl.symm) λ j u e k v hk=>?_
 obtain⟨k',x',e1,e2⟩:=it.2 j u (by rw[<-gv];exact e)
 obtain⟨u',e3,_⟩:=KV.get r hk
 rw[e3]at e1;cases e1
 exact br3 e2
theorem aG0:ac0 X (.builtin "sorted") (λ G H Q=>∃(p:Addr) (ns:List Int),G=[.ref p]/\H p=some (.lst (ns.map V.int))/\ns.length<64/\∀(l:Addr) (F:List Int),H l=none->F.Perm ns->F.Pairwise (·<=·)->Q (.ref l) (upd H l (.lst (F.map V.int)))):=by
 intro Z s W H G us Q I r h
 obtain⟨p,ns,rfl,hd,a0,q⟩:=h
 obtain⟨u,rfl,rx⟩:=qu r
 cases rx
 obtain⟨its,J,pl,hz⟩:=I.list (SqL.of hd)
 have hI:=aO6 J
 have Y:its.length=ns.length:=by have:=J.length;rw[az]at this;exact this.symm
 refine sorted_ints pl.isList hI (by lia) λ out z a1 a2 a3=>?_
 obtain⟨e,he⟩:=sortedAll_at s.heap its out
 refine⟨.ref (s.heap.objs.size+1),_,I.laid (t':=s.toks) (λ b o hb=>sortedAll_old hb) (b7 _) (show ab7 X.prog X.w _ _ _ (.lst (z.map V.int))from⟨?_,out.toList,e,am9 a1,by rw[gI];exact he⟩),rfl,q _ z (I.hok.fresh (b7 _)) a2 a3⟩
 rw[az,a2.length_eq,dF];lia
end
end L2
end
noncomputable section
namespace DV
inductive D where
 | non|bl (b:Bool)|int (i:Int)|str (x:List Nat)|tup (l:List D)|ref (n:Nat)|fn (f:String)|clo (f:String) (cs:List D)
noncomputable instance:DecidableEq D:=λ a b=>dL (a=b)
noncomputable instance (x:D):Decidable (x=.non):=match x with
 | .non=>.isTrue rfl
 | .bl _=>.isFalse nofun
 | .int _=>.isFalse nofun
 | .str _=>.isFalse nofun
 | .tup _=>.isFalse nofun
 | .ref _=>.isFalse nofun
 | .fn _=>.isFalse nofun
 | .clo _ _=>.isFalse nofun
inductive O where
 | lst (l:List D)|ro (l:List D)|dic (l:List (D×D))|ins (c:String) (fs:List (D×D))|dicF (l:List (D×D))
noncomputable instance:DecidableEq O:=λ a b=>dL (a=b)
noncomputable abbrev Sto:=List O
noncomputable def O.kd:O->Nat
 | .lst _=>0|.ro _=>1|.dic _=>2|.ins _ _=>3|.dicF _=>2
inductive R (α:Type) where
 | ok (a:α) (s:Sto)|exc (e:D) (s:Sto)|bad
noncomputable abbrev M (α:Type):=Sto->R α
noncomputable def R.bind {α β:Type}(r:R α)(f:α->Sto->R β):R β:=match r with
 | .ok a s=>f a s
 | .exc e s=>.exc e s
 | .bad=>.bad
@[simp] theorem R.bind_ok {α β:Type} (a:α) (s:Sto) (f:α->Sto->R β):(R.ok a s).bind f=f a s:=rfl
@[simp] theorem R.bind_bad {α β:Type} (f:α->Sto->R β):(R.bad:R α).bind f=.bad:=rfl
@[simp] theorem R.bind_exc {α β:Type} (e:D) (s:Sto) (f:α->Sto->R β):(R.exc e s:R α).bind f=.exc e s:=rfl
theorem R.bind_inv {α β:Type}{r:R α}{f:α->Sto->R β}{b:β}{t:Sto}(h:r.bind f=.ok b t):∃ a s,r=.ok a s/\f a s=.ok b t:=by
 cases r with
 | ok a s=>exact⟨a,s,rfl,h⟩
 | exc e s=>cases h
 | bad=>cases h
@[simp] theorem R.bind_assoc {α β γ:Type} (r:R α) (f:α->Sto->R β) (g:β->Sto->R γ):(r.bind f).bind g=r.bind λ a s=>(f a s).bind g:=by cases r<;>rfl
mutual
noncomputable def D.bnd (n:Nat):D->Bool
 | .tup l=>D.bndL n l
 | .ref k=>decide (k<n)
 | .clo _ l=>D.bndL n l
 | _=>true
noncomputable def D.bndL (n:Nat):List D->Bool
 | []=>true
 | d::l=>D.bnd n d&&D.bndL n l
end
noncomputable def O.bnd (n:Nat):O->Bool
 | .lst l=>D.bndL n l
 | .ro l=>D.bndL n l
 | .dic l=>D.bndL n (l.map (·.1))&&D.bndL n (l.map (·.2))
 | .ins _ l=>D.bndL n (l.map (·.1))&&D.bndL n (l.map (·.2))
 | .dicF l=>D.bndL n (l.map (·.1))&&D.bndL n (l.map (·.2))
mutual
noncomputable def D.plain:D->Bool
 | .non=>true|.int _=>true|.str _=>true
 | .tup l=>D.plainL l
 | _=>false
noncomputable def D.plainL:List D->Bool
 | []=>true
 | d::l=>D.plain d&&D.plainL l
end
mutual
noncomputable def D.ncl:D->Bool
 | .tup l=>D.nclL l
 | .clo _ _=>false
 | _=>true
noncomputable def D.nclL:List D->Bool
 | []=>true
 | d::l=>D.ncl d&&D.nclL l
end
noncomputable def O.ncl:O->Bool
 | .lst l=>D.nclL l
 | .ro l=>D.nclL l
 | .dic l=>D.nclL (l.map (·.2))
 | .dicF l=>D.nclL (l.map (·.2))
 | .ins _ l=>D.nclL (l.map (·.2))
noncomputable def D.key:D->Bool
 | .int _=>true|.str _=>true|_=>false
noncomputable def D.hdI:List D->Bool
 | .int _::_=>true|.non::_=>true|.tup _::_=>true|_=>false
noncomputable def D.keyF:D->Bool
 | .int _=>true|.non=>true|.str x=>decide (x.length<=1000)|_=>false
noncomputable def LIM:Nat:=1000000
@[irreducible] noncomputable def BIG:Nat:=2^60000
@[irreducible] noncomputable def DIVL:Nat:=2^4096
inductive BOp where
 | add|sub|mul|fdiv|mod|pow|shl|shr|band|bor
 deriving DecidableEq
inductive COp where
 | eq|ne|lt|le|gt|ge|isin|notin
 deriving DecidableEq
inductive Cn where
 | non|bl (b:Bool)|int (i:Int)|str (x:List Nat)
 deriving DecidableEq
noncomputable def Cn.d:Cn->D
 | .non=>.non|.bl b=>.bl b|.int i=>.int i|.str x=>.str x
inductive Bi where
 | len|abs|int|str|min2|max2|max3|min3|isInt|isBool|isStr|isTup|isList|ord
 deriving DecidableEq
inductive Mk where
 | tuple|list|all|any|sum|min|max|sorted|lenset
 deriving DecidableEq
inductive Mt where
 | append|reverse|partition
 deriving DecidableEq
inductive Tg where
 | one (i:Nat)|tup (is:List Nat)
 deriving DecidableEq
mutual
inductive E where
 | var (i:Nat)|cst (c:Cn)|glob (x:String)
 | bin (op:BOp) (a b:E)|not (a:E)
 | cmp (op:COp) (a b:E)
 | isN (a:E)|notN (a:E)
 | and (a b:E)|or (a b:E)|ite (c a b:E)
 | tup (es:Es)|lst (es:Es)|dic (ks vs:Es)|get1 (o k:E)|bitl (a:E)
 | ix (a b:E)|slL (a lo:E)|slU (a hi:E)|slLU (a lo hi:E)
 | call (f:String) (as:As)
 | bi (b:Bi) (es:Es)|mk (k:Mk) (l:L)
 | meth (m:Mt) (o:E) (es:Es)|join (o e:E)
 | attr (o:E) (f:List Nat)|new (c:String) (as:As)|mcall (o:E) (m:String) (as:As)|keysL (e:E)|srt (e:E)
inductive Es where
 | nil|cons (e:E) (es:Es)
inductive As where
 | nil|ex (e:E) (as:As)|fn (f:String) (as:As)
inductive I where
 | seq (e:E)|rng1 (a:E)|rng2 (a b:E)|rngD (a:E)|keys (e:E)
inductive L where
 | comp (tg:Tg) (it:I) (e:E) (caps:yD)|compIf (tg:Tg) (it:I) (c e:E) (caps:yD)|disp (es:Es)|seq (e:E)
end
mutual
inductive S where
 | asg (tg:Tg) (e:E)|setIx (o i e:E)|ex (e:E)|ret (e:E)
 | ite (c:E) (a b:Ss)|whl (c:E) (b:Ss)|for_ (tg:Tg) (it:I) (b:Ss)|setA (o:E) (f:List Nat) (e:E)|forK (tg:Tg) (e:E) (b:Ss)
inductive Ss where
 | nil|cons (s:S) (ss:Ss)
end
noncomputable abbrev Env:=List (Option D)
noncomputable def ac5 (o:O):M D:=λ s=>.ok (.ref s.length) (s++[o])
noncomputable def pur (d:D):M D:=λ s=>.ok d s
noncomputable def bad {α:Type}:M α:=λ _=>.bad
noncomputable def mulOk (a b:Int):Bool:=decide (a.natAbs<2^64)||decide (b.natAbs<2^64)||(decide (a.natAbs<BIG)&&decide (b.natAbs<BIG))
noncomputable def rep:Nat->List Nat->List Nat
 | 0,_=>[]
 | n+1,a=>a++rep n a
noncomputable def aR7:Nat->List D->List D
 | 0,_=>[]
 | n+1,a=>a++aR7 n a
noncomputable def z0:BOp->D->D->M D
 | .add,.int a,.int b=>pur (.int (a+b))
 | .add,.str a,.str b=>if a.length+b.length<=LIM then pur (.str (a++b))else bad
 | .add,.tup a,.tup b=>if a.length+b.length<=LIM then pur (.tup (a++b))else bad
 | .add,.ref a,.ref b=>λ s=>match s[a]?,s[b]? with
  | some (.lst l),some (.lst m)=>if l.length+m.length<=LIM then ac5 (.lst (l++m)) s else .bad
  | _,_=>.bad
 | .sub,.int a,.int b=>pur (.int (a - b))
 | .mul,.int a,.int b=>if mulOk a b then pur (.int (a*b))else bad
 | .mul,.str a,.int n=>if 0<=n/\n<=1000000/\a.length*n.toNat<=LIM then pur (.str (rep n.toNat a))else bad
 | .mul,.tup a,.int n=>if 0<=n/\n<=1000000/\a.length*n.toNat<=LIM then pur (.tup (aR7 n.toNat a))else bad
 | .mul,.ref a,.int n=>λ s=>match s[a]? with
  | some (.lst l)=>if 0<=n/\n<=1000000/\l.length*n.toNat<=LIM then ac5 (.lst (aR7 n.toNat l)) s else .bad
  | _=>.bad
 | .fdiv,.int a,.int b=>if 0<b/\b<(DIVL:Int)then pur (.int (a / b))else bad
 | .mod,.int a,.int b=>if 0<b then pur (.int (a % b))else bad
 | .pow,.int a,.int b=>if 0<=b/\b<=1000000/\a.natAbs<2^64 then pur (.int (a^b.toNat))else bad
 | .shl,.int a,.int b=>if 0<=b/\b<=1000000/\a.natAbs<2^64 then pur (.int (a*2^b.toNat))else bad
 | .shr,.int a,.int b=>if 0<=b then pur (.int (a / 2^b.toNat))else bad
 | .band,.int a,.int b=>if 0<=a/\b=1 then pur (.int (a % 2))else bad
 | .bor,.int a,.int b=>if 0<=a/\0<=b then pur (.int ((a.toNat ||| b.toNat:Nat):Int))else bad
 | _,_,_=>bad
noncomputable def kd (s:Sto):D->Nat
 | .non=>0|.bl _=>1|.int _=>1|.str _=>2|.tup _=>3
 | .ref r=>match s[r]? with|some (.lst _)=>4|_=>9
 | _=>9
noncomputable def aD3 (a b:Nat):Bool:=a==9||b==9||a==b
noncomputable def b2i (b:Bool):Int:=if b then 1 else 0
noncomputable def aU4:D->D->Option Bool
 | .non,.non=>some true
 | .bl a,.bl b=>some (a==b)
 | .int a,.int b=>some (a==b)
 | .bl a,.int b=>some (b2i a==b)
 | .int a,.bl b=>some (a==b2i b)
 | .str a,.str b=>some (a==b)
 | _,_=>none
noncomputable def ac9 (s:Sto)(a b:D):Option Bool:=match aU4 a b with
 | some z=>some z
 | none=>if aD3 (kd s a) (kd s b)then none else some false
noncomputable def eqL (f:D->D->Option Bool):List D->List D->Option Bool
 | [],[]=>some true
 | [],_::_=>some false
 | _::_,[]=>some false
 | a::l,b::m=>match f a b,eqL f l m with
  | some x,some y=>some (x&&y)
  | _,_=>none
noncomputable def eqv (s:Sto):Nat->D->D->Option Bool
 | 0,a,b=>ac9 s a b
 | n+1,a,b=>match a,b with
  | .tup l,.tup m=>eqL (eqv s n) l m
  | .ref x,.ref y=>match s[x]?,s[y]? with
   | some (.lst l),some (.lst m)=>if l.length=m.length then eqL (eqv s n) l m else some false
   | _,_=>none
  | a,b=>ac9 s a b
noncomputable def DEEP:Nat:=30
noncomputable def eqM (a b:D):M D:=λ s=>match eqv s DEEP a b with
 | some r=>.ok (.bl r) s
 | none=>.bad
noncomputable def inL (s:Sto)(x:D):List D->Option Bool
 | []=>some false
 | y::l=>match eqv s DEEP y x,inL s x l with
  | some a,some b=>some (a||b)
  | _,_=>none
noncomputable def look (k:D):List (D×D)->Option D
 | []=>none
 | (a,v)::l=>if a=k then some v else look k l
noncomputable def inM (a b:D):M Bool:=λ s=>match b with
 | .tup l=>match inL s a l with|some r=>.ok r s|none=>.bad
 | .ref r=>match s[r]? with
  | some (.lst l)=>match inL s a l with|some r=>.ok r s|none=>.bad
  | some (.dic l)=>if a.key then .ok (look a l).isSome s else .bad
  | _=>.bad
 | .str y=>match a with|.str [c]=>.ok (decide (c∈y)) s|_=>.bad
 | _=>.bad
noncomputable def bf5:D->Option (Int×List Nat)
 | .tup [.int i,.str x]=>some (i,x)
 | _=>none
noncomputable def bZ1 (f:Int->List Nat->Int->List Nat->Bool)(a b:D):M D:=λ s=>match bf5 a,bf5 b with
 | some (i,x),some (j,y)=>.ok (.bl (f i x j y)) s
 | _,_=>.bad
noncomputable def zc:COp->D->D->M D
 | .eq,a,b=>eqM a b
 | .ne,a,b=>λ s=>match eqv s DEEP a b with|some r=>.ok (.bl (!r)) s|none=>.bad
 | .lt,.int a,.int b=>pur (.bl (decide (a<b)))
 | .le,.int a,.int b=>pur (.bl (decide (a<=b)))
 | .gt,.int a,.int b=>pur (.bl (decide (b<a)))
 | .isin,a,b=>λ s=>(inM a b s).bind λ r s=>.ok (.bl r) s
 | .notin,a,b=>λ s=>(inM a b s).bind λ r s=>.ok (.bl (!r)) s
 | _,_,_=>bad
noncomputable def ixn (n:Nat)(i:Int):Option Nat:=if 0<=i then(if i<n then some i.toNat else none)else if -(n:Int)<=i then some (i+n).toNat else none
noncomputable def sbd (n:Nat)(i:Int):Nat:=if 0<=i then min i.toNat n else(i+n).toNat
noncomputable def loB (n:Nat):Option Int->Nat
 | none=>0
 | some i=>sbd n i
noncomputable def hiB (n:Nat):Option Int->Nat
 | none=>n
 | some i=>sbd n i
noncomputable def aj3 {α:Type}(l:List α)(lo hi:Option Int):List α:=(l.drop (loB l.length lo)).take (hiB l.length hi - loB l.length lo)
noncomputable def ixM (a b:D):M D:=λ s=>match a,b with
 | .tup l,.int i=>match(ixn l.length i).bind λ j=>l[j]? with|some d=>.ok d s|none=>.bad
 | .str l,.int i=>match(ixn l.length i).bind λ j=>l[j]? with|some c=>.ok (.str [c]) s|none=>.bad
 | .ref r,b=>match s[r]? with
  | some (.lst l)=>match b with
   | .int i=>match(ixn l.length i).bind λ j=>l[j]? with|some d=>.ok d s|none=>.bad
   | _=>.bad
  | some (.ro l)=>match b with
   | .int i=>match(ixn l.length i).bind λ j=>l[j]? with|some d=>.ok d s|none=>.bad
   | _=>.bad
  | some (.dic l)=>if b.key then match look b l with|some d=>.ok d s|none=>.bad else .bad
  | _=>.bad
 | _,_=>.bad
noncomputable def slM (a:D)(lo hi:Option Int):M D:=λ s=>match a with
 | .tup l=>.ok (.tup (aj3 l lo hi)) s
 | .str l=>.ok (.str (aj3 l lo hi)) s
 | .ref r=>match s[r]? with
  | some (.lst l)=>ac5 (.lst (aj3 l lo hi)) s
  | _=>.bad
 | _=>.bad
noncomputable def ae0:List D->Option (List Bool)
 | []=>some []
 | .bl b::l=>(ae0 l).map (b::·)
 | _=>none
noncomputable def ql:List D->Option (List Int)
 | []=>some []
 | .int i::l=>(ql l).map (i::·)
 | _=>none
noncomputable def ac8:List D->Option (List (List Nat))
 | []=>some []
 | .str i::l=>(ac8 l).map (i::·)
 | _=>none
noncomputable def bB6 (d:D):M D:=λ s=>match d with
 | .tup l=>.ok (.int l.length) s
 | .str l=>.ok (.int l.length) s
 | .ref r=>match s[r]? with
  | some (.lst l)=>.ok (.int l.length) s
  | some (.ro l)=>.ok (.int l.length) s
  | _=>.bad
 | _=>.bad
noncomputable def isK (k:Nat)(d:D):M D:=λ s=>match d with
 | .non=>.ok (.bl false) s
 | .bl _=>.ok (.bl (k==1||k==2)) s
 | .int _=>.ok (.bl (k==1)) s
 | .str _=>.ok (.bl (k==3)) s
 | .tup _=>.ok (.bl (k==4)) s
 | .ref r=>match s[r]? with
  | some (.lst _)=>.ok (.bl (k==5)) s
  | _=>.bad
 | _=>.bad
noncomputable def bi1 (f:D->M D):List D->M D
 | [d]=>f d
 | _=>bad
noncomputable def aR1:List D->M D
 | [.str [c]]=>λ s=>if 48<=c/\c<=57 then .ok (.int ((c - 48:Nat):Int)) s else .bad
 | _=>bad
noncomputable def bd5:List D->M D
 | [.int i]=>λ s=>if 0<=i/\i<=9 then .ok (.str [48+i.toNat]) s else .bad
 | [.str w]=>λ s=>.ok (.str w) s
 | _=>bad
noncomputable def bi:Bi->List D->M D
 | .len,l=>bi1 bB6 l
 | .abs,l=>λ s=>match ql l with|some [i]=>.ok (.int (if i<0 then -i else i)) s|_=>.bad
 | .int,l=>λ s=>match ae0 l with|some [b]=>.ok (.int (if b then 1 else 0)) s|some _=>.bad|none=>aR1 l s
 | .str,l=>bd5 l
 | .min2,l=>λ s=>match ql l with|some [a,b]=>.ok (.int (if b<a then b else a)) s|_=>.bad
 | .max2,l=>λ s=>match ql l with|some [a,b]=>.ok (.int (if b > a then b else a)) s|_=>.bad
 | .max3,l=>λ s=>match ql l with|some [a,b,c]=>.ok (.int (max (max a b) c)) s|_=>.bad
 | .isInt,l=>bi1 (isK 1) l
 | .isBool,l=>bi1 (isK 2) l
 | .isStr,l=>bi1 (isK 3) l
 | .isTup,l=>bi1 (isK 4) l
 | .isList,l=>bi1 (isK 5) l
 | _,_=>bad
noncomputable def bY8:List Int->Option Int
 | []=>none
 | a::l=>some (l.foldl min a)
noncomputable def cl5:List Int->Option Int
 | []=>none
 | a::l=>some (l.foldl max a)
noncomputable def ins (a:Int):List Int->List Int
 | []=>[a]
 | b::l=>if a<=b then a::b::l else b::ins a l
noncomputable def at8:List Int->List Int
 | []=>[]
 | a::l=>ins a (at8 l)
noncomputable def ck6 (is:List Int):Bool:=is.all (λ i=>decide (-1000000000<=i/\i<=1000000000))&&decide (is.length<=1000000)
noncomputable def mk:Mk->List D->M D
 | .tuple,l=>λ s=>.ok (.tup l) s
 | .list,l=>ac5 (.lst l)
 | .all,l=>λ s=>match ae0 l with|some bs=>.ok (.bl (bs.all id)) s|none=>.bad
 | .any,l=>λ s=>match ae0 l with|some bs=>.ok (.bl (bs.any id)) s|none=>.bad
 | .sum,l=>λ s=>match ql l with|some is=>if ck6 is then .ok (.int is.sum) s else .bad|none=>.bad
 | .min,l=>λ s=>match(ql l).bind bY8 with|some m=>.ok (.int m) s|none=>.bad
 | .max,l=>λ s=>match(ql l).bind cl5 with|some m=>.ok (.int m) s|none=>.bad
 | .sorted,l=>λ s=>match ql l with|some is=>ac5 (.lst ((at8 is).map D.int)) s|none=>.bad
 | .lenset,l=>bad
noncomputable def ap7 (k v:D)(l:List (D×D)):List (D×D):=if(look k l).isSome then l.map (λ p=>if p.1=k then(p.1,v)else p)else l++[(k,v)]
noncomputable def setIx (o i v:D):Sto->R Unit:=λ s=>match o with
 | .ref r=>match s[r]? with
  | some (.lst l)=>match i with
   | .int i=>match ixn l.length i with|some j=>.ok () (s.set r (.lst (l.set j v)))|none=>.bad
   | _=>.bad
  | some (.dic l)=>if i.key&&decide (l.length<LIM)then .ok () (s.set r (.dic (ap7 i v l)))else .bad
  | _=>.bad
 | _=>.bad
noncomputable def ap0 (o k:D):M D:=λ s=>match o with
 | .ref r=>match s[r]? with
  | some (.dic l)=>if k.key then .ok ((look k l).getD .non) s else .bad
  | _=>.bad
 | _=>.bad
noncomputable def meth:Mt->D->List D->M D
 | .append,.ref r,[d]=>λ s=>match s[r]? with
  | some (.lst l)=>if l.length<LIM then .ok .non (s.set r (.lst (l++[d])))else .bad
  | _=>.bad
 | .reverse,.ref r,[]=>λ s=>match s[r]? with
  | some (.lst l)=>.ok .non (s.set r (.lst l.reverse))
  | _=>.bad
 | _,_,_=>bad
noncomputable def ad8 (sep:List Nat):List (List Nat)->List Nat
 | []=>[]
 | [p]=>p
 | p::q::ps=>p++(sep++ad8 sep (q::ps))
noncomputable def aw6 (c:Nat):List Nat->List (List Nat)
 | []=>[[]]
 | x::l=>if x=c then[]::aw6 c l else match aw6 c l with
  | p::ps=>(x::p)::ps
  | []=>[[x]]
noncomputable def aA0 (x y:D):M D:=λ s=>match x with
 | .str []=>match y with
  | .ref r=>match s[r]? with
   | some (.lst l)=>match ac8 l with
    | some ss=>if ss.flatten.length<=LIM then .ok (.str ss.flatten) s else .bad
    | none=>.bad
   | _=>.bad
  | _=>.bad
 | .str (c::sep)=>match y with
  | .ref r=>match s[r]? with
   | some (.lst l)=>match ac8 l with
    | some ss=>if(ss.map λ w=>w.length+(c::sep).length).sum<=LIM then .ok (.str (ad8 (c::sep) ss)) s else .bad
    | none=>.bad
   | _=>.bad
  | _=>.bad
 | _=>.bad
structure Fns where
 call:String->List D->M D
 lam:String->List D->List D->M D
 con:String->Option D
 xcall:String->List D->Sto->Option (String×Sto)
 xc:String->Bool
 xt:String->Bool
 cdc:String->Option (List (List Nat×List Nat))
 kd:String->Bool
 mcall:String->String->List D->M D
 new:String->List D->M D
 att:String->List Nat->Bool
noncomputable def be6 (U:Env)(i:Nat):M D:=λ s=>match U[i]? with|some (some d)=>.ok d s|_=>.bad
noncomputable def qd (U:Env)(caps:yD):Env:=caps.map λ o=>match o with|none=>none|some j=>(U[j]?).join
noncomputable def aK3 (U:Env)(i:Nat)(d:D):Option Env:=if i < U.length then some (U.set i (some d))else none
noncomputable def aH6 (U:Env)(i:Nat):Option Env:=if i < U.length then some (U.set i none)else none
noncomputable def ak9 (U:Env):List Nat->List D->Option Env
 | [],[]=>some U
 | i::is,d::l=>(aK3 U i d).bind λ U=>ak9 U is l
 | _,_=>none
noncomputable def qG (U:Env):Tg->D->Option Env
 | .one i,d=>aK3 U i d
 | .tup is,.tup l=>ak9 U is l
 | _,_=>none
structure Sq where
 its:List D
 src:List Nat
noncomputable def ao6 (d:D):M Sq:=λ s=>match d with
 | .tup l=>.ok ⟨l,[]⟩ s
 | .str l=>.ok ⟨l.map λ c=>.str [c],[]⟩ s
 | .ref r=>match s[r]? with
  | some (.lst l)=>.ok ⟨l,[r]⟩ s
  | some (.ro l)=>.ok ⟨l,[]⟩ s
  | _=>.bad
 | _=>.bad
noncomputable def as6 (d:D):M Sq:=λ s=>match d with
 | .ref r=>match s[r]? with
  | some (.dic l)=>if l.all (λ p=>p.1.keyF)then .ok ⟨l.map (·.1),[r]⟩ (s.set r (.dicF l))else .bad
  | _=>.bad
 | _=>.bad
noncomputable def aR4 (s:Sto)(src:List Nat):Bool:=src.all λ r=>match s[r]? with|some (.dicF _)=>false|_=>true
noncomputable def au8 {α:Type}(src:List Nat)(a:α):Sto->R α:=λ s=>match src with
 | [r]=>match s[r]? with
  | some (.dicF l)=>.ok a (s.set r (.dic l))
  | _=>.bad
 | _=>.bad
noncomputable def ag0 (d:D):M D:=λ s=>match d with
 | .ref r=>match s[r]? with
  | some (.dic l)=>if l.all (λ p=>p.1.keyF)then ac5 (.lst (l.map (·.1))) s else .bad
  | _=>.bad
 | _=>.bad
noncomputable def bd7 (l:List D):M D:=λ s=>match ql l with
 | some is=>if is.length<64 then ac5 (.lst ((at8 is).map D.int)) s else .bad
 | none=>.bad
noncomputable def ah6 (f:List Nat)(x:D):M D:=λ s=>match x with
 | .ref r=>match s[r]? with
  | some (.ins _ fs)=>match look (.str f) fs with|some d=>.ok d s|none=>.bad
  | _=>.bad
 | _=>.bad
noncomputable def an9 (k v:D):List (D×D)->List (D×D)
 | []=>[(k,v)]
 | (a,x)::r=>if a=k then(a,v)::r else(a,x)::an9 k v r
noncomputable def am4 (ok:String->Bool)(f:List Nat)(x v:D):Sto->R Unit:=λ s=>match x with
 | .ref r=>match s[r]? with
  | some (.ins c fs)=>if ok c&&decide (fs.length<1000)then .ok () (s.set r (.ins c (an9 (.str f) v fs)))else .bad
  | _=>.bad
 | _=>.bad
noncomputable def bp7 (x:D):Sto->R String:=λ s=>match x with
 | .ref r=>match s[r]? with
  | some (.ins c _)=>.ok c s
  | _=>.bad
 | _=>.bad
noncomputable def bO9 (d:D):Sto->R (List D):=λ s=>match d with
 | .tup l=>.ok l s
 | .str l=>.ok (l.map λ c=>.str [c]) s
 | .ref r=>match s[r]? with
  | some (.lst l)=>.ok l s
  | some (.ro l)=>.ok l s
  | _=>.bad
 | _=>.bad
noncomputable def aP4 (d:D):Sto->R (List D):=λ s=>match d with
 | .ref r=>match s[r]? with
  | some (.lst l)=>.ok l s
  | _=>.bad
 | _=>.bad
noncomputable def Ww62:Int:=4611686018427387904
noncomputable def ae1 (a b:Int):List D:=(aP (b - a).toNat).map λ(k:Nat)=>.int (a+k)
noncomputable def bitsN (i:Int):Nat:=if i=0 then 0 else i.natAbs.log2+1
noncomputable def aO0 (x:D):M D:=λ s=>match x with|.int i=>.ok (.int (bitsN i:Nat)) s|_=>.bad
noncomputable def ad0 (a:Int):List D:=(aP (a+1).toNat).map λ(k:Nat)=>.int (a+(k:Int)*(-1))
noncomputable def chk (s0 s:Sto)(src:List Nat):Bool:=src.all λ r=>decide (s[r]?=s0[r]?)
noncomputable def tru {α:Type}(r:R D)(f:Bool->Sto->R α):R α:=r.bind λ d s=>match d with|.bl b=>f b s|_=>.bad
@[simp] theorem tru_bl {α:Type} (b:Bool) (s:Sto) (f:Bool->Sto->R α):tru (.ok (.bl b) s) f=f b s:=rfl
noncomputable def qH (ok:Sto->Bool)(g:D->Env->Sto->R (Option D×Env)):List D->Env->Sto->R (List D)
 | [],_,s=>if ok s then .ok [] s else .bad
 | d::l,U,s=>if ok s then(g d U s).bind λ p s=>(qH ok g l p.2 s).bind λ r s=>.ok (match p.1 with|some v=>v::r|none=>r) s else .bad
mutual
noncomputable def ev (F:Fns):E->Env->Sto->R D
 | .var i,U,s=>be6 U i s
 | .cst c,_,s=>.ok c.d s
 | .glob x,_,s=>match F.con x with|some d=>.ok d s|none=>.bad
 | .bin op a b,U,s=>(ev F a U s).bind λ x s=>(ev F b U s).bind λ y s=>z0 op x y s
 | .not a,U,s=>tru (ev F a U s) λ b s=>.ok (.bl (!b)) s
 | .cmp op a b,U,s=>(ev F a U s).bind λ x s=>(ev F b U s).bind λ y s=>zc op x y s
 | .isN a,U,s=>(ev F a U s).bind λ x s=>.ok (.bl (decide (x=.non))) s
 | .notN a,U,s=>(ev F a U s).bind λ x s=>.ok (.bl (!decide (x=.non))) s
 | .and a b,U,s=>tru (ev F a U s) λ c s=>if c then tru (ev F b U s) λ c s=>.ok (.bl c) s else .ok (.bl false) s
 | .or a b,U,s=>tru (ev F a U s) λ c s=>if c then .ok (.bl true) s else tru (ev F b U s) λ c s=>.ok (.bl c) s
 | .ite c a b,U,s=>tru (ev F c U s) λ k s=>if k then ev F a U s else ev F b U s
 | .tup es,U,s=>(evs F es U s).bind λ l s=>.ok (.tup l) s
 | .lst es,U,s=>(evs F es U s).bind λ l s=>ac5 (.lst l) s
 | .dic .nil .nil,U,s=>ac5 (.dic []) s
 | .dic (.cons k .nil) (.cons v .nil),U,s=>(ev F k U (s++[.dic []])).bind λ kd s1=>(ev F v U s1).bind λ vd s2=>if kd.key=true/\s2[s.length]?=some (.dic [])then .ok (.ref s.length) (s2.set s.length (.dic [(kd,vd)]))else .bad
 | .dic _ _,U,s=>.bad
 | .get1 o k,U,s=>(ev F o U s).bind λ x s=>(ev F k U s).bind λ y s=>ap0 x y s
 | .bitl a,U,s=>(ev F a U s).bind λ x s=>aO0 x s
 | .ix a b,U,s=>(ev F a U s).bind λ x s=>(ev F b U s).bind λ y s=>ixM x y s
 | .slL a lo,U,s=>(ev F a U s).bind λ x s=>(ev F lo U s).bind λ y s=>match y with|.int i=>slM x (some i) none s|_=>.bad
 | .slU a hi,U,s=>(ev F a U s).bind λ x s=>(ev F hi U s).bind λ y s=>match y with|.int i=>slM x none (some i) s|_=>.bad
 | .slLU a lo hi,U,s=>(ev F a U s).bind λ x s=>(ev F lo U s).bind λ y s=>match y with|.int i=>(ev F hi U s).bind (λ z s=>match z with|.int j=>slM x (some i) (some j) s|_=>.bad)|_=>.bad
 | .call f as,U,s=>(aj5 F as U s).bind λ l s=>F.call f l s
 | .bi b es,U,s=>(evs F es U s).bind λ l s=>bi b l s
 | .mk k it,U,s=>(evL F it U s).bind λ q s=>mk k q s
 | .meth m o es,U,s=>(ev F o U s).bind λ x s=>(evs F es U s).bind λ l s=>meth m x l s
 | .join o e,U,s=>(ev F o U s).bind λ x s=>(ev F e U s).bind λ y s=>aA0 x y s
 | .attr o f,U,s=>(ev F o U s).bind λ x s=>ah6 f x s
 | .keysL e,U,s=>(ev F e U s).bind λ x s=>ag0 x s
 | .srt e,U,s=>(ev F e U s).bind λ x s=>(aP4 x s).bind λ q s=>bd7 q s
 | .new c as,U,s=>(aj5 F as U s).bind λ l s=>(F.new c (.ref s.length::l) (s++[.ins c []])).bind λ d s'=>if d=.non then .ok (.ref s.length) s' else .bad
 | .mcall o m as,U,s=>(ev F o U s).bind λ x s=>(bp7 x s).bind λ c s=>(aj5 F as U s).bind λ l s=>F.mcall c m (x::l) s
noncomputable def evs (F:Fns):Es->Env->Sto->R (List D)
 | .nil,_,s=>.ok [] s
 | .cons e es,U,s=>(ev F e U s).bind λ d s=>(evs F es U s).bind λ l s=>.ok (d::l) s
noncomputable def aj5 (F:Fns):As->Env->Sto->R (List D)
 | .nil,_,s=>.ok [] s
 | .ex e as,U,s=>(ev F e U s).bind λ d s=>(aj5 F as U s).bind λ l s=>.ok (d::l) s
 | .fn f as,U,s=>(aj5 F as U s).bind λ l s=>.ok (.fn f::l) s
noncomputable def evI (F:Fns):I->Env->Sto->R Sq
 | .seq e,U,s=>(ev F e U s).bind λ d s=>ao6 d s
 | .rng1 a,U,s=>(ev F a U s).bind λ x s=>match x with|.int i=>if -Ww62<=i/\i<Ww62 then .ok ⟨ae1 0 i,[]⟩ s else .bad|_=>.bad
 | .rng2 a b,U,s=>(ev F a U s).bind λ x s=>(ev F b U s).bind λ y s=>match x,y with|.int i,.int j=>if(-Ww62<=i/\i<Ww62)/\-Ww62<=j/\j<Ww62 then .ok ⟨ae1 i j,[]⟩ s else .bad|_,_=>.bad
 | .rngD a,U,s=>(ev F a U s).bind λ x s=>match x with|.int i=>if -1<=i/\i<1048576 then .ok ⟨ad0 i,[]⟩ s else .bad|_=>.bad
 | .keys e,U,s=>(ev F e U s).bind λ d s=>as6 d s
noncomputable def evL (F:Fns):L->Env->Sto->R (List D)
 | .comp tg it e caps,U,s=>(evI F it U s).bind λ q s0=>if q.its.length<=LIM then qH (λ s=>chk s0 s q.src) (λ d U s=>match qG U tg d with
   | some U=>(ev F e U s).bind λ v s=>.ok (some v,U) s
   | none=>.bad) q.its (qd U caps) s0 else .bad
 | .compIf tg it c e caps,U,s=>(evI F it U s).bind λ q s0=>if q.its.length<=LIM then qH (λ s=>chk s0 s q.src) (λ d U s=>match qG U tg d with
   | some U=>tru (ev F c U s) λ k s=>if k then(ev F e U s).bind λ v s=>.ok (some v,U) s else .ok (none,U) s
   | none=>.bad) q.its (qd U caps) s0 else .bad
 | .disp es,U,s=>evs F es U s
 | .seq e,U,s=>(ev F e U s).bind λ d s=>bO9 d s
end
inductive Ct where
 | next (U:Env)|ret (d:D)|cont (U:Env)|brk (U:Env)
noncomputable def aD0 (ok:Sto->Bool)(g:D->Env->Sto->R Ct):List D->Env->Sto->R Ct
 | [],U,s=>if ok s then .ok (.next U) s else .bad
 | d::l,U,s=>if ok s then(g d U s).bind λ c s=>match c with
   | .next U=>aD0 ok g l U s
   | .cont U=>aD0 ok g l U s
   | .brk U=>.ok (.next U) s
   | .ret d=>.ok (.ret d) s
  else .bad
noncomputable def qJ (c:Env->Sto->R D)(g:Env->Sto->R Ct):Nat->Env->Sto->R Ct
 | 0,_,_=>.bad
 | n+1,U,s=>tru (c U s) λ b s=>if b then(g U s).bind λ c' s=>match c' with
   | .next U=>qJ c g n U s
   | .cont U=>qJ c g n U s
   | .brk U=>.ok (.next U) s
   | .ret d=>.ok (.ret d) s
  else .ok (.next U) s
open Classical in
noncomputable def whl (c:Env->Sto->R D)(g:Env->Sto->R Ct)(U:Env)(s:Sto):R Ct :=
 if h:∃ n,qJ c g n U s≠.bad then qJ c g h.choose U s else .bad
mutual
noncomputable def ex (F:Fns):S->Env->Sto->R Ct
 | .asg tg e,U,s=>(ev F e U s).bind λ d s=>match qG U tg d with|some U=>.ok (.next U) s|none=>.bad
 | .setIx o i e,U,s=>(ev F e U s).bind λ d s=>(ev F o U s).bind λ x s=>(ev F i U s).bind λ y s=>(setIx x y d s).bind λ _ s=>.ok (.next U) s
 | .ex e,U,s=>(ev F e U s).bind λ _ s=>.ok (.next U) s
 | .ret e,U,s=>(ev F e U s).bind λ d s=>.ok (.ret d) s
 | .ite c a b,U,s=>tru (ev F c U s) λ k s=>if k then exs F a U s else exs F b U s
 | .whl c b,U,s=>whl (ev F c) (exs F b) U s
 | .for_ tg it b,U,s=>(evI F it U s).bind λ q s0=>aD0 (λ s=>chk s0 s q.src) (λ d U s=>match qG U tg d with
   | some U=>exs F b U s
   | none=>.bad) q.its U s0
 | .setA o f e,U,s=>(ev F e U s).bind λ d s=>(ev F o U s).bind λ x s=>(am4 (λ c=>F.att c f) f x d s).bind λ _ s=>.ok (.next U) s
 | .forK tg e b,U,s=>(evI F (.keys e) U s).bind λ q s0=>if aR4 s q.src then(aD0 (λ s=>chk s0 s q.src) (λ d U s=>match qG U tg d with
   | some U=>exs F b U s
   | none=>.bad) q.its U s0).bind (λ c s=>au8 q.src c s)else .bad
noncomputable def exs (F:Fns):Ss->Env->Sto->R Ct
 | .nil,U,s=>.ok (.next U) s
 | .cons st ss,U,s=>(ex F st U s).bind λ c s=>match c with|.next U=>exs F ss U s|c=>.ok c s
end
structure Df where
 name:String
 ps:Nat
 vs:Nat
 body:Ss
structure Lm where
 id:String
 ps:Nat
 cs:Nat
 body:E
inductive HT where
 | ve
 | isi (cs:List String)|one (c:String)|not (t:HT)|or (a b:HT)
inductive Hd where
 | ret (t:HT)|iff (t:HT) (b:Bool) (h:Hd)|nob (b:Bool)|noe|iffN (t:HT) (h:Hd)|aoN (a b:HT)|sup (x:String) (h:Hd)
 | kin (f:String) (l:Bool)
noncomputable def subC (c d:String):Bool:=c==d||(d == "TollError"||d == "ValueError")
noncomputable def aG5:List String:=["NotSteady", "TooMuch", "TooLong", "NoMaking", "NoPaper", "NoPair", "NoText", "NoRow", "NoName"]
noncomputable def bq3:List (List Nat):=[[115,116,101,97,100,121],[109,117,99,104],[108,111,110,103],[109,97,107,105,110,103],[112,97,112,101,114],[112,97,105,114],[116,101,120,116],[114,111,119],[110,97,109,101]]
noncomputable def ar6:List Nat:=[97,110,111,116,104,101,114]
noncomputable def ck2 (bs:List Bool):List Nat:=if bs.countP id=1 then bq3.getD (bs.findIdx id) []else ar6
noncomputable def bL9 (c:String):List Nat:=ck2 (aG5.map (subC c))
noncomputable def HT.val (c:String):HT->Bool
 | .isi cs=>cs.any (subC c)
 | .one d=>subC c d
 | .not t=>!t.val c
 | .or a b=>if a.val c then true else b.val c
 | .ve=>true
noncomputable def HT.ok (p:String->Bool):HT->Bool
 | .isi cs=>cs.all p
 | .one d=>p d
 | .not t=>t.ok p
 | .or a b=>a.ok p&&b.ok p
 | .ve=>true
noncomputable def Hd.val (c:String):Hd->Bool
 | .ret t=>t.val c
 | .iff t b h=>if t.val c then b else h.val c
 | .nob b=>b
 | .noe=>false
 | .iffN _ h=>h.val c
 | .aoN a b=>a.val c&&b.val c
 | .sup _ h=>h.val c
 | .kin _ _=>false
noncomputable def Hd.ok (p:String->Bool):Hd->Bool
 | .ret t=>t.ok p
 | .iff t _ h=>t.ok p&&h.ok p
 | .nob _=>true
 | .noe=>true
 | .iffN t h=>t.ok p&&h.ok p
 | .aoN a b=>a.ok p&&b.ok p
 | .sup x h=>p x&&h.ok p
 | .kin _ _=>aG5.all p
noncomputable def Hd.vD (c:String):Hd->D
 | .ret t=>.bl (t.val c)
 | .iff t b h=>if t.val c then .bl b else h.vD c
 | .nob b=>.bl b
 | .noe=>.non
 | .iffN t h=>if t.val c then .non else h.vD c
 | .aoN a b=>if a.val c then(if b.val c then .bl true else .non)else .non
 | .sup _ h=>h.vD c
 | .kin _ _=>.non
noncomputable def Hd.kn:Hd->Option (String×Bool)
 | .kin f l=>some (f,l)
 | .sup _ h=>h.kn
 | _=>none
noncomputable def Hd.kok (k:String->Bool)(h:Hd):Bool:=match h.kn with|some (f,_)=>k f|none=>true
noncomputable def Hd.cls (c:String):Hd->String
 | .sup x _=>x|_=>c
noncomputable def Hd.supOk (c:String):Hd->Bool
 | .sup x _=>subC c x|_=>true
noncomputable def Hd.nn:Hd->Bool
 | .nob _=>true|.noe=>true|_=>false
noncomputable def aO5 (ok:Sto->Bool)(g:D->Env->Sto->R Ct)(gx:D->Env->Sto->Option (String×Sto)):List D->Env->Sto->Option (String×Sto)
 | [],_,_=>none
 | d::l,U,s=>if ok s then match g d U s with
   | .ok (.next U1) s1=>aO5 ok g gx l U1 s1
   | .ok (.cont U1) s1=>aO5 ok g gx l U1 s1
   | .ok _ _=>none
   | _=>gx d U s
  else none
noncomputable def aR3 (c:Env->Sto->R D)(g:Env->Sto->R Ct)(gx:Env->Sto->Option (String×Sto)):Nat->Env->Sto->Option (String×Sto)
 | 0,_,_=>none
 | n+1,U,s=>match c U s with
  | .ok (.bl true) s1=>match g U s1 with
   | .ok (.next U1) s2=>aR3 c g gx n U1 s2
   | .ok (.cont U1) s2=>aR3 c g gx n U1 s2
   | .ok _ _=>none
   | _=>gx U s1
  | _=>none
open Classical in
noncomputable def whlX (c:Env->Sto->R D)(g:Env->Sto->R Ct)(gx:Env->Sto->Option (String×Sto))(U:Env)(s:Sto):Option (String×Sto):=if h:∃ n,(aR3 c g gx n U s).isSome=true then aR3 c g gx h.choose U s else none
inductive XB where
 | no|rais (c:String)|call (f:String) (as:As)|iteT (c:E) (a r:XB)|seq (s:S) (b:XB)
 | kind|alt (a b:XB)
 | iteE (c:E) (a r:XB)|forX (tg:Tg) (it:I) (b:Ss) (x:XB)|whlX (c:E) (b:Ss) (x:XB)
noncomputable def xB (F:Fns):XB->Env->Sto->Option (String×Sto)
 | .no,_,_=>none
 | .kind,_,_=>none
 | .alt a b,U,s=>match xB F a U s with|some r=>some r|none=>xB F b U s
 | .rais c,_,s=>if F.xc c=true then some (c,s)else none
 | .call f as,U,s=>match aj5 F as U s with|.ok l s1=>F.xcall f l s1|_=>none
 | .iteT c a r,U,s=>match ev F c U s with|.ok (.bl b) s1=>if b then xB F a U s1 else xB F r U s1|_=>none
 | .seq st b,U,s=>match ex F st U s with|.ok (.next U1) s1=>xB F b U1 s1|_=>none
 | .forX tg it b x,U,s=>match evI F it U s with
  | .ok q s0=>aO5 (λ s=>chk s0 s q.src) (λ d U s=>match qG U tg d with
   | some U=>exs F b U s
   | none=>.bad) (λ d U s=>match qG U tg d with
   | some U=>xB F x U s
   | none=>none) q.its U s0
  | _=>none
 | .iteE c a r,U,s=>match ev F c U s with|.ok (.bl b) s1=>if b then xB F a U s1 else xB F r U s1|_=>none
 | .whlX c b x,U,s=>DV.whlX (ev F c) (exs F b) (xB F x) U s
structure Xf where
 ps:Nat
 vs:Nat
 body:XB
structure Tf where
 ps:Nat
 vs:Nat
 body:Ss
 xb:XB
 c:String
 i:Nat
 h:Hd
 tl:Ss
 pre:Ss
structure Pr where
 df:String->Option Df
 lm:String->Option Lm
 con:String->Option D
 xf:String->Option Xf
 tf:String->Option Tf
 xc:String->Bool
 xt:String->Bool
 cdc:String->Option (List (List Nat×List Nat))
 mt:String->String->Option Df
 att:String->List Nat->Bool
noncomputable def qC (st st':Sto):Bool:=(aP st.length).all λ i=>decide (st'[i]?=st[i]?)||(match st'[i]? with|some o=>o.bnd st.length|none=>false)
noncomputable def zm (st:Sto)(d:D)(st':Sto):R D :=
 if qC st st' then
  match d with
  | .ref r=>if r<st.length then .ok d (st'.take st.length)else match st'[r]? with
   | some o=>if o.bnd st.length then .ok (.ref st.length) (st'.take st.length++[o])else .ok d st'
   | none=>.bad
  | d=>if d.bnd st.length then .ok d (st'.take st.length)else .ok d st'
 else .ok d st'
noncomputable def Hd.out (h:Hd)(c:String)(s s':Sto):R D:=match h with
 | .noe=>zm s (.ref s'.length) (s'++[.lst []])
 | h=>match h.kn with
  | some (_,true)=>zm s (.ref s'.length) (s'++[.lst [.str (bL9 c)]])
  | some (_,false)=>zm s (.str (bL9 c)) s'
  | none=>zm s (h.vD c) s'
noncomputable def Tf.tk (d:Tf)(c:String):Bool:=match d.h with|.sup x _=>subC c x|_=>c==d.c
noncomputable def XB.isK:XB->Bool
 | .kind=>true|_=>false
noncomputable def ch4 (P:Pr)(f:String):Bool:=match P.xf f with|some d=>d.ps==1&&(d.vs==1&&d.body.isK)|none=>false
noncomputable def bG4 (F:Fns)(d:Tf)(s:Sto)(U0:Env)(s0:Sto):R D:=match xB F d.xb U0 s0 with
 | some (c,s')=>if d.tk c=true/\F.xc c=true/\d.h.ok F.xt=true/\d.h.kok F.kd=true then d.h.out c s s' else .bad
 | none=>(exs F d.body U0 s0).bind λ c s1=>match c with
  | .ret v=>zm s v s1
  | .next U=>(exs F d.tl U s1).bind λ c s2=>match c with
   | .ret v=>zm s v s2
   | .next _=>zm s .non s2
   | _=>.bad
  | _=>.bad
noncomputable def cg3 (F:Fns)(d:Tf)(l:List D)(s:Sto):R D:=match exs F d.pre (l.map some++ai d.vs none) s with
 | .ok (.next U0) s0=>bG4 F d s U0 s0
 | _=>.bad
noncomputable def be4 (F:Fns)(d:Df)(l:List D)(s:Sto):R D:=if l.length=d.ps then(exs F d.body (l.map some++ai d.vs none) s).bind λ c s'=>match c with
 | .ret v=>zm s v s'
 | .next _=>zm s .non s'
 | _=>.bad else .bad
noncomputable def aa1 (P:Pr):Nat->Fns
 | 0=>⟨λ _ _ _=>.bad,λ _ _ _ _=>.bad,P.con,λ _ _ _=>none,P.xc,P.xt,P.cdc,ch4 P,λ _ _ _ _=>.bad,λ _ _ _=>.bad,P.att⟩
 | n+1=>⟨λ f l s=>match P.df f with
   | some d=>if l.length=d.ps then(exs (aa1 P n) d.body (l.map some++ai d.vs none) s).bind λ c s'=>match c with
     | .ret v=>zm s v s'
     | .next _=>zm s .non s'
     | _=>.bad else .bad
   | none=>match P.tf f with
    | some d=>if l.length=d.ps then cg3 (aa1 P n) d l s else .bad
    | none=>.bad,
  λ id cs l s=>match P.lm id with
   | some d=>if l.length=d.ps/\cs.length=d.cs/\(D.nclL l&&D.nclL cs&&s.all O.ncl)=true then(ev (aa1 P n) d.body (l.map some++cs.map some) s).bind λ v s'=>zm s v s' else .bad
   | none=>.bad,P.con,
  λ f l s=>match P.xf f with
   | some d=>if l.length=d.ps then xB (aa1 P n) d.body (l.map some++ai d.vs none) s else none
   | none=>none,P.xc,P.xt,P.cdc,ch4 P,λ c m l s=>match P.mt c m with|some d=>be4 (aa1 P n) d l s|none=>.bad,λ c l s=>(aa1 P n).mcall c "__init__" l s,P.att⟩
def KP (s s':Sto):Prop:=∀(i:Nat) (o:O),s[i]?=some o->∃ o',s'[i]?=some o'/\o'.kd=o.kd
theorem KP.refl (s:Sto):KP s s:=λ i o h=>⟨o,h,rfl⟩
theorem KP.trans {a b c:Sto}(h:KP a b)(g:KP b c):KP a c:=λ i o e=>by
 obtain⟨z,e1,k1⟩:=h i o e
 obtain⟨F,e2,k2⟩:=g i z e1
 exact⟨F,e2,k2.trans k1⟩
theorem KP.app (s t:Sto):KP s (s++t):=λ i o e=>⟨o,by rw[au (ac.mp e).1];exact e,rfl⟩
theorem KP.set {s:Sto}{r:Nat}{o F:O}(h:s[r]?=some F)(k:o.kd=F.kd):KP s (s.set r o):=λ i u e=>by
 by_cases z:r=i
 .subst z
  rw[h]at e;cases e
  exact⟨o,aX (ac.mp h).1,k⟩
 .exact⟨u,by rw[ao z];exact e,rfl⟩
def KR {α:Type}(s:Sto)(r:R α):Prop:=∀ a s',r=.ok a s'->KP s s'
theorem KR.bad {α:Type}{s:Sto}:KR s (.bad:R α):=λ _ _ h=>by cases h
theorem KR.ok {α:Type}{s:Sto}{a:α}:KR s (.ok a s):=λ _ _ h=>by cases h;exact KP.refl _
theorem KR.bind {α β:Type}{s:Sto}{r:R α}{f:α->Sto->R β}(h:KR s r)(g:∀ a s1,KR s1 (f a s1)):KR s (r.bind f):=λ b s' e=>by
 obtain⟨a,s1,e1,e2⟩:=R.bind_inv e
 exact(h a s1 e1).trans (g a s1 b s' e2)
theorem KR.tru {α:Type}{s:Sto}{r:R D}{f:Bool->Sto->R α}(h:KR s r)(g:∀ a s1,KR s1 (f a s1)):KR s (tru r f):=KR.bind h λ a s1=>by
 cases a with
 | bl b=>exact g b s1
 | _=>exact KR.bad
theorem KR.if {α:Type}{s:Sto}{c:Prop}[Decidable c]{a b:R α}(h:KR s a)(g:KR s b):KR s (if c then a else b):=by split;exact h;exact g
theorem KR.al {s:Sto}{o:O}:KR s (ac5 o s):=λ _ _ h=>by cases h;exact KP.app _ _
theorem KR.pu {s:Sto}{d:D}:KR s (pur d s):=λ _ _ h=>by cases h;exact KP.refl _
theorem KR.bd {s:Sto}:KR s ((DV.bad:M D) s):=λ _ _ h=>by cases h
theorem KR.im {s:Sto}{c:Prop}{_:Decidable c}{d:D}:KR s ((if c then pur d else DV.bad:M D) s):=by split;exact KR.pu;exact KR.bd
theorem KR.ia {s:Sto}{c:Prop}{_:Decidable c}{o:O}:KR s (if c then ac5 o s else .bad):=KR.if KR.al KR.bd
theorem bg6 (op:BOp)(x y:D)(s:Sto):KR s (z0 op x y s):=by
 cases op with
 | add=>cases x with
  | int a=>cases y with
   | int b=>exact KR.pu
   | _=>exact KR.bd
  | str a=>cases y with
   | str b=>exact KR.im
   | _=>exact KR.bd
  | tup a=>cases y with
   | tup b=>exact KR.im
   | _=>exact KR.bd
  | ref a=>cases y with
   | ref b =>
    show KR s (match s[a]?,s[b]? with|some (.lst l),some (.lst m)=>if l.length+m.length<=LIM then ac5 (.lst (l++m)) s else .bad|_,_=>.bad)
    split
    .exact KR.ia
    .exact KR.bd
   | _=>exact KR.bd
  | _=>exact KR.bd
 | sub=>cases x with
  | int a=>cases y with
   | int b=>exact KR.pu
   | _=>exact KR.bd
  | _=>exact KR.bd
 | mul=>cases x with
  | int a=>cases y with
   | int b=>exact KR.im
   | _=>exact KR.bd
  | str a=>cases y with
   | int b=>exact KR.im
   | _=>exact KR.bd
  | tup a=>cases y with
   | int b=>exact KR.im
   | _=>exact KR.bd
  | ref a=>cases y with
   | int n =>
    show KR s (match s[a]? with|some (.lst l)=>if 0<=n/\n<=1000000/\l.length*n.toNat<=LIM then ac5 (.lst (aR7 n.toNat l)) s else .bad|_=>.bad)
    split
    .exact KR.ia
    .exact KR.bd
   | _=>exact KR.bd
  | _=>exact KR.bd
 | fdiv=>cases x with
  | int a=>cases y with
   | int b=>exact KR.im
   | _=>exact KR.bd
  | _=>exact KR.bd
 | mod=>cases x with
  | int a=>cases y with
   | int b=>exact KR.im
   | _=>exact KR.bd
  | _=>exact KR.bd
 | pow=>cases x with
  | int a=>cases y with
   | int b=>exact KR.im
   | _=>exact KR.bd
  | _=>exact KR.bd
 | shl=>cases x with
  | int a=>cases y with
   | int b=>exact KR.im
   | _=>exact KR.bd
  | _=>exact KR.bd
 | shr=>cases x with
  | int a=>cases y with
   | int b=>exact KR.im
   | _=>exact KR.bd
  | _=>exact KR.bd
 | band=>cases x with
  | int a=>cases y with
   | int b=>exact KR.im
   | _=>exact KR.bd
  | _=>exact KR.bd
 | bor=>cases x with
  | int a=>cases y with
   | int b=>exact KR.im
   | _=>exact KR.bd
  | _=>exact KR.bd
theorem bC0 (f:Int->List Nat->Int->List Nat->Bool)(x y:D)(s:Sto):KR s (bZ1 f x y s):=by
 intro a s' h
 unfold bZ1 at h
 split at h<;>cases h
 exact KP.refl _
theorem bS9 (op:COp)(x y:D)(s:Sto):KR s (zc op x y s):=by
 have z:∀ a b:D,KR s (inM a b s):=λ a b=>by
  intro r s' h
  unfold inM at h
  split at h
  .split at h<;>cases h;exact KP.refl _
  .split at h
   .split at h<;>cases h;exact KP.refl _
   .split at h<;>cases h;exact KP.refl _
   .cases h
  .split at h<;>cases h;exact KP.refl _
  .cases h
 cases op with
 | isin=>exact KR.bind (z x y) λ _ _=>KR.ok
 | notin=>exact KR.bind (z x y) λ _ _=>KR.ok
 | eq=>intro a s' h;change eqM x y s=_ at h;unfold eqM at h;split at h<;>cases h;exact KP.refl _
 | ne =>
  intro a s' h
  change(match eqv s DEEP x y with|some r=>R.ok (D.bl (!r)) s|none=>.bad)=_ at h
  split at h<;>cases h;exact KP.refl _
 | _ =>
  intro a s' h
  cases x with
  | int i=>(cases y with
   | int j=>cases h<;>exact KP.refl _
   | _=>cases h)
  | tup l=>(cases y with
   | tup m=>first|exact bC0 _ _ _ _ _ _ h|cases h
   | _=>cases h)
  | _=>cases h
theorem cb2 (x y:D)(s:Sto):KR s (ixM x y s):=by
 intro a s' h
 unfold ixM at h
 repeat' split at h
 all_goals first|(cases h;exact KP.refl _;done)|(cases h;done)
theorem bB8 (x:D)(z F:Option Int)(s:Sto):KR s (slM x z F s):=by
 intro a s' h
 unfold slM at h
 repeat' split at h
 all_goals first|(cases h;exact KP.refl _;done)|(cases h;exact KP.app _ _;done)|(cases h;done)
theorem bv0 (x:D)(s:Sto):KR s (bO9 x s):=by
 intro a s' h
 unfold bO9 at h
 repeat' split at h
 all_goals first|(cases h;exact KP.refl _;done)|(cases h;done)
theorem bH3 (x:D)(s:Sto):KR s (aP4 x s):=by
 intro a s' h
 unfold aP4 at h
 repeat' split at h
 all_goals first|(cases h;exact KP.refl _;done)|(cases h;done)
theorem bG7 (x:D)(s:Sto):KR s (ao6 x s):=by
 intro a s' h
 unfold ao6 at h
 repeat' split at h
 all_goals first|(cases h;exact KP.refl _;done)|(cases h;done)
theorem bx0 (x y:D)(s:Sto):KR s (aA0 x y s):=by
 intro a s' h
 unfold aA0 at h
 repeat' split at h
 all_goals first|(cases h;exact KP.refl _;done)|(cases h;done)
theorem bH6 (l:List D)(s:Sto):KR s (bd5 l s):=by
 intro a s' h
 unfold bd5 at h
 split at h
 .split at h<;>cases h;exact KP.refl _
 .cases h;exact KP.refl _
 .cases h
theorem bI0 (l:List D)(s:Sto):KR s (aR1 l s):=by
 intro a s' h
 unfold aR1 at h
 split at h
 .split at h<;>cases h;exact KP.refl _
 .cases h
theorem cf1 (b:Bi)(l:List D)(s:Sto):KR s (bi b l s):=by
 have k1:∀ f:D->M D,(∀ d,KR s (f d s))->KR s (bi1 f l s):=λ f z=>by
  cases l with
  | nil=>exact KR.bad
  | cons d t=>(cases t with
   | nil=>exact z d
   | cons _ _=>exact KR.bad)
 have k2:∀ k d,KR s (isK k d s):=λ k d=>by
  intro a s' h
  unfold isK at h
  repeat' split at h
  all_goals first|(cases h;exact KP.refl _;done)|(cases h;done)
 have F:∀ d,KR s (bB6 d s):=λ d=>by
  intro a s' h
  unfold bB6 at h
  repeat' split at h
  all_goals first|(cases h;exact KP.refl _;done)|(cases h;done)
 cases b with
 | len=>exact k1 _ F
 | isInt=>exact k1 _ (k2 1)
 | isBool=>exact k1 _ (k2 2)
 | isStr=>exact k1 _ (k2 3)
 | isTup=>exact k1 _ (k2 4)
 | isList=>exact k1 _ (k2 5)
 | str=>exact bH6 l s
 | int =>
  intro a s' h
  have h:(match ae0 l with|some [b]=>R.ok (D.int (if b then 1 else 0)) s|some _=>.bad|none=>aR1 l s)=.ok a s':=h
  split at h
  .cases h;exact KP.refl _
  .cases h
  .exact bI0 l s a s' h
 | _ =>
  intro a s' h
  unfold bi at h
  first|(cases h;done)|(simp only at h;split at h<;>first|(cases h;exact KP.refl _;done)|(cases h;done))
theorem ca6 (k:Mk)(l:List D)(s:Sto):KR s (mk k l s):=by
 cases k with
 | tuple=>exact KR.ok
 | list=>exact KR.al
 | lenset=>exact KR.bad
 | _ =>
  intro a s' h
  unfold mk at h
  simp only at h
  repeat' split at h
  all_goals first|(cases h;exact KP.refl _;done)|(cases h;exact KP.app _ _;done)|(cases h;done)
theorem bv4 (m:Mt)(o:D)(l:List D)(s:Sto):KR s (meth m o l s):=by
 have z:∀ {r:Nat} {f:List D->R D},(∀ l,s[r]?=some (.lst l)->KR s (f l))->KR s (match s[r]? with|some (.lst l)=>f l|_=>.bad:R D):=λ {r f} h=>by
  cases e:s[r]? with
  | none=>exact KR.bad
  | some ob=>cases ob with
   | lst l=>exact h l e
   | _=>exact KR.bad
 cases o with
 | ref r=>cases m with
  | append=>match l with
   | [d]=>exact z λ l e=>KR.if (λ _ _ h=>by cases h;exact KP.set e rfl) KR.bad
   | []=>exact KR.bd
   | _::_::_=>exact KR.bd
  | reverse=>match l with
   | []=>exact z λ l e=>λ _ _ h=>by cases h;exact KP.set e rfl
   | _::_=>exact KR.bd
  | _=>exact KR.bd
 | _=>cases m<;>exact KR.bd
theorem bm5 (o i v:D)(s:Sto):KR s (setIx o i v s):=by
 intro a s' h
 unfold setIx at h
 cases o with
 | ref r =>
  simp only at h
  cases e:s[r]? with
  | none=>rw[e]at h;cases h
  | some ob =>
   rw[e]at h
   cases ob with
   | lst l =>
    cases i with
    | int k=>simp only at h;split at h<;>cases h;exact KP.set e rfl
    | _=>cases h
   | dic l=>simp only at h;split at h<;>cases h;exact KP.set e rfl
   | _=>cases h
 | _=>cases h
theorem bn7 (o k:D)(s:Sto):KR s (ap0 o k s):=by
 intro a s' h
 unfold ap0 at h
 repeat' split at h
 all_goals first|(cases h;exact KP.refl _;done)|(cases h;done)
theorem bi7 (d:D)(s:Sto):KR s (as6 d s):=by
 intro a s' h
 unfold as6 at h
 split at h
 .split at h
  .rename_i e
   split at h
   .cases h;exact KP.set e rfl
   .cases h
  .cases h
 .cases h
theorem bg9 {α:Type}(src:List Nat)(a:α)(s:Sto):KR s (au8 src a s):=by
 intro b s' h
 unfold au8 at h
 split at h
 .split at h
  .rename_i e;cases h;exact KP.set e rfl
  .cases h
 .cases h
theorem aX9 (d:D)(s:Sto):KR s (ag0 d s):=by
 intro a s' h
 unfold ag0 at h
 repeat' split at h
 all_goals first|(cases h;exact KP.app _ _;done)|(cases h;done)
theorem bC8 (l:List D)(s:Sto):KR s (bd7 l s):=by
 intro a s' h
 unfold bd7 at h
 repeat' split at h
 all_goals first|(cases h;exact KP.app _ _;done)|(cases h;done)
theorem bk3 (f:List Nat)(x:D)(s:Sto):KR s (ah6 f x s):=by
 intro a s' h
 unfold ah6 at h
 repeat' split at h
 all_goals first|(cases h;exact KP.refl _;done)|(cases h;done)
theorem bA9 (x:D)(s:Sto):KR s (bp7 x s):=by
 intro a s' h
 unfold bp7 at h
 repeat' split at h
 all_goals first|(cases h;exact KP.refl _;done)|(cases h;done)
theorem bo8 (ok:String->Bool)(f:List Nat)(x v:D)(s:Sto):KR s (am4 ok f x v s):=by
 intro b s' h
 unfold am4 at h
 split at h
 .split at h
  .rename_i e
   split at h
   .cases h;exact KP.set e rfl
   .cases h
  .cases h
 .cases h
structure FK (F:Fns):Prop where
 call:∀ f l s,KR s (F.call f l s)
 lam:∀ id cs l s,KR s (F.lam id cs l s)
 xcall:∀ f l s c s',F.xcall f l s=some (c,s')->KP s s'
 mcall:∀ c m l s,KR s (F.mcall c m l s)
 new:∀ c l s,KR s (F.new c l s)
theorem at1 {ok:Sto->Bool}{g:D->Env->Sto->R (Option D×Env)}(hg:∀ d U s,KR s (g d U s)):∀(l:List D) (U:Env) (s:Sto),KR s (qH ok g l U s)
 | [],U,s=>KR.if KR.ok KR.bad
 | d::l,U,s=>KR.if (KR.bind (hg d U s) λ p s1=>KR.bind (at1 hg l p.2 s1) λ r s2=>KR.ok) KR.bad
section
variable {F:Fns} (hF:FK F)
theorem bC6 (U:Env)(i:Nat)(s:Sto):KR s (be6 U i s):=by
 intro a s' h
 unfold be6 at h
 split at h<;>cases h;exact KP.refl _
include hF
mutual
theorem zg:∀(e:E) (U:Env) (s:Sto),KR s (ev F e U s)
 | .var i,U,s=>bC6 U i s
 | .cst c,U,s=>KR.ok
 | .glob x,U,s=>by
  intro a s' h
  change(match F.con x with|some d=>R.ok d s|none=>.bad)=_ at h
  split at h<;>cases h;exact KP.refl _
 | .bin op a b,U,s=>KR.bind (zg a U s) λ x s=>KR.bind (zg b U s) λ y s=>bg6 op x y s
 | .not a,U,s=>KR.tru (zg a U s) λ b s=>KR.ok
 | .cmp op a b,U,s=>KR.bind (zg a U s) λ x s=>KR.bind (zg b U s) λ y s=>bS9 op x y s
 | .isN a,U,s=>KR.bind (zg a U s) λ x s=>KR.ok
 | .notN a,U,s=>KR.bind (zg a U s) λ x s=>KR.ok
 | .and a b,U,s=>KR.tru (zg a U s) λ c s=>KR.if (KR.tru (zg b U s) λ c s=>KR.ok) KR.ok
 | .or a b,U,s=>KR.tru (zg a U s) λ c s=>KR.if KR.ok (KR.tru (zg b U s) λ c s=>KR.ok)
 | .ite c a b,U,s=>KR.tru (zg c U s) λ k s=>KR.if (zg a U s) (zg b U s)
 | .tup es,U,s=>KR.bind (an0 es U s) λ l s=>KR.ok
 | .lst es,U,s=>KR.bind (an0 es U s) λ l s=>KR.al
 | .dic .nil .nil,U,s=>KR.al
 | .dic (.cons k .nil) (.cons v .nil),U,s=>by
  intro a s' h
  obtain⟨kd,s1,e1,h⟩:=R.bind_inv (show(ev F k U (s++[.dic []])).bind _=_ from h)
  obtain⟨G,s2,e2,h⟩:=R.bind_inv h
  split at h
  case isFalse=>cases h
  rename_i hc
  cases h
  exact((KP.app _ _).trans ((zg k U _ _ _ e1).trans (zg v U _ _ _ e2))).trans (KP.set hc.2 rfl)
 | .dic .nil (.cons _ _),U,s=>KR.bad
 | .dic (.cons _ .nil) .nil,U,s=>KR.bad
 | .dic (.cons _ .nil) (.cons _ (.cons _ _)),U,s=>KR.bad
 | .dic (.cons _ (.cons _ _)) _,U,s=>KR.bad
 | .bitl a,U,s=>KR.bind (zg a U s) λ x s=>by
  intro a s' h
  unfold aO0 at h
  repeat' split at h
  all_goals first|(cases h;exact KP.refl _;done)|(cases h;done)
 | .attr o f,U,s=>KR.bind (zg o U s) λ x s=>bk3 f x s
 | .keysL e,U,s=>KR.bind (zg e U s) λ x s=>aX9 x s
 | .srt e,U,s=>KR.bind (zg e U s) λ x s=>KR.bind (bH3 x s) λ q s=>bC8 q s
 | .new c as,U,s=>KR.bind (ai1 as U s) λ l s=>by
  intro a s' h
  obtain⟨d,s1,e1,h⟩:=R.bind_inv h
  split at h<;>cases h
  exact(KP.app _ _).trans (hF.new _ _ _ _ _ e1)
 | .mcall o m as,U,s=>KR.bind (zg o U s) λ x s=>KR.bind (bA9 x s) λ c s=>KR.bind (ai1 as U s) λ l s=>hF.mcall c m _ s
 | .get1 o k,U,s=>KR.bind (zg o U s) λ x s=>KR.bind (zg k U s) λ y s=>bn7 x y s
 | .ix a b,U,s=>KR.bind (zg a U s) λ x s=>KR.bind (zg b U s) λ y s=>cb2 x y s
 | .slL a lo,U,s=>KR.bind (zg a U s) λ x s=>KR.bind (zg lo U s) λ y s=>by
  cases y with
  | int i=>exact bB8 _ _ _ _
  | _=>exact KR.bad
 | .slU a hi,U,s=>KR.bind (zg a U s) λ x s=>KR.bind (zg hi U s) λ y s=>by
  cases y with
  | int i=>exact bB8 _ _ _ _
  | _=>exact KR.bad
 | .slLU a lo hi,U,s=>KR.bind (zg a U s) λ x s=>KR.bind (zg lo U s) λ y s=>by
  cases y with
  | int i =>
   refine KR.bind (zg hi U s) λ z s=>?_
   cases z with
   | int j=>exact bB8 _ _ _ _
   | _=>exact KR.bad
  | _=>exact KR.bad
 | .call f as,U,s=>KR.bind (ai1 as U s) λ l s=>hF.call f l s
 | .bi b es,U,s=>KR.bind (an0 es U s) λ l s=>cf1 b l s
 | .mk k it,U,s=>KR.bind (bJ7 it U s) λ q s=>ca6 k q s
 | .meth m o es,U,s=>KR.bind (zg o U s) λ x s=>KR.bind (an0 es U s) λ l s=>bv4 m x l s
 | .join o e,U,s=>KR.bind (zg o U s) λ x s=>KR.bind (zg e U s) λ y s=>bx0 x y s
theorem an0:∀(es:Es) (U:Env) (s:Sto),KR s (evs F es U s)
 | .nil,U,s=>KR.ok
 | .cons e es,U,s=>KR.bind (zg e U s) λ d s=>KR.bind (an0 es U s) λ l s=>KR.ok
theorem ai1:∀(h:As) (U:Env) (s:Sto),KR s (aj5 F h U s)
 | .nil,U,s=>KR.ok
 | .ex e h,U,s=>KR.bind (zg e U s) λ d s=>KR.bind (ai1 h U s) λ l s=>KR.ok
 | .fn f h,U,s=>KR.bind (ai1 h U s) λ l s=>KR.ok
theorem ax4:∀(it:I) (U:Env) (s:Sto),KR s (evI F it U s)
 | .seq e,U,s=>KR.bind (zg e U s) λ d s=>bG7 d s
 | .rng1 a,U,s=>KR.bind (zg a U s) λ x s=>by
  cases x with
  | int i=>exact KR.if KR.ok KR.bad
  | _=>exact KR.bad
 | .rng2 a b,U,s=>KR.bind (zg a U s) λ x s=>KR.bind (zg b U s) λ y s=>by
  cases x with
  | int i=>(cases y with
   | int j=>exact KR.if KR.ok KR.bad
   | _=>exact KR.bad)
  | _=>exact KR.bad
 | .rngD a,U,s=>KR.bind (zg a U s) λ x s=>by
  cases x with
  | int i=>exact KR.if KR.ok KR.bad
  | _=>exact KR.bad
 | .keys e,U,s=>KR.bind (zg e U s) λ d s=>bi7 d s
theorem bJ7:∀(it:L) (U:Env) (s:Sto),KR s (evL F it U s)
 | .comp tg it e caps,U,s=>KR.bind (ax4 it U s) λ q s0=>KR.if (at1 (λ d U s=>by
   intro a s' h
   split at h
   .exact KR.bind (zg e _ s) (λ v s=>KR.ok) _ _ h
   .cases h) _ _ _) KR.bad
 | .compIf tg it c e caps,U,s=>KR.bind (ax4 it U s) λ q s0=>KR.if (at1 (λ d U s=>by
   intro a s' h
   split at h
   .exact KR.tru (zg c _ s) (λ k s=>KR.if (KR.bind (zg e _ s) λ v s=>KR.ok) KR.ok) _ _ h
   .cases h) _ _ _) KR.bad
 | .disp es,U,s=>an0 es U s
 | .seq e,U,s=>KR.bind (zg e U s) λ d s=>bv0 d s
end
theorem at4 {ok:Sto->Bool}{g:D->Env->Sto->R Ct}(hg:∀ d U s,KR s (g d U s)):∀(l:List D) (U:Env) (s:Sto),KR s (aD0 ok g l U s)
 | [],U,s=>KR.if KR.ok KR.bad
 | d::l,U,s=>KR.if (KR.bind (hg d U s) λ c s=>by
   cases c with
   | next U=>exact at4 hg l U s
   | cont U=>exact at4 hg l U s
   | brk U=>exact KR.ok
   | ret d=>exact KR.ok) KR.bad
theorem aE8 {c:Env->Sto->R D}{g:Env->Sto->R Ct}(hc:∀ U s,KR s (c U s))(hg:∀ U s,KR s (g U s)):∀(n:Nat) (U:Env) (s:Sto),KR s (qJ c g n U s)
 | 0,U,s=>KR.bad
 | n+1,U,s=>KR.tru (hc U s) λ b s=>KR.if (KR.bind (hg U s) λ h s=>by
   cases h with
   | next U=>exact aE8 hc hg n U s
   | cont U=>exact aE8 hc hg n U s
   | brk U=>exact KR.ok
   | ret d=>exact KR.ok) KR.ok
mutual
theorem bR2:∀(st:S) (U:Env) (s:Sto),KR s (ex F st U s)
 | .asg tg e,U,s=>KR.bind (zg hF e U s) λ d s=>by
  intro a s' h
  split at h<;>cases h;exact KP.refl _
 | .setIx o i e,U,s=>KR.bind (zg hF e U s) λ d s=>KR.bind (zg hF o U s) λ x s=>KR.bind (zg hF i U s) λ y s=>KR.bind (bm5 x y d s) λ _ s=>KR.ok
 | .ex e,U,s=>KR.bind (zg hF e U s) λ d s=>KR.ok
 | .ret e,U,s=>KR.bind (zg hF e U s) λ d s=>KR.ok
 | .ite c a b,U,s=>KR.tru (zg hF c U s) λ k s=>KR.if (ad3 a U s) (ad3 b U s)
 | .setA o f e,U,s=>KR.bind (zg hF e U s) λ d s=>KR.bind (zg hF o U s) λ x s=>KR.bind (bo8 _ f x d s) λ _ s=>KR.ok
 | .forK tg e b,U,s=>KR.bind (ax4 hF (.keys e) U s) λ q s0=>KR.if (KR.bind (at4 hF (λ d U s=>by
   intro a s' h
   split at h
   .exact ad3 b _ _ _ _ h
   .cases h) _ _ _) λ c s=>bg9 _ c s) KR.bad
 | .whl c b,U,s=>by
  intro r s' h
  change whl (ev F c) (exs F b) U s=_ at h
  unfold whl at h
  split at h
  .exact aE8 hF (λ U s=>zg hF c U s) (λ U s=>ad3 b U s) _ U s _ _ h
  .cases h
 | .for_ tg it b,U,s=>KR.bind (ax4 hF it U s) λ q s0=>at4 hF (λ d U s=>by
   intro a s' h
   split at h
   .exact ad3 b _ _ _ _ h
   .cases h) _ _ _
theorem ad3:∀(h:Ss) (U:Env) (s:Sto),KR s (exs F h U s)
 | .nil,U,s=>KR.ok
 | .cons st h,U,s=>KR.bind (bR2 st U s) λ c s=>by
  cases c with
  | next U=>exact ad3 h U s
  | _=>exact KR.ok
end
end
theorem zA {s st:Sto}{d:D}(h:KP s st):KR s (zm s d st):=by
 have tk:∀ t,KP s (st.take s.length++t):=λ t i o e=>by
  obtain⟨F,e',k⟩:=h i o e
  have J:=(ac.mp e).1
  have G:=(ac.mp e').1
  refine⟨F,?_,k⟩
  rw[au (by rw[bB];lia),fe,if_pos J];exact e'
 have z:KP s (st.take s.length):=by have:=tk [];rwa [aK]at this
 intro a s' e
 unfold zm at e
 repeat' split at e
 all_goals first|(cases e;exact z;done)|(cases e;exact tk _;done)|(cases e;exact h;done)|(cases e;done)
theorem ar8 {ok:Sto->Bool}{g:D->Env->Sto->R Ct}{z:D->Env->Sto->Option (String×Sto)}(hg:∀ d U s,KR s (g d U s))(hx:∀ d U s c s',z d U s=some (c,s')->KP s s'):∀(l:List D) (U:Env) (s:Sto) (c:String) (s':Sto),aO5 ok g z l U s=some (c,s')->KP s s'
 | [],U,s,c,s',h=>by cases h
 | d::l,U,s,c,s',h=>by
  unfold aO5 at h
  split at h
  .split at h
   .rename_i e;exact(hg d U s _ _ e).trans (ar8 hg hx l _ _ _ _ h)
   .rename_i e;exact(hg d U s _ _ e).trans (ar8 hg hx l _ _ _ _ h)
   .cases h
   .exact hx _ _ _ _ _ h
  .cases h
theorem av0 {t:Env->Sto->R D}{g:Env->Sto->R Ct}{z:Env->Sto->Option (String×Sto)}(ht:∀ U s,KR s (t U s))(hg:∀ U s,KR s (g U s))(hx:∀ U s c s',z U s=some (c,s')->KP s s'):∀(n:Nat) (U:Env) (s:Sto) (c:String) (s':Sto),aR3 t g z n U s=some (c,s')->KP s s'
 | 0,U,s,c,s',h=>by cases h
 | n+1,U,s,c,s',h=>by
  unfold aR3 at h
  split at h
  .rename_i s1 e1
   have k:=ht U s _ _ e1
   split at h
   .rename_i e;exact k.trans ((hg U s1 _ _ e).trans (av0 ht hg hx n _ _ _ _ h))
   .rename_i e;exact k.trans ((hg U s1 _ _ e).trans (av0 ht hg hx n _ _ _ _ h))
   .cases h
   .exact k.trans (hx _ _ _ _ h)
  .cases h
theorem ao1 {F:Fns}(z:FK F):∀(b:XB) (U:Env) (s:Sto) (c:String) (s':Sto),xB F b U s=some (c,s')->KP s s'
 | .no,U,s,c,s',h=>by cases h
 | .alt a b,U,s,c,s',h=>by
  change(match xB F a U s with|some r=>some r|none=>xB F b U s)=_ at h
  split at h
  .rename_i r e
   cases h
   exact ao1 z a _ _ _ _ e
  .exact ao1 z b _ _ _ _ h
 | .rais d,U,s,c,s',h=>by
  change(if F.xc d=true then some (d,s)else none)=_ at h
  split at h
  .cases h;exact KP.refl _
  .cases h
 | .call f as,U,s,c,s',h=>by
  change(match aj5 F as U s with|.ok l s1=>F.xcall f l s1|_=>none)=_ at h
  split at h
  .rename_i l s1 e;exact(ai1 z as U s _ _ e).trans (z.xcall _ _ _ _ _ h)
  .cases h
 | .iteT d a r,U,s,c,s',h=>by
  change(match ev F d U s with|.ok (.bl b) s1=>if b then xB F a U s1 else xB F r U s1|_=>none)=_ at h
  split at h
  .rename_i b s1 e
   have k:=zg z d U s _ _ e
   split at h
   .exact k.trans (ao1 z a _ _ _ _ h)
   .exact k.trans (ao1 z r _ _ _ _ h)
  .cases h
 | .seq st b,U,s,c,s',h=>by
  change(match ex F st U s with|.ok (.next U1) s1=>xB F b U1 s1|_=>none)=_ at h
  split at h
  .rename_i U1 s1 e;exact(bR2 z st U s _ _ e).trans (ao1 z b _ _ _ _ h)
  .cases h
 | .iteE d a r,U,s,c,s',h=>by
  change(match ev F d U s with|.ok (.bl b) s1=>if b then xB F a U s1 else xB F r U s1|_=>none)=_ at h
  split at h
  .rename_i b s1 e
   have k:=zg z d U s _ _ e
   split at h
   .exact k.trans (ao1 z a _ _ _ _ h)
   .exact k.trans (ao1 z r _ _ _ _ h)
  .cases h
 | .forX tg it b x,U,s,c,s',h=>by
  change(match evI F it U s with
   | .ok q s0=>aO5 (λ s=>chk s0 s q.src) (λ d U s=>match qG U tg d with
    | some U=>exs F b U s
    | none=>.bad) (λ d U s=>match qG U tg d with
    | some U=>xB F x U s
    | none=>none) q.its U s0
   | _=>none)=_ at h
  split at h
  .rename_i q s0 e
   refine(ax4 z it U s _ _ e).trans (ar8 ?_ ?_ _ _ _ _ _ h)
   .intro d U s
    split
    .exact ad3 z _ _ _
    .exact KR.bad
   .intro d U s c s' h
    split at h
    .exact ao1 z x _ _ _ _ h
    .cases h
  .cases h
 | .whlX d b x,U,s,c,s',h=>by
  change whlX (ev F d) (exs F b) (xB F x) U s=_ at h
  unfold whlX at h
  split at h
  .exact av0 (zg z d) (ad3 z b) (λ U s c s' h=>ao1 z x _ _ _ _ h) _ _ _ _ _ h
  .cases h
theorem bN1 {h:Hd}{c:String}{s st:Sto}(k:KP s st):KR s (h.out c s st):=by
 unfold Hd.out
 split
 .exact zA (k.trans (KP.app _ _))
 .split
  .exact zA (k.trans (KP.app _ _))
  .exact zA k
  .exact zA k
theorem bg8 {F:Fns}(z:FK F)(d:Tf){s s0:Sto}(G:KP s s0)(U0:Env):KR s (bG4 F d s U0 s0):=by
 intro a s' h
 unfold bG4 at h
 split at h
 .rename_i c s1 e
  have k:=G.trans (ao1 z _ _ _ _ _ e)
  split at h
  .exact bN1 k _ _ h
  .cases h
 .obtain⟨c,s1,e1,h⟩:=R.bind_inv h
  have k1:=G.trans (ad3 z _ _ _ _ _ e1)
  cases c with
  | ret v=>exact zA k1 _ _ h
  | next U =>
   obtain⟨c,s2,e2,h⟩:=R.bind_inv h
   have k2:=k1.trans (ad3 z _ _ _ _ _ e2)
   cases c with
   | ret v=>exact zA k2 _ _ h
   | next U=>exact zA k2 _ _ h
   | _=>cases h
  | _=>cases h
theorem bI2 {F:Fns}(z:FK F)(d:Tf)(l:List D)(s:Sto):KR s (cg3 F d l s):=by
 intro a s' h
 unfold cg3 at h
 split at h
 .rename_i U0 s0 e
  exact bg8 z d (ad3 z _ _ _ _ _ e) U0 _ _ h
 .cases h
theorem qA (P:Pr):∀ n,FK (aa1 P n)
 | 0=>⟨λ _ _ _=>KR.bad,λ _ _ _ _=>KR.bad,λ _ _ _ _ _ h=>(by cases h),λ _ _ _ _=>KR.bad,λ _ _ _=>KR.bad⟩
 | n+1=>by
  refine⟨λ f l s=>?_,λ id z l s=>?_,λ f l s c s' h=>?_,λ c m l s=>?_,λ c l s=>(qA P n).mcall c _ l s⟩
  .intro a s' h
   unfold aa1 at h
   simp only at h
   split at h
   case h_2 =>
    split at h
    case h_2=>cases h
    split at h
    case isFalse=>cases h
    exact bI2 (qA P n) _ _ _ _ _ h
   split at h
   case isFalse=>cases h
   obtain⟨c,s1,e1,h⟩:=R.bind_inv h
   have k1:=ad3 (qA P n) _ _ _ _ _ e1
   cases c with
   | ret v=>exact zA k1 _ _ h
   | next U=>exact zA k1 _ _ h
   | _=>cases h
  .intro a s' h
   unfold aa1 at h
   simp only at h
   split at h
   case h_2=>cases h
   split at h
   case isFalse=>cases h
   obtain⟨v,s1,e1,h⟩:=R.bind_inv h
   exact zA (zg (qA P n) _ _ _ _ _ e1) _ _ h
  .unfold aa1 at h
   simp only at h
   split at h
   case h_2=>cases h
   split at h
   case isFalse=>cases h
   exact ao1 (qA P n) _ _ _ _ _ h
  .intro a s' h
   unfold aa1 at h
   simp only at h
   split at h
   case h_2=>cases h
   unfold be4 at h
   split at h
   case isFalse=>cases h
   obtain⟨c,s1,e1,h⟩:=R.bind_inv h
   have k1:=ad3 (qA P n) _ _ _ _ _ e1
   cases c with
   | ret v=>exact zA k1 _ _ h
   | next U=>exact zA k1 _ _ h
   | _=>cases h
end DV
end
open DV renaming Sto->kB,D->kC,Env->kD,ev->kF,R->kG,LIM->kJ,aa1->kK,eqv->kL,tru->kM,Fns->kN,DEEP->kO,ad8->kP,Pr->kQ,look->kR,eqL->kS,rep->kT,kd->kU,ac9->kW,Es->kX,O->kY,aj3->kZ,evs->k6,qG->k7,Df->k8,ap7->lb,chk->lf,Tg->lh,Ct->li,aj5->lj,ac8->ln,an9->lp,Bi->lq,ql->lr,aR7->ls,sbd->lu,ae1->lv,Ww62->lw,E->lx,loB->ly,ac5->lz,inL->lA,ixn->lB,ae0->lC,be4->lD,Sq->lE,As->lF,M->lG,aD3->lH,ad0->lI,aK3->lJ,mk->lK,qd->lL,hiB->lM,slM->lN,ak9->lO,aD0->lP,meth->lQ,evI->lR,ins->lS,bi->lT,qH->lU,Mk->lV,Mt->lW,aU4->lX,COp->lY,pur->lZ,inM->l7,bi1->l8,BOp->l9,isK->mn,as6->mq,au8->mr,bY8->mw,aP4->my,aw6->mz,ah6->mB,am4->mD,ag0->mF,at8->mG,bd7->mH
open DV.D renaming bndL->kE,bnd->kI,hdI->k9
open DV.O renaming bnd->kH
noncomputable section
namespace L2
theorem fb {α:Type}{d:α}{s:kB}{p:Prop}(h:(DV.R.bad:kG α)=.ok d s):p:=nomatch h
open PySem PySem.Spec PyProof.Rows
structure LamI where
 qual:Str
 params:dj
 body:Expr
 scope:Scope
 ps:List Str
 fr:List Str
 nm:Option (Str×Pos)
def az7 (H:Hp)(f:Addr)(J:LamI)(cap:List V)(clos:yB):Prop:=match J.nm with
 | none=>aU6 H f J.qual J.params J.body J.scope J.fr cap clos
 | some p=>az0 H f p.1 J.qual J.params [.Return (some J.body) p.2] J.scope J.fr cap clos
def ay6 (H:Hp)(f:Addr)(J:LamI)(clos:yB):Prop:=match J.nm with
 | none=>∃ pm c' ctv,H f=some (bI6 f (jK "<lambda>" J.qual J.params J.body J.scope clos pm (.ref c') ctv))/\H c'=some (aP2 c' J.qual)
 | some p=>∃ doc pm c' ctv,H f=some (bI6 f (ku p.1 J.qual J.params [.Return (some J.body) p.2] J.scope clos .none .none doc pm none (.ref c') ctv))/\H c'=some (aP2 c' J.qual)
structure Gm where
 K:ae
 fa:String->Option Addr
 lg:String->LamI->Prop
 T:List (Addr×Str)
 cls:String->Option Addr
variable (Γ:Gm)
mutual
noncomputable def RV (C:Nat->Addr)(H:Hp):kC->V->Prop
 | .non,v=>v=.non
 | .bl b,v=>v=.bl b
 | .int i,v=>v=.int i
 | .str x,v=>v=.str ⟨x.toArray⟩/\x.length<=kJ
 | .tup l,v=>∃ a xs,v=.ref a/\(SqT Γ.K H a xs/\(k9 l=true->H a=some (.tup xs)))/\RVL C H l xs
 | .ref n,v=>v=.ref (C n)
 | .fn f,v=>∃ a,Γ.fa f=some a/\v=.ref a
 | .clo id cs,v=>∃ f cap J clos,v=.ref f/\Γ.lg id J/\az7 H f J cap clos/\cap.length=J.fr.length/\RVL C H cs cap
noncomputable def RVL (C:Nat->Addr)(H:Hp):List kC->List V->Prop
 | [],xs=>xs=[]
 | d::l,xs=>∃ x r,xs=x::r/\RV C H d x/\RVL C H l r
end
noncomputable def bK2:HO->Bool
 | .tup _=>true
 | .frz _ (.dK _)=>false
 | .frz _ _=>true
 | .ext _=>true
 | _=>false
def Kp (H H':Hp):Prop:=∀ b o,H b=some o->bK2 o=true->H' b=some o
theorem Kp.refl (H:Hp):Kp H H:=λ _ _ h _=>h
theorem Kp.trans {H F z:Hp}(a:Kp H F)(b:Kp F z):Kp H z:=λ c o h f=>b c o (a c o h f) f
theorem Kp.new {H z:Hp}{p:Addr}{o:HO}(a:Kp H z)(h:z p=none):Kp H (upd z p o):=λ c u e f=>by
 have e1:=a c u e f
 rw[ze (zt e1 h)];exact e1
theorem Kp.put {H F:Hp}{p:Addr}{o u:HO}(a:Kp H F)(h:F p=some u)(hu:bK2 u=false):Kp H (upd F p o):=λ c v e f=>by
 have e1:=a c v e f
 rw[ze (λ z=>by subst z;rw[h]at e1;cases e1;rw[hu]at f;cases f)];exact e1
theorem Kp.sqT {K:ae}{H H':Hp}{a:Addr}{z:List V}(e:Kp H H')(h:SqT K H a z):SqT K H' a z:=by
 rcases h with(h|⟨o,h⟩)|h
 .exact .inl (.inl (e _ _ h rfl))
 .exact .inl (.inr ⟨o,e _ _ h rfl⟩)
 .exact .inr h
theorem aU6.kp {H H':Hp}{f:Addr}{qual:Str}{params:dj}{body:Expr}{scope:Scope}{fr:yH}{cap:List V}{F:yB}(h:aU6 H f qual params body scope fr cap F)(e:Kp H H'):aU6 H' f qual params body scope fr cap F:=by
 obtain⟨J,c',G,h1,h2,h3,h4,Y,Z⟩:=h
 refine⟨J,c',G,e _ _ h1 rfl,e _ _ h2 rfl,λ x c q=>?_,h4,Y,λ i x v a b=>?_⟩
 .obtain⟨o,v,z,d⟩:=h3 x c q
  exact⟨o,v,e _ _ z rfl,d⟩
 .obtain⟨c,o,u,z1,z2,z3⟩:=Z i x v a b
  exact⟨c,o,u,z1,e _ _ z2 rfl,z3⟩
theorem az0.kp {H H':Hp}{f:Addr}{name qual:Str}{params:dj}{body:yL}{scope:Scope}{fr:yH}{cap:List V}{F:yB}(h:az0 H f name qual params body scope fr cap F)(e:Kp H H'):az0 H' f name qual params body scope fr cap F:=by
 obtain⟨J,Y,c',G,h1,h2,h3,h4,Z,h6⟩:=h
 refine⟨J,Y,c',G,e _ _ h1 rfl,e _ _ h2 rfl,λ x c q=>?_,h4,Z,λ i x v a b=>?_⟩
 .obtain⟨o,v,z,d⟩:=h3 x c q
  exact⟨o,v,e _ _ z rfl,d⟩
 .obtain⟨c,o,u,z1,z2,z3⟩:=h6 i x v a b
  exact⟨c,o,u,z1,e _ _ z2 rfl,z3⟩
theorem az7.kp {H H':Hp}{f:Addr}{J:LamI}{cap:List V}{z:yB}(h:az7 H f J cap z)(e:Kp H H'):az7 H' f J cap z:=by
 unfold az7 at h ⊢
 cases q:J.nm with
 | none=>rw[q]at h;exact aU6.kp h e
 | some p=>rw[q]at h;exact az0.kp h e
theorem ay6.kp {H H':Hp}{f:Addr}{J:LamI}{z:yB}(h:ay6 H f J z)(e:Kp H H'):ay6 H' f J z:=by
 unfold ay6 at h ⊢
 cases q:J.nm with
 | none =>
  rw[q]at h
  obtain⟨pm,c',F,G,Z⟩:=h
  exact⟨pm,c',F,e _ _ G rfl,e _ _ Z rfl⟩
 | some p =>
  rw[q]at h
  obtain⟨Y,pm,c',F,G,Z⟩:=h
  exact⟨Y,pm,c',F,e _ _ G rfl,e _ _ Z rfl⟩
theorem az7.fn {K:ae}{H:Hp}{f:Addr}{J:LamI}{cap:List V}{z:yB}(h:az7 H f J cap z):bY3 K H f:=by
 unfold az7 at h
 cases q:J.nm with
 | none=>rw[q]at h;obtain⟨Z,Y,G,F,_⟩:=h;exact .inl ⟨_,F⟩
 | some p=>rw[q]at h;exact az0.fn h
structure Gw (C:Nat->Addr)(n:Nat)(H:Hp)(C':Nat->Addr)(H':Hp):Prop where
 map:∀ i,i<n->C' i=C i
 kp:Kp H H'
variable {Γ:Gm}
mutual
theorem RV.monoW {C C':Nat->Addr}{n:Nat}{H H':Hp}(g:Gw C n H C' H'):∀(d:kC) (v:V),d.bnd n=true->RV Γ C H d v->RV Γ C' H' d v
 | .non,_,_,h=>by unfold RV at h ⊢;exact h
 | .bl _,_,_,h=>by unfold RV at h ⊢;exact h
 | .int _,_,_,h=>by unfold RV at h ⊢;exact h
 | .str _,_,_,h=>by unfold RV at h ⊢;exact h
 | .tup l,_,b,h=>by
  unfold RV at h ⊢
  unfold kI at b
  obtain⟨a,G,e,q,r⟩:=h
  exact⟨a,G,e,⟨g.kp.sqT q.1,λ z=>g.kp _ _ (q.2 z) rfl⟩,RVL.monoW g l G b r⟩
 | .ref k,_,b,h=>by
  unfold RV at h ⊢
  unfold kI at b
  rw[g.map k (of_decide_eq_true b)];exact h
 | .fn _,_,_,h=>by unfold RV at h ⊢;exact h
 | .clo id cs,_,b,h=>by
  unfold RV at h ⊢
  unfold kI at b
  obtain⟨f,cap,J,F,e,Y,h2,h3,Z⟩:=h
  exact⟨f,cap,J,F,e,Y,h2.kp g.kp,h3,RVL.monoW g cs cap b Z⟩
theorem RVL.monoW {C C':Nat->Addr}{n:Nat}{H H':Hp}(g:Gw C n H C' H'):∀(l:List kC) (z:List V),kE n l=true->RVL Γ C H l z->RVL Γ C' H' l z
 | [],_,_,h=>by unfold RVL at h ⊢;exact h
 | d::l,_,b,h=>by
  unfold RVL at h ⊢
  unfold kE at b
  rw[ak]at b
  obtain⟨x,r,e,q,t⟩:=h
  exact⟨x,r,e,RV.monoW g d x b.1 q,RVL.monoW g l r b.2 t⟩
end
mutual
theorem zl {n m:Nat}(h:n<=m):∀ d:kC,d.bnd n=true->d.bnd m=true
 | .non,_=>rfl
 | .bl _,_=>rfl
 | .int _,_=>rfl
 | .str _,_=>rfl
 | .tup l,b=>by unfold kI at b ⊢;exact aa9 h l b
 | .ref k,b=>by unfold kI at b ⊢;exact decide_eq_true (aA (of_decide_eq_true b) h)
 | .fn _,_=>rfl
 | .clo _ l,b=>by unfold kI at b ⊢;exact aa9 h l b
theorem aa9 {n m:Nat}(h:n<=m):∀ l:List kC,kE n l=true->kE m l=true
 | [],_=>rfl
 | d::l,b=>by
  unfold kE at b ⊢
  rw[ak]at b ⊢
  exact⟨zl h d b.1,aa9 h l b.2⟩
end
theorem aa6 {n:Nat}:∀ {l:List kC},kE n l=true↔∀ d∈l,d.bnd n=true
 | []=>by unfold kE;simp
 | d::l=>by
  unfold kE
  rw[ak,aa6 (l:=l)]
  simp
theorem zV {n:Nat}{l m:List kC}(h:kE n l=true)(h':kE n m=true):kE n (l++m)=true :=
 aa6.mpr λ d hd=>(aO.mp hd).elim (aa6.mp h d) (aa6.mp h' d)
theorem at5 {n:Nat}{l m:List kC}(h:kE n l=true)(s:∀ d∈m,d∈l):kE n m=true:=aa6.mpr λ d hd=>aa6.mp h d (s d hd)
theorem ar5 {n:Nat}{l:List kC}{i:Nat}{d:kC}(h:kE n l=true)(e:l[i]?=some d):d.bnd n=true:=aa6.mp h d (be e)
section
variable {C:Nat->Addr} {H:Hp}
theorem RVL.nil:RVL Γ C H [] []:=by unfold RVL;rfl
theorem RVL.cons {d:kC}{l:List kC}{x:V}{h:List V}(a:RV Γ C H d x)(b:RVL Γ C H l h):RVL Γ C H (d::l) (x::h):=by unfold RVL;exact⟨x,h,rfl,a,b⟩
theorem RVL.unnil {z:List V}(h:RVL Γ C H [] z):z=[]:=by unfold RVL at h;exact h
theorem RVL.uncons {d:kC}{l:List kC}{z:List V}(h:RVL Γ C H (d::l) z):∃ x r,z=x::r/\RV Γ C H d x/\RVL Γ C H l r:=by unfold RVL at h;exact h
theorem RVL.length:∀ {l:List kC} {z:List V},RVL Γ C H l z->z.length=l.length
 | [],_,h=>by rw[h.unnil];rfl
 | d::l,_,h=>by
  obtain⟨x,r,rfl,_,t⟩:=h.uncons
  rw[aR,aR,RVL.length t]
theorem RVL.get:∀ {l:List kC} {z:List V} {i:Nat} {d:kC},RVL Γ C H l z->l[i]?=some d->∃ x,z[i]?=some x/\RV Γ C H d x
 | [],_,_,_,_,e=>by simp at e
 | d::l,_,0,d',h,e=>by
  obtain⟨x,r,rfl,q,t⟩:=h.uncons
  have e':d=d':=by simpa using e
  subst e'
  exact⟨x,rfl,q⟩
 | d::l,_,i+1,_,h,e=>by
  obtain⟨x,r,rfl,q,t⟩:=h.uncons
  obtain⟨y,e1,e2⟩:=RVL.get (i:=i) t (by simpa using e)
  exact⟨y,by simpa using e1,e2⟩
theorem RVL.append:∀ {l m:List kC} {z ys:List V},RVL Γ C H l z->RVL Γ C H m ys->RVL Γ C H (l++m) (z++ys)
 | [],_,_,_,h,h'=>by rw[h.unnil];exact h'
 | d::l,_,_,_,h,h'=>by
  obtain⟨x,r,rfl,q,t⟩:=h.uncons
  exact .cons q (RVL.append t h')
theorem RVL.drop:∀ {l:List kC} {z:List V} (n:Nat),RVL Γ C H l z->RVL Γ C H (l.drop n) (z.drop n)
 | _,_,0,h=>h
 | [],_,n+1,h=>by rw[h.unnil];exact .nil
 | d::l,_,n+1,h=>by
  obtain⟨x,r,rfl,q,t⟩:=h.uncons
  exact RVL.drop n t
theorem RVL.take:∀ {l:List kC} {z:List V} (n:Nat),RVL Γ C H l z->RVL Γ C H (l.take n) (z.take n)
 | _,_,0,h=>.nil
 | [],_,n+1,h=>by rw[h.unnil];exact .nil
 | d::l,_,n+1,h=>by
  obtain⟨x,r,rfl,q,t⟩:=h.uncons
  exact .cons q (RVL.take n t)
theorem RVL.set:∀ {l:List kC} {z:List V} {d:kC} {x:V} (i:Nat),RVL Γ C H l z->RV Γ C H d x->RVL Γ C H (l.set i d) (z.set i x)
 | [],_,_,_,_,h,_=>by rw[h.unnil];exact .nil
 | d::l,_,_,_,0,h,q=>by
  obtain⟨x,r,rfl,_,t⟩:=h.uncons
  exact .cons q t
 | d::l,_,_,_,i+1,h,q=>by
  obtain⟨x,r,rfl,q',t⟩:=h.uncons
  exact .cons q' (RVL.set i t q)
theorem RVL.reverse:∀ {l:List kC} {z:List V},RVL Γ C H l z->RVL Γ C H l.reverse z.reverse
 | [],_,h=>by rw[h.unnil];exact .nil
 | d::l,_,h=>by
  obtain⟨x,r,rfl,q,t⟩:=h.uncons
  rw[dR,dR]
  exact(RVL.reverse t).append (.cons q .nil)
theorem RV.intE {i:Int}{v:V}(h:RV Γ C H (.int i) v):v=.int i:=by unfold RV at h;exact h
theorem RV.blE {i:Bool}{v:V}(h:RV Γ C H (.bl i) v):v=.bl i:=by unfold RV at h;exact h
theorem RV.nonE {v:V}(h:RV Γ C H .non v):v=.non:=by unfold RV at h;exact h
theorem RV.strE {x:List Nat}{v:V}(h:RV Γ C H (.str x) v):v=.str ⟨x.toArray⟩:=by unfold RV at h;exact h.1
theorem RV.strL {x:List Nat}{v:V}(h:RV Γ C H (.str x) v):x.length<=kJ:=by unfold RV at h;exact h.2
theorem RV.tupE {l:List kC}{v:V}(h:RV Γ C H (.tup l) v):∃ a z,v=.ref a/\SqT Γ.K H a z/\RVL Γ C H l z:=by unfold RV at h;obtain⟨a,z,e,q,r⟩:=h;exact⟨a,z,e,q.1,r⟩
theorem RV.tupZ {l:List kC}{v:V}(h:RV Γ C H (.tup l) v):∃ a z,(v=.ref a/\(k9 l=true->H a=some (.tup z)))/\SqT Γ.K H a z/\RVL Γ C H l z:=by unfold RV at h;obtain⟨a,z,e,q,r⟩:=h;exact⟨a,z,⟨e,q.2⟩,q.1,r⟩
theorem RVL.tonil {l:List kC}(h:RVL Γ C H l []):l=[]:=cO.mp h.length.symm
theorem RV.refE {n:Nat}{v:V}(h:RV Γ C H (.ref n) v):v=.ref (C n):=by unfold RV at h;exact h
theorem RV.intI {i:Int}:RV Γ C H (.int i) (.int i):=by unfold RV;rfl
theorem RV.blI {i:Bool}:RV Γ C H (.bl i) (.bl i):=by unfold RV;rfl
theorem RV.nonI:RV Γ C H .non .non:=by unfold RV;rfl
theorem RV.strI {x:List Nat}(h:x.length<=kJ):RV Γ C H (.str x) (.str ⟨x.toArray⟩):=by unfold RV;exact⟨rfl,h⟩
theorem RV.tupI {l:List kC}{a:Addr}{z:List V}(h:H a=some (.tup z))(q:RVL Γ C H l z):RV Γ C H (.tup l) (.ref a):=by unfold RV;exact⟨a,z,rfl,⟨SqT.of h,λ _=>h⟩,q⟩
theorem RV.tupC {l:List kC}{a:Addr}{F:List V}(h:SqT Γ.K H a F)(z:k9 l=true->H a=some (.tup F))(q:RVL Γ C H l F):RV Γ C H (.tup l) (.ref a):=by unfold RV;exact⟨a,F,rfl,⟨h,z⟩,q⟩
theorem RV.refI {n:Nat}:RV Γ C H (.ref n) (.ref (C n)):=by unfold RV;rfl
end
theorem bz5 {n:Nat}{l:List kC}(h:k9 (ls n l)=true):k9 l=true:=by
 cases n with
 | zero=>cases h
 | succ n =>
  cases l with
  | nil => 
   have:∀ k,ls k ([]:List kC)=[]:=λ k=>by
    induction k with
    | zero=>rfl
    | succ k ih=>show[]++ls k []=[];rw[ih];rfl
   rw[this]at h;cases h
  | cons a l =>
   have e:ls (n+1) (a::l)=a::(l++ls n (a::l)):=rfl
   rw[e]at h
   cases a with
   | int _=>rfl
   | non=>rfl
   | tup _=>rfl
   | _=>cases h
theorem ba1 {α:Type}{l:List α}{F G:Option Int}(h:(kZ l F G).length=l.length):kZ l F G=l:=by
 unfold kZ at h ⊢
 rw[bB,cq]at h
 by_cases z:l=[]
 .subst z;simp
 .have J:=g6.mpr z
  have e1:ly l.length F=0:=by lia
  rw[e1]at h ⊢
  rw[gJ]
  exact dT (by lia)
def SqF (K:ae)(H:Hp)(a:Addr)(xs:List V):Prop:=SqL K H a xs/\∀ H',Kp H H'->SqL K H' a xs
noncomputable def al4:kC->Option Key
 | .int i=>some (.inl i)
 | .str x=>some (.inr ⟨x.toArray⟩)
 | _=>none
noncomputable def RVD {κ:Type}(kf:kC->Option κ)(Γ:Gm)(C:Nat->Addr)(H:Hp):List (kC×kC)->List (κ×V)->Prop
 | [],kvs=>kvs=[]
 | (d,e)::l,kvs=>∃ k v r,kvs=(k,v)::r/\kf d=some k/\RV Γ C H e v/\RVD kf Γ C H l r
noncomputable def bR8:kC->Option Str
 | .str x=>some ⟨x.toArray⟩
 | _=>none
variable (Γ)
noncomputable def RO (C:Nat->Addr)(H:Hp)(a:Addr):kY->Prop
 | .lst l=>∃ xs,H a=some (.lst xs)/\RVL Γ C H l xs
 | .ro l=>∃ xs,SqF Γ.K H a xs/\RVL Γ C H l xs
 | .dic l=>∃ kvs,H a=some (.dK kvs)/\RVD al4 Γ C H l kvs
 | .dicF l=>∃ o kvs,H a=some (.frz o (.dK kvs))/\RVD al4 Γ C H l kvs
 | .ins c l=>∃ Cc dx gs,(Γ.cls c=some Cc/\Cls Γ.K Cc)/\(∀ p∈gs,NoAttr Γ.K Cc p.1)/\H a=some (.ins Cc dx gs)/\RVD bR8 Γ C H l gs
noncomputable abbrev okd:kY->Nat:=DV.O.kd
noncomputable def isMut:kY->Bool
 | .ro _=>false
 | _=>true
structure Rp (C:Nat->Addr)(H:Hp)(s:kB):Prop where
 inj:∀(i j:Nat) (o o':kY),s[i]?=some o->s[j]?=some o'->isMut o=true->isMut o'=true->C i=C j->i=j
 obj:∀(i:Nat) (o:kY),s[i]?=some o->RO Γ C H (C i) o
 wf:∀(i:Nat) (o:kY),s[i]?=some o->o.bnd s.length=true
 tab:TabsH Γ.T H
structure RE (C:Nat->Addr)(H:Hp)(n:Nat)(U:kD)(W:St):Prop where
 len:U.length=W.length
 val:∀(i:Nat) (d:kC),U[i]?=some (some d)->d.bnd n=true/\∃ v,W[i]?=some (some v)/\RV Γ C H d v
structure Gr (C:Nat->Addr)(s:kB)(H:Hp)(C':Nat->Addr)(s':kB)(H':Hp):Prop where
 w:Gw C s.length H C' H'
 le:s.length<=s'.length
 new:∀ i:Nat,s.length<=i->i<s'.length->H (C' i)=none
 kd:∀(i:Nat) (o o':kY),s[i]?=some o->s'[i]?=some o'->okd o'=okd o
 st:∀ b,H b≠none->H' b≠none
 fz:∀ b o kvs,H b=some (.frz o (.dK kvs))->H' b=some (.frz o (.dK kvs))
 fr:∀ b o,H b=some o->(∀ ps,o≠.tbl ps)->(∀(i:Nat) (ob:kY),s[i]?=some ob->isMut ob=true->C i≠b)->H' b=some o
variable {Γ}
theorem bD3 {o z:kY}(h:okd z=okd o)(m:isMut z=true):isMut o=true:=by
 cases o with
 | ro _=>cases z with
  | ro _=>cases m
  | _=>cases h
 | _=>rfl
theorem Gr.mu {C C':Nat->Addr}{s s':kB}{H H':Hp}(g:Gr C s H C' s' H')(i:Nat)(o h:kY)(e:s[i]?=some o)(e':s'[i]?=some h)(m:isMut h=true):isMut o=true:=bD3 (g.kd i o h e e') m
theorem Gr.refl (C:Nat->Addr)(s:kB)(H:Hp):Gr C s H C s H:=⟨⟨λ _ _=>rfl,Kp.refl H⟩,ah _,λ i F z=>absurd z (by lia),λ i o G e e'=>by rw[e]at e';cases e';rfl,λ _ h=>h,λ _ _ _ h=>h,λ _ _ h _ _=>h⟩
theorem Gr.trans {C C1 C2:Nat->Addr}{s s1 s2:kB}{H H1 Y:Hp}(a:Gr C s H C1 s1 H1)(b:Gr C1 s1 H1 C2 s2 Y)(_h:s.length<=s1.length):Gr C s H C2 s2 Y:=by
 refine⟨⟨λ i F=>(b.w.map i (aA F a.le)).trans (a.w.map i F),a.w.kp.trans b.w.kp⟩,aj a.le b.le,λ i h1 h2=>?_,λ i o o' e e'=>?_,λ c h=>b.st c (a.st c h),λ c o kvs h=>b.fz c o kvs (a.fz c o kvs h),λ c o h Z ne=>?_⟩
 .by_cases F:i<s1.length
  .rw[b.w.map i F];exact a.new i h1 F
  .have e:=b.new i (by lia) h2
   cases q:H (C2 i)with
   | none=>rfl
   | some o=>exact absurd e (a.st _ (by rw[q];simp))
 .have hl:i<s1.length:=aA (ac.mp e).1 a.le
  obtain⟨G,e1⟩:∃ G,s1[i]?=some G:=⟨s1[i],af hl⟩
  exact(b.kd i G o' e1 e').trans (a.kd i o G e e1)
 .refine b.fr c o (a.fr c o h Z ne) Z λ i ob e m z=>?_
  by_cases F:i<s.length
  .obtain⟨J,e0⟩:∃ J,s[i]?=some J:=⟨s[i],af F⟩
   exact ne i J e0 (a.mu i J ob e0 e m) (by rw[<-a.w.map i F];exact z)
  .have:=a.new i (by lia) (ac.mp e).1
   rw[z,h]at this;cases this
theorem RV.mono {C C':Nat->Addr}{s s':kB}{H H':Hp}(g:Gr C s H C' s' H')(d:kC)(v:V)(b:d.bnd s.length=true)(h:RV Γ C H d v):RV Γ C' H' d v:=RV.monoW g.w d v b h
theorem RVL.mono {C C':Nat->Addr}{s s':kB}{H H':Hp}(g:Gr C s H C' s' H')(d:List kC)(v:List V)(b:kE s.length d=true)(h:RVL Γ C H d v):RVL Γ C' H' d v:=RVL.monoW g.w d v b h
theorem RE.mono {C C':Nat->Addr}{s s':kB}{H H':Hp}{U:kD}{W:St}(h:RE Γ C H s.length U W)(g:Gr C s H C' s' H')(hn:s.length<=s'.length):RE Γ C' H' s'.length U W :=
 ⟨h.len,λ i d e=>by
  obtain⟨b,v,e1,e2⟩:=h.val i d e
  exact⟨zl hn d b,v,e1,RV.mono g d v b e2⟩⟩
def ad9 (Γ:Gm)(C:Nat->Addr)(s:kB)(H:Hp)(d:kC)(s':kB)(Q:VK):Prop :=
 ∀ v C' H',Gr C s H C' s' H'->s.length<=s'.length->d.bnd s'.length=true->RV Γ C' H' d v->Rp Γ C' H' s'->Q v H'
theorem ad9.trans {C C1:Nat->Addr}{s s1 s':kB}{H z:Hp}{d:kC}{Q:VK}(h:ad9 Γ C s H d s' Q)(g:Gr C s H C1 s1 z)(l:s.length<=s1.length):ad9 Γ C1 s1 z d s' Q :=
 λ v C' H' g' F b r p=>h v C' H' (g.trans g' l) (aj l F) b r p
theorem ad9.here {C:Nat->Addr}{s:kB}{H:Hp}{d:kC}{Q:VK}{v:V}(h:ad9 Γ C s H d s Q)(p:Rp Γ C H s)(b:d.bnd s.length=true)(r:RV Γ C H d v):Q v H :=
 h v C H (Gr.refl C s H) (ah _) b r p
theorem RVD.monoW {κ:Type}{z:kC->Option κ}{C C':Nat->Addr}{n:Nat}{H H':Hp}(g:Gw C n H C' H'):∀(l:List (kC×kC)) (kvs:List (κ×V)),kE n (l.map (·.2))=true->RVD z Γ C H l kvs->RVD z Γ C' H' l kvs
 | [],_,_,h=>h
 | (d,e)::l,_,b,h=>by
  obtain⟨k,v,r,e1,e2,G,F⟩:=h
  rw[aH]at b
  unfold kE at b
  rw[ak]at b
  exact⟨k,v,r,e1,e2,RV.monoW g e v b.1 G,RVD.monoW g l r b.2 F⟩
theorem RO.mono {C C':Nat->Addr}{n:Nat}{H H':Hp}{a:Addr}{o:kY}(h:RO Γ C H a o)(g:Gw C n H C' H')(b:o.bnd n=true)(hl:isMut o=true->∀ u,H a=some u->H' a=some u):RO Γ C' H' a o:=by
 cases o with
 | lst l =>
  unfold kH at b
  obtain⟨z,e,r⟩:=h
  exact⟨z,hl rfl _ e,RVL.monoW g l z b r⟩
 | ro l =>
  unfold kH at b
  obtain⟨z,e,r⟩:=h
  exact⟨z,⟨e.2 _ g.kp,λ Z k=>e.2 _ (g.kp.trans k)⟩,RVL.monoW g l z b r⟩
 | dic l =>
  unfold kH at b
  rw[ak]at b
  obtain⟨kvs,e,r⟩:=h
  exact⟨kvs,hl rfl _ e,RVD.monoW g l kvs b.2 r⟩
 | dicF l =>
  unfold kH at b
  rw[ak]at b
  obtain⟨ob,kvs,e,r⟩:=h
  exact⟨ob,kvs,hl rfl _ e,RVD.monoW g l kvs b.2 r⟩
 | ins c l =>
  unfold kH at b
  rw[ak]at b
  obtain⟨Cc,J,F,G,Y,e,r⟩:=h
  exact⟨Cc,J,F,G,Y,hl rfl _ e,RVD.monoW g l F b.2 r⟩
theorem RO.there {C:Nat->Addr}{H:Hp}{a:Addr}{o:kY}(h:RO Γ C H a o)(m:isMut o=true):∃ u,H a=some u/\bK2 u=false/\(∀ ps,u≠.tbl ps)/\((∀ l,o≠.dicF l)->∀ ob kvs,u≠.frz ob (.dK kvs)):=by
 cases o with
 | lst l=>obtain⟨F,e,_⟩:=h;exact⟨_,e,rfl,by nofun,λ _ _ _ z=>(by cases z)⟩
 | ro l=>cases m
 | dic l=>obtain⟨F,e,_⟩:=h;exact⟨_,e,rfl,by nofun,λ _ _ _ z=>(by cases z)⟩
 | dicF l=>obtain⟨ob,F,e,_⟩:=h;exact⟨_,e,rfl,by nofun,λ z=>absurd rfl (z l)⟩
 | ins c l=>obtain⟨_,_,_,_,_,e,_⟩:=h;exact⟨_,e,rfl,by nofun,λ _ _ _ z=>(by cases z)⟩
theorem Rp.addr {C:Nat->Addr}{H:Hp}{s:kB}(p:Rp Γ C H s){i:Nat}{l:List kC}(e:s[i]?=some (.lst l)):∃ h,H (C i)=some (.lst h)/\RVL Γ C H l h:=p.obj i _ e
theorem zT {n m:Nat}(h:n<=m)(o:kY)(b:o.bnd n=true):o.bnd m=true:=by
 cases o with
 | lst l=>unfold kH at b ⊢;exact aa9 h l b
 | ro l=>unfold kH at b ⊢;exact aa9 h l b
 | dic l =>
  unfold kH at b ⊢
  rw[ak]at b ⊢
  exact⟨aa9 h _ b.1,aa9 h _ b.2⟩
 | dicF l =>
  unfold kH at b ⊢
  rw[ak]at b ⊢
  exact⟨aa9 h _ b.1,aa9 h _ b.2⟩
 | ins c l =>
  unfold kH at b ⊢
  rw[ak]at b ⊢
  exact⟨aa9 h _ b.1,aa9 h _ b.2⟩
theorem TabsH.keepF {T:List (Addr×Str)}{H H':Hp}(h:TabsH T H)(k:∀ b o,(bK2 o=true\/∃ ps,o=.tbl ps)->H b=some o->H' b=some o):TabsH T H':=λ y hy=>by
 obtain⟨ps,e,t,c⟩:=h y hy
 refine⟨ps,k _ _ (.inr ⟨_,rfl⟩) e,t,λ pos F q=>?_⟩
 obtain⟨z,e1,e2⟩:=c pos F q
 exact⟨z,e1,k _ _ (.inl rfl) e2⟩
theorem Rp.new {C:Nat->Addr}{H:Hp}{s:kB}{p:Addr}{u:HO}{o:kY}(r:Rp Γ C H s)(G:H p=none)(hb:o.bnd s.length=true)
  (ho:∀ C' H',Gw C s.length H C' H'->H' p=some u->RO Γ C' H' p o):Gr C s H (λ i=>if i=s.length then p else C i) (s++[o]) (upd H p u)/\Rp Γ (λ i=>if i=s.length then p else C i) (upd H p u) (s++[o]):=by
 have g:Gw C s.length H (λ i=>if i=s.length then p else C i) (upd H p u):=⟨λ i z=>if_neg (aC z),(Kp.refl H).new G⟩
 have key:∀ i F,(s++[o])[i]?=some F->(i<s.length/\s[i]?=some F)\/(i=s.length/\F=o):=λ i F e=>by
  rcases c9 i s.length with h|h|h
  .rw[au h]at e;exact .inl ⟨h,e⟩
  .subst h;simp at e;exact .inr ⟨rfl,e.symm⟩
  .rw[bJ (by simp;lia)]at e;cases e
 refine⟨⟨g,by simp,λ i h1 h2=>?_,λ i o1 o2 e1 e2=>?_,λ b hb=>?_,λ b ob kvs hb=>by rw[ze (zt hb G)];exact hb,λ b ob hb _ _=>by rw[ze (zt hb G)];exact hb⟩,λ i j Y Z J ej mi mj e=>?_,λ i F e=>?_,λ i F e=>?_,r.tab.new G⟩
 .rw[am,c4]at h2
  rw[if_pos (by lia)];exact G
 .rcases key i o2 e2 with⟨_,e⟩|⟨z,_⟩
  .rw[e1]at e;cases e;rfl
  .have:=(ac.mp e1).1;lia
 .unfold upd;split
  .simp
  .exact hb
 .rcases key i Y J with⟨z,J⟩|⟨z,rfl⟩<;>rcases key j Z ej with⟨hj,ej⟩|⟨hj,ej'⟩
  .rw[if_neg (aC z),if_neg (aC hj)]at e
   exact r.inj i j Y Z J ej mi mj e
  .rw[if_neg (aC z),if_pos hj]at e
   obtain⟨u,hu,_⟩:=(r.obj i Y J).there mi
   rw[e,G]at hu;cases hu
  .rw[if_neg (aC hj),if_pos z]at e
   obtain⟨u,hu,_⟩:=(r.obj j Z ej).there mj
   rw[<-e,G]at hu;cases hu
  .rw[z,hj]
 .rcases key i F e with⟨z,e⟩|⟨z,rfl⟩
  .show RO Γ _ _ (if i=s.length then p else C i) F
   rw[if_neg (aC z)]
   exact(r.obj i F e).mono g (r.wf i F e) λ _ v hv=>by rw[ze (zt hv G)];exact hv
  .show RO Γ _ _ (if i=s.length then p else C i) F
   rw[if_pos z]
   exact ho _ _ g zq
 .rw[am,c4]
  rcases key i F e with⟨z,e⟩|⟨z,rfl⟩
  .exact zT (b7 _) _ (r.wf i F e)
  .exact zT (b7 _) _ hb
theorem Rp.set1 {C:Nat->Addr}{H:Hp}{s:kB}{k:Nat}{u:HO}{o G:kY}(r:Rp Γ C H s)(hk:s[k]?=some G)(Z:isMut G=true)(hb:o.bnd s.length=true)
  (ho:∀ H',Gw C s.length H C H'->H' (C k)=some u->RO Γ C H' (C k) o) (a2:okd o=okd G):((∀ l,G≠.dicF l)->Gr C s H C (s.set k o) (upd H (C k) u))/\Rp Γ C (upd H (C k) u) (s.set k o):=by
 obtain⟨v0,J,f0,a3,a1⟩:=(r.obj k G hk).there Z
 have a0:k<s.length:=(ac.mp hk).1
 have g:Gw C s.length H C (upd H (C k) u):=⟨λ _ _=>rfl,(Kp.refl H).put J f0⟩
 have key:∀ i F,(s.set k o)[i]?=some F->(i≠k/\s[i]?=some F)\/(i=k/\F=o):=λ i F e=>by
  by_cases h:i=k
  .subst h;rw[aX a0]at e;exact .inr ⟨rfl,(aw e).symm⟩
  .rw[ao (bG h)]at e;exact .inl ⟨h,e⟩
 have mm:∀ i F,(s.set k o)[i]?=some F->isMut F=true->∃ Y,s[i]?=some Y/\isMut Y=true:=λ i F e m=>by
  rcases key i F e with⟨_,e⟩|⟨h,_⟩
  .exact⟨F,e,m⟩
  .exact⟨G,by rw[h];exact hk,Z⟩
 refine⟨λ nf=>⟨g,by simp,λ i h1 h2=>by rw[aS]at h2;lia,λ i o1 o2 e1 e2=>?_,λ b hb=>?_,λ b ob kvs hb=>by rw[ze λ z=>by subst z;rw[J]at hb;cases hb;exact a1 nf _ _ rfl];exact hb,λ b ob hb nt ne=>by rw[ze (bG (ne k G hk Z))];exact hb⟩,λ i j oi oj ei ej mi mj e=>?_,λ i F e=>?_,λ i F e=>?_,r.tab.keepF λ b v hv q=>?_⟩
 .rcases key i o2 e2 with⟨_,e⟩|⟨h,rfl⟩
  .rw[e1]at e;cases e;rfl
  .subst h;rw[hk]at e1;cases e1;exact a2
 .unfold upd;split
  .simp
  .exact hb
 .obtain⟨o1,e1,m1⟩:=mm i oi ei mi
  obtain⟨o2,e2,m2⟩:=mm j oj ej mj
  exact r.inj i j o1 o2 e1 e2 m1 m2 e
 .rcases key i F e with⟨h,e⟩|⟨h,rfl⟩
  .refine(r.obj i F e).mono g (r.wf i F e) λ m v hv=>?_
   rw[ze λ z=>h (r.inj i k F G e hk m Z z)];exact hv
  .subst h
   exact ho _ g zq
 .rw[aS]
  rcases key i F e with⟨_,e⟩|⟨_,rfl⟩
  .exact r.wf i F e
  .exact hb
 .rw[ze λ z=>by
   subst z;rw[J]at q;cases q
   rcases hv with h|⟨ps,h⟩
   .rw[f0]at h;cases h
   .exact a3 _ h]
  exact q
theorem Rp.set {C:Nat->Addr}{H:Hp}{s:kB}{k:Nat}{u:HO}{o z:kY}(r:Rp Γ C H s)(hk:s[k]?=some z)(F:isMut z=true)(hb:o.bnd s.length=true)
  (ho:∀ H',Gw C s.length H C H'->H' (C k)=some u->RO Γ C H' (C k) o) (h:okd o=okd z:=by rfl) (nf:∀ l,z≠.dicF l:=by nofun):Gr C s H C (s.set k o) (upd H (C k) u)/\Rp Γ C (upd H (C k) u) (s.set k o) :=
 ⟨(r.set1 hk F hb ho h).1 nf,(r.set1 hk F hb ho h).2⟩
theorem Rp.same {C:Nat->Addr}{H H':Hp}{s:kB}(r:Rp Γ C H s)(e:ae2 H H'):Gr C s H C s H'/\Rp Γ C H' s:=by
 have g:Gw C s.length H C H':=⟨λ _ _=>rfl,λ b o h _=>e b o h⟩
 exact⟨⟨g,ah _,λ i F z=>absurd z (by omega),λ i o G e e'=>by rw[e]at e';cases e';rfl,λ b hb=>by
  cases q:H b with
  | none=>exact absurd q hb
  | some o=>rw[e b o q];simp,λ b o kvs h=>e b _ h,λ b o h _ _=>e b o h⟩,r.inj,λ i o h=>(r.obj i o h).mono g (r.wf i o h) λ _ u hu=>e _ u hu,r.wf,r.tab.same e⟩
section
variable {C:Nat->Addr} {H:Hp} {s:kB} {Q:VK}
theorem ad9.alloc {l:List kC}{z:List V}(h:ad9 Γ C s H (.ref s.length) (s++[.lst l]) Q)(r:Rp Γ C H s)(hl:RVL Γ C H l z)(hb:kE s.length l=true){p:Addr}(F:H p=none):Q (.ref p) (upd H p (.lst z)):=by
 obtain⟨g,r'⟩:=r.new (o:=.lst l) (u:=.lst z) F hb λ C' H' g e=>⟨z,e,RVL.monoW g l z hb hl⟩
 have:=h (.ref p) _ _ g (by simp) (by unfold kI;simp) (by unfold RV;simp) r'
 exact this
theorem ad9.tup {l:List kC}{z:List V}(h:ad9 Γ C s H (.tup l) s Q)(r:Rp Γ C H s)(hl:RVL Γ C H l z)(hb:kE s.length l=true){p:Addr}(F:H p=none):Q (.ref p) (upd H p (.tup z)):=by
 obtain⟨g,r'⟩:=r.same (H':=upd H p (.tup z)) ((ae2.refl H).new F)
 exact h _ _ _ g (ah _) (by unfold kI;exact hb) (RV.tupI zq (RVL.mono g l z hb hl)) r'
theorem ad9.put {k:Nat}{l l0:List kC}{z:List V}{d:kC}{v:V}(h:ad9 Γ C s H d (s.set k (.lst l)) Q)(r:Rp Γ C H s)(hk:s[k]?=some (.lst l0))(hl:RVL Γ C H l z)(hb:kE s.length l=true)
  (hd:d.bnd s.length=true) (hv:RV Γ C H d v):Q v (upd H (C k) (.lst z)):=by
 obtain⟨g,r'⟩:=r.set (o:=.lst l) (u:=.lst z) hk rfl hb λ H' g e=>⟨z,e,RVL.monoW g l z hb hl⟩
 exact h _ _ _ g (by simp) (by rw[aS];exact hd) (RV.mono g d v hd hv) r'
end
variable {Γ:Gm}
theorem keyOf_inj {a b:kC}{k:Key}(ha:al4 a=some k)(hb:al4 b=some k):a=b:=by
 cases a with
 | int i =>
  cases ha
  cases b with
  | int j=>cases hb;rfl
  | str y=>cases hb
  | _=>cases hb
 | str x =>
  cases ha
  cases b with
  | int j=>cases hb
  | str y =>
   have h:=aw hb
   injection h with h
   injection h with h
   have z:y=x:=by simpa using h
   rw[z]
  | _=>cases hb
 | _=>cases ha
theorem ah5 {d:kC}(h:d.key=true):∃ k,al4 d=some k:=by
 cases d with
 | int i=>exact⟨_,rfl⟩
 | str x=>exact⟨_,rfl⟩
 | _=>cases h
theorem aA1 {C:Nat->Addr}{H:Hp}{d:kC}{k:Key}{v:V}(h:al4 d=some k)(r:RV Γ C H d v):v=kV k:=by
 cases d with
 | int i=>cases h;exact r.intE
 | str x=>cases h;exact r.strE
 | _=>cases h
def bX2 {κ:Type}(kf:kC->Option κ):Prop:=∀ {a b:kC} {k:κ},kf a=some k->kf b=some k->a=b
section
variable {κ:Type} [DecidableEq κ] {kf:kC->Option κ}
theorem RVD.val {C:Nat->Addr}{H:Hp}{d:kC}{k:κ}(G:bX2 kf)(hk:kf d=some k):∀ {l:List (kC×kC)} {kvs:List (κ×V)},RVD kf Γ C H l kvs->(kR d l=none/\aL8 kvs k=none)\/∃ e v,kR d l=some e/\aL8 kvs k=some v/\RV Γ C H e v/\e∈l.map (·.2)
 | [],kvs,h=>by
  have h:kvs=[]:=h
  subst h
  exact .inl ⟨rfl,rfl⟩
 | (a,e)::l,kvs,h=>by
  obtain⟨F,v,r,rfl,e2,e3,Y⟩:=h
  by_cases z:a=d
  .subst z
   rw[hk]at e2;cases e2
   exact .inr ⟨e,v,by unfold kR;rw[if_pos rfl],ak1 rfl,e3,by simp⟩
  .have Z:¬ F=k:=λ q=>z (G e2 (by rw[q];exact hk))
   have e5:kR d ((a,e)::l)=kR d l:=by
    conv=>lhs;unfold kR
    rw[if_neg z]
   rw[e5,aj8 (show ¬(F,v).1=k from Z)]
   rcases RVD.val G hk Y with q|⟨e',v',J,q2,q3,q4⟩
   .exact .inl q
   .exact .inr ⟨e',v',J,q2,q3,by simp at q4 ⊢;exact .inr q4⟩
theorem RVD.repl {C:Nat->Addr}{H:Hp}{d e:kC}{k:κ}{v:V}(F:bX2 kf)(hk:kf d=some k)(hv:RV Γ C H e v):∀ {l:List (kC×kC)} {kvs:List (κ×V)},RVD kf Γ C H l kvs->RVD kf Γ C H (l.map λ p=>if p.1=d then(p.1,e)else p) (kvs.map λ G=>if G.1=k then(G.1,v)else G)
 | [],kvs,h=>by
  have h:kvs=[]:=h
  subst h;exact(rfl:([]:List (κ×V))=[])
 | (a,e0)::l,kvs,h=>by
  obtain⟨J,v0,r,rfl,e2,e3,Y⟩:=h
  rw[aH,aH]
  by_cases z:a=d
  .subst z
   rw[hk]at e2;cases e2
   rw[if_pos rfl,if_pos rfl]
   exact⟨k,v,_,rfl,hk,hv,RVD.repl F hk hv Y⟩
  .have Z:¬ J=k:=λ q=>z (F e2 (by rw[q];exact hk))
   rw[if_neg z,if_neg Z]
   exact⟨J,v0,_,rfl,e2,e3,RVD.repl F hk hv Y⟩
theorem RVD.snoc {C:Nat->Addr}{H:Hp}{d e:kC}{k:κ}{v:V}(G:bX2 kf)(hk:kf d=some k)(hv:RV Γ C H e v):∀ {l:List (kC×kC)} {kvs:List (κ×V)},RVD kf Γ C H l kvs->RVD kf Γ C H (l++[(d,e)]) (kvs++[(k,v)])
 | [],kvs,h=>by
  have h:kvs=[]:=h
  subst h;exact⟨k,v,[],rfl,hk,hv,rfl⟩
 | (a,e0)::l,kvs,h=>by
  obtain⟨z,v0,r,rfl,e2,J,F⟩:=h
  exact⟨z,v0,_,rfl,e2,J,RVD.snoc G hk hv F⟩
theorem RVD.put {C:Nat->Addr}{H:Hp}{d e:kC}{k:κ}{v:V}{l:List (kC×kC)}{kvs:List (κ×V)}(F:bX2 kf)(hk:kf d=some k)(hv:RV Γ C H e v)(h:RVD kf Γ C H l kvs):RVD kf Γ C H (lb d e l) (aB4 kvs k v):=by
 unfold lb aB4
 rw[as8]
 rcases h.val F hk with⟨z,q2⟩|⟨e',v',z,q2,_⟩
 .rw[z,q2];exact h.snoc F hk hv
 .rw[z,q2];exact h.repl F hk hv
theorem RVD.get {C:Nat->Addr}{H:Hp}:∀ {l:List (kC×kC)} {kvs:List (κ×V)} {i:Nat} {d e:kC},RVD kf Γ C H l kvs->l[i]?=some (d,e)->∃ k v,kvs[i]?=some (k,v)/\kf d=some k/\RV Γ C H e v
 | [],_,_,_,_,_,h=>by cases h
 | (a,b)::l,kvs,0,d,e,h,q=>by
  obtain⟨k,v,r,rfl,e2,F,z⟩:=h
  cases q
  exact⟨k,v,rfl,e2,F⟩
 | (a,b)::l,kvs,i+1,d,e,h,q=>by
  obtain⟨k,v,r,rfl,e2,F,z⟩:=h
  exact RVD.get (i:=i) z (show l[i]?=some (d,e)from q)
theorem RVD.keys {C:Nat->Addr}{H:Hp}:∀ {l:List (kC×kC)} {kvs:List (κ×V)},RVD kf Γ C H l kvs->∀ kv∈kvs,∃ d,kf d=some kv.1
 | [],kvs,h,kv,hk=>by
  have h:kvs=[]:=h
  subst h;cases hk
 | (a,b)::l,kvs,h,kv,hk=>by
  obtain⟨k,v,r,rfl,e2,G,F⟩:=h
  rcases aG.mp hk with z|z
  .subst z;exact⟨a,e2⟩
  .exact RVD.keys F kv z
theorem RVD.length {C:Nat->Addr}{H:Hp}:∀ {l:List (kC×kC)} {kvs:List (κ×V)},RVD kf Γ C H l kvs->kvs.length=l.length
 | [],kvs,h=>by
  have h:kvs=[]:=h
  subst h;rfl
 | (a,e)::l,kvs,h=>by
  obtain⟨F,v,r,rfl,e2,G,z⟩:=h
  rw[aR,aR,RVD.length z]
end
theorem bg5 {n:Nat}{d e:kC}{l:List (kC×kC)}(h:(DV.O.dic l).bnd n=true)(hd:d.bnd n=true)(G:e.bnd n=true):(DV.O.dic (lb d e l)).bnd n=true:=by
 unfold kH at h ⊢
 rw[ak]at h ⊢
 obtain⟨J,Y⟩:=h
 have g1:=aa6.mp J
 have F:=aa6.mp Y
 unfold lb
 refine⟨aa6.mpr λ x hx=>?_,aa6.mpr λ x hx=>?_⟩
 .obtain⟨p,z,rfl⟩:=aZ.mp hx
  split at z
  .obtain⟨q,hq,rfl⟩:=aZ.mp z
   split
   .exact g1 _ (bv (f:=(·.1)) hq)
   .exact g1 _ (bv (f:=(·.1)) hq)
  .rcases aO.mp z with q|q
   .exact g1 _ (bv (f:=(·.1)) q)
   .rw[aD.mp q];exact hd
 .obtain⟨p,z,rfl⟩:=aZ.mp hx
  split at z
  .obtain⟨q,hq,rfl⟩:=aZ.mp z
   split
   .exact G
   .exact F _ (bv (f:=(·.2)) hq)
  .rcases aO.mp z with q|q
   .exact F _ (bv (f:=(·.2)) q)
   .rw[aD.mp q];exact G
theorem ak2 {f:kC->kC->Option Bool}{a b:kC}{l m:List kC}{z:Bool}(h:kS f (a::l) (b::m)=some z):∃ x y,f a b=some x/\kS f l m=some y/\z=(x&&y):=by
 unfold kS at h
 cases e1:f a b with
 | none=>rw[e1]at h;cases h
 | some x =>
  cases e2:kS f l m with
  | none=>rw[e1,e2]at h;cases h
  | some y=>rw[e1,e2]at h;exact⟨x,y,rfl,rfl,(aw h).symm⟩
theorem aV2 {f:kC->kC->Option Bool}:∀ {l m:List kC} {z:Bool},kS f l m=some z->∃ e:Nat->Bool,(∀ j d d',l[j]?=some d->m[j]?=some d'->f d d'=some (e j))/\((l.length==m.length)&&(aP (min l.length m.length)).all e)=z
 | [],[],z,h=>by
  unfold kS at h
  cases h
  exact⟨λ _=>true,λ j d d' h=>by simp at h,by simp⟩
 | [],b::m,z,h=>by
  unfold kS at h
  cases h
  exact⟨λ _=>true,λ j d d' h=>by simp at h,by simp⟩
 | a::l,[],z,h=>by
  unfold kS at h
  cases h
  exact⟨λ _=>true,λ j d d' J G=>by simp at G,by simp⟩
 | a::l,b::m,z,h=>by
  obtain⟨x,y,e1,e2,Y⟩:=ak2 h
  obtain⟨e,J,G⟩:=aV2 e2
  refine⟨λ j=>match j with|0=>x|j+1=>e j,λ j d d' g1 F=>?_,?_⟩
  .cases j with
   | zero=>simp at g1 F;subst g1;subst F;exact e1
   | succ j=>exact J j d d' (by simpa using g1) (by simpa using F)
  .rw[aR,aR,show min (l.length+1) (m.length+1)=min l.length m.length+1 by lia,List.range_succ_eq_map,bN,List.all_map,Y,<-G]
   have:((l.length+1==m.length+1)=(l.length==m.length)):=by
    by_cases q:l.length=m.length
    .simp[q]
    .have:¬ l.length+1=m.length+1:=by lia
     simp[q]
   rw[this]
   show((l.length==m.length)&&(x&&(aP _).all e))=_
   cases x<;>cases(l.length==m.length)<;>simp
section
variable {X:Cx} {pins:yA} {W:St} {H:Hp} {sh:ag} {C:Nat->Addr} {s:kB}
theorem am7 (I:Inv X pins W H sh){a:Addr}{F ys:List V}(h:H a=some (.lst F))(h':SqT X.K H a ys):False:=by
 rcases h' with(z|⟨o,z⟩)|⟨o,its,n,hk,_⟩
 .rw[h]at z;cases z
 .rw[h]at z;cases z
 .have:=(I.bs a o (I.mod.kin a o hk)).2
  rw[h]at this;cases this
theorem rv_two (I:Inv X pins W H sh)(hK:X.K=Γ.K)(R:Rp Γ C H s){a b:kC}{x:V}(J:RV Γ C H a x)(z:RV Γ C H b x)(n1:kU s a≠9)(F:kU s b≠9):a=b\/∃ l m p Y,a=.tup l/\b=.tup m/\x=.ref p/\RVL Γ C H l Y/\RVL Γ C H m Y:=by
 have G:∀ {r:Nat},kU s (.ref r)≠9->∃ l,s[r]?=some (.lst l):=λ {r} h=>by
  have h:(match s[r]? with|some (DV.O.lst l)=>4|_=>9:Nat)≠9:=h
  cases hs:s[r]? with
  | none=>rw[hs]at h;exact absurd rfl h
  | some o =>
   rw[hs]at h
   cases o with
   | lst l=>exact⟨l,rfl⟩
   | _=>exact absurd rfl h
 cases a with
 | non=>have e:=J.nonE;subst e;cases b with
  | non=>exact .inl rfl
  | bl _=>cases z.blE
  | int _=>cases z.intE
  | str _=>cases z.strE
  | tup _=>obtain⟨_,_,e,_⟩:=z.tupE;cases e
  | ref _=>cases z.refE
  | fn _=>exact absurd rfl F
  | clo _ _=>exact absurd rfl F
 | bl p=>have e:=J.blE;subst e;cases b with
  | non=>cases z.nonE
  | bl _=>cases z.blE;exact .inl rfl
  | int _=>cases z.intE
  | str _=>cases z.strE
  | tup _=>obtain⟨_,_,e,_⟩:=z.tupE;cases e
  | ref _=>cases z.refE
  | fn _=>exact absurd rfl F
  | clo _ _=>exact absurd rfl F
 | int p=>have e:=J.intE;subst e;cases b with
  | non=>cases z.nonE
  | bl _=>cases z.blE
  | int _=>cases z.intE;exact .inl rfl
  | str _=>cases z.strE
  | tup _=>obtain⟨_,_,e,_⟩:=z.tupE;cases e
  | ref _=>cases z.refE
  | fn _=>exact absurd rfl F
  | clo _ _=>exact absurd rfl F
 | str p=>have e:=J.strE;subst e;cases b with
  | non=>cases z.nonE
  | bl _=>cases z.blE
  | int _=>cases z.intE
  | str q =>
   have e':p.toArray=q.toArray:=Str.mk.inj (V.str.inj z.strE)
   have a0:p=q:=by simpa using congrArg iK e'
   subst a0;exact .inl rfl
  | tup _=>obtain⟨_,_,e,_⟩:=z.tupE;cases e
  | ref _=>cases z.refE
  | fn _=>exact absurd rfl F
  | clo _ _=>exact absurd rfl F
 | tup l =>
  obtain⟨p,Y,e,Z,d1⟩:=J.tupE;subst e;cases b with
  | non=>cases z.nonE
  | bl _=>cases z.blE
  | int _=>cases z.intE
  | str _=>cases z.strE
  | tup m =>
   obtain⟨p',ys,e,q2,d2⟩:=z.tupE
   cases e
   rw[<-hK]at Z q2
   rw[I.tuple_inj q2 Z]at d2
   exact .inr ⟨l,m,p,Y,rfl,rfl,rfl,d1,d2⟩
  | ref r =>
   cases z.refE
   obtain⟨m,hm⟩:=G F
   obtain⟨ys,hy,_⟩:=R.addr hm
   rw[<-hK]at Z
   exact(am7 I hy Z).elim
  | fn _=>exact absurd rfl F
  | clo _ _=>exact absurd rfl F
 | ref r =>
  have e:=J.refE;subst e
  obtain⟨l,hl⟩:=G n1
  obtain⟨Y,hx,_⟩:=R.addr hl
  cases b with
  | non=>cases z.nonE
  | bl _=>cases z.blE
  | int _=>cases z.intE
  | str _=>cases z.strE
  | tup m =>
   obtain⟨p',ys,e,q2,d2⟩:=z.tupE
   cases e
   rw[<-hK]at q2
   exact(am7 I hx q2).elim
  | ref r' =>
   obtain⟨m,hm⟩:=G F
   have e:C r=C r':=V.ref.inj z.refE
   rw[R.inj r r' _ _ hl hm rfl rfl e]
   exact .inl rfl
  | fn _=>exact absurd rfl F
  | clo _ _=>exact absurd rfl F
 | fn _=>exact absurd rfl n1
 | clo _ _=>exact absurd rfl n1
theorem qB {a b:kC}{z:Bool}(h:kW s a b=some z):lX a b=some z\/(lX a b=none/\lH (kU s a) (kU s b)=false/\z=false):=by
 unfold kW at h
 cases e:lX a b with
 | some w=>rw[e]at h;exact .inl h
 | none =>
  rw[e]at h
  cases q:lH (kU s a) (kU s b)with
  | true=>rw[q]at h;cases h
  | false=>rw[q]at h;exact .inr ⟨rfl,rfl,(aw h).symm⟩
theorem bl4 {a b:kC}{z:Bool}(h:lX a b=some z):kU s a≠9/\kU s b≠9:=by
 cases a<;>cases b<;>first|(cases h;done)|(constructor<;>(intro z;cases z))
theorem ag5 {a b:kC}{z:Bool}(h:kW s a b=some z):kU s a≠9/\kU s b≠9:=by
 rcases qB h with h|⟨_,h,_⟩
 .exact bl4 h
 .unfold lH at h
  simp only[eg,beq_eq_false_iff_ne]at h
  exact⟨h.1.1,h.1.2⟩
theorem aF5 {a:kC}{z:Bool}(h:kW s a a=some z):z=true:=by
 rcases qB h with h|⟨_,h,_⟩
 .cases a<;>cases h<;>first|rfl|exact beq_self_eq_true _
 .unfold lH at h;simp at h
theorem aJ3 (I:Inv X pins W H sh)(hK:X.K=Γ.K)(R:Rp Γ C H s):∀(n:Nat) (a b:kC) (x:V) (z:Bool),kL s n a b=some z->RV Γ C H a x->RV Γ C H b x->z=true:=by
 have Y:∀(a b:kC) (x:V) (z:Bool),kW s a b=some z->RV Γ C H a x->RV Γ C H b x->z=true:=by
  intro a b x z h F G
  rcases rv_two I hK R F G (ag5 h).1 (ag5 h).2 with e|⟨l,m,_,_,rfl,rfl,_⟩
  .subst e;exact aF5 h
  .rcases qB h with h|⟨_,h,_⟩
   .cases h
   .unfold lH at h;simp[kU]at h
 intro n
 induction n with
 | zero=>intro a b x z h;unfold kL at h;exact Y a b x z h
 | succ n ih =>
  have Z:∀(l m:List kC) (J:List V) (z:Bool),kS (kL s n) l m=some z->RVL Γ C H l J->RVL Γ C H m J->z=true:=by
   intro l
   induction l with
   | nil =>
    intro m J z h F G
    cases m with
    | nil=>unfold kS at h;exact(aw h).symm
    | cons b m=>obtain⟨x,r,e,_⟩:=G.uncons;rw[F.unnil]at e;cases e
   | cons a l ihl =>
    intro m J z h F G
    cases m with
    | nil=>obtain⟨x,r,e,_⟩:=F.uncons;rw[G.unnil]at e;cases e
    | cons b m =>
     obtain⟨p,q,e1,e2,ez⟩:=ak2 h
     obtain⟨v,r,rfl,g1,g2⟩:=F.uncons
     obtain⟨v',r',e,g3,g4⟩:=G.uncons
     cases e
     rw[ez,ih a b v p e1 g1 g3,ihl m r q e2 g2 g4];rfl
  intro a b x z h F G
  unfold kL at h
  split at h
  .rename_i l m
   obtain⟨a,J,rfl,q1,d1⟩:=F.tupE
   obtain⟨b,ys,e,q2,d2⟩:=G.tupE
   cases e
   rw[<-hK]at q1 q2
   rw[I.tuple_inj q2 q1]at d2
   exact Z l m J z h d1 d2
  .rename_i p q
   split at h
   .rename_i l m hl hm
    obtain⟨J,e1,d1⟩:=R.addr hl
    obtain⟨ys,e2,d2⟩:=R.addr hm
    have e:=F.refE.symm.trans G.refE
    have e':C p=C q:=V.ref.inj e
    rw[e',e2]at e1
    have e3:ys=J:=by injection (aw e1)
    subst e3
    split at h
    .exact Z l m ys z h d1 d2
    .rename_i a0;exact absurd (d1.length.symm.trans d2.length) a0
   .cases h
  .exact Y a b x z h F G
end
variable {Γ:Gm}
inductive Vw (sh:ag):Nat->Value->Prop where
 | non:Vw sh 0 .none
 | bl (b:Bool):Vw sh 1 (.bool b)
 | int (i:Int) (t:Tok):Vw sh 1 (.int i t)
 | str (x:Str) (t:Tok):Vw sh 2 (.str x t)
 | tup {l:Addr} {items:yJ} (h:sh.heap.IsTuple l items):Vw sh 3 (.ref l)
 | lst {l:Addr} {items:yJ} (h:sh.heap.IsList l items):Vw sh 4 (.ref l)
theorem Vw.eq {A:a7}{sh:ag}{k F:Nat}{u v:Value}(a:Vw sh k u)(b:Vw sh F v)(z:k≠F)(hu:A.units<cLine):gd A sh u v false:=by
 cases a with
 | non=>cases b with
  | non=>exact absurd rfl z
  | bl b=>exact SeqAt.EqAt.none_bool b
  | int i t=>exact gQ i t
  | str x t=>exact gS x t
  | tup h=>exact SeqAt.EqAt.none_tuple h hu
  | lst h=>exact SeqAt.EqAt.none_list h hu
 | bl a=>cases b with
  | non=>exact SeqAt.EqAt.bool_none a
  | bl b=>exact absurd rfl z
  | int i t=>exact absurd rfl z
  | str x t=>exact SeqAt.EqAt.bool_str a x t
  | tup h=>exact SeqAt.EqAt.bool_tuple a h hu
  | lst h=>exact SeqAt.EqAt.bool_list a h hu
 | int a q=>cases b with
  | non=>exact gT a q
  | bl b=>exact absurd rfl z
  | int i t=>exact absurd rfl z
  | str x t=>exact ii a q x t
  | tup h=>exact SeqAt.EqAt.int_tuple a q h hu
  | lst h=>exact SeqAt.EqAt.int_list a q h hu
 | str a q=>cases b with
  | non=>exact gW a q
  | bl b=>exact SeqAt.EqAt.str_bool a q b
  | int i t=>exact io a q i t
  | str x t=>exact absurd rfl z
  | tup h=>exact SeqAt.EqAt.str_tuple a q h hu
  | lst h=>exact SeqAt.EqAt.str_list a q h hu
 | tup g=>cases b with
  | non=>exact SeqAt.EqAt.tuple_none g hu
  | bl b=>exact SeqAt.EqAt.tuple_bool b g hu
  | int i t=>exact SeqAt.EqAt.tuple_int i t g hu
  | str x t=>exact SeqAt.EqAt.tuple_str x t g hu
  | tup h=>exact absurd rfl z
  | lst h=>exact SeqAt.EqAt.tuple_list g h hu
 | lst g=>cases b with
  | non=>exact SeqAt.EqAt.list_none g hu
  | bl b=>exact SeqAt.EqAt.list_bool b g hu
  | int i t=>exact SeqAt.EqAt.list_int i t g hu
  | str x t=>exact SeqAt.EqAt.list_str x t g hu
  | tup h=>exact SeqAt.EqAt.list_tuple g h hu
  | lst h=>exact absurd rfl z
theorem Vw.rc {A:a7}{sh:ag}{k F:Nat}{u v:Value}(a:Vw sh k u)(b:Vw sh F v)(z:k≠F)(hu:A.units<cLine):kA A sh u v false:=by
 cases a with
 | non=>cases b with
  | non=>exact absurd rfl z
  | bl b=>exact SeqAt.RcAt.none_bool b
  | int i t=>exact SeqAt.RcAt.none_int i t
  | str x t=>exact SeqAt.RcAt.none_str x t
  | tup h=>exact SeqAt.RcAt.none_tuple h hu
  | lst h=>exact SeqAt.RcAt.none_list h hu
 | bl a=>cases b with
  | non=>exact SeqAt.RcAt.bool_none a
  | bl b=>exact absurd rfl z
  | int i t=>exact absurd rfl z
  | str x t=>exact SeqAt.RcAt.bool_str a x t
  | tup h=>exact SeqAt.RcAt.bool_tuple a h hu
  | lst h=>exact SeqAt.RcAt.bool_list a h hu
 | int a q=>cases b with
  | non=>exact SeqAt.RcAt.int_none a q
  | bl b=>exact absurd rfl z
  | int i t=>exact absurd rfl z
  | str x t=>exact SeqAt.RcAt.int_str a q x t
  | tup h=>exact SeqAt.RcAt.int_tuple a q h hu
  | lst h=>exact SeqAt.RcAt.int_list a q h hu
 | str a q=>cases b with
  | non=>exact SeqAt.RcAt.str_none a q
  | bl b=>exact SeqAt.RcAt.str_bool a q b
  | int i t=>exact SeqAt.RcAt.str_int a q i t
  | str x t=>exact absurd rfl z
  | tup h=>exact SeqAt.RcAt.str_tuple a q h hu
  | lst h=>exact SeqAt.RcAt.str_list a q h hu
 | tup g=>cases b with
  | non=>exact SeqAt.RcAt.tuple_none g hu
  | bl b=>exact SeqAt.RcAt.tuple_bool b g hu
  | int i t=>exact SeqAt.RcAt.tuple_int i t g hu
  | str x t=>exact SeqAt.RcAt.tuple_str x t g hu
  | tup h=>exact absurd rfl z
  | lst h=>exact SeqAt.RcAt.tuple_list g h hu
 | lst g=>cases b with
  | non=>exact SeqAt.RcAt.list_none g hu
  | bl b=>exact SeqAt.RcAt.list_bool b g hu
  | int i t=>exact SeqAt.RcAt.list_int i t g hu
  | str x t=>exact SeqAt.RcAt.list_str x t g hu
  | tup h=>exact SeqAt.RcAt.list_tuple g h hu
  | lst h=>exact absurd rfl z
theorem Vw.ne {A:a7}{sh:ag}{k F:Nat}{u v:Value}(a:Vw sh k u)(b:Vw sh F v)(z:k≠F)(hu:A.units<cLine):kh A sh u v true:=by
 cases a with
 | non=>cases b with
  | non=>exact absurd rfl z
  | bl b=>exact SeqAt.RcNeAt.none_bool b
  | int i t=>exact SeqAt.RcNeAt.none_int i t
  | str x t=>exact SeqAt.RcNeAt.none_str x t
  | tup h=>exact SeqAt.RcNeAt.none_tuple h hu
  | lst h=>exact SeqAt.RcNeAt.none_list h hu
 | bl a=>cases b with
  | non=>exact SeqAt.RcNeAt.bool_none a
  | bl b=>exact absurd rfl z
  | int i t=>exact absurd rfl z
  | str x t=>exact SeqAt.RcNeAt.bool_str a x t
  | tup h=>exact SeqAt.RcNeAt.bool_tuple a h hu
  | lst h=>exact SeqAt.RcNeAt.bool_list a h hu
 | int a q=>cases b with
  | non=>exact SeqAt.RcNeAt.int_none a q
  | bl b=>exact absurd rfl z
  | int i t=>exact absurd rfl z
  | str x t=>exact SeqAt.RcNeAt.int_str a q x t
  | tup h=>exact SeqAt.RcNeAt.int_tuple a q h hu
  | lst h=>exact SeqAt.RcNeAt.int_list a q h hu
 | str a q=>cases b with
  | non=>exact SeqAt.RcNeAt.str_none a q
  | bl b=>exact SeqAt.RcNeAt.str_bool a q b
  | int i t=>exact SeqAt.RcNeAt.str_int a q i t
  | str x t=>exact absurd rfl z
  | tup h=>exact SeqAt.RcNeAt.str_tuple a q h hu
  | lst h=>exact SeqAt.RcNeAt.str_list a q h hu
 | tup g=>cases b with
  | non=>exact SeqAt.RcNeAt.tuple_none g hu
  | bl b=>exact SeqAt.RcNeAt.tuple_bool b g hu
  | int i t=>exact SeqAt.RcNeAt.tuple_int i t g hu
  | str x t=>exact SeqAt.RcNeAt.tuple_str x t g hu
  | tup h=>exact absurd rfl z
  | lst h=>exact SeqAt.RcNeAt.tuple_list g h hu
 | lst g=>cases b with
  | non=>exact SeqAt.RcNeAt.list_none g hu
  | bl b=>exact SeqAt.RcNeAt.list_bool b g hu
  | int i t=>exact SeqAt.RcNeAt.list_int i t g hu
  | str x t=>exact SeqAt.RcNeAt.list_str x t g hu
  | tup h=>exact SeqAt.RcNeAt.list_tuple g h hu
  | lst h=>exact absurd rfl z
theorem bJ1 (a b:List Nat):((⟨a.toArray⟩:Str)==⟨b.toArray⟩)=(a==b):=by
 by_cases e:a=b
 .subst e;simp
 .have:(⟨a.toArray⟩:Str)≠⟨b.toArray⟩:=λ q=>e (by simpa using congrArg (λ z=>z.cps.toList) q)
  rw[beq_eq_false_iff_ne.mpr this,beq_eq_false_iff_ne.mpr e]
structure Cmp (A:a7)(sh:ag)(u v:Value)(z:Bool):Prop where
 rc:kA A sh u v z
 ne:kh A sh u v (!z)
section
variable {X:Cx} {pins:yA} {W:St} {H:Hp} {sh:ag} {C:Nat->Addr} {s:kB}
theorem bX0 (I:Inv X pins W H sh)(F:X.K=Γ.K)(R:Rp Γ C H s){d:kC}{x:V}{u:Value}(h:RV Γ C H d x)(r:RelV x u)(hk:kU s d≠9):Vw sh (kU s d) u:=by
 cases d with
 | non=>have e:=h.nonE;subst e;cases r;exact .non
 | bl b=>have e:=h.blE;subst e;cases r;exact .bl b
 | int i=>have e:=h.intE;subst e;obtain⟨t,rfl⟩:=r;exact .int i t
 | str y=>have e:=h.strE;subst e;obtain⟨t,rfl⟩:=r;exact .str _ t
 | tup l =>
  obtain⟨a,z,e,q,_⟩:=h.tupE
  subst e;cases r
  rw[<-F]at q
  obtain⟨its,_,t,_⟩:=I.tuple q
  exact .tup t
 | ref n =>
  have e:=h.refE;subst e;cases r
  have hk:(match s[n]? with|some (DV.O.lst l)=>4|_=>9:Nat)≠9:=hk
  show Vw sh (match s[n]? with|some (DV.O.lst l)=>4|_=>9:Nat) _
  cases hs:s[n]? with
  | none=>rw[hs]at hk;exact absurd rfl hk
  | some o =>
   rw[hs]at hk
   cases o with
   | lst l =>
    obtain⟨z,e,_⟩:=R.addr hs
    obtain⟨its,_,t,_⟩:=I.list (SqL.of e)
    exact .lst t.isList
   | _=>exact absurd rfl hk
 | fn _=>exact absurd rfl hk
 | clo _ _=>exact absurd rfl hk
theorem az1 (I:Inv X pins W H sh)(Z:X.K=Γ.K)(R:Rp Γ C H s){a b:kC}{x y:V}{u v:Value}{A:a7}{z:Bool}(h:kW s a b=some z)(F:RV Γ C H a x)(G:RV Γ C H b y)(r1:RelV x u)(J:RelV y v)(hu:A.units<cLine) :
  gd A sh u v z/\Cmp A sh u v z:=by
 rcases qB h with h|⟨_,hn,hz⟩
 .cases a<;>cases b<;>try cases h
  .cases F.nonE;cases G.nonE;cases r1;cases J
   exact⟨eE _,SeqAt.RcAt.none_none,SeqAt.RcNeAt.none_none⟩
  .cases F.blE;cases G.blE;cases r1;cases J
   exact⟨SeqAt.EqAt.bool_bool _ _,SeqAt.RcAt.bool_bool _ _,SeqAt.RcNeAt.bool_bool _ _⟩
  .cases F.blE;cases G.intE;cases r1;obtain⟨t',rfl⟩:=J
   exact⟨SeqAt.EqAt.bool_int _ _ _,SeqAt.RcAt.bool_int _ _ _,SeqAt.RcNeAt.bool_int _ _ _⟩
  .cases F.intE;cases G.blE;obtain⟨t,rfl⟩:=r1;cases J
   exact⟨SeqAt.EqAt.int_bool _ _ _,SeqAt.RcAt.int_bool _ _ _,SeqAt.RcNeAt.int_bool _ _ _⟩
  .cases F.intE;cases G.intE;obtain⟨t,rfl⟩:=r1;obtain⟨t',rfl⟩:=J
   exact⟨SeqAt.EqAt.int_int _ _ _ _,SeqAt.RcAt.int_int _ _ _ _,SeqAt.RcNeAt.int_int _ _ _ _⟩
  .cases F.strE;cases G.strE;obtain⟨t,rfl⟩:=r1;obtain⟨t',rfl⟩:=J
   rw[<-bJ1]
   exact⟨SeqAt.EqAt.str_str _ _ _ _,SeqAt.RcAt.str_str _ _ _ _,SeqAt.RcNeAt.str_str _ _ _ _⟩
 .subst hz
  unfold lH at hn
  simp only[eg,beq_eq_false_iff_ne]at hn
  have Y:=bX0 I Z R F r1 hn.1.1
  have w2:=bX0 I Z R G J hn.1.2
  exact⟨Y.eq w2 hn.2 hu,Y.rc w2 hn.2 hu,Y.ne w2 hn.2 hu⟩
theorem bb9 (I:Inv X pins W H sh)(hK:X.K=Γ.K)(R:Rp Γ C H s):∀(n:Nat) (a b:kC) (x y:V) (u v:Value) (A:a7) (z:Bool),kL s n a b=some z->RV Γ C H a x->RV Γ C H b y->RelV x u->RelV y v->Room n A ->
  gd A sh u v z/\Cmp A sh u v z:=by
 intro n
 induction n with
 | zero=>intro a b x y u v A z h h1 h2 r1 r2 G;unfold kL at h;exact az1 I hK R h h1 h2 r1 r2 G.units0
 | succ n ih =>
  have F:∀ {l m:List kC} {xs ys:List V} {its its':yG} {A:a7} {e:Nat->Bool},RVL Γ C H l xs->RVL Γ C H m ys->Vals xs its->Vals ys its'->Room n A->(∀ j d d',l[j]?=some d->m[j]?=some d'->kL s n d d'=some (e j)) ->
    ∀ j (h1:j<its.toArray.size) (h2:j<its'.toArray.size),gd A sh its.toArray[j] its'.toArray[j] (e j):=by
   intro l m xs ys its its' A e d1 Z v1 v2 G he j h1 h2
   have l1:=v1.length
   have l2:=v2.length
   have e1:=d1.length
   have e2:=Z.length
   have a3:j<its.length:=by simpa using h1
   have a2:j<its'.length:=by simpa using h2
   have hj:j<l.length:=by lia
   have a1:j<m.length:=by lia
   obtain⟨x,ex,dx⟩:=d1.get (af hj)
   obtain⟨y,ey,dy⟩:=Z.get (af a1)
   obtain⟨u,eu,ru⟩:=v1.get ex
   obtain⟨w,ew,a4⟩:=v2.get ey
   have g1:its.toArray[j]=u:=by
    have:=af a3
    rw[eu]at this
    simpa using(aw this).symm
   have g2:its'.toArray[j]=w:=by
    have:=af a2
    rw[ew]at this
    simpa using(aw this).symm
   rw[g1,g2]
   exact(ih _ _ x y u w A (e j) (he j _ _ (af hj) (af a1)) dx dy ru a4 G).1
  intro a b x y u v A z h h1 h2 r1 r2 G
  have hz:=h
  unfold kL at h
  split at h
  .rename_i l m
   obtain⟨p,xs,ex,q1,d1⟩:=id h1.tupE
   obtain⟨q,ys,ey,q2,Z⟩:=id h2.tupE
   subst ex;subst ey
   cases r1;cases r2
   rw[<-hK]at q1 q2
   obtain⟨its,v1,t1,_⟩:=I.tuple q1
   obtain⟨its',v2,t2,_⟩:=I.tuple q2
   obtain⟨e,he,Y⟩:=aV2 h
   have l1:=v1.length
   have l2:=v2.length
   have e1:=d1.length
   have e2:=Z.length
   have sz:((aP (min its.toArray.size its'.toArray.size)).all e&&its.toArray.size==its'.toArray.size)=z:=by
    rw[<-Y,Bool.and_comm,show its.toArray.size=l.length by simp;lia,show its'.toArray.size=m.length by simp;lia]
   have key:=SeqAt.RcAt.tuples (A:=A) (s:=sh) (e:=e) t1 t2 G.units0 (F d1 Z v1 v2 G.in1 he)
   have J:=SeqAt.RcNeAt.tuples (A:=A) (s:=sh) (e:=e) t1 t2 G.units0 (F d1 Z v1 v2 G.in1 he)
   rw[sz]at key J
   refine⟨?_,key,J⟩
   by_cases hab:p=q
   .subst hab
    rw[aJ3 I hK R _ _ _ _ _ hz h1 h2]
    exact eE _
   .exact iH hab key
  .rename_i p q
   split at h
   .rename_i l m hl hm
    obtain⟨xs,e1,d1⟩:=R.addr hl
    obtain⟨ys,e2,Z⟩:=R.addr hm
    have ex:=h1.refE
    have ey:=h2.refE
    subst ex;subst ey
    cases r1;cases r2
    obtain⟨its,v1,t1,_⟩:=I.list (SqL.of e1)
    obtain⟨its',v2,t2,_⟩:=I.list (SqL.of e2)
    have l1:=v1.length
    have l2:=v2.length
    have c1:=d1.length
    have c2:=Z.length
    have fin:Cmp A sh (.ref (C p)) (.ref (C q)) z:=by
     split at h
     .rename_i a0
      obtain⟨e,he,Y⟩:=aV2 h
      have sz:(aP its.toArray.size).all e=z:=by
       rw[<-Y,show its.toArray.size=l.length by simp;omega,a0]
       simp
      have key:=SeqAt.RcAt.lists (A:=A) (s:=sh) (e:=e) t1.isList t2.isList (by simp;lia) G.units0 (F d1 Z v1 v2 G.in1 he)
      have J:=SeqAt.RcNeAt.lists (A:=A) (s:=sh) (e:=e) t1.isList t2.isList (by simp;omega) G.units0 (F d1 Z v1 v2 G.in1 he)
      rw[sz]at key J
      exact⟨key,J⟩
     .rename_i a0
      cases h
      have hs:(its.toArray.size != its'.toArray.size)=true:=by simp;lia
      exact⟨SeqAt.RcAt.lists_lengths t1.isList t2.isList hs G.units0,SeqAt.RcNeAt.lists_lengths t1.isList t2.isList hs G.units0⟩
    refine⟨?_,fin⟩
    by_cases hab:C p=C q
    .rw[aJ3 I hK R _ _ _ _ _ hz RV.refI (by rw[hab];exact RV.refI),hab]
     exact eE _
    .exact iH hab fin.rc
   .cases h
  .exact az1 I hK R h h1 h2 r1 r2 G.units0
end
variable {Γ:Gm} {X:Cx}
noncomputable def bZ4:l9->Operator
 | .add=>.Add|.sub=>.Sub|.mul=>.Mult|.fdiv=>.FloorDiv|.mod=>.Mod|.pow=>.Pow|.shl=>.LShift|.shr=>.RShift|.band=>.BitAnd|.bor=>.BitOr
noncomputable def bE1:lY->CmpOp
 | .eq=>.Eq|.ne=>.NotEq|.lt=>.Lt|.le=>.LtE|.gt=>.Gt|.ge=>.GtE|.isin=>.In|.notin=>.NotIn
def rOp (Γ:Gm)(f:kC->kC->kB->kG kC):R2:=λ x y H Q=>∃ C s a b d s',Rp Γ C H s/\RV Γ C H a x/\RV Γ C H b y/\a.bnd s.length=true/\b.bnd s.length=true/\f a b s=.ok d s'/\ad9 Γ C s H d s' Q
theorem zE {d e:kC}{s t:kB}(h:lZ d s=.ok e t):d=e/\s=t:=by
 unfold lZ at h
 cases h
 exact⟨rfl,rfl⟩
theorem zY {o:kY}{e:kC}{s t:kB}(h:lz o s=.ok e t):e=.ref s.length/\t=s++[o]:=by
 unfold lz at h
 cases h
 exact⟨rfl,rfl⟩
theorem au4 (a b:List Nat):(⟨a.toArray⟩:Str)++⟨b.toArray⟩=⟨(a++b).toArray⟩:=by
 show Str.append _ _=_
 unfold Str.append
 simp
theorem zG:kJ<=aM:=by rw[dF];decide
theorem bA4:OpR X (bK .Mult) (rI (λ i j=>DV.mulOk i j=true) λ i j=>.int (i*j)):=opI λ i j _ _ _ _ _ hc q=>mul_int q (by
 unfold DV.mulOk at hc
 simp only[bn,ak,decide_eq_true_eq]at hc
 rcases hc with(h|h)|⟨F,z⟩
 .exact bY7.ok (.inl (by omega))
 .exact bY7.ok (.inr (by omega))
 .unfold DV.BIG at F z
  exact IntMulOk.of_le (m:=60000) (n:=60000) (intBits_le_iff.mpr F) (intBits_le_iff.mpr z) (by decide))
theorem aI3 (l:List Nat):∀(n:Nat) (h:Array Nat),(ai n l.toArray).foldl (·++·) h=h++(kT n l).toArray
 | 0,h=>by simp[kT]
 | n+1,h=>by
  rw[bC,dB,aI3 l n]
  simp[kT,ip]
theorem bz2 (l:List Nat):kT 1 l=l:=by simp[kT]
theorem aU5:∀ n,kT n []=[]
 | 0=>rfl
 | n+1=>by simp[kT,aU5 n]
theorem rep_len (l:List Nat):∀ n,(kT n l).length=l.length*n
 | 0=>by simp[kT]
 | n+1=>by simp[kT,rep_len l n,jo];lia
theorem bB5:OpR X (bK .Mult) (λ x y H Q=>∃(l:List Nat) (n:Int),x=.str ⟨l.toArray⟩/\y=.int n/\(0<=n/\n<=1000000/\l.length*n.toNat<=kJ)/\Q (.str ⟨(kT n.toNat l).toArray⟩) H):=by
 intro G s W H x y v u Q I rx Y h
 obtain⟨l,n,rfl,rfl,⟨h0,Z,h2⟩,q⟩:=h
 obtain⟨t,rfl⟩:=rx
 obtain⟨t',rfl⟩:=Y
 have z:(⟨l.toArray⟩:Str).length=l.length:=by show l.toArray.size=_;simp
 have hL:=zG
 have J:=al9
 refine SB.mul ⟨?_,λ hn _=>?_,λ hn _=>?_⟩ λ t2 k=>?_
 .rw[decide_eq_false (by lia),decide_eq_false (by lia)];rfl
 .rw[z]
  have F:1<=n:=by omega
  intro a0
  have h3:(l.length:Int)*n<=1000000:=by
   have:((l.length*n.toNat:Nat):Int)<=(kJ:Nat):=Int.ofNat_le.mpr h2
   rw[jt,eQ h0]at this
   have e:((kJ:Nat):Int)=1000000:=by unfold kJ;rfl
   lia
  have h4:(l.length:Int)<=1000000:=by
   have:(l.length:Int)*1<=(l.length:Int)*n:=eC F (by lia)
   lia
  have h5:(1000000:Int)<=(2^63 - 1) / n:=by
   rw[Int.le_ediv_iff_mul_le (by omega)]
   have:(1000000:Int)*n<=1000000*1000000:=eC Z (by lia)
   lia
  lia
 .rw[z]
  unfold dX
  exact decide_eq_false (by lia)
 .have e:Txt.mul ⟨l.toArray⟩ n=⟨(kT n.toNat l).toArray⟩:=by
   unfold Txt.mul
   split
   .have:n.toNat=0:=by lia
    rw[this];rfl
   .split
    .rename_i hc
     rw[bn]at hc
     rcases hc with hc|hc
     .have:n=1:=by simpa using hc
      subst this
      show(⟨l.toArray⟩:Str)=⟨(kT 1 l).toArray⟩
      rw[bz2]
     .have:l=[]:=by
       have:=eq_of_beq hc
       rw[z]at this
       exact cO.mp this
      subst this
      rw[aU5]
    .show(⟨(ai n.toNat l.toArray).foldl (·++·) #[]⟩:Str)=_
     rw[aI3];simp
  rw[e]
  exact⟨.str _,H,I.tok _,⟨_,rfl⟩,q⟩
theorem al5 {n:Nat}{l:List kC}(h:kE n l=true):∀ k,kE n (ls k l)=true
 | 0=>rfl
 | k+1=>zV h (al5 h k)
theorem RVL.repD {C:Nat->Addr}{H:Hp}{l:List kC}{z:List V}(h:RVL Γ C H l z):∀ k,RVL Γ C H (ls k l) (ao5 k z)
 | 0=>RVL.nil
 | k+1=>h.append (RVL.repD h k)
theorem aA2 {α:Type}(h:List α):∀ k,ao5 k h=(ai k h).flatten
 | 0=>rfl
 | k+1=>by rw[bC,cG,<-aA2 h k];rfl
theorem bj1 {x y:Int}(hx:0<=x)(hy:0<=y):fy x y=((x.toNat ||| y.toNat:Nat):Int):=by
 have nn:∀ z:Int,dU (dU z)=z:=λ z=>by unfold dU;lia
 unfold fy
 rw[bitAnd_nn (by unfold dU;lia) (by unfold dU;lia),nn,nn,nn]
theorem bV4 (hK:X.K=Γ.K)(op:l9):OpR X (bK (bZ4 op)) (rOp Γ (DV.z0 op)):=by
 intro G s W H x y v u Q I Z Y h
 obtain⟨C,st,a,b,d,a0,R,ha,hb,na,nb,F,q⟩:=h
 cases op with
 | add =>
  cases a with
  | int a =>
   cases b with
   | int b =>
    change(lZ _) st=_ at F
    obtain⟨rfl,rfl⟩:=zE F
    have ex:=ha.intE;have J:=hb.intE;subst ex;subst J
    exact bV5 G s W H _ _ v u Q I Z Y ⟨_,_,rfl,rfl,q.here R rfl RV.intI⟩
   | _=>exact fb F
  | str a =>
   cases b with
   | str b =>
    change(if _ then _ else _:lG kC) st=_ at F
    split at F
    .rename_i hl
     obtain⟨rfl,rfl⟩:=zE F
     have ex:=ha.strE;have J:=hb.strE;subst ex;subst J
     refine aP0 G s W H _ _ v u Q I Z Y ⟨_,_,rfl,rfl,?_,?_⟩
     .show a.toArray.size+b.toArray.size<=_
      simp only[av]
      exact aj hl zG
     .rw[au4];exact q.here R rfl (RV.strI (by rw[am];exact hl))
    .exact fb F
   | _=>exact fb F
  | tup a =>
   cases b with
   | tup b =>
    change(if _ then _ else _:lG kC) st=_ at F
    split at F
    .rename_i hl
     obtain⟨rfl,rfl⟩:=zE F
     obtain⟨p,xs,⟨rfl,z1⟩,h1,d1⟩:=ha.tupZ
     obtain⟨p',ys,⟨rfl,z2⟩,h2,d2⟩:=hb.tupZ
     refine bz4 hK G s W H _ _ v u Q I Z Y ⟨p,p',xs,ys,rfl,rfl,h1,h2,?_,λ t H' e ht hn=>?_⟩
     .rw[d1.length,d2.length];exact aj hl zG
     .obtain⟨g,r'⟩:=R.same e
      unfold kI at na nb
      refine q _ _ _ g (ah _) (by unfold kI;exact zV na nb) (RV.tupC ht (λ z=>?_) ((RVL.mono g _ _ na d1).append (RVL.mono g _ _ nb d2))) r'
      rcases hn with hn|⟨rfl,rfl⟩|⟨rfl,rfl⟩
      .exact hn
      .rw[d2.tonil,aK]at z;rw[aK];exact e _ _ (z1 z)
      .rw[d1.tonil]at z;exact e _ _ (z2 z)
    .exact fb F
   | _=>exact fb F
  | ref a =>
   cases b with
   | ref b =>
    change(match st[a]?,st[b]? with|some (DV.O.lst l),some (DV.O.lst m)=>if l.length+m.length<=kJ then lz (.lst (l++m)) st else .bad|_,_=>.bad:kG kC)=_ at F
    split at F
    .rename_i l m h1 h2
     split at F
     .rename_i hl
      obtain⟨rfl,rfl⟩:=zY F
      obtain⟨xs,e1,d1⟩:=R.addr h1
      obtain⟨ys,e2,d2⟩:=R.addr h2
      have ex:=ha.refE;have J:=hb.refE;subst ex;subst J
      have b1:=R.wf _ _ h1
      have b2:=R.wf _ _ h2
      unfold kH at b1 b2
      refine bR1 G s W H _ _ v u Q I Z Y ⟨C a,C b,xs,ys,rfl,rfl,e1,e2,?_,λ p hp=>?_⟩
      .rw[d1.length,d2.length];exact aj hl zG
      .exact q.alloc R (d1.append d2) (zV b1 b2) hp
     .exact fb F
    .exact fb F
   | _=>exact fb F
  | _=>exact fb F
 | sub =>
  cases a with
  | int a =>
   cases b with
   | int b =>
    change(lZ _) st=_ at F
    obtain⟨rfl,rfl⟩:=zE F
    have ex:=ha.intE;have J:=hb.intE;subst ex;subst J
    exact bJ9 G s W H _ _ v u Q I Z Y ⟨_,_,rfl,rfl,q.here R rfl RV.intI⟩
   | _=>exact fb F
  | _=>exact fb F
 | mul =>
  cases a with
  | int a =>
   cases b with
   | int b =>
    change(if _ then _ else _:lG kC) st=_ at F
    split at F
    .rename_i hc
     obtain⟨rfl,rfl⟩:=zE F
     have ex:=ha.intE;have J:=hb.intE;subst ex;subst J
     exact bA4 G s W H _ _ v u Q I Z Y ⟨_,_,rfl,rfl,hc,q.here R rfl RV.intI⟩
    .exact fb F
   | _=>exact fb F
  | str a =>
   cases b with
   | int b =>
    change(if _ then _ else _:lG kC) st=_ at F
    split at F
    .rename_i hc
     obtain⟨rfl,rfl⟩:=zE F
     have ex:=ha.strE;have J:=hb.intE;subst ex;subst J
     exact bB5 G s W H _ _ v u Q I Z Y ⟨_,_,rfl,rfl,hc,q.here R rfl (RV.strI (by rw[rep_len];exact hc.2.2))⟩
    .exact fb F
   | _=>exact fb F
  | tup a =>
   cases b with
   | int b =>
    change(if _ then _ else _:lG kC) st=_ at F
    split at F
    .rename_i hc
     obtain⟨rfl,rfl⟩:=zE F
     obtain⟨p,xs,⟨rfl,z1⟩,h1,d1⟩:=ha.tupZ
     have J:=hb.intE;subst J
     refine bF4 hK G s W H _ _ v u Q I Z Y ⟨p,xs,_,rfl,rfl,h1,⟨hc.1,hc.2.1,by rw[d1.length];exact hc.2.2⟩,λ t H' e ht hn=>?_⟩
     obtain⟨g,r'⟩:=R.same e
     unfold kI at na
     refine q _ _ _ g (ah _) (by unfold kI;exact al5 na _) (RV.tupC ht (λ z=>?_) (RVL.repD (RVL.mono g _ _ na d1) _)) r'
     rcases hn with hn|⟨rfl,ex⟩
     .exact hn
     .rw[ex];exact e _ _ (z1 (bz5 z))
    .exact fb F
   | _=>exact fb F
  | ref a =>
   cases b with
   | int b =>
    change(match st[a]? with|some (DV.O.lst l)=>if 0<=b/\b<=1000000/\l.length*b.toNat<=kJ then lz (.lst (ls b.toNat l)) st else .bad|_=>.bad:kG kC)=_ at F
    split at F
    .rename_i l h1
     split at F
     .rename_i hc
      obtain⟨rfl,rfl⟩:=zY F
      obtain⟨xs,e1,d1⟩:=R.addr h1
      have ex:=ha.refE;have J:=hb.intE;subst ex;subst J
      have b1:=R.wf _ _ h1
      unfold kH at b1
      refine bT8 G s W H _ _ v u Q I Z Y ⟨C a,b,xs,rfl,rfl,e1,by lia,by omega,?_,λ p hp=>?_⟩
      .rw[d1.length];exact aj hc.2.2 zG
      .rw[<-aA2];exact q.alloc R (RVL.repD d1 _) (al5 b1 _) hp
     .exact fb F
    .exact fb F
   | _=>exact fb F
  | _=>exact fb F
 | fdiv =>
  cases a with
  | int a =>
   cases b with
   | int b =>
    change(if _ then _ else _:lG kC) st=_ at F
    split at F
    .rename_i hc
     obtain⟨rfl,rfl⟩:=zE F
     have ex:=ha.intE;have J:=hb.intE;subst ex;subst J
     refine bm1 G s W H _ _ v u Q I Z Y ⟨_,_,rfl,rfl,⟨hc.1,?_⟩,q.here R rfl RV.intI⟩
     have:=hc.2
     unfold DV.DIVL at this
     simpa using this
    .exact fb F
   | _=>exact fb F
  | _=>exact fb F
 | mod =>
  cases a with
  | int a =>
   cases b with
   | int b =>
    change(if _ then _ else _:lG kC) st=_ at F
    split at F
    .rename_i hc
     obtain⟨rfl,rfl⟩:=zE F
     have ex:=ha.intE;have J:=hb.intE;subst ex;subst J
     exact bJ4 G s W H _ _ v u Q I Z Y ⟨_,_,rfl,rfl,hc,q.here R rfl RV.intI⟩
    .exact fb F
   | _=>exact fb F
  | _=>exact fb F
 | pow =>
  cases a with
  | int a =>
   cases b with
   | int b =>
    change(if _ then _ else _:lG kC) st=_ at F
    split at F
    .rename_i hc
     obtain⟨rfl,rfl⟩:=zE F
     have ex:=ha.intE;have J:=hb.intE;subst ex;subst J
     exact bX6 G s W H _ _ v u Q I Z Y ⟨_,_,rfl,rfl,hc,q.here R rfl RV.intI⟩
    .exact fb F
   | _=>exact fb F
  | _=>exact fb F
 | shl =>
  cases a with
  | int a =>
   cases b with
   | int b =>
    change(if _ then _ else _:lG kC) st=_ at F
    split at F
    .rename_i hc
     obtain⟨rfl,rfl⟩:=zE F
     have ex:=ha.intE;have J:=hb.intE;subst ex;subst J
     exact bX9 G s W H _ _ v u Q I Z Y ⟨_,_,rfl,rfl,hc,q.here R rfl RV.intI⟩
    .exact fb F
   | _=>exact fb F
  | _=>exact fb F
 | shr =>
  cases a with
  | int a =>
   cases b with
   | int b =>
    change(if _ then _ else _:lG kC) st=_ at F
    split at F
    .rename_i hc
     obtain⟨rfl,rfl⟩:=zE F
     have ex:=ha.intE;have J:=hb.intE;subst ex;subst J
     exact bM9 G s W H _ _ v u Q I Z Y ⟨_,_,rfl,rfl,hc,q.here R rfl RV.intI⟩
    .exact fb F
   | _=>exact fb F
  | _=>exact fb F
 | band =>
  cases a with
  | int a =>
   cases b with
   | int b =>
    change(if _ then _ else _:lG kC) st=_ at F
    split at F
    .rename_i hc
     obtain⟨rfl,rfl⟩:=zE F
     have ex:=ha.intE;have J:=hb.intE;subst ex;subst J
     exact bu8 G s W H _ _ v u Q I Z Y ⟨_,_,rfl,rfl,hc,q.here R rfl RV.intI⟩
    .exact fb F
   | _=>exact fb F
  | _=>exact fb F
 | bor =>
  cases a with
  | int a =>
   cases b with
   | int b =>
    change(if _ then _ else _:lG kC) st=_ at F
    split at F
    .rename_i hc
     obtain⟨rfl,rfl⟩:=zE F
     have ex:=ha.intE;have J:=hb.intE;subst ex;subst J
     exact cd0 G s W H _ _ v u Q I Z Y ⟨_,_,rfl,rfl,by show Q (V.int (fy a b)) H;rw[bj1 hc.1 hc.2];exact q.here R rfl RV.intI⟩
    .exact fb F
   | _=>exact fb F
  | _=>exact fb F
variable {Γ:Gm} {X:Cx} {pins:yA} {W:St} {H:Hp} {sh:ag} {C:Nat->Addr} {s:kB}
theorem aK9 {n:Nat}{a b:kC}{z:Bool}(h:kL s n a b=some z):kU s a≠9:=by
 cases n with
 | zero=>unfold kL at h;exact(ag5 h).1
 | succ n =>
  unfold kL at h
  split at h
  .simp[kU]
  .split at h
   .rename_i F _;simp[kU,F]
   .cases h
  .exact(ag5 h).1
theorem aV0 (I:Inv X pins W H sh)(J:X.K=Γ.K)(R:Rp Γ C H s):∀(n:Nat) (a b c:kC) (x:V) (p q:Bool),RV Γ C H a x->RV Γ C H b x->kL s n a c=some p->kL s n b c=some q->p=q:=by
 intro n
 induction n with
 | zero =>
  intro a b c x p q z h e1 e2
  rcases rv_two I J R z h (aK9 e1) (aK9 e2)with e|⟨l,m,_,_,rfl,rfl,_⟩
  .subst e;rw[e1]at e2;exact aw e2
  .unfold kL at e1 e2
   have:kW s (.tup l) c=kW s (.tup m) c:=by unfold kW;cases c<;>rfl
   rw[this,e2]at e1;exact(aw e1).symm
 | succ n ih =>
  have G:∀(l m k:List kC) (F:List V) (p q:Bool),RVL Γ C H l F->RVL Γ C H m F->kS (kL s n) l k=some p->kS (kL s n) m k=some q->p=q:=by
   intro l
   induction l with
   | nil =>
    intro m k F p q z h e1 e2
    have:=z.unnil;subst this
    have hm:m=[]:=by have:=h.length;exact cO.mp this.symm
    subst hm
    rw[e1]at e2;exact aw e2
   | cons a l ihl =>
    intro m k F p q z h e1 e2
    obtain⟨x,r,rfl,g1,g2⟩:=z.uncons
    cases m with
    | nil=>have:=h.unnil;cases this
    | cons b m =>
     obtain⟨x',r',e,g3,Y⟩:=h.uncons
     cases e
     cases k with
     | nil=>unfold kS at e1 e2;rw[<-aw e1,<-aw e2]
     | cons c k =>
      obtain⟨p1,p2,a1,a2,a3⟩:=ak2 e1
      obtain⟨q1,q2,Z,b2,b3⟩:=ak2 e2
      rw[a3,b3,ih a b c x p1 q1 g1 g3 a1 Z,ihl m k r p2 q2 g2 Y a2 b2]
  intro a b c x p q z h e1 e2
  rcases rv_two I J R z h (aK9 e1) (aK9 e2)with e|⟨l,m,_,F,rfl,rfl,_,d1,d2⟩
  .subst e;rw[e1]at e2;exact aw e2
  .cases c with
   | tup k=>unfold kL at e1 e2;exact G l m k F p q d1 d2 e1 e2
   | _ =>
    unfold kL at e1 e2
    simp only at e1 e2
    have e3:kW s (.tup l)=kW s (.tup m):=by funext c;unfold kW;cases c<;>rfl
    rw[e3]at e1
    exact aw (e1.symm.trans e2)
theorem bq6 {x:kC}:∀ {l:List kC} {z:Bool},lA s x l=some z->∃ e:Nat->Bool,(∀ j d,l[j]?=some d->kL s kO d x=some (e j))/\(z=true↔∃ j,j<l.length/\e j=true)
 | [],z,h=>by
  unfold lA at h
  cases h
  exact⟨λ _=>true,λ j d h=>by simp at h,by simp⟩
 | y::l,z,h=>by
  unfold lA at h
  cases e1:kL s kO y x with
  | none=>rw[e1]at h;cases h
  | some a =>
   cases e2:lA s x l with
   | none=>rw[e1,e2]at h;cases h
   | some b =>
    rw[e1,e2]at h
    obtain⟨e,F,G⟩:=bq6 e2
    refine⟨λ j=>match j with|0=>a|j+1=>e j,λ j d g=>?_,?_⟩
    .cases j with
     | zero=>simp at g;subst g;exact e1
     | succ j=>exact F j d (by simpa using g)
    .have hz:(a||b)=z:=aw h
     rw[<-hz,bn,G]
     constructor
     .rintro(q|⟨j,hj,q⟩)
      .exact⟨0,by simp,q⟩
      .exact⟨j+1,by simpa using hj,q⟩
     .rintro⟨j,hj,q⟩
      cases j with
      | zero=>exact .inl q
      | succ j=>exact .inr ⟨j,by simpa using hj,q⟩
theorem bs9 (I:Inv X pins W H sh)(hK:X.K=Γ.K)(R:Rp Γ C H s){x:kC}{xv:V}{xu:Value}(hx:RV Γ C H x xv)(rx:RelV xv xu){l:List kC}{ys:List V}{its:yG}(hl:RVL Γ C H l ys)(hv:Vals ys its){z:Bool}(h:lA s x l=some z){A:a7}(hr:Room kO A) :
  ∃ e:Value->Bool,(∀ y,y∈its.toArray->gd A sh y xu (e y))/\its.toArray.any e=z:=by
 obtain⟨e,h1,h2⟩:=bq6 h
 have len:its.length=l.length:=by rw[<-hv.length];exact hl.length
 have F:∀ j u,its[j]?=some u->∃ d y,l[j]?=some d/\ys[j]?=some y/\RV Γ C H d y/\RelV y u:=λ j u g=>by
  have hj:j<l.length:=by rw[<-len];exact(ac.mp g).1
  obtain⟨y,g1,g2⟩:=hl.get (af hj)
  obtain⟨u',G,J⟩:=hv.get g1
  rw[g]at G;cases G
  exact⟨_,y,af hj,g1,g2,J⟩
 classical
 let f:Value->Bool:=λ u=>decide (∃ j,its[j]?=some u/\e j=true)
 have Z:∀ j u,its[j]?=some u->f u=e j:=λ j u g=>by
  obtain⟨d,y,g1,g2,G,J⟩:=F j u g
  cases q:e j with
  | true=>exact decide_eq_true ⟨j,g,q⟩
  | false =>
   refine decide_eq_false λ⟨k,g',q'⟩=>?_
   obtain⟨d',y',k1,k2,k3,k4⟩:=F k u g'
   have ey:y'=y:=k4.inj J
   subst ey
   have:=aV0 I hK R _ d d' x _ _ _ G k3 (h1 j d g1) (h1 k d' k1)
   rw[q,q']at this;cases this
 refine⟨f,λ u hu=>?_,?_⟩
 .obtain⟨j,hj,g⟩:=cb.mp (by simpa using hu:u∈its)
  have g':its[j]?=some u:=by rw[af hj,g]
  obtain⟨d,y,g1,g2,G,J⟩:=F j u g'
  rw[Z j u g']
  exact(bb9 I hK R _ d x y xv u xu A _ (h1 j d g1) G hx J rx hr).1
 .have e1:its.toArray.any f=true↔z=true:=by
   rw[h2,List.any_toArray,dn]
   constructor
   .rintro⟨u,hu,q⟩
    obtain⟨j,hj,g⟩:=cb.mp hu
    have g':its[j]?=some u:=by rw[af hj,g]
    exact⟨j,by lia,by rw[<-Z j u g'];exact q⟩
   .rintro⟨j,hj,q⟩
    have Y:j<its.length:=by lia
    exact⟨its[j],d6 Y,by rw[Z j _ (af Y)];exact q⟩
  cases z<;>cases q:its.toArray.any f
  .rfl
  .have:=e1.mp q;cases this
  .rw[q]at e1;have:=e1.mpr rfl;cases this
  .rfl
variable {Γ:Gm} {X:Cx}
theorem aa0 {α β:Type}{r:kG α}{f:α->kB->kG β}{b:β}{t:kB}(h:r.bind f=.ok b t):∃ a s,r=.ok a s/\f a s=.ok b t:=DV.R.bind_inv h
theorem bp9 (hK:X.K=Γ.K)(hr:Room (kO+1) X.A)(F:Bool){G:yA}{sh:ag}{W:St}{H:Hp}{x y:V}{v u:Value}{C:Nat->Addr}{st a0:kB}{a b:kC}{z:Bool}
  (I:Inv X G W H sh) (rx:RelV x v) (ry:RelV y u) (R:Rp Γ C H st) (ha:RV Γ C H a x) (hb:RV Γ C H b y) (h:l7 a b st=.ok z a0) :
  a0=st/\∀ Q:Value->ag->Prop,(∀ Y,Inv X G W H Y->Q (.bool (if F then !z else z)) Y)->wpAny (model X.prog X.w) X.A (dh (if F then .NotIn else .In) v u) Q X.xe sh:=by
 unfold l7 at h
 cases b with
 | tup l =>
  simp only at h
  cases e:lA st a l with
  | none=>rw[e]at h;cases h
  | some w =>
   rw[e]at h
   cases h
   obtain⟨p,ys,rfl,q,d⟩:=hb.tupE
   cases ry
   rw[<-hK]at q
   obtain⟨its,rv,t,_⟩:=I.tuple q
   obtain⟨f,Z,h2⟩:=bs9 I hK R ha rx d rv e (A:=X.A.in1) hr.in1
   refine⟨rfl,λ Q hq=>?_⟩
   cases F with
   | false=>exact SeqAt.in_tupleAt f t Z (by rw[h2];exact hq _ I)
   | true=>exact SeqAt.notIn_tupleAt f t Z (by rw[h2];exact hq _ I)
 | str y0 =>
  simp only at h
  split at h
  case h_2=>exact fb h
  rename_i c
  cases h
  refine⟨rfl,λ Q hq=>?_⟩
  have e1:=ha.strE
  have e2:=hb.strE
  subst e1 e2
  obtain⟨t1,rfl⟩:=rx
  obtain⟨t2,rfl⟩:=ry
  have a1:=j7 (⟨y0.toArray⟩:Str) c
  cases F with
  | false=>exact in_str (by rw[show(⟨[c].toArray⟩:Str)=⟨#[c]⟩from rfl,a1];simpa using hq _ I)
  | true=>exact notIn_str (by rw[show(⟨[c].toArray⟩:Str)=⟨#[c]⟩from rfl,a1];simpa using hq _ I)
 | ref r =>
  simp only at h
  cases hs:st[r]? with
  | none=>rw[hs]at h;cases h
  | some o =>
   rw[hs]at h
   cases o with
   | lst l =>
    simp only at h
    cases e:lA st a l with
    | none=>rw[e]at h;cases h
    | some w =>
     rw[e]at h
     cases h
     obtain⟨ys,e1,d⟩:=R.addr hs
     have ey:=hb.refE;subst ey
     cases ry
     obtain⟨its,rv,t,_⟩:=I.list (SqL.of e1)
     obtain⟨f,Z,h2⟩:=bs9 I hK R ha rx d rv e (A:=X.A.in1) hr.in1
     refine⟨rfl,λ Q hq=>?_⟩
     cases F with
     | false=>exact SeqAt.in_listAt f t.isList Z (by rw[h2];exact hq _ I)
     | true=>exact SeqAt.notIn_listAt f t.isList Z (by rw[h2];exact hq _ I)
   | dic l =>
    simp only at h
    split at h
    case isFalse=>exact fb h
    rename_i J
    cases h
    obtain⟨k,hk⟩:=ah5 J
    obtain⟨kvs,e1,d⟩:=R.obj r _ hs
    have ey:=hb.refE;subst ey
    cases ry
    have ex:=aA1 hk ha;subst ex
    have ez:(kR a l).isSome=(aL8 kvs k).isSome:=by
     rcases d.val keyOf_inj hk with⟨q1,q2⟩|⟨_,_,q1,q2,_⟩<;>rw[q1,q2]<;>rfl
    refine⟨rfl,λ Q hq=>?_⟩
    rw[ez]at hq
    cases F with
    | false=>exact cl2 (ax2 hr) I (aR5.k e1) rx hq
    | true=>exact bI3 (ax2 hr) I (aR5.k e1) rx hq
   | ro l=>exact fb h
   | ins c l=>exact fb h
   | dicF l=>exact fb h
 | _=>exact fb h
theorem bM2 {a b d:kC}{st z:kB}(h:DV.zc .le a b st=.ok d z):∃ i j,a=.int i/\b=.int j:=by
 cases a with
 | int i =>
  (cases b with
  | int j=>exact⟨i,j,rfl,rfl⟩
  | _=>exact fb h)
 | _=>exact fb h
theorem ay3 {a:kC}{i:Int}{x:List Nat}(h:DV.bf5 a=some (i,x)):a=.tup [.int i,.str x]:=by
 unfold DV.bf5 at h
 split at h
 .cases h;rfl
 .cases h
theorem bm8 {f:Int->List Nat->Int->List Nat->Bool}{a b d:kC}{st z:kB}(h:DV.bZ1 f a b st=.ok d z):∃ i x j y,a=.tup [.int i,.str x]/\b=.tup [.int j,.str y]:=by
 unfold DV.bZ1 at h
 split at h
 .rename_i i x j y e1 e2
  exact⟨i,x,j,y,ay3 e1,ay3 e2⟩
 .exact fb h
theorem ord_inv {op:lY}{a b d:kC}{st z:kB}(ho:op=.lt\/op=.gt\/op=.ge)(h:DV.zc op a b st=.ok d z):(∃ i j,a=.int i/\b=.int j)\/∃ i x j y,a=.tup [.int i,.str x]/\b=.tup [.int j,.str y]:=by
 rcases ho with rfl|rfl|rfl <;>
 (cases a with
 | int i =>
  (cases b with
  | int j=>exact .inl ⟨i,j,rfl,rfl⟩
  | _=>exact fb h)
 | tup l =>
  (cases b with
  | tup m=>first|exact .inr (bm8 h)|exact fb h
  | _=>exact fb h)
 | _=>exact fb h)
section
variable {pins:yA} {sh:ag} {W:St} {H:Hp} {C:Nat->Addr} {st:kB}
end
theorem bW4 (hK:X.K=Γ.K)(hr:Room (kO+1) X.A)(op:lY):OpR X (dh (bE1 op)) (rOp Γ (DV.zc op)):=by
 intro G s W H x y v u Q I Z Y h
 obtain⟨C,st,a,b,d,J,R,ha,hb,na,nb,F,q⟩:=h
 cases op with
 | eq =>
  have F:DV.eqM a b st=.ok d J:=F
  unfold DV.eqM at F
  cases e:kL st kO a b with
  | none=>rw[e]at F;cases F
  | some z =>
   rw[e]at F;cases F
   exact(bb9 I hK R _ a b x y v u X.A z e ha hb Z Y (hr.mono (by lia))).2.rc X.prog X.w X.xe _ ⟨.bl z,H,I,rfl,q.here R rfl RV.blI⟩
 | ne =>
  have F:(match kL st kO a b with|some r=>.ok (.bl (!r)) st|none=>.bad:kG kC)=.ok d J:=F
  cases e:kL st kO a b with
  | none=>rw[e]at F;cases F
  | some z =>
   rw[e]at F;cases F
   exact(bb9 I hK R _ a b x y v u X.A z e ha hb Z Y (hr.mono (by omega))).2.ne X.prog X.w X.xe _ ⟨.bl (!z),H,I,rfl,q.here R rfl RV.blI⟩
 | lt =>
  rcases ord_inv (.inl rfl) F with⟨i,j,rfl,rfl⟩|⟨i,x0,j,y0,rfl,rfl⟩
  .cases F
   have ex:=ha.intE;have ey:=hb.intE;subst ex;subst ey
   exact cf2 G s W H _ _ v u Q I Z Y ⟨_,_,rfl,rfl,q.here R rfl RV.blI⟩
  .exact fb F
 | le =>
  obtain⟨i,j,rfl,rfl⟩:=bM2 F
  cases F
  have ex:=ha.intE;have ey:=hb.intE;subst ex;subst ey
  exact ca0 G s W H _ _ v u Q I Z Y ⟨_,_,rfl,rfl,q.here R rfl RV.blI⟩
 | gt =>
  rcases ord_inv (.inr (.inl rfl)) F with⟨i,j,rfl,rfl⟩|⟨i,x0,j,y0,rfl,rfl⟩
  .cases F
   have ex:=ha.intE;have ey:=hb.intE;subst ex;subst ey
   exact ce8 G s W H _ _ v u Q I Z Y ⟨_,_,rfl,rfl,q.here R rfl RV.blI⟩
  .exact fb F
 | ge=>exact fb F
 | isin =>
  have F:(l7 a b st).bind (λ r s=>.ok (.bl r) s)=.ok d J:=F
  obtain⟨z,s1,e1,e2⟩:=aa0 F
  obtain⟨rfl,w⟩:=bp9 hK hr false I Z Y R ha hb e1
  cases e2
  exact w _ λ s' I'=>⟨.bl z,H,I',rfl,q.here R rfl RV.blI⟩
 | notin =>
  have F:(l7 a b st).bind (λ r s=>.ok (.bl (!r)) s)=.ok d J:=F
  obtain⟨z,s1,e1,e2⟩:=aa0 F
  obtain⟨rfl,w⟩:=bp9 hK hr true I Z Y R ha hb e1
  cases e2
  exact w _ λ s' I'=>⟨.bl (!z),H,I',rfl,q.here R rfl RV.blI⟩
theorem ba7 {C:Nat->Addr}{H:Hp}{l:List kC}{z:List V}{i:Int}{d:kC}(h:RVL Γ C H l z)(e:((lB l.length i).bind λ j=>l[j]?)=some d):∃ v,atI z i=some v/\RV Γ C H d v:=by
 cases hj:lB l.length i with
 | none=>rw[hj]at e;cases e
 | some j =>
  rw[hj]at e
  obtain⟨v,e1,e2⟩:=h.get (show l[j]?=some d from e)
  refine⟨v,?_,e2⟩
  unfold atI
  have:ixN z.length i=some j:=by rw[h.length];exact hj
  rw[this];exact e1
theorem aC2 {l:List kC}{i:Int}{d:kC}(e:((lB l.length i).bind λ j=>l[j]?)=some d):d∈l:=by
 cases hj:lB l.length i with
 | none=>rw[hj]at e;cases e
 | some j=>rw[hj]at e;exact be (show l[j]?=some d from e)
theorem cg7 (hK:X.K=Γ.K)(hu:X.A.units+2<cLine):IxR X (rOp Γ DV.ixM):=by
 intro J G Y s W H x y v u Q I rx ry h hs
 obtain⟨C,st,a,b,d,a2,R,ha,hb,na,nb,z,q⟩:=h
 unfold DV.ixM at z
 cases a with
 | tup l =>
  cases b with
  | int i =>
   simp only at z
   split at z
   .rename_i d' e
    cases z
    obtain⟨p,xs,rfl,h1,d1⟩:=ha.tupE
    have Z:=hb.intE;subst Z
    obtain⟨w,e1,e2⟩:=ba7 d1 e
    unfold kI at na
    exact bw0 hK J G Y s W H _ _ v u Q I rx ry ⟨p,xs,i,w,rfl,rfl,h1,e1,q.here R (aa6.mp na _ (aC2 e)) e2⟩ hs
   .exact fb z
  | _=>exact fb z
 | str l =>
  cases b with
  | int i =>
   simp only at z
   split at z
   .rename_i c e
    cases z
    have hl:=ha.strL
    have ex:=ha.strE;have Z:=hb.intE;subst ex;subst Z
    exact ix_str J G Y s W H _ _ v u Q I rx ry ⟨⟨l.toArray⟩,i,c,rfl,rfl,by show l.toArray.size<=_;rw[av];exact aj hl zG,e,q.here R rfl (RV.strI (by simp;decide))⟩ hs
   .exact fb z
  | _=>exact fb z
 | ref r =>
  have ex:=ha.refE;subst ex
  simp only at z
  cases hsr:st[r]? with
  | none=>rw[hsr]at z;cases z
  | some o =>
   rw[hsr]at z
   cases o with
   | lst l =>
    cases b with
    | int i =>
     simp only at z
     split at z
     .rename_i d' e
      cases z
      have Z:=hb.intE;subst Z
      obtain⟨xs,e1,d1⟩:=R.addr hsr
      obtain⟨w,e2,e3⟩:=ba7 d1 e
      have wf:=R.wf _ _ hsr
      unfold kH at wf
      exact aH0 hK J G Y s W H _ _ v u Q I rx ry ⟨C r,xs,i,w,rfl,rfl,SqL.of e1,e2,q.here R (aa6.mp wf _ (aC2 e)) e3⟩ hs
     .exact fb z
    | _=>exact fb z
   | ro l =>
    cases b with
    | int i =>
     simp only at z
     split at z
     .rename_i d' e
      cases z
      have Z:=hb.intE;subst Z
      obtain⟨xs,e1,d1⟩:=R.obj _ _ hsr
      obtain⟨w,e2,e3⟩:=ba7 d1 e
      have wf:=R.wf _ _ hsr
      unfold kH at wf
      exact aH0 hK J G Y s W H _ _ v u Q I rx ry ⟨C r,xs,i,w,rfl,rfl,e1.1,e2,q.here R (aa6.mp wf _ (aC2 e)) e3⟩ hs
     .exact fb z
    | _=>exact fb z
   | dic l =>
    simp only at z
    split at z
    case isFalse=>exact fb z
    rename_i a0
    obtain⟨k,hk⟩:=ah5 a0
    obtain⟨kvs,e1,d1⟩:=R.obj r _ hsr
    have Z:=aA1 hk hb;subst Z
    cases rx
    rcases d1.val keyOf_inj hk with⟨q1,_⟩|⟨e,v',q1,q2,q3,q4⟩
    .rw[q1]at z;cases z
    .rw[q1]at z
     cases z
     have wf:=R.wf _ _ hsr
     unfold kH at wf
     rw[ak]at wf
     have g:aR5 H (C r) (kV k) (some v'):=by rw[<-q2];exact aR5.k e1
     exact tail_any (aF2 I g) PySem.F.slot_dict_getitem.lookup (aS7 hu I g ry λ w' s' I' a1=>⟨v',H,I',a1,q.here R (aa6.mp wf.2 _ q4) q3⟩) hs
   | ins c l=>cases b<;>cases z
   | dicF l=>cases b<;>cases z
 | _=>cases b<;>cases z
theorem aW8 (n d:Nat)(i:Int):HT.sIx n d (some i)=lu n i:=by
 show(if i<0 then(i+(n:Int)).toNat else min i.toNat n)=_
 unfold lu
 by_cases h:i<0
 .rw[if_pos h,if_neg (by lia)]
 .rw[if_neg h,if_pos (by lia)]
theorem bq2 {C:Nat->Addr}{H:Hp}{l:List kC}{z:List V}(h:RVL Γ C H l z)(F G:Option Int):RVL Γ C H (kZ l F G) (aN9 z F G):=by
 unfold kZ aN9
 have e1:HT.sIx z.length 0 F=ly l.length F:=by
  cases F with
  | none=>rfl
  | some i=>rw[aW8,h.length];rfl
 have e2:HT.sIx z.length z.length G=lM l.length G:=by
  cases G with
  | none=>exact h.length
  | some i=>rw[aW8,h.length];rfl
 rw[e1,e2]
 exact(h.drop _).take _
theorem aI6 {α:Type}{l:List α}{h z:Option Int}:∀ d∈kZ l h z,d∈l:=λ d hd=>List.mem_of_mem_drop (List.mem_of_mem_take hd)
theorem bo5 {α:Type}(l:List α)(h z:Option Int):(kZ l h z).length<=l.length:=by
 unfold kZ
 rw[bB,cq]
 lia
theorem cf5 (z F:Option Int)(n:Nat):bu z F 1 n=(aP (lM n F - ly n z)).map (ly n z+·):=by
 rw[<-sliceRange_one]
 unfold bu
 have cl:∀ i:Int,max 0 (min (if i<0 then i+(n:Int)else i) (n:Int))=((lu n i:Nat):Int):=λ i=>by
  unfold lu
  by_cases h:i<0
  .rw[if_pos h,if_neg (by omega)];omega
  .rw[if_neg h,if_pos (by omega)];omega
 simp only[show((1:Int) > 0)=True by simp,if_true]
 cases z<;>cases F<;>simp only[cl,ly,lM]<;>rfl
theorem aK1 {l:List Nat}:∀(a k:Nat),a+k<=l.length->((aP k).map (a+·)).filterMap (λ x=>l.toArray[x]?)=(l.drop a).take k
 | a,0,_=>by simp
 | a,k+1,h=>by
  rw[List.range_succ,bw,List.filterMap_append,aK1 a k (by lia)]
  have hk:a+k<l.length:=by lia
  rw[i8,fg]
  simp[hk]
theorem aX7 (l:List Nat)(h z:Option Int):eJ ⟨l.toArray⟩ h z=⟨(kZ l h z).toArray⟩:=by
 unfold eJ
 have hn:(⟨l.toArray⟩:Str).length=l.length:=by show l.toArray.size=_;simp
 rw[hn,cf5]
 have hb:lM l.length z<=l.length:=by
  cases z with
  | none=>exact ah _
  | some i=>show lu l.length i<=_;unfold lu;split<;>lia
 have ha:ly l.length h<=l.length:=by
  cases h with
  | none=>exact bS _
  | some i=>show lu l.length i<=_;unfold lu;split<;>lia
 unfold kZ
 generalize lM l.length z=b at *
 generalize ly l.length h=a at *
 by_cases hc:((1:Int)==1&&((aP (b - a)).map (a+·)).length==l.length)=true
 .rw[if_pos hc]
  have:b - a=l.length:=by simpa using hc
  have h0:a=0\/l.length=0:=by lia
  rcases h0 with h0|h0
  .subst h0
   rw[this];simp
  .have:l=[]:=cO.mp h0
   subst this;simp
 .rw[if_neg hc]
  by_cases hab:a<=b
  .have e:=aK1 (l:=l) a (b - a) (by omega)
   show(⟨(gG (λ x=>l.toArray[x]?) _).toArray⟩:Str)=_
   rw[e]
  .rw[show b - a=0 by lia];simp
def rSl (Γ:Gm):V->Option Int->Option Int->Hp->VK->Prop:=λ x lo hi H Q=>∃ C s a d s',Rp Γ C H s/\RV Γ C H a x/\a.bnd s.length=true/\lN a lo hi s=.ok d s'/\ad9 Γ C s H d s' Q
theorem by7 (hK:X.K=Γ.K):SlR X (rSl Γ):=by
 intro F s W H x v vl vu Y J sl Q I rx hs pl pu h
 obtain⟨C,st,a,d,a0,R,ha,na,G,q⟩:=h
 unfold lN at G
 cases a with
 | tup l =>
  cases G
  obtain⟨p,Z,⟨rfl,z1⟩,h1,d1⟩:=ha.tupZ
  unfold kI at na
  refine by1 hK F s W H _ v vl vu Y J sl Q I rx hs pl pu ⟨p,Z,rfl,h1,λ t H' e ht hn=>?_⟩
  obtain⟨g,r'⟩:=R.same e
  have d2:=bq2 (RVL.mono g _ _ na d1) Y J
  refine q _ _ _ g (ah _) (by unfold kI;exact at5 na aI6) (RV.tupC ht (λ z=>?_) d2) r'
  rcases hn with hn|⟨rfl,ex⟩
  .exact hn
  .rw[ex]
   refine e _ _ (z1 ?_)
   have hl:(kZ l Y J).length=l.length:=by rw[<-d2.length,ex,d1.length]
   rwa [ba1 hl]at z
 | str l =>
  cases G
  have hl:=ha.strL
  have ex:=ha.strE;subst ex
  refine bW6 F s W H _ v vl vu Y J sl Q I rx hs pl pu ⟨_,rfl,by show l.toArray.size<=_;rw[av];exact aj hl zG,?_⟩
  rw[aX7]
  exact q.here R rfl (RV.strI (aj (bo5 l Y J) hl))
 | ref r =>
  have ex:=ha.refE;subst ex
  simp only at G
  cases hsr:st[r]? with
  | none=>rw[hsr]at G;cases G
  | some o =>
   rw[hsr]at G
   cases o with
   | lst l =>
    obtain⟨rfl,rfl⟩:=zY G
    obtain⟨Z,e1,d1⟩:=R.addr hsr
    have wf:=R.wf _ _ hsr
    unfold kH at wf
    exact bi6 hK F s W H _ v vl vu Y J sl Q I rx hs pl pu ⟨C r,Z,rfl,SqL.of e1,λ p hp=>q.alloc R (bq2 d1 Y J) (at5 wf aI6) hp⟩
   | _=>exact fb G
 | _=>exact fb G
variable {Γ:Gm} {X:Cx}
def rCl (Γ:Gm)(f:List kC->kB->kG kC):List V->Hp->VK->Prop:=λ xs H Q=>∃ C s l d s',Rp Γ C H s/\RVL Γ C H l xs/\kE s.length l=true/\f l s=.ok d s'/\ad9 Γ C s H d s' Q
theorem RVL.one {C:Nat->Addr}{H:Hp}{d:kC}{z:List V}(h:RVL Γ C H [d] z):∃ x,z=[x]/\RV Γ C H d x:=by
 obtain⟨x,r,rfl,F,G⟩:=h.uncons
 rw[G.unnil];exact⟨x,rfl,F⟩
noncomputable def biN:lq->Option (String×Nat)
 | .len=>some ("len",1)|.abs=>some ("abs",1)|.min2=>some ("min",2)|.max2=>some ("max",2)|_=>none
theorem qg:∀ {l:List kC} {is:List Int},lr l=some is->l=is.map DV.D.int
 | [],is,h=>by unfold lr at h;cases h;rfl
 | d::l,is,h=>by
  cases d with
  | int i =>
   have h:(lr l).map (i::·)=some is:=h
   cases e:lr l with
   | none=>rw[e]at h;cases h
   | some m=>rw[e]at h;cases h;rw[qg e];rfl
  | _=>cases h
theorem ag9:∀ {l:List kC} {is:List Bool},lC l=some is->l=is.map DV.D.bl
 | [],is,h=>by unfold lC at h;cases h;rfl
 | d::l,is,h=>by
  cases d with
  | bl i =>
   have h:(lC l).map (i::·)=some is:=h
   cases e:lC l with
   | none=>rw[e]at h;cases h
   | some m=>rw[e]at h;cases h;rw[ag9 e];rfl
  | _=>cases h
theorem RVL.ints {C:Nat->Addr}{H:Hp}:∀ {is:List Int} {z:List V},RVL Γ C H (is.map DV.D.int) z->z=is.map V.int
 | [],_,h=>h.unnil
 | i::is,_,h=>by
  obtain⟨x,r,rfl,F,G⟩:=RVL.uncons h
  rw[F.intE,RVL.ints G];rfl
theorem RVL.bls {C:Nat->Addr}{H:Hp}:∀ {is:List Bool} {z:List V},RVL Γ C H (is.map DV.D.bl) z->z=is.map V.bl
 | [],_,h=>h.unnil
 | i::is,_,h=>by
  obtain⟨x,r,rfl,F,G⟩:=RVL.uncons h
  rw[F.blE,RVL.bls G];rfl
theorem bd6 {f:kC->lG kC}{l:List kC}{s s':kB}{d:kC}(h:l8 f l s=.ok d s'):∃ a,l=[a]/\f a s=.ok d s':=by
 match l,h with
 | [a],h=>exact⟨a,rfl,h⟩
 | [],h=>exact fb h
 | _::_::_,h=>exact fb h
theorem bg7 (J:X.K=Γ.K)(hc:X.calm=true){b:lq}{Y:String}{k:Nat}(hn:biN b=some (Y,k)):ac0 X (.builtin Y) (rCl Γ (lT b)):=by
 intro z s W H xs us Q I r h
 obtain⟨C,st,l,d,G,R,hl,nl,F,q⟩:=h
 cases b with
 | len =>
  cases hn
  have F:l8 DV.bB6 l st=.ok d G:=F
  obtain⟨a,rfl,hg⟩:=bd6 F
  clear F
  obtain⟨x,rfl,hx⟩:=hl.one
  unfold DV.bB6 at hg
  cases a with
  | tup l =>
   cases hg
   obtain⟨p,ys,rfl,Z,d1⟩:=hx.tupE
   refine al6 J z s W H _ us Q I r ⟨p,ys,rfl,.inr Z,?_⟩
   rw[d1.length];exact q.here R rfl RV.intI
  | str l =>
   cases hg
   have hL:=hx.strL
   have e:=hx.strE;subst e
   refine ay5 z s W H _ us Q I r ⟨_,rfl,by show l.toArray.size<=_;rw[av];exact aj hL zG,?_⟩
   show Q (.int ((l.toArray.size:Nat):Int)) H
   rw[av]
   exact q.here R rfl RV.intI
  | ref n =>
   have e:=hx.refE;subst e
   simp only at hg
   cases hs:st[n]? with
   | none=>rw[hs]at hg;cases hg
   | some o =>
    rw[hs]at hg
    cases o with
    | lst l =>
     cases hg
     obtain⟨ys,e1,d1⟩:=R.addr hs
     refine al6 J z s W H _ us Q I r ⟨C n,ys,rfl,.inl (SqL.of e1),?_⟩
     rw[d1.length];exact q.here R rfl RV.intI
    | ro l =>
     cases hg
     obtain⟨ys,e1,d1⟩:=R.obj _ _ hs
     refine al6 J z s W H _ us Q I r ⟨C n,ys,rfl,.inl e1.1,?_⟩
     rw[d1.length];exact q.here R rfl RV.intI
    | dic l=>exact fb hg
    | ins c l=>exact fb hg
    | dicF l=>exact fb hg
  | _=>exact fb hg
 | abs =>
  cases hn
  have F:(match lr l with|some [i]=>.ok (.int (if i<0 then -i else i)) st|_=>.bad:kG kC)=.ok d G:=F
  split at F
  .rename_i i e
   cases F
   have:=qg e;subst this
   have:=RVL.ints hl;subst this
   exact bl8 z s W H _ us Q I r ⟨i,rfl,q.here R rfl RV.intI⟩
  .exact fb F
 | min2 =>
  cases hn
  have F:(match lr l with|some [a,b]=>.ok (.int (if b<a then b else a)) st|_=>.bad:kG kC)=.ok d G:=F
  split at F
  .rename_i a b e
   cases F
   have:=qg e;subst this
   have:=RVL.ints hl;subst this
   exact bb7 hc z s W H _ us Q I r ⟨_,_,rfl,q.here R rfl RV.intI⟩
  .exact fb F
 | max2 =>
  cases hn
  have F:(match lr l with|some [a,b]=>.ok (.int (if b > a then b else a)) st|_=>.bad:kG kC)=.ok d G:=F
  split at F
  .rename_i a b e
   cases F
   have:=qg e;subst this
   have:=RVL.ints hl;subst this
   exact aU2 hc z s W H _ us Q I r ⟨_,_,rfl,q.here R rfl RV.intI⟩
  .exact fb F
 | _=>cases hn
theorem aI4:∀ j:Nat,j<=9->bU (toString (j:Int))=(⟨[48+j].toArray⟩:Str):=by decide
theorem bU9:ac0 X (.type "int") (rCl Γ (lT .int)):=by
 intro F s W H Z us Q I r h
 obtain⟨C,st,l,d,J,R,hl,nl,z,q⟩:=h
 have z:(match lC l with|some [b]=>.ok (.int (if b then 1 else 0)) st|some _=>.bad|none=>DV.aR1 l st:kG kC)=.ok d J:=z
 split at z
 .rename_i b e
  cases z
  have:=ag9 e;subst this
  have:=RVL.bls hl;subst this
  exact aV6 F s W H _ us Q I r (.inr ⟨b,rfl,q.here R rfl RV.intI⟩)
 .exact fb z
 .unfold DV.aR1 at z
  split at z
  .rename_i c _ _
   split at z
   .rename_i hc
    cases z
    obtain⟨x,G,rfl,r1,Y⟩:=hl.uncons
    cases(show G=[]from Y)
    have:=r1.strE
    subst this
    obtain⟨u,rfl,t,rfl⟩:=qu r
    obtain⟨j,hj,rfl⟩:∃ j:Nat,j<=9/\c=48+j:=⟨c - 48,by omega,by omega⟩
    rw[show(⟨[48+j].toArray⟩:Str)=bU (toString (j:Int))from(aI4 j hj).symm]
    refine PySem.W.KIN.call_num (by lia) (by lia) ⟨.int (j:Int),H,I.tok _,⟨_,rfl⟩,?_⟩
    have:=q.here R rfl (RV.intI (i:=((48+j - 48:Nat):Int)))
    rw[show 48+j - 48=j by lia]at this
    exact this
   .exact fb z
  .exact fb z
theorem bO8:ac0 X (.type "str") (rCl Γ (lT .str)):=by
 intro Y s W H Z us Q I r h
 obtain⟨C,st,l,d,J,R,hl,nl,z,q⟩:=h
 have z:DV.bd5 l st=.ok d J:=z
 unfold DV.bd5 at z
 split at z
 .rename_i i _
  split at z
  .rename_i hi
   cases z
   obtain⟨x,F,rfl,r1,G⟩:=hl.uncons
   cases(show F=[]from G)
   have:=r1.intE
   subst this
   obtain⟨u,rfl,t,rfl⟩:=qu r
   obtain⟨j,rfl⟩:∃ j:Nat,i=(j:Int):=⟨i.toNat,by lia⟩
   have hj:j<=9:=by lia
   refine PySem.P.str_of_int ?_ ⟨.str ⟨[48+j].toArray⟩,H,I.tok _,⟨s.toks,?_⟩,?_⟩
   .have:(j:Int).natAbs.log2<=(j:Int).natAbs:=Nat.log2_le_self _
    lia
   .rw[<-aI4 j hj]
   .have:=q.here R rfl (RV.strI (x:=[48+(j:Int).toNat]) (by show 1<=kJ;decide))
    rw[cH]at this
    exact this
  .exact fb z
 .rename_i w _
  cases z
  obtain⟨x,F,rfl,r1,G⟩:=hl.uncons
  cases(show F=[]from G)
  have e:=r1.strE
  subst e
  obtain⟨u,rfl,t,rfl⟩:=qu r
  refine PySem.P.str_of_str ⟨.str ⟨w.toArray⟩,H,I,⟨_,rfl⟩,?_⟩
  unfold kE at nl
  exact q.here R rfl r1
 .exact fb z
noncomputable def ao8:Nat->String
 | 1 => "int" | 2 => "bool" | 3 => "str" | 4 => "tuple" | _ => "list"
theorem bA1 {K:ae}(k:Nat)(hk:1<=k/\k<=5):bQ K (.type "NoneType") (.type (ao8 k))=some false/\bQ K (.type "bool") (.type (ao8 k))=some (k==1||k==2) /\
  bQ K (.type "int") (.type (ao8 k))=some (k==1)/\bQ K (.type "str") (.type (ao8 k))=some (k==3)/\bQ K (.type "tuple") (.type (ao8 k))=some (k==4)/\bQ K (.type "list") (.type (ao8 k))=some (k==5):=by
 obtain⟨F,z⟩:=hk
 rcases(by lia:k=1\/k=2\/k=3\/k=4\/k=5)with h|h|h|h|h<;>subst h<;>refine⟨?_,?_,?_,?_,?_,?_⟩<;>with_unfolding_all rfl
theorem aN0 {F:yA}{W:St}{H:Hp}{s:ag}{A:a7}{E:Value->ag->Prop}{Q:Value->ag->Prop}{c:Value}{b:Bool}{a:Addr}{G:List V}(I:Inv X F W H s)(Y:SqT X.K H a G)(e:bQ X.K (.type "tuple") c=some b)
  (h:∀ tk,Q (.bool b) { s with toks:=tk }):wpAny (model X.prog X.w) A (call (.builtin "isinstance") [.ref a,c]) Q E s:=by
 obtain⟨its,_,⟨o,g1,J,_⟩,_⟩:=I.tuple Y
 exact bE iw I.kIn ⟨o,g1,J⟩ e (λ z=>nomatch z) h
theorem bW0 (hK:X.K=Γ.K){k:Nat}(hk:1<=k/\k<=5):ac0 X (.builtin "isinstance") (λ G H Q=>∃ x,G=[x,.ty (ao8 k)]/\rCl Γ (l8 (mn k)) [x] H Q):=by
 intro Y s W H G us Q I r h
 obtain⟨x,rfl,C,st,l,d,z,R,hl,nl,F,q⟩:=h
 obtain⟨a,rfl,hg⟩:=bd6 F
 clear F
 obtain⟨u,w',rfl,r1,r2⟩:=bF7 r
 cases r2
 obtain⟨x',e',hx⟩:=hl.one
 cases e'
 obtain⟨Z,k1,k2,k3,k4,k5⟩:=bA1 (K:=X.K) k hk
 unfold mn at hg
 cases a with
 | non=>cases hg;have e:=hx.nonE;subst e;exact qp I r1 .non Z λ tk=>⟨.bl _,H,I.tok _,rfl,q.here R rfl RV.blI⟩
 | bl b=>cases hg;have e:=hx.blE;subst e;exact qp I r1 (.bl b) k1 λ tk=>⟨.bl _,H,I.tok _,rfl,q.here R rfl RV.blI⟩
 | int b=>cases hg;have e:=hx.intE;subst e;exact qp I r1 (.int b) k2 λ tk=>⟨.bl _,H,I.tok _,rfl,q.here R rfl RV.blI⟩
 | str b=>cases hg;have e:=hx.strE;subst e;exact qp I r1 (.str _) k3 λ tk=>⟨.bl _,H,I.tok _,rfl,q.here R rfl RV.blI⟩
 | tup l =>
  cases hg
  obtain⟨p,ys,rfl,J,d1⟩:=hx.tupE
  cases r1
  rw[<-hK]at J
  exact aN0 I J k4 λ tk=>⟨.bl _,H,I.tok _,rfl,q.here R rfl RV.blI⟩
 | ref n =>
  have e:=hx.refE;subst e
  have hg:(match st[n]? with|some (.lst _)=>.ok (.bl (k==5)) st|_=>.bad:kG kC)=.ok d z:=hg
  cases hs:st[n]? with
  | none=>rw[hs]at hg;cases hg
  | some o =>
   rw[hs]at hg
   cases o with
   | lst l =>
    cases hg
    obtain⟨ys,e1,d1⟩:=R.addr hs
    exact qp I r1 (.lst e1) k5 λ tk=>⟨.bl _,H,I.tok _,rfl,q.here R rfl RV.blI⟩
   | _=>exact fb hg
 | _=>exact fb hg
variable {X:Cx}
theorem bc2 {bs:List Bool}{its:yG}(r:Vals (bs.map V.bl) its){i:Nat}{v:Value}(h:its[i]?=some v):∃ z,bs[i]?=some z/\v=Value.bool z:=by
 induction bs generalizing its i with
 | nil=>rw[cR]at r;cases r;simp at h
 | cons b bs ih =>
  rw[aH]at r
  cases r with
  | cons r1 r2 =>
   cases i with
   | zero =>
    cases r1
    have:_=v:=aw h
    exact⟨b,rfl,this.symm⟩
   | succ i=>exact ih r2 h
theorem aW6 {bs:List Bool}:(aP bs.length).all (λ i=>bs.getD i false)=bs.all id:=by
 rw[eM,aL,aL]
 constructor
 .intro h b hb
  obtain⟨i,z,e⟩:=cb.mp hb
  have:=h i (br.mpr z)
  rw[ay,af z]at this
  rw[<-e];exact this
 .intro h i z
  have z:=br.mp z
  rw[ay,af z]
  exact h _ (d6 z)
theorem aZ6 {bs:List Bool}:(aP bs.length).any (λ i=>bs.getD i false)=bs.any id:=by
 rw[eM,dn,dn]
 constructor
 .rintro⟨i,h,e⟩
  have h:=br.mp h
  rw[ay,af h]at e
  exact⟨_,d6 h,e⟩
 .rintro⟨b,hb,e⟩
  obtain⟨i,h,e2⟩:=cb.mp hb
  refine⟨i,br.mpr h,?_⟩
  rw[ay,af h]
  show bs[i]=true
  rw[e2];exact e
theorem aY5 {K:ae}(hc:X.calm=true)(hK:X.K=K):ac0 X (.builtin "all") (λ J H Q=>∃(a:Addr) (bs:List Bool),J=[.ref a]/\SqL K H a (bs.map V.bl)/\Q (.bl (bs.all id)) H):=by
 subst hK
 intro Z s W H J us Q I r h
 obtain⟨a,bs,rfl,hS,q⟩:=h
 obtain⟨u,rfl,ru⟩:=qu r
 cases ru
 obtain⟨its,Y,pl,hz⟩:=I.list hS
 have hl:=Y.length
 rw[az]at hl
 refine call_all_walk (c7 pl.isList ?_)
 have G:a<s.heap.objs.size:=by obtain⟨o,_,e,_⟩:=pl;exact aN e
 have Ww:=jL (prog:=X.prog) (w:=X.w) (A:=X.A.in1) (I.ok.hd hc) s.heap.objs.size a (aC G) its.toArray
 refine⟨_,_,_,_,_,_,λ i=>bs.getD i false,rfl,Ww,⟨⟨_,aV _ rfl,rfl,rfl⟩,?_⟩,λ i v s' Q' E' F hQ=>?_,λ h' tk k=>?_⟩
 .obtain⟨o,e,r⟩:=pl.isList
  exact⟨o,aq _ e,r⟩
 .obtain⟨z,e1,e2⟩:=bc2 Y (i:=i) (v:=v) (by have F:its.toArray[i]?=some v:=F;rw[c5]at F;exact F)
  subst e2
  refine bO ?_
  have:bs.getD i false=z:=by rw[ay,e1];rfl
  rw[<-this];exact hQ
 .have es:its.toArray.size=bs.length:=by rw[av];lia
  rw[es,aW6]
  refine⟨.bl (bs.all id),H,I.kept (h':=h') (t':=tk) λ b o q=>k b o ?_ (aq _ q),rfl,q⟩
  intro z
  have z':b=s.heap.objs.size:=by simpa using z
  exact absurd (aN q) (by rw[z'];exact bA _)
theorem aS9 {K:ae}(hc:X.calm=true)(hK:X.K=K):ac0 X (.builtin "any") (λ J H Q=>∃(a:Addr) (bs:List Bool),J=[.ref a]/\SqL K H a (bs.map V.bl)/\Q (.bl (bs.any id)) H):=by
 subst hK
 intro Z s W H J us Q I r h
 obtain⟨a,bs,rfl,hS,q⟩:=h
 obtain⟨u,rfl,ru⟩:=qu r
 cases ru
 obtain⟨its,Y,pl,hz⟩:=I.list hS
 have hl:=Y.length
 rw[az]at hl
 refine call_any_walk (c7 pl.isList ?_)
 have G:a<s.heap.objs.size:=by obtain⟨o,_,e,_⟩:=pl;exact aN e
 have Ww:=jL (prog:=X.prog) (w:=X.w) (A:=X.A.in1) (I.ok.hd hc) s.heap.objs.size a (aC G) its.toArray
 refine⟨_,_,_,_,_,_,λ i=>bs.getD i false,rfl,Ww,⟨⟨_,aV _ rfl,rfl,rfl⟩,?_⟩,λ i v s' Q' E' F hQ=>?_,λ h' tk k=>?_⟩
 .obtain⟨o,e,r⟩:=pl.isList
  exact⟨o,aq _ e,r⟩
 .obtain⟨z,e1,e2⟩:=bc2 Y (i:=i) (v:=v) (by have F:its.toArray[i]?=some v:=F;rw[c5]at F;exact F)
  subst e2
  refine bO ?_
  have:bs.getD i false=z:=by rw[ay,e1];rfl
  rw[<-this];exact hQ
 .have es:its.toArray.size=bs.length:=by rw[av];omega
  rw[es,aZ6]
  refine⟨.bl (bs.any id),H,I.kept (h':=h') (t':=tk) λ b o q=>k b o ?_ (aq _ q),rfl,q⟩
  intro z
  have z':b=s.heap.objs.size:=by simpa using z
  exact absurd (aN q) (by rw[z'];exact bA _)
theorem ca2:bc "any"=some (.builtin "any"):=by decide +kernel
noncomputable def sgV (x:List Nat):List V:=x.map λ c=>.str ⟨#[c]⟩
theorem bC2 {vs:List V}{z:yG}(hl:vs.length=z.length)(h:∀(i:Nat) (x:V) (u:Value),vs[i]?=some x->z[i]?=some u->RelV x u):Vals vs z:=by
 induction vs generalizing z with
 | nil=>cases z with
  | nil=>exact .nil
  | cons _ _=>cases hl
 | cons v vs ih=>cases z with
  | nil=>cases hl
  | cons a z=>exact .cons (h 0 v a rfl rfl) (ih (by simpa using hl) λ i x u e1 e2=>h (i+1) x u e1 e2)
theorem aq8 {x:List Nat}{z:yJ}(h:ItemsOf (SignAt ⟨x.toArray⟩) z x.length):Vals (sgV x) z.toList:=by
 have hl:(sgV x).length=z.toList.length:=by unfold sgV;rw[az];simpa using h.1.symm
 refine bC2 hl λ i v u e1 e2=>?_
 obtain⟨c,t,F,G⟩:=h.2 i u (by rw[<-gv];exact e2)
 unfold sgV at e1
 rw[aF]at e1
 have F:x[i]?=some c:=by simpa using F
 rw[F]at e1
 cases e1
 exact⟨t,G⟩
theorem aE2 (hc:X.calm=true):ac0 X (.type "tuple") (λ J H Q=>∃ x:List Nat,J=[.str ⟨x.toArray⟩]/\x.length<=kJ/\∀ l,H l=none->Q (.ref l) (upd H l (.tup (sgV x)))):=by
 intro z s W H J us Q I r h
 obtain⟨x,rfl,hl,q⟩:=h
 obtain⟨u,rfl,rx⟩:=qu r
 obtain⟨t,rfl⟩:=rx
 have hz:(sgV x).length<=aM:=by unfold sgV;rw[az];exact aj hl zG
 refine call_tuple_str (I.ok.hd hc) _ t (λ h' tk F kp G=>?_) (by show x.toArray.size<=_;rw[av];exact aj hl zG)
 have G:ItemsOf (SignAt ⟨x.toArray⟩) F x.length:=by simpa using G
 have Z:=aq8 G
 have Y:Inv X z W H { s with heap:=h',toks:=tk }:=I.kept (t':=tk) kp
 have I2:Inv X z W (upd H h'.objs.size (.tup (sgV x))) { s with heap:=h'.push { cls:=.type "tuple",data:=.seq F },toks:=tk } :=
  Y.laid (t':=tk) (λ b o e=>aq _ e) (ah _) (show ab7 X.prog X.w _ _ _ (.tup (sgV x))from⟨hz,F.toList,Z,jf _ _⟩)
 exact⟨.ref h'.objs.size,_,I2,rfl,q _ (Y.hok.fresh (ah _))⟩
theorem aQ0 (hc:X.calm=true):ac0 X (.type "list") (λ G H Q=>∃ x:List Nat,G=[.str ⟨x.toArray⟩]/\x.length<=kJ/\∀ l,H l=none->Q (.ref l) (upd H l (.lst (sgV x)))):=by
 intro J s W H G us Q I r h
 obtain⟨x,rfl,hl,q⟩:=h
 obtain⟨u,rfl,rx⟩:=qu r
 obtain⟨t,rfl⟩:=rx
 have hz:(sgV x).length<=aM:=by unfold sgV;rw[az];exact aj hl zG
 refine call_list_str (I.ok.hd hc) _ t (λ h' tk z Z kp e F=>?_) (by show x.toArray.size<=_;rw[av];exact aj hl zG)
 have F:ItemsOf (SignAt ⟨x.toArray⟩) z x.length:=by simpa using F
 have Y:=aq8 F
 exact⟨.ref s.heap.objs.size,_,I.laid (t':=tk) kp (ah _) (show ab7 X.prog X.w _ h' _ (.lst (sgV x))from⟨hz,z.toList,Z,Y,e⟩),rfl,q _ (I.hok.fresh (ah _))⟩
section
variable {Γ:Gm} {C C':Nat->Addr} {H H' H1 H2 H3:Hp} {clos:yB} {s s':kB}
theorem Gr.put (hc:Cells clos H)(F:∀ b,isC clos b=true->H' b=none)(hK:∀ b o,Γ.K.lookup b=some o->H b=none)(R':Rp Γ C' H' s')(g:Gr C s (aq7 clos H) C' s' H'):Gr C s H C' s' (Put clos H H'):=by
 refine⟨⟨g.w.map,λ b o e f=>?_⟩,g.le,λ i Y J=>?_,g.kd,λ b e=>?_,λ b o kvs e=>?_,λ b o e Z no=>?_⟩
 .by_cases z:isC clos b=true
  .rw[Put.cell z];exact e
  .rw[Put.ne z];exact g.w.kp b o (by rw[aq7.ne z];exact e) f
 .have hd:=g.new i Y J
  by_cases z:isC clos (C' i)=true
  .have hg:=F _ z
   obtain⟨o,eo⟩:∃ o,s'[i]?=some o:=⟨s'[i],af J⟩
   have h:=R'.obj i o eo
   cases o with
   | lst l=>obtain⟨G,e,_⟩:=h;rw[hg]at e;cases e
   | ro l =>
    obtain⟨G,e,_⟩:=h
    rcases e.1 with(e|⟨_,e⟩)|⟨ob,its,n,e,_⟩
    .rw[hg]at e;cases e
    .rw[hg]at e;cases e
    .exact hK _ _ e
   | dic l=>obtain⟨G,e,_⟩:=h;rw[hg]at e;cases e
   | dicF l=>obtain⟨_,G,e,_⟩:=h;rw[hg]at e;cases e
   | ins _ _=>obtain⟨_,_,_,_,_,e,_⟩:=h;rw[hg]at e;cases e
  .rw[aq7.ne z]at hd;exact hd
 .by_cases z:isC clos b=true
  .rw[Put.cell z];exact e
  .rw[Put.ne z];exact g.st b (by rw[aq7.ne z];exact e)
 .by_cases z:isC clos b=true
  .rw[Put.cell z];exact e
  .rw[Put.ne z];exact g.fz b o kvs (by rw[aq7.ne z];exact e)
 .by_cases z:isC clos b=true
  .rw[Put.cell z];exact e
  .rw[Put.ne z];exact g.fr b o (by rw[aq7.ne z];exact e) Z no
theorem Cells.kp {H H':Hp}(h:Cells clos H)(k:Kp H H'):Cells clos H':=λ x c e=>by
 obtain⟨o,v,q,d⟩:=h x c e
 exact⟨o,v,k _ _ q rfl,d⟩
def PVp (Γ:Gm)(cells:yB)(N:yH)(W:St)(C:Nat->Addr)(H:Hp)(d:kC)(v:V):Prop:=RV Γ C H d v\/∃ id cs,d=.clo id cs/\∃ f J,v=.ref f/\Γ.lg id J/\ay6 H f J (ao9 cells J.scope.names []) /\
  cs.length=J.fr.length/\(∀ x,J.scope.names.lookup x=some .free->∃ c,cells.lookup x=some c) /\
  ∃ cap,RVL Γ C H cs cap/\∀(i:Nat) (x:Str) (v:V),J.fr[i]?=some x->cap[i]?=some v->J.scope.names.lookup x=some .free/\∃ j:Nat,N[j]?=some x/\W[j]?=some (some v)
inductive PVL (Γ:Gm)(cells:yB)(N:yH)(W:St)(C:Nat->Addr)(H:Hp):List kC->List V->Prop where
 | nil:PVL Γ cells N W C H [] []
 | cons {d v l vs} (a:PVp Γ cells N W C H d v) (b:PVL Γ cells N W C H l vs):PVL Γ cells N W C H (d::l) (v::vs)
theorem PVp.mono {cells:yB}{N:yH}{W:St}{C C':Nat->Addr}{s s':kB}{H H':Hp}(g:Gr C s H C' s' H'){d:kC}{v:V}(b:d.bnd s.length=true)(h:PVp Γ cells N W C H d v):PVp Γ cells N W C' H' d v:=by
 rcases h with h|⟨id,z,rfl,h⟩
 .exact .inl (RV.mono g _ _ b h)
 .obtain⟨f,J,e,Y,h2,h4,F,cap,G,Z⟩:=h
  unfold kI at b
  exact .inr ⟨id,z,rfl,f,J,e,Y,h2.kp g.w.kp,h4,F,cap,RVL.mono g z cap b G,Z⟩
end
variable {Γ:Gm} {X:Cx}
def TEv (Γ:Gm)(m:kD->kB->kG kC):TE:=λ W H Q=>∃ C U s d s',RE Γ C H s.length U W/\Rp Γ C H s/\m U s=.ok d s'/\ad9 Γ C s H d s' Q
def bX1 (Γ:Gm)(C:Nat->Addr)(s:kB)(H:Hp)(l:List kC)(s':kB)(Q:List V->Hp->Prop):Prop :=
 ∀ vs C' H',Gr C s H C' s' H'->s.length<=s'.length->kE s'.length l=true->RVL Γ C' H' l vs->Rp Γ C' H' s'->Q vs H'
def TAv (Γ:Gm)(m:kD->kB->kG (List kC)):TA:=λ W H Q=>∃ C U s l s',RE Γ C H s.length U W/\Rp Γ C H s/\m U s=.ok l s'/\bX1 Γ C s H l s' Q
def aL2 (Γ:Gm)(C:Nat->Addr)(s:kB)(H:Hp)(b:Bool)(s':kB)(Q:Bool->Hp->Prop):Prop :=
 ∀ C' H',Gr C s H C' s' H'->s.length<=s'.length->Rp Γ C' H' s'->Q b H'
def TTv (Γ:Gm)(m:kD->kB->kG kC):TT:=λ W H Q=>∃ C U s b s',RE Γ C H s.length U W/\Rp Γ C H s/\m U s=.ok (.bl b) s'/\aL2 Γ C s H b s' Q
theorem PE.imp {e:Expr}{t t':TE}(h:PE X e t)(i:∀ W H Q,t' W H Q->t W H Q):PE X e t':=λ z s W H Q I q=>h z s W H Q I (i W H Q q)
theorem PT.imp {e:Expr}{t t':TT}(h:PT X e t)(i:∀ W H Q,t' W H Q->t W H Q):PT X e t':=λ z s W H Q I q=>h z s W H Q I (i W H Q q)
theorem PA.imp {e:yK}{t t':TA}(h:PA X e t)(i:∀ W H Q,t' W H Q->t W H Q):PA X e t':=λ pos z s W H Q I q=>h pos z s W H Q I (i W H Q q)
theorem aL2.trans {C C1:Nat->Addr}{s s1 s':kB}{H z:Hp}{b:Bool}{Q:Bool->Hp->Prop}(h:aL2 Γ C s H b s' Q)(g:Gr C s H C1 s1 z)(l:s.length<=s1.length):aL2 Γ C1 s1 z b s' Q :=
 λ C' H' g' F p=>h C' H' (g.trans g' l) (aj l F) p
theorem bP1 (i:Nat){W:St}{H:Hp}{Q:VK}(h:TEv Γ (λ U s=>DV.be6 U i s) W H Q):cj2 i W H Q:=by
 obtain⟨C,U,s,d,s',E,R,z,q⟩:=h
 simp only[DV.be6]at z
 split at z
 .rename_i d' e
  cases z
  obtain⟨b,v,e1,e2⟩:=E.val i _ e
  exact⟨v,e1,q.here R b e2⟩
 .exact fb z
theorem ax9 {c:kC}{v:V}(hb:∀ n,c.bnd n=true)(hv:∀ C H,RV Γ C H c v){W:St}{H:Hp}{Q:VK}(h:TEv Γ (λ U s=>.ok c s) W H Q):tC v W H Q:=by
 obtain⟨C,U,s,d,s',E,R,z,q⟩:=h
 cases z
 exact q.here R (hb _) (hv _ _)
theorem bm0 {G F:kD->kB->kG kC}{f:kC->kC->kB->kG kC}{W:St}{H:Hp}{Q:VK}(h:TEv Γ (λ U s=>(G U s).bind λ x s=>(F U s).bind λ y s=>f x y s) W H Q):tOp (rOp Γ f) (TEv Γ G) (TEv Γ F) W H Q:=by
 obtain⟨C,U,s,d,s',E,R,z,q⟩:=h
 obtain⟨x,s1,e1,z⟩:=aa0 z
 obtain⟨y,s2,e2,z⟩:=aa0 z
 refine⟨C,U,s,x,s1,E,R,e1,λ v1 C1 H1 g1 l1 J r1 R1=>?_⟩
 refine⟨C1,U,s1,y,s2,E.mono g1 l1,R1,e2,λ v2 C2 H2 Y Z b2 r2 R2=>?_⟩
 exact⟨C2,s2,x,y,d,s',R2,RV.mono Y x v1 J r1,r2,zl Z x J,b2,z,q.trans (g1.trans Y l1) (aj l1 Z)⟩
theorem zC {α:Type}{r:kG kC}{f:Bool->kB->kG α}{a:α}{t:kB}(h:kM r f=.ok a t):∃ b s,r=.ok (.bl b) s/\f b s=.ok a t:=by
 unfold kM at h
 obtain⟨d,s,e,h⟩:=aa0 h
 cases d with
 | bl b=>exact⟨b,s,e,h⟩
 | _=>exact fb h
theorem aI8 {m:kD->kB->kG kC}{W:St}{H:Hp}{Q:Bool->Hp->Prop}(h:TTv Γ m W H Q):tB (TEv Γ m) W H Q:=by
 obtain⟨C,U,s,b,s',E,R,F,q⟩:=h
 refine⟨C,U,s,.bl b,s',E,R,F,λ v C' H' g l G r z=>?_⟩
 exact⟨b,r.blE,q C' H' g l z⟩
theorem bH9 {m:kD->kB->kG kC}{W:St}{H:Hp}{Q:Bool->Hp->Prop}(h:TTv Γ m W H Q):bY2 (TEv Γ m) W H Q:=aI8 h
theorem bQ1 {m:kD->kB->kG kC}{W:St}{H:Hp}{Q:Bool->Hp->Prop}(h:TTv Γ (λ U s=>kM (m U s) λ b s=>.ok (.bl (!b)) s) W H Q):cj4 (TTv Γ m) W H Q:=by
 obtain⟨C,U,s,b,s',E,R,z,q⟩:=h
 obtain⟨c,s1,e1,z⟩:=zC z
 cases z
 exact⟨C,U,s,c,_,E,R,e1,q⟩
theorem bp5 {F G:kD->kB->kG kC}{W:St}{H:Hp}{Q:Bool->Hp->Prop}(h:TTv Γ (λ U s=>kM (F U s) λ c s=>if c then kM (G U s) λ c s=>.ok (.bl c) s else .ok (.bl false) s) W H Q):cj9 (TTv Γ F) (TTv Γ G) W H Q:=by
 obtain⟨C,U,s,b,s',E,R,z,q⟩:=h
 obtain⟨c,s1,e1,z⟩:=zC z
 refine⟨C,U,s,c,s1,E,R,e1,λ C1 J g1 l1 R1=>?_⟩
 cases c with
 | true =>
  rw[if_pos rfl]at z ⊢
  obtain⟨Y,s2,e2,z⟩:=zC z
  cases z
  exact⟨C1,U,s1,_,_,E.mono g1 l1,R1,e2,q.trans g1 l1⟩
 | false =>
  rw[if_neg aW]at z ⊢
  cases z
  exact q C1 J g1 l1 R1
theorem bN2 {F G:kD->kB->kG kC}{W:St}{H:Hp}{Q:Bool->Hp->Prop}(h:TTv Γ (λ U s=>kM (F U s) λ c s=>if c then .ok (.bl true) s else kM (G U s) λ c s=>.ok (.bl c) s) W H Q):tOr (TTv Γ F) (TTv Γ G) W H Q:=by
 obtain⟨C,U,s,b,s',E,R,z,q⟩:=h
 obtain⟨c,s1,e1,z⟩:=zC z
 refine⟨C,U,s,c,s1,E,R,e1,λ C1 J g1 l1 R1=>?_⟩
 cases c with
 | true =>
  rw[if_pos rfl]at z ⊢
  cases z
  exact q C1 J g1 l1 R1
 | false =>
  rw[if_neg aW]at z ⊢
  obtain⟨Y,s2,e2,z⟩:=zC z
  cases z
  exact⟨C1,U,s1,_,_,E.mono g1 l1,R1,e2,q.trans g1 l1⟩
theorem bX3 {m:kD->kB->kG kC}{W:St}{H:Hp}{Q:VK}(h:TEv Γ (λ U s=>kM (m U s) λ b s=>.ok (.bl (!b)) s) W H Q):bU8 (TEv Γ m) W H Q:=by
 obtain⟨C,U,s,d,s',E,R,z,q⟩:=h
 obtain⟨c,s1,e1,z⟩:=zC z
 cases z
 exact⟨C,U,s,.bl c,_,E,R,e1,λ v C1 F g l b r R1=>⟨c,r.blE,q _ C1 F g l rfl RV.blI R1⟩⟩
theorem bt3 {G F:kD->kB->kG kC}{W:St}{H:Hp}{Q:VK}(h:TEv Γ (λ U s=>kM (G U s) λ c s=>if c then kM (F U s) λ c s=>.ok (.bl c) s else .ok (.bl false) s) W H Q):bK0 (TEv Γ G) (TEv Γ F) W H Q:=by
 obtain⟨C,U,s,d,s',E,R,z,q⟩:=h
 obtain⟨c,s1,e1,z⟩:=zC z
 refine⟨C,U,s,.bl c,s1,E,R,e1,λ v C1 J g1 l1 Y r1 R1=>⟨c,r1.blE,?_⟩⟩
 cases c with
 | true =>
  rw[if_pos rfl]at z ⊢
  obtain⟨c,s2,e2,z⟩:=zC z
  cases z
  exact⟨C1,U,s1,.bl c,_,E.mono g1 l1,R1,e2,q.trans g1 l1⟩
 | false =>
  rw[if_neg aW]at z ⊢
  cases z
  exact q _ C1 J g1 l1 rfl RV.blI R1
theorem bX4 {G F:kD->kB->kG kC}{W:St}{H:Hp}{Q:VK}(h:TEv Γ (λ U s=>kM (G U s) λ c s=>if c then .ok (.bl true) s else kM (F U s) λ c s=>.ok (.bl c) s) W H Q):ch3 (TEv Γ G) (TEv Γ F) W H Q:=by
 obtain⟨C,U,s,d,s',E,R,z,q⟩:=h
 obtain⟨c,s1,e1,z⟩:=zC z
 refine⟨C,U,s,.bl c,s1,E,R,e1,λ v C1 J g1 l1 Y r1 R1=>⟨c,r1.blE,?_⟩⟩
 cases c with
 | true =>
  rw[if_pos rfl]at z ⊢
  cases z
  exact q _ C1 J g1 l1 rfl RV.blI R1
 | false =>
  rw[if_neg aW]at z ⊢
  obtain⟨c,s2,e2,z⟩:=zC z
  cases z
  exact⟨C1,U,s1,.bl c,_,E.mono g1 l1,R1,e2,q.trans g1 l1⟩
theorem bQ0 {mc F G:kD->kB->kG kC}{W:St}{H:Hp}{Q:VK}(h:TEv Γ (λ U s=>kM (mc U s) λ k s=>if k then F U s else G U s) W H Q):tIf (TTv Γ mc) (TEv Γ F) (TEv Γ G) W H Q:=by
 obtain⟨C,U,s,d,s',E,R,z,q⟩:=h
 obtain⟨c,s1,e1,z⟩:=zC z
 refine⟨C,U,s,c,s1,E,R,e1,λ C1 J g1 l1 R1=>?_⟩
 cases c with
 | true =>
  rw[if_pos rfl]at z ⊢
  exact⟨C1,U,s1,d,s',E.mono g1 l1,R1,z,q.trans g1 l1⟩
 | false =>
  rw[if_neg aW]at z ⊢
  exact⟨C1,U,s1,d,s',E.mono g1 l1,R1,z,q.trans g1 l1⟩
theorem ar4 {W:St}{H:Hp}{Q:List V->Hp->Prop}(h:TAv Γ (λ U s=>.ok [] s) W H Q):aQ1 W H Q:=by
 obtain⟨C,U,s,d,s',E,R,z,q⟩:=h
 cases z
 exact q [] C H (Gr.refl _ _ _) (ah _) rfl .nil R
theorem bw2 {m:kD->kB->kG kC}{F:kD->kB->kG (List kC)}{W:St}{H:Hp}{Q:List V->Hp->Prop}(h:TAv Γ (λ U s=>(m U s).bind λ d s=>(F U s).bind λ l s=>.ok (d::l) s) W H Q):an1 (TEv Γ m) (TAv Γ F) W H Q:=by
 obtain⟨C,U,s,l,s',E,R,z,q⟩:=h
 obtain⟨x,s1,e1,z⟩:=aa0 z
 obtain⟨y,s2,e2,z⟩:=aa0 z
 cases z
 refine⟨C,U,s,x,s1,E,R,e1,λ v1 C1 H1 g1 l1 G r1 R1=>?_⟩
 refine⟨C1,U,s1,y,_,E.mono g1 l1,R1,e2,λ v2 C2 Z J Y b2 r2 R2=>?_⟩
 refine q (v1::v2) C2 Z (g1.trans J l1) (aj l1 Y) ?_ (.cons (RV.mono J x v1 G r1) r2) R2
 unfold kE
 rw[zl Y x G,b2];rfl
theorem aC1 {F:kD->kB->kG (List kC)}{f:List kC->kB->kG kC}{W:St}{H:Hp}{Q:VK}(h:TEv Γ (λ U s=>(F U s).bind λ l s=>f l s) W H Q):tCB (rCl Γ f) (TAv Γ F) W H Q:=by
 obtain⟨C,U,s,d,s',E,R,z,q⟩:=h
 obtain⟨l,s1,e1,z⟩:=aa0 z
 exact⟨C,U,s,l,s1,E,R,e1,λ vs C1 J g1 l1 G r1 R1=>⟨C1,s1,l,d,s',R1,r1,G,z,q.trans g1 l1⟩⟩
theorem bG3 {m:kD->kB->kG kC}{ml mh:kD->kB->kG kC}{W:St}{H:Hp}{Q:VK} :
  (TEv Γ (λ U s=>(m U s).bind λ x s=>(ml U s).bind λ y s=>match y with|.int i=>lN x (some i) none s|_=>.bad) W H Q->tSl (rSl Γ) (TEv Γ m) (aV1 (TEv Γ ml)) aC3 W H Q) /\
  (TEv Γ (λ U s=>(m U s).bind λ x s=>(mh U s).bind λ y s=>match y with|.int i=>lN x none (some i) s|_=>.bad) W H Q->tSl (rSl Γ) (TEv Γ m) aC3 (aV1 (TEv Γ mh)) W H Q) /\
  (TEv Γ (λ U s=>(m U s).bind λ x s=>(ml U s).bind λ y s=>match y with|.int i=>(mh U s).bind (λ z s=>match z with|.int j=>lN x (some i) (some j) s|_=>.bad)|_=>.bad) W H Q->tSl (rSl Γ) (TEv Γ m) (aV1 (TEv Γ ml)) (aV1 (TEv Γ mh)) W H Q):=by
 refine⟨λ h=>?_,λ h=>?_,λ h=>?_⟩
 .obtain⟨C,U,s,d,s',E,R,F,q⟩:=h
  obtain⟨x,s1,e1,F⟩:=aa0 F
  obtain⟨y,s2,e2,F⟩:=aa0 F
  refine⟨C,U,s,x,s1,E,R,e1,λ v1 C1 H1 g1 l1 Y r1 R1=>?_⟩
  refine⟨C1,U,s1,y,s2,E.mono g1 l1,R1,e2,λ v2 C2 H2 J G b2 Z R2=>?_⟩
  cases y with
  | int i=>exact⟨i,Z.intE,C2,s2,x,d,s',R2,RV.mono J x v1 Y r1,zl G x Y,F,q.trans (g1.trans J l1) (aj l1 G)⟩
  | _=>exact fb F
 .obtain⟨C,U,s,d,s',E,R,F,q⟩:=h
  obtain⟨x,s1,e1,F⟩:=aa0 F
  obtain⟨y,s2,e2,F⟩:=aa0 F
  refine⟨C,U,s,x,s1,E,R,e1,λ v1 C1 H1 g1 l1 Y r1 R1=>?_⟩
  refine⟨C1,U,s1,y,s2,E.mono g1 l1,R1,e2,λ v2 C2 H2 J G b2 Z R2=>?_⟩
  cases y with
  | int i=>exact⟨i,Z.intE,C2,s2,x,d,s',R2,RV.mono J x v1 Y r1,zl G x Y,F,q.trans (g1.trans J l1) (aj l1 G)⟩
  | _=>exact fb F
 .obtain⟨C,U,s,d,s',E,R,F,q⟩:=h
  obtain⟨x,s1,e1,F⟩:=aa0 F
  obtain⟨y,s2,e2,F⟩:=aa0 F
  refine⟨C,U,s,x,s1,E,R,e1,λ v1 C1 H1 g1 l1 Y r1 R1=>?_⟩
  refine⟨C1,U,s1,y,s2,E.mono g1 l1,R1,e2,λ v2 C2 H2 J G b2 Z R2=>?_⟩
  cases y with
  | int i =>
   obtain⟨z,s3,e3,F⟩:=aa0 F
   refine⟨i,Z.intE,C2,U,s2,z,s3,E.mono (g1.trans J l1) (aj l1 G),R2,e3,λ v3 C3 H3 g3 l3 b3 r3 R3=>?_⟩
   cases z with
   | int j=>exact⟨j,r3.intE,C3,s3,x,d,s',R3,RV.mono (J.trans g3 G) x v1 Y r1,zl (aj G l3) x Y,F,q.trans ((g1.trans J l1).trans g3 (aj l1 G)) (aj (aj l1 G) l3)⟩
   | _=>exact fb F
  | _=>exact fb F
variable {Γ:Gm} {X:Cx}
def ai8 (Γ:Gm)(J:It)(C0:Nat->Addr)(H0:Hp)(s0:kB)(q:lE):Prop :=
 ∀ C H s,Gr C0 s0 H0 C s H->s0.length<=s.length->Rp Γ C H s->lf s0 s q.src=true->∀ i:Nat,
  (i<q.its.length->J.go i H/\∀ x H',J.yld i H x H'->ae2 H H'/\∀ d,q.its[i]?=some d->RV Γ C H' d x)/\(q.its.length<=i->J.stop i H)
def TIv (Γ:Gm)(m:kD->kB->kG lE):TI:=λ W H R=>∃ C U s q s',RE Γ C H s.length U W/\Rp Γ C H s/\m U s=.ok q s' /\
 ∀ J C' H',Gr C s H C' s' H'->s.length<=s'.length->kE s'.length q.its=true->Rp Γ C' H' s'->ai8 Γ J C' H' s' q->R J H'
theorem PI.imp {tg e:Expr}{t t':TI}(h:PI X tg e t)(i:∀ W H R,t' W H R->t W H R):PI X tg e t':=λ z s W H R I q=>h z s W H R I (i W H R q)
theorem PI.or {tg e:Expr}{t t':TI}(h:PI X tg e t)(h':PI X tg e t'):PI X tg e (λ W H R=>t W H R\/t' W H R):=λ z s W H R I q=>q.elim (h z s W H R I) (h' z s W H R I)
theorem bn1 {C0:Nat->Addr}{H0:Hp}{s0:kB}{a:Addr}{z:List V}{l:List kC}(h:SqT Γ.K H0 a z)(hl:RVL Γ C0 H0 l z)(hb:kE s0.length l=true):ai8 Γ (Itt Γ.K a) C0 H0 s0 ⟨l,[]⟩:=by
 intro C H s g _ R _ i
 have h':=g.w.kp.sqT h
 have F:=RVL.mono g l z hb hl
 refine⟨λ hlt=>⟨⟨z,z[i]'(by rw[F.length];exact hlt),h',af _⟩,λ x H' y=>?_⟩,λ G=>⟨z,h',by rw[F.length];exact G⟩⟩
 obtain⟨e,y⟩:=y
 subst e
 refine⟨ae2.refl _,λ d hd=>?_⟩
 obtain⟨v,e1,e2⟩:=F.get hd
 rw[y z h']at e1;cases e1
 exact e2
theorem bA5 {C0:Nat->Addr}{H0:Hp}{s0:kB}{a:Addr}{z:List V}{l:List kC}(h:SqF Γ.K H0 a z)(hl:RVL Γ C0 H0 l z)(hb:kE s0.length l=true):ai8 Γ (Itl Γ.K a) C0 H0 s0 ⟨l,[]⟩:=by
 intro C H s g _ R _ i
 have h':=h.2 _ g.w.kp
 have F:=RVL.mono g l z hb hl
 refine⟨λ hlt=>⟨⟨z,z[i]'(by rw[F.length];exact hlt),h',af _⟩,λ x H' y=>?_⟩,λ G=>⟨z,h',by rw[F.length];exact G⟩⟩
 obtain⟨e,y⟩:=y
 subst e
 refine⟨ae2.refl _,λ d hd=>?_⟩
 obtain⟨v,e1,e2⟩:=F.get hd
 rw[y z h']at e1;cases e1
 exact e2
theorem bh6 {C0:Nat->Addr}{H0:Hp}{s0:kB}{r:Nat}{l:List kC}(Y:s0[r]?=some (.lst l)):ai8 Γ (Itl Γ.K (C0 r)) C0 H0 s0 ⟨l,[r]⟩:=by
 intro C H s g _ R G i
 have F:r<s0.length:=(ac.mp Y).1
 have hs:s[r]?=some (.lst l):=by
  unfold lf at G
  simp only[bN,i9,fG,decide_eq_true_eq]at G
  rw[G];exact Y
 obtain⟨z,e,h⟩:=R.addr hs
 rw[g.w.map r F]at e
 have h':SqL Γ.K H (C0 r) z:=SqL.of e
 refine⟨λ hlt=>⟨⟨z,z[i]'(by rw[h.length];exact hlt),h',af _⟩,λ x H' y=>?_⟩,λ J=>⟨z,h',by rw[h.length];exact J⟩⟩
 obtain⟨e,y⟩:=y
 subst e
 refine⟨ae2.refl _,λ d hd=>?_⟩
 obtain⟨v,e1,e2⟩:=h.get hd
 rw[y z h']at e1;cases e1
 exact e2
theorem bf9 {C0:Nat->Addr}{H0:Hp}{s0:kB}{l:List Nat}:ai8 Γ (Its ⟨l.toArray⟩) C0 H0 s0 ⟨l.map λ c=>.str [c],[]⟩:=by
 intro C H s g _ R _ i
 have hsz:(⟨l.toArray⟩:Str).cps.size=l.length:=by simp
 refine⟨λ hlt=>?_,λ h=>?_⟩
 .simp only[az]at hlt
  refine⟨show i<(⟨l.toArray⟩:Str).cps.size by rw[hsz];exact hlt,λ x H' y=>?_⟩
  obtain⟨e,c,hc,rfl⟩:=y
  subst e
  refine⟨ae2.refl _,λ d hd=>?_⟩
  have z:l[i]?=some c:=by simpa using hc
  rw[aF,z]at hd
  cases hd
  exact RV.strI (by simp;decide)
 .simp only[az]at h
  show(⟨l.toArray⟩:Str).cps.size<=i
  rw[hsz];exact h
theorem aL1 {C0:Nat->Addr}{H0:Hp}{s0:kB}{a b:Int}:ai8 Γ (Itr a (b - a).toNat) C0 H0 s0 ⟨lv a b,[]⟩:=by
 intro C H s g _ R _ i
 have hn:(lv a b).length=(b - a).toNat:=by simp[lv]
 refine⟨λ hlt=>⟨show i<(b - a).toNat by rw[<-hn];exact hlt,λ x H' y=>?_⟩,λ h=>show(b - a).toNat<=i by rw[<-hn];exact h⟩
 obtain⟨e,rfl⟩:=y
 subst e
 refine⟨ae2.refl _,λ d hd=>?_⟩
 simp only[lv]at hd hlt
 rw[aF,bR (by simpa using hlt)]at hd
 cases hd
 exact RV.intI
theorem aU7 {C0:Nat->Addr}{H0:Hp}{s0:kB}{a:Int}:ai8 Γ (ce5 a (a+1).toNat) C0 H0 s0 ⟨lI a,[]⟩:=by
 intro C H s g _ R _ i
 have hn:(lI a).length=(a+1).toNat:=by unfold lI;simp
 refine⟨λ hlt=>⟨show i<(a+1).toNat by rw[<-hn];exact hlt,λ x H' y=>?_⟩,λ z=>show(a+1).toNat<=i by rw[<-hn];exact z⟩
 obtain⟨e,rfl⟩:=y
 subst e
 refine⟨ae2.refl _,λ d hd=>?_⟩
 have h:i<(a+1).toNat:=by rw[<-hn];exact hlt
 simp only[lI]at hd
 rw[aF,bR h]at hd
 cases hd
 exact RV.intI
theorem bx3 {F:kD->kB->kG kC}{W:St}{H:Hp}{R:It->Hp->Prop}(h:TIv Γ (λ U s=>(F U s).bind λ x s=>match x with|.int i=>if -1<=i/\i<1048576 then .ok ⟨lI i,[]⟩ s else .bad|_=>.bad) W H R) :
  bV6 (an1 (TEv Γ F) (an1 (tC (.int (-1))) (an1 (tC (.int (-1))) aQ1))) W H R:=by
 obtain⟨C,U,s,q,s',E,P,z,k⟩:=h
 obtain⟨x,s1,e1,z⟩:=aa0 z
 refine⟨C,U,s,x,s1,E,P,e1,λ v C1 Y g l b r J=>?_⟩
 cases x with
 | int i =>
  simp only at z
  split at z
  .rename_i G
   cases z
   refine⟨i,by rw[r.intE],⟨G.1,G.2⟩,k _ C1 Y g l ?_ J aU7⟩
   refine aa6.mpr λ d hd=>?_
   unfold lI at hd
   rw[aZ]at hd
   obtain⟨_,_,rfl⟩:=hd
   rfl
  .exact fb z
 | _=>exact fb z
theorem bF1 {m:kD->kB->kG kC}{W:St}{H:Hp}{R:It->Hp->Prop}(h:TIv Γ (λ U s=>(m U s).bind λ x s=>match x with|.int i=>if -lw<=i/\i<lw then .ok ⟨lv 0 i,[]⟩ s else .bad|_=>.bad) W H R) :
  bS4 (an1 (TEv Γ m) aQ1) W H R:=by
 obtain⟨C,U,s,q,s',E,P,z,k⟩:=h
 obtain⟨x,s1,e1,z⟩:=aa0 z
 refine⟨C,U,s,x,s1,E,P,e1,λ v C1 G g l b r J=>?_⟩
 cases x with
 | int i =>
  simp only at z
  split at z
  .rename_i F
   cases z
   have hw:lw=2^62:=by decide
   rw[hw]at F
   refine⟨i,by rw[r.intE],F.1,F.2,k _ C1 G g l ?_ J ?_⟩
   .refine aa6.mpr λ d hd=>?_
    simp only[lv,aZ]at hd
    obtain⟨_,_,rfl⟩:=hd
    rfl
   .have:=aL1 (Γ:=Γ) (C0:=C1) (H0:=G) (s0:=s') (a:=0) (b:=i)
    rwa [ki]at this
  .exact fb z
 | _=>exact fb z
theorem bA8 {J G:kD->kB->kG kC}{W:St}{H:Hp}{R:It->Hp->Prop}(h:TIv Γ (λ U s=>(J U s).bind λ x s=>(G U s).bind λ y s=>match x,y with|.int i,.int j=>if(-lw<=i/\i<lw)/\-lw<=j/\j<lw then .ok ⟨lv i j,[]⟩ s else .bad|_,_=>.bad) W H R) :
  bW7 (an1 (TEv Γ J) (an1 (TEv Γ G) aQ1)) W H R:=by
 obtain⟨C,U,s,q,s',E,P,z,k⟩:=h
 obtain⟨x,s1,e1,z⟩:=aa0 z
 obtain⟨y,s2,e2,z⟩:=aa0 z
 refine⟨C,U,s,x,s1,E,P,e1,λ v C1 H1 g l b r P1=>?_⟩
 refine⟨C1,U,s1,y,s2,E.mono g l,P1,e2,λ v2 C2 Y g2 l2 b2 r2 Z=>?_⟩
 cases x with
 | int i =>
  cases y with
  | int j =>
   simp only at z
   split at z
   .rename_i F
    cases z
    have hw:lw=2^62:=by decide
    rw[hw]at F
    refine⟨i,j,by rw[r.intE,r2.intE],⟨F.1.1,F.1.2,F.2.1,F.2.2⟩,k _ C2 Y (g.trans g2 l) (aj l l2) ?_ Z aL1⟩
    refine aa6.mpr λ d hd=>?_
    simp only[lv,aZ]at hd
    obtain⟨_,_,rfl⟩:=hd
    rfl
   .exact fb z
  | _=>exact fb z
 | _=>cases y<;>cases z
theorem bR4 {m:kD->kB->kG kC}{W:St}{H:Hp}{R:It->Hp->Prop}(h:TIv Γ (λ U s=>(m U s).bind λ d s=>DV.ao6 d s) W H R) :
  cc5 Γ.K (TEv Γ m) W H R\/bB7 Γ.K (TEv Γ m) W H R\/ci6 (TEv Γ m) W H R:=by
 obtain⟨C,U,s,q,s',E,P,z,k⟩:=h
 obtain⟨x,s1,e1,z⟩:=aa0 z
 unfold DV.ao6 at z
 cases x with
 | tup l =>
  cases z
  refine .inl ⟨C,U,s,_,_,E,P,e1,λ v C1 G g l b r F=>?_⟩
  obtain⟨a,Y,rfl,h1,d1⟩:=r.tupE
  unfold kI at b
  exact⟨a,rfl,⟨Y,h1⟩,k _ C1 G g l b F (bn1 h1 d1 b)⟩
 | str l =>
  cases z
  refine .inr (.inr ⟨C,U,s,_,_,E,P,e1,λ v C1 G g J b r F=>?_⟩)
  refine⟨_,r.strE,k _ C1 G g J ?_ F bf9⟩
  refine aa6.mpr λ d hd=>?_
  simp only[aZ]at hd
  obtain⟨_,_,rfl⟩:=hd
  rfl
 | ref r =>
  simp only at z
  cases hs:s1[r]? with
  | none=>rw[hs]at z;cases z
  | some o =>
   rw[hs]at z
   cases o with
   | lst l =>
    cases z
    refine .inr (.inl ⟨C,U,s,_,_,E,P,e1,λ v C1 G g J b Z F=>?_⟩)
    have e:=Z.refE;subst e
    obtain⟨Y,e2,d1⟩:=F.addr hs
    have wf:=F.wf _ _ hs
    unfold kH at wf
    exact⟨C1 r,rfl,⟨Y,SqL.of e2⟩,k _ C1 G g J wf F (bh6 hs)⟩
   | ro l =>
    cases z
    refine .inr (.inl ⟨C,U,s,_,_,E,P,e1,λ v C1 G g J b Z F=>?_⟩)
    have e:=Z.refE;subst e
    obtain⟨Y,e2,d1⟩:=F.obj _ _ hs
    have wf:=F.wf _ _ hs
    unfold kH at wf
    exact⟨C1 r,rfl,⟨Y,e2.1⟩,k _ C1 G g J wf F (bA5 e2 d1 wf)⟩
   | dic l=>exact fb z
   | ins c l=>exact fb z
   | dicF l=>exact fb z
 | _=>exact fb z
theorem ba4 {C:Nat->Addr}{H:Hp}{d:kC}{k:Key}(h:al4 d=some k)(hl:d.keyF=true):RV Γ C H d (kV k):=by
 cases d with
 | int i=>cases h;exact RV.intI
 | str x=>cases h;exact RV.strI (aj (of_decide_eq_true hl) (by decide))
 | _=>cases h
theorem RVD.keyAt {C:Nat->Addr}{H:Hp}:∀ {l:List (kC×kC)} {kvs:List (Key×V)} {i:Nat} {k:Key} {v:V},RVD al4 Γ C H l kvs->kvs[i]?=some (k,v)->∃ p,l[i]?=some p/\al4 p.1=some k
 | [],_,_,_,_,h,e=>by cases(show _=[]from h);simp at e
 | (d,e0)::l,_,0,_,_,h,e=>by
  obtain⟨z,v',r,rfl,e2,G,F⟩:=h
  cases(aw e:(z,v')=_)
  exact⟨_,rfl,e2⟩
 | (d,e0)::l,_,i+1,_,_,h,e=>by
  obtain⟨z,v',r,rfl,e2,G,F⟩:=h
  exact RVD.keyAt (i:=i) F (by simpa using e)
theorem aS5 {C0:Nat->Addr}{H0:Hp}{s0:kB}{a:Addr}{o:Obj}{r:Nat}{l:List (kC×kC)}{kvs:List (Key×V)}(h:H0 a=some (.frz o (.dK kvs)))(hl:RVD al4 Γ C0 H0 l kvs)(hk:l.all (λ p=>p.1.keyF)=true):ai8 Γ (Jk a o kvs) C0 H0 s0 ⟨l.map (·.1),[r]⟩:=by
 intro C H s g _ R _ i
 have h':=g.fz _ _ _ h
 have len:kvs.length=l.length:=hl.length
 refine⟨λ hlt=>⟨⟨h',by rw[len];simpa using hlt⟩,λ x H' y=>?_⟩,λ z=>⟨h',by rw[len];simpa using z⟩⟩
 obtain⟨e,k,v,ek,rfl⟩:=y
 subst e
 refine⟨ae2.refl _,λ d hd=>?_⟩
 obtain⟨p,e1,e2⟩:=hl.keyAt ek
 have hd:(l.map (·.1))[i]?=some d:=hd
 rw[aF,e1]at hd
 cases hd
 exact ba4 e2 (aL.mp hk p (be e1))
theorem bd8 {d:kC}{q:lE}{s s':kB}(h:mq d s=.ok q s'):∃ r l,d=.ref r/\s[r]?=some (.dic l)/\l.all (λ p=>p.1.keyF)=true/\q=⟨l.map (·.1),[r]⟩/\s'=s.set r (.dicF l):=by
 unfold mq at h
 split at h
 .split at h
  .rename_i l e
   split at h
   .rename_i hk;cases h;exact⟨_,l,rfl,e,hk,rfl,rfl⟩
   .exact fb h
  .exact fb h
 .exact fb h
theorem bE5 {m:kD->kB->kG kC}{W:St}{H:Hp}{R:It->Hp->Prop}(h:TIv Γ (λ U s=>(m U s).bind λ d s=>mq d s) W H R):bK9 (TEv Γ m) W H R:=by
 obtain⟨C,U,s,q,s',E,P,G,k⟩:=h
 obtain⟨x,s1,e1,G⟩:=aa0 G
 obtain⟨r,l,rfl,hs,hk,rfl,rfl⟩:=bd8 G
 refine⟨C,U,s,_,s1,E,P,e1,λ v C1 H1 g J b Z F=>?_⟩
 obtain⟨kvs,e2,d1⟩:=F.obj r _ hs
 have wf:=F.wf _ _ hs
 have z:=wf
 unfold kH at z
 rw[ak]at z
 refine⟨C1 r,kvs,Z.refE,e2,λ o=>?_⟩
 obtain⟨Y,R2⟩:=F.set (o:=.dicF l) (u:=.frz o (.dK kvs)) hs rfl wf λ H' g e=>⟨o,kvs,e,RVD.monoW g l kvs z.2 d1⟩
 exact k _ C1 _ (g.trans Y J) (by rw[aS];exact J) (by rw[aS];exact z.1) R2 (aS5 zq (RVD.monoW Y.w l kvs z.2 d1) hk)
variable {Γ:Gm} {X:Cx}
noncomputable def bZ2:List Nat->TGs
 | []=>cj0
 | i::is=>bL5 (ax6 i) (bZ2 is)
noncomputable def gOf (K:ae):lh->TG
 | .one i=>ax6 i
 | .tup is=>cc4 K is.length (bZ2 is)
theorem br8 {C:Nat->Addr}{H:Hp}{n:Nat}{U U':kD}{W:St}{i:Nat}{d:kC}{v:V}(E:RE Γ C H n U W)(r:RV Γ C H d v)(b:d.bnd n=true)(h:lJ U i d=some U'):RE Γ C H n U' (W.set i (some v)):=by
 unfold lJ at h
 split at h
 .rename_i z
  cases h
  refine⟨by rw[aS,aS];exact E.len,λ j e hj=>?_⟩
  by_cases hij:j=i
  .subst hij
   rw[aX z]at hj
   cases hj
   exact⟨b,v,by rw[aX (by rw[<-E.len];exact z)],r⟩
  .rw[ao (bG hij)]at hj
   obtain⟨F,w,G,h3⟩:=E.val j e hj
   exact⟨F,w,by rw[ao (bG hij)];exact G,h3⟩
 .cases h
theorem bK4 {C:Nat->Addr}{H:Hp}{n:Nat}{Q:St->Hp->Prop}:∀(is:List Nat) (l:List kC) (z:List V) (U U':kD) (W:St),RE Γ C H n U W->RVL Γ C H l z->kE n l=true->lO U is l=some U'->(∀ W',RE Γ C H n U' W'->Q W' H)->bZ2 is z W H Q
 | [],[],z,U,U',W,E,r,_,h,k=>by
  cases h
  exact⟨r.unnil,k W E⟩
 | [],d::l,_,_,_,_,_,_,_,h,_=>by cases h
 | i::is,[],_,_,_,_,_,_,_,h,_=>by cases h
 | i::is,d::l,z,U,U',W,E,r,b,h,k=>by
  have h:(lJ U i d).bind (λ U=>lO U is l)=some U':=h
  obtain⟨x,r',rfl,F,G⟩:=r.uncons
  unfold kE at b
  rw[ak]at b
  cases e:lJ U i d with
  | none=>rw[e]at h;cases h
  | some U1 =>
   rw[e]at h
   exact⟨x,r',rfl,bK4 is l r' U1 U' _ (br8 E F b.1 e) G b.2 h k⟩
theorem aS4 {l:List kC}:∀ {is:List Nat} {U U':kD},lO U is l=some U'->is.length=l.length:=by
 induction l with
 | nil=>intro is U U' h;cases is with
  | nil=>rfl
  | cons i is=>cases h
 | cons d l ih=>intro is U U' h;cases is with
  | nil=>cases h
  | cons i is =>
   have h:(lJ U i d).bind (λ U=>lO U is l)=some U':=h
   cases e:lJ U i d with
   | none=>rw[e]at h;cases h
   | some U1=>rw[e]at h;rw[aR,aR,ih h]
theorem bw4 {C:Nat->Addr}{H:Hp}{n:Nat}{Q:St->Hp->Prop}{tg:lh}{d:kC}{v:V}{U U':kD}{W:St}(E:RE Γ C H n U W)(r:RV Γ C H d v)(b:d.bnd n=true)(h:k7 U tg d=some U')(k:∀ W',RE Γ C H n U' W'->Q W' H):gOf Γ.K tg v W H Q:=by
 cases tg with
 | one i=>exact k _ (br8 E r b h)
 | tup is =>
  cases d with
  | tup l =>
   have h:lO U is l=some U':=h
   obtain⟨a,z,rfl,F,d1⟩:=r.tupE
   unfold kI at b
   exact⟨a,z,rfl,F,by rw[d1.length,aS4 h],bK4 is l z U U' W E d1 b h k⟩
  | _=>cases h
def Off (C:Nat->Addr)(s:kB)(b:Addr):Prop:=∀(i:Nat) (ob:kY),s[i]?=some ob->isMut ob=true->C i≠b
theorem Off.mono {C C':Nat->Addr}{s s':kB}{H H':Hp}{b:Addr}{o:HO}(h:Off C s b)(g:Gr C s H C' s' H')(hb:H b=some o):Off C' s' b:=λ i ob e m z=>by
 by_cases G:i<s.length
 .obtain⟨F,J⟩:∃ F,s[i]?=some F:=⟨s[i],af G⟩
  exact h i F J (g.mu i F ob J e m) (by rw[<-g.w.map i G];exact z)
 .have:=g.new i (by lia) (ac.mp e).1
  rw[z,hb]at this;cases this
theorem Off.new {C:Nat->Addr}{s:kB}{H:Hp}{b:Addr}(r:Rp Γ C H s)(h:H b=none):Off C s b:=λ i ob e m z=>by
 obtain⟨u,hu,_⟩:=(r.obj i ob e).there m
 rw[z,h]at hu;cases hu
theorem Rp.foreign {C:Nat->Addr}{s:kB}{H:Hp}{b:Addr}{ys h:List V}(r:Rp Γ C H s)(hb:H b=some (.lst ys))(ho:Off C s b):Rp Γ C (upd H b (.lst h)) s:=by
 have g:Gw C s.length H C (upd H b (.lst h)):=⟨λ _ _=>rfl,(Kp.refl H).put hb rfl⟩
 exact⟨r.inj,λ i o e=>(r.obj i o e).mono g (r.wf i o e) λ m u hu=>by rw[ze (ho i o e m)];exact hu,r.wf,r.tab.put hb⟩
theorem Gr.foreign {C C':Nat->Addr}{s s':kB}{H H':Hp}{b:Addr}{ys h:List V}(g:Gr C s H C' s' H')(h0:H b=none)(hb:H' b=some (.lst ys)):Gr C s H C' s' (upd H' b (.lst h)):=by
 have ne:∀ c o,H c=some o->c≠b:=λ c o e=>zt e h0
 refine⟨⟨g.w.map,λ c o e f=>?_⟩,g.le,g.new,g.kd,λ c hc=>?_,λ c o kvs e=>by rw[ze (ne c _ e)];exact g.fz c o kvs e,λ c o e z no=>?_⟩
 .rw[ze (ne c o e)];exact g.w.kp c o e f
 .unfold upd;split
  .simp
  .exact g.st c hc
 .rw[ze (ne c o e)];exact g.fr c o e z no
def bQ3 (Γ:Gm)(C:Nat->Addr)(s:kB)(H:Hp)(l:List kC)(s':kB)(Q:VK):Prop :=
 ∀ p ys C' H',Gr C s H C' s' H'->s.length<=s'.length->kE s'.length l=true->H' p=some (.lst ys)->H p=none->Off C' s' p->RVL Γ C' H' l ys->Rp Γ C' H' s'->Q (.ref p) H'
def TFv (Γ:Gm)(m:kD->kB->kG (List kC)):TE:=λ W H Q=>∃ C U s l s',RE Γ C H s.length U W/\Rp Γ C H s/\m U s=.ok l s'/\bQ3 Γ C s H l s' Q
theorem aS1 {m:kD->kB->kG (List kC)}{W:St}{H:Hp}{Q:VK}(h:TEv Γ (λ U s=>(m U s).bind λ l s=>lz (.lst l) s) W H Q):TFv Γ m W H Q:=by
 obtain⟨C,U,s,d,s',E,R,hm,q⟩:=h
 obtain⟨l,s1,e1,hm⟩:=aa0 hm
 obtain⟨rfl,rfl⟩:=zY hm
 refine⟨C,U,s,l,s1,E,R,e1,λ p ys C' H' g hl hb hp h0 ho r J=>?_⟩
 have gw:Gw C' s1.length H' (λ i=>if i=s1.length then p else C' i) H':=⟨λ i z=>if_neg (aC z),Kp.refl _⟩
 have key:∀(i:Nat) (F:kY),(s1++[DV.O.lst l])[i]?=some F->(i<s1.length/\s1[i]?=some F)\/(i=s1.length/\F=.lst l):=λ i F e=>by
  rcases c9 i s1.length with h|h|h
  .rw[au h]at e;exact .inl ⟨h,e⟩
  .subst h;simp at e;exact .inr ⟨rfl,e.symm⟩
  .rw[bJ (by simp;lia)]at e;cases e
 have G:Gr C s H (λ i=>if i=s1.length then p else C' i) (s1++[.lst l]) H':=by
  refine⟨⟨λ i z=>by show(if i=s1.length then p else C' i)=_;rw[if_neg (by lia)];exact g.w.map i z,g.w.kp⟩,by simp;lia,λ i h1 h2=>?_,λ i o F e e'=>?_,g.st,g.fz,g.fr⟩
  .by_cases z:i=s1.length
   .show H (if i=s1.length then p else C' i)=none
    rw[if_pos z];exact h0
   .show H (if i=s1.length then p else C' i)=none
    rw[if_neg z];exact g.new i h1 (by simp at h2;lia)
  .rcases key i F e' with⟨_,e2⟩|⟨z,_⟩
   .exact g.kd i o F e e2
   .have:=(ac.mp e).1;lia
 have P:Rp Γ (λ i=>if i=s1.length then p else C' i) H' (s1++[.lst l]):=by
  refine⟨λ i j Z oj Y ej mi mj e=>?_,λ i o e=>?_,λ i o e=>?_,J.tab⟩
  .rcases key i Z Y with⟨z,Y⟩|⟨z,_⟩<;>rcases key j oj ej with⟨hj,ej⟩|⟨hj,_⟩
   .rw[if_neg (aC z),if_neg (aC hj)]at e
    exact J.inj i j Z oj Y ej mi mj e
   .rw[if_neg (aC z),if_pos hj]at e
    exact absurd e (ho i Z Y mi)
   .rw[if_neg (aC hj),if_pos z]at e
    exact absurd e.symm (ho j oj ej mj)
   .rw[z,hj]
  .rcases key i o e with⟨z,e⟩|⟨z,rfl⟩
   .show RO Γ _ _ (if i=s1.length then p else C' i) o
    rw[if_neg (aC z)]
    exact(J.obj i o e).mono gw (J.wf i o e) λ _ u hu=>hu
   .show RO Γ _ _ (if i=s1.length then p else C' i) _
    rw[if_pos z]
    exact⟨ys,hp,RVL.monoW gw l ys hb r⟩
  .rw[am,c4]
   rcases key i o e with⟨_,e⟩|⟨_,rfl⟩
   .exact zT (b7 _) _ (J.wf i o e)
   .exact zT (b7 _) _ (by unfold kH;exact hb)
 exact q (.ref p) _ H' G (by simp;omega) (by unfold kI;simp) (by unfold RV;simp) P
theorem bW9 {C:Nat->Addr}{H:Hp}{n:Nat}{U:kD}{W:St}(E:RE Γ C H n U W)(h:yD):RE Γ C H n (lL U h) (ax8 h W):=by
 refine⟨by unfold lL ax8;simp,λ i d e=>?_⟩
 unfold lL at e
 rw[aF]at e
 cases q:h[i]? with
 | none=>rw[q]at e;cases e
 | some o =>
  rw[q]at e
  cases o with
  | none=>cases e
  | some j =>
   have e':(U[j]?).join=some d:=aw e
   have ej:U[j]?=some (some d):=by
    cases q2:U[j]? with
    | none=>rw[q2]at e';cases e'
    | some o2=>rw[q2]at e';exact congrArg some e'
   obtain⟨b,v,z,F⟩:=E.val j d ej
   refine⟨b,v,?_,F⟩
   unfold ax8
   rw[aF,q]
   show some ((W[j]?).join)=_
   rw[z];rfl
theorem ba5 {mI:kD->kB->kG lE}{mc me:kD->kB->kG kC}{tg:lh}{Y:yD}{W:St}{H:Hp}{Q:VK}
  (h:TFv Γ (λ U s=>(mI U s).bind λ q s0=>if q.its.length<=kJ then lU (λ s=>lf s0 s q.src) (λ d U s=>match k7 U tg d with
   | some U=>kM (mc U s) λ k s=>if k then(me U s).bind λ v s=>.ok (some v,U) s else .ok (none,U) s
   | none=>.bad) q.its (lL U Y) s0 else .bad) W H Q):tComp Y (TIv Γ mI) (gOf Γ.K tg) (TTv Γ mc) (TEv Γ me) W H Q:=by
 obtain⟨C,U,s,l,s',E,R,hm,k⟩:=h
 obtain⟨q,s0,e1,hm⟩:=aa0 hm
 split at hm
 case isFalse=>exact fb hm
 rename_i hlim
 refine⟨C,U,s,q,s0,E,R,e1,λ J C1 H1 g1 l1 b1 R1 wk D hD=>?_⟩
 have h0:H D=none:=by
  cases e:H D with
  | none=>rfl
  | some o=>exact absurd hD (g1.st D (by rw[e];simp))
 refine⟨λ i m W' H'=>∃ C' U' t F ys rest,Gr C1 s0 H1 C' t H'/\Rp Γ C' H' t/\RE Γ C' H' t.length U' W'/\H' D=some (.lst ys)/\Off C' t D/\RVL Γ C' H' F ys/\kE t.length F=true/\F.length<=i/\i<=q.its.length/\m=q.its.length - i /\
  lU (λ s=>lf s0 s q.src) (λ d U s=>match k7 U tg d with
   | some U=>kM (mc U s) λ k s=>if k then(me U s).bind λ v s=>.ok (some v,U) s else .ok (none,U) s
   | none=>.bad) (q.its.drop i) U' t=.ok rest s'/\l=F++rest,⟨q.its.length,?_⟩,?_⟩
 .obtain⟨g2,R2⟩:=R1.same (H':=upd H1 D (.lst [])) ((ae2.refl H1).new hD)
  exact⟨C1,lL U Y,s0,[],[],l,g2,R2,bW9 ((E.mono g1 l1).mono g2 (ah _)) Y,zq,Off.new R1 hD,.nil,rfl,ah _,bS _,by simp,by rw[gJ];exact hm,rfl⟩
 .rintro i m W' H' ⟨C',U',t,F,ys,rest,g,R',E',hy,a3,ra,ba,c0,b6,rfl,hc,hl⟩
  have G:=g.le
  rcases kj i q.its.length with hlt|hge
  .have hd:q.its[i]?=some q.its[i]:=af hlt
   rw[dr hlt]at hc
   unfold lU at hc
   split at hc
   case isFalse=>exact fb hc
   rename_i a2
   obtain⟨b4,b0⟩:=(wk C' H' t g G R' a2 i).1 hlt
   refine .inr ⟨b4,_,λ W2 H2 n=>⟨q.its.length - (i+1),by omega,n⟩,λ x H2 b2=>?_⟩
   obtain⟨sm,rv⟩:=b0 x H2 b2
   obtain⟨g2,R2⟩:=R'.same sm
   have rd:=rv _ hd
   have bd:(q.its[i]).bnd t.length=true:=zl G _ (ar5 b1 hd)
   obtain⟨p,t3,hs,hc⟩:=aa0 hc
   obtain⟨r2,t4,a6,hc⟩:=aa0 hc
   cases hb:k7 U' tg q.its[i]with
   | none=>rw[hb]at hs;cases hs
   | some U3 =>
    rw[hb]at hs
    refine bw4 (E'.mono g2 (ah _)) rd bd hb λ W3 E3=>?_
    obtain⟨c,t1,ec,hs⟩:=zC hs
    refine⟨C',U3,t,c,t1,E3,R2,ec,λ C2 H4 g4 l4 R4=>?_⟩
    have a5:H2 D=some (.lst ys):=sm _ _ hy
    have a4:H4 D=some (.lst ys):=g4.fr D _ a5 (by nofun) a3
    have Z:Off C2 t1 D:=a3.mono g4 a5
    have G4:=(g.trans g2 G).trans g4 G
    cases c with
    | true =>
     rw[if_pos rfl]at hs
     refine iteT ?_
     obtain⟨v,t2,ev,hs⟩:=aa0 hs
     cases hs
     refine⟨C2,U3,t1,v,t3,E3.mono g4 l4,R4,ev,λ w C3 H5 g5 l5 b5 r5 R5=>?_⟩
     have a0:H5 D=some (.lst ys):=g5.fr D _ a4 (by nofun) Z
     have a1:Off C3 t3 D:=Z.mono g5 a4
     refine⟨ys,a0,?_,?_⟩
     .rw[ra.length]
      have:=zG
      lia
     .have gw:Gw C3 t3.length H5 C3 (upd H5 D (.lst (ys++[w]))):=⟨λ _ _=>rfl,(Kp.refl H5).put a0 rfl⟩
      have G5:=G4.trans g5 (aj G l4)
      have GG:=g2.trans (g4.trans g5 l4) (ah _)
      have b3:RVL Γ C3 H5 F ys:=RVL.mono GG _ _ ba ra
      have bb:kE t3.length (F++[v])=true:=zV (aa9 GG.le _ ba) (by unfold kE;rw[b5];rfl)
      refine⟨C3,U3,t3,F++[v],ys++[w],r2,G5.foreign hD a0,R5.foreign a0 a1,?_,zq,a1,RVL.monoW gw _ _ bb (b3.append (.cons r5 .nil)),bb,by simp;omega,hlt,rfl,?_,?_⟩
      .have E5:=(E3.mono g4 l4).mono g5 l5
       exact⟨E5.len,λ j e hj=>by
        obtain⟨h1,z,h2,h3⟩:=E5.val j e hj
        exact⟨h1,z,h2,RV.monoW gw _ _ h1 h3⟩⟩
      .cases hc;exact a6
      .cases hc;rw[hl];simp
    | false =>
     rw[if_neg aW]at hs
     refine cl3 ?_
     cases hs
     have GG:=g2.trans g4 (ah _)
     exact⟨C2,U3,t3,F,ys,r2,G4,R4,E3.mono g4 l4,a4,Z,RVL.mono GG _ _ ba ra,aa9 l4 _ ba,by lia,hlt,rfl,by cases hc;exact a6,by cases hc;exact hl⟩
  .have hi:i=q.its.length:=by lia
   rw[cT hge]at hc
   unfold lU at hc
   split at hc
   case isFalse=>exact fb hc
   rename_i a2
   cases hc
   refine .inl ⟨(wk C' H' s' g G R' a2 i).2 hge,?_⟩
   rw[aK]at hl
   subst hl
   exact k D ys C' H' (g1.trans g l1) (aj l1 G) ba hy h0 a3 ra R'
variable {Γ:Gm} {X:Cx}
noncomputable def ch6 (Γ:Gm)(C:Nat->Addr)(H:Hp)(n:Nat)(D:Ends):li->Prop
 | .next U=>∀ W,RE Γ C H n U W->D.nx W H
 | .ret d=>∀ v,d.bnd n=true->RV Γ C H d v->D.rt v H
 | .cont U=>∀ W,RE Γ C H n U W->D.ct W H
 | .brk U=>∀ W,RE Γ C H n U W->D.bk W H
def am5 (Γ:Gm)(C:Nat->Addr)(s:kB)(H:Hp)(c:li)(s':kB)(D:Ends):Prop :=
 ∀ C' H',Gr C s H C' s' H'->s.length<=s'.length->Rp Γ C' H' s'->ch6 Γ C' H' s'.length D c
def TSv (Γ:Gm)(m:kD->kB->kG li):TS:=λ D W H=>∃ C U s c s',RE Γ C H s.length U W/\Rp Γ C H s/\m U s=.ok c s'/\am5 Γ C s H c s' D
theorem PS.imp {e:Stmt}{t t':TS}(h:PS X e t)(i:∀ D W H,t' D W H->t D W H):PS X e t':=λ z s W H Q I q=>h z s W H Q I (i Q W H q)
theorem PSs.imp {e:yL}{t t':TS}(h:PSs X e t)(i:∀ D W H,t' D W H->t D W H):PSs X e t':=λ z s W H Q I q=>h z s W H Q I (i Q W H q)
theorem am5.trans {C C1:Nat->Addr}{s s1 s':kB}{H z:Hp}{c:li}{D:Ends}(h:am5 Γ C s H c s' D)(g:Gr C s H C1 s1 z)(l:s.length<=s1.length):am5 Γ C1 s1 z c s' D :=
 λ C' H' g' F p=>h C' H' (g.trans g' l) (aj l F) p
theorem am5.here {C:Nat->Addr}{s:kB}{H:Hp}{c:li}{D:Ends}(h:am5 Γ C s H c s D)(p:Rp Γ C H s):ch6 Γ C H s.length D c:=h C H (Gr.refl C s H) (ah _) p
variable {D:Ends} {W:St} {H:Hp}
theorem bF9 {m:kD->kB->kG li}(z:∀ U s,m U s=.ok (.next U) s)(h:TSv Γ m D W H):bS7 D W H:=by
 obtain⟨C,U,s,c,s',E,R,e,q⟩:=h
 rw[z]at e;cases e
 exact q.here R W E
theorem bW3 {m:kD->kB->kG kC}(h:TSv Γ (λ U s=>(m U s).bind λ d s=>.ok (.ret d) s) D W H):ci4 (TEv Γ m) D W H:=by
 obtain⟨C,U,s,c,s',E,R,e,q⟩:=h
 obtain⟨x,s1,e1,e⟩:=aa0 e
 cases e
 exact⟨C,U,s,x,_,E,R,e1,λ v C1 F g1 l1 z r1 R1=>q C1 F g1 l1 R1 v z r1⟩
theorem by3 {m:kD->kB->kG kC}(h:TSv Γ (λ U s=>(m U s).bind λ _ s=>.ok (.next U) s) D W H):bJ3 (TEv Γ m) D W H:=by
 obtain⟨C,U,s,c,s',E,R,e,q⟩:=h
 obtain⟨x,s1,e1,e⟩:=aa0 e
 cases e
 exact⟨C,U,s,x,_,E,R,e1,λ v C1 z g1 l1 F r1 R1=>q C1 z g1 l1 R1 W (E.mono g1 l1)⟩
theorem aT9 {m:kD->kB->kG kC}{tg:lh}(h:TSv Γ (λ U s=>(m U s).bind λ d s=>match k7 U tg d with|some U=>.ok (.next U) s|none=>.bad) D W H):bm4 (TEv Γ m) (gOf Γ.K tg) D W H:=by
 obtain⟨C,U,s,c,s',E,R,e,q⟩:=h
 obtain⟨x,s1,e1,e⟩:=aa0 e
 refine⟨C,U,s,x,s1,E,R,e1,λ v C1 F g1 l1 z r1 R1=>?_⟩
 cases hb:k7 U tg x with
 | none=>rw[hb]at e;cases e
 | some U1 =>
  rw[hb]at e
  cases e
  exact bw4 (E.mono g1 l1) r1 z hb λ W' G=>q C1 F g1 l1 R1 W' G
theorem bh2 {m:kD->kB->kG (List kC)}(h:TSv Γ (λ U s=>((m U s).bind λ l s=>lz (.lst l) s).bind λ d s=>match k7 U tg d with|some U=>.ok (.next U) s|none=>.bad) D W H):bm4 (TFv Γ m) (gOf Γ.K tg) D W H :=
 aS1 (aT9 h)
def bX8 (Γ:Gm):bY6:=λ o i v H Q=>∃ C s x y d s',Rp Γ C H s/\RV Γ C H x o/\RV Γ C H y i/\RV Γ C H d v/\x.bnd s.length=true/\y.bnd s.length=true/\d.bnd s.length=true/\DV.setIx x y d s=.ok () s' /\
 ∀ C' H',Gr C s H C' s' H'->s.length<=s'.length->Rp Γ C' H' s'->Q H'
theorem bf3 {me mo J:kD->kB->kG kC}(h:TSv Γ (λ U s=>(me U s).bind λ d s=>(mo U s).bind λ x s=>(J U s).bind λ y s=>(DV.setIx x y d s).bind λ _ s=>.ok (.next U) s) D W H) :
  bm4 (TEv Γ me) (cj1 (TEv Γ mo) (TEv Γ J) (bX8 Γ)) D W H:=by
 obtain⟨C,U,s,c,s',E,R,e,q⟩:=h
 obtain⟨d,s1,e1,e⟩:=aa0 e
 obtain⟨x,s2,e2,e⟩:=aa0 e
 obtain⟨y,s3,e3,e⟩:=aa0 e
 obtain⟨u,s4,e4,e⟩:=aa0 e
 cases e
 refine⟨C,U,s,d,s1,E,R,e1,λ v1 C1 H1 g1 l1 Z r1 R1=>?_⟩
 refine⟨C1,U,s1,x,s2,E.mono g1 l1,R1,e2,λ v2 C2 H2 g2 F b2 r2 R2=>?_⟩
 have G2:=g1.trans g2 l1
 have L2:=aj l1 F
 refine⟨C2,U,s2,y,s3,E.mono G2 L2,R2,e3,λ v3 C3 H3 z G b3 r3 R3=>?_⟩
 refine⟨C3,s3,x,y,d,_,R3,RV.mono z x v2 b2 r2,r3,RV.mono (g2.trans z F) d v1 Z r1,zl G x b2,b3,zl (aj F G) d Z,e4,λ C4 H4 Y l4 R4=>?_⟩
 have G3:=G2.trans z L2
 have L3:=aj L2 G
 exact q C4 H4 (G3.trans Y L3) (aj L3 l4) R4 W (E.mono (G3.trans Y L3) (aj L3 l4))
theorem bU7 (hu:X.A.units+2<cLine):cc6 X (bX8 Γ):=by
 intro G sh W H o i v ov iv u Q I ro ri rv h
 obtain⟨C,s,x,y,d,s',R,rx,ry,rd,bx,Y,bd,F,q⟩:=h
 cases x with
 | ref r =>
  have F:(match s[r]? with
   | some (.lst l)=>(match y with
    | .int i=>(match lB l.length i with|some j=>DV.R.ok () (s.set r (.lst (l.set j d)))|none=>.bad)
    | _=>.bad)
   | some (.dic l)=>if y.key&&decide (l.length<kJ)then .ok () (s.set r (.dic (lb y d l)))else .bad
   | _=>.bad)=.ok () s':=F
  cases e:s[r]? with
  | none=>rw[e]at F;cases F
  | some ob =>
   rw[e]at F
   cases ob with
   | lst l =>
    cases y with
    | int k =>
     have F:(match lB l.length k with|some j=>DV.R.ok () (s.set r (.lst (l.set j d)))|none=>.bad)=.ok () s':=F
     cases ej:lB l.length k with
     | none=>rw[ej]at F;cases F
     | some j =>
      rw[ej]at F
      cases F
      obtain⟨xs,h1,J⟩:=R.addr e
      have hb:kE s.length (l.set j d)=true:=aa6.mpr λ z hz=>by
       rcases List.mem_or_eq_of_mem_set hz with h|h
       .exact aa6.mp (by have:=R.wf r _ e;unfold kH at this;exact this) z h
       .subst h;exact bd
      refine bh4 G sh W H o i v ov iv u Q I ro ri rv ⟨C r,xs,k,j,rx.refE,ry.intE,h1,?_,?_⟩
      .rw[J.length];exact ej
      .obtain⟨g,Z⟩:=R.set (o:=.lst (l.set j d)) (u:=.lst (xs.set j v)) e rfl hb λ H' g e=>⟨_,e,RVL.monoW g _ _ hb (J.set j rd)⟩
       exact q _ _ g (by simp) Z
    | _=>exact fb F
   | dic l =>
    have F:(if y.key&&decide (l.length<kJ)then DV.R.ok () (s.set r (.dic (lb y d l)))else .bad)=.ok () s':=F
    split at F
    case isFalse=>exact fb F
    rename_i hc
    cases F
    rw[ak]at hc
    obtain⟨k,hk⟩:=ah5 hc.1
    have hlt:=of_decide_eq_true hc.2
    obtain⟨kvs,h1,J⟩:=R.obj r _ e
    have ex:=rx.refE;subst ex
    cases ro
    have ey:=aA1 hk ry;subst ey
    have hb:(DV.O.dic (lb y d l)).bnd s.length=true:=bg5 (R.wf r _ e) Y bd
    have a0:kE s.length ((lb y d l).map (·.2))=true:=by
     unfold kH at hb
     rw[ak]at hb
     exact hb.2
    obtain⟨g,Z⟩:=R.set (o:=.dic (lb y d l)) (u:=.dK (aB4 kvs k v)) e rfl hb λ H' g e=>⟨_,e,RVD.monoW g _ _ a0 (J.put keyOf_inj hk rd)⟩
    exact aY1 hu I (bY4.k h1 (by rw[J.length];exact aA hlt zG)) ri rv λ s4 I4=>⟨_,I4,q _ _ g (by simp) Z⟩
   | _=>exact fb F
 | _=>exact fb F
theorem ca7 {mc:kD->kB->kG kC}{F G:kD->kB->kG li}(h:TSv Γ (λ U s=>kM (mc U s) λ k s=>if k then F U s else G U s) D W H):ch9 (TTv Γ mc) (TSv Γ F) (TSv Γ G) D W H:=by
 obtain⟨C,U,s,d,s',E,R,z,q⟩:=h
 obtain⟨c,s1,e1,z⟩:=zC z
 refine⟨C,U,s,c,s1,E,R,e1,λ C1 J g1 l1 R1=>?_⟩
 cases c with
 | true =>
  rw[if_pos rfl]at z ⊢
  exact⟨C1,U,s1,d,s',E.mono g1 l1,R1,z,q.trans g1 l1⟩
 | false =>
  rw[if_neg aW]at z ⊢
  exact⟨C1,U,s1,d,s',E.mono g1 l1,R1,z,q.trans g1 l1⟩
theorem bN0 {G Y:kD->kB->kG li}(h:TSv Γ (λ U s=>(G U s).bind λ c s=>match c with|.next U=>Y U s|c=>.ok c s) D W H):ch2 (TSv Γ G) (TSv Γ Y) D W H:=by
 obtain⟨C,U,s,c,s',E,R,z,q⟩:=h
 obtain⟨J,s1,e1,z⟩:=aa0 z
 refine⟨C,U,s,J,s1,E,R,e1,λ C1 F g1 l1 R1=>?_⟩
 cases J with
 | next U1=>exact λ W1 Z=>⟨C1,U1,s1,c,s',Z,R1,z,q.trans g1 l1⟩
 | ret d=>cases z;exact q C1 F g1 l1 R1
 | cont U=>cases z;exact q C1 F g1 l1 R1
 | brk U=>cases z;exact q C1 F g1 l1 R1
theorem bp4 {mc:kD->kB->kG kC}{F:kD->kB->kG li}(h:TSv Γ (DV.whl mc F) D W H):br9 (TTv Γ mc) (TSv Γ F) D W H:=by
 obtain⟨C,U,s,c,s',E,R,z,q⟩:=h
 unfold DV.whl at z
 split at z
 case isFalse=>exact fb z
 rename_i hn
 generalize hn.choose=n at z
 refine⟨λ n W H=>∃ C U s,RE Γ C H s.length U W/\Rp Γ C H s/\DV.qJ mc F n U s=.ok c s'/\am5 Γ C s H c s' D,⟨n,C,U,s,E,R,z,q⟩,?_⟩
 clear E R z q hn
 rintro n W H ⟨C,U,s,E,R,z,q⟩
 cases n with
 | zero=>exact fb z
 | succ n =>
  unfold DV.qJ at z
  obtain⟨b,s1,e1,z⟩:=zC z
  refine⟨C,U,s,b,s1,E,R,e1,λ C1 H1 g1 l1 R1=>?_⟩
  cases b with
  | false =>
   rw[if_neg aW]at z ⊢
   cases z
   exact q C1 H1 g1 l1 R1 W (E.mono g1 l1)
  | true =>
   rw[if_pos rfl]at z ⊢
   obtain⟨Z,s2,e2,z⟩:=aa0 z
   refine⟨_,λ W' H' w=>⟨n,bL n,w⟩,C1,U,s1,Z,s2,E.mono g1 l1,R1,e2,λ C2 Y g2 l2 R2=>?_⟩
   have G:=g1.trans g2 l1
   have L:=aj l1 l2
   cases Z with
   | next U1=>exact λ W1 J=>⟨C2,U1,s2,J,R2,z,q.trans G L⟩
   | cont U1=>exact λ W1 J=>⟨C2,U1,s2,J,R2,z,q.trans G L⟩
   | ret d=>cases z;exact q C2 Y G L R2
   | brk U=>cases z;exact q C2 Y G L R2
theorem bs3 {mI:kD->kB->kG lE}{mb:kD->kB->kG li}{tg:lh} (h:TSv Γ (λ U s=>(mI U s).bind λ q s0=>lP (λ s=>lf s0 s q.src) (λ d U s=>match k7 U tg d with
  | some U=>mb U s
  | none=>.bad) q.its U s0) D W H):cd4 (TIv Γ mI) (gOf Γ.K tg) (TSv Γ mb) D W H:=by
 obtain⟨C,U,s,c,s',E,R,hm,k⟩:=h
 obtain⟨q,s0,e1,hm⟩:=aa0 hm
 refine⟨C,U,s,q,s0,E,R,e1,λ J C1 H1 g1 l1 b1 R1 wk=>?_⟩
 refine⟨λ i m W' H'=>∃ C' U' t,Gr C1 s0 H1 C' t H'/\Rp Γ C' H' t/\RE Γ C' H' t.length U' W'/\i<=q.its.length/\m=q.its.length - i /\
  lP (λ s=>lf s0 s q.src) (λ d U s=>match k7 U tg d with
   | some U=>mb U s
   | none=>.bad) (q.its.drop i) U' t=.ok c s',⟨q.its.length,?_⟩,?_⟩
 .exact⟨C1,U,s0,Gr.refl _ _ _,R1,E.mono g1 l1,bS _,by simp,by rw[gJ];exact hm⟩
 .rintro i m W' H' ⟨C',U',t,g,G,E',a2,rfl,hc⟩
  have z:=g.le
  rcases kj i q.its.length with hlt|hge
  .have hd:q.its[i]?=some q.its[i]:=af hlt
   rw[dr hlt]at hc
   unfold lP at hc
   split at hc
   case isFalse=>exact fb hc
   rename_i F
   obtain⟨a1,Z⟩:=(wk C' H' t g z G F i).1 hlt
   refine .inr ⟨a1,_,λ W2 H2 n=>⟨q.its.length - (i+1),by omega,n⟩,λ x H2 a0=>?_⟩
   obtain⟨sm,rv⟩:=Z x H2 a0
   obtain⟨g2,R2⟩:=G.same sm
   have rd:=rv _ hd
   have bd:(q.its[i]).bnd t.length=true:=zl z _ (ar5 b1 hd)
   obtain⟨c1,t3,hs,hc⟩:=aa0 hc
   cases hb:k7 U' tg q.its[i]with
   | none=>rw[hb]at hs;cases hs
   | some U3 =>
    rw[hb]at hs
    refine bw4 (E'.mono g2 (ah _)) rd bd hb λ W3 E3=>?_
    refine⟨C',U3,t,c1,t3,E3,R2,hs,λ C2 H4 g4 l4 Y=>?_⟩
    have G4:=(g.trans g2 z).trans g4 z
    have L4:=aj z l4
    have GG:=g1.trans G4 l1
    cases c1 with
    | next U1=>exact λ W1 E1=>⟨C2,U1,t3,G4,Y,E1,hlt,rfl,hc⟩
    | cont U1=>exact λ W1 E1=>⟨C2,U1,t3,G4,Y,E1,hlt,rfl,hc⟩
    | ret d=>cases hc;exact k C2 H4 GG (aj l1 L4) Y
    | brk U=>cases hc;exact k C2 H4 GG (aj l1 L4) Y
  .rw[cT hge]at hc
   unfold lP at hc
   split at hc
   case isFalse=>exact fb hc
   rename_i F
   cases hc
   exact .inl ⟨(wk C' H' s' g z G F i).2 hge,k C' H' (g1.trans g l1) (aj l1 z) G W' E'⟩
noncomputable def bW5 (H0:Hp)(D:Ends):Ends where
 nx:=λ W H=>∃ a o kvs,H a=some (.frz o (.dK kvs))/\(∀ o u,H0 a≠some (.frz o u))/\D.nx W (upd H a (.dK kvs))
 rt:=λ v H=>∃ a o kvs,H a=some (.frz o (.dK kvs))/\(∀ o u,H0 a≠some (.frz o u))/\D.rt v (upd H a (.dK kvs))
 bk:=λ W H=>∃ a o kvs,H a=some (.frz o (.dK kvs))/\(∀ o u,H0 a≠some (.frz o u))/\D.bk W (upd H a (.dK kvs))
 ct:=λ W H=>∃ a o kvs,H a=some (.frz o (.dK kvs))/\(∀ o u,H0 a≠some (.frz o u))/\D.ct W (upd H a (.dK kvs))
theorem bG9 {st:Stmt}{t:TS}(h:PS X st t):PS X st (λ D W H=>t (bW5 H D) W H):=by
 intro G s W H D I q
 have J:∀ {a:Addr},(∀ o u,H a≠some (.frz o u))->∀ o u,X.H₀ a≠some (.frz o u):=λ n o u z=>n o u (I.base.frzs _ _ _ z)
 refine thn (h G s W H _ I q) λ f s' hs=>?_
 cases f with
 | next=>obtain⟨W',H',F,a,o,kvs,e,n,q⟩:=hs;exact⟨W',_,F.thawK e (J n),q⟩
 | brk=>obtain⟨W',H',F,a,o,kvs,e,n,q⟩:=hs;exact⟨W',_,F.thawK e (J n),q⟩
 | cont=>obtain⟨W',H',F,a,o,kvs,e,n,q⟩:=hs;exact⟨W',_,F.thawK e (J n),q⟩
 | ret u=>obtain⟨v,W',H',F,r,a,o,kvs,e,n,q⟩:=hs;exact⟨v,W',_,F.thawK e (J n),r,q⟩
theorem aW4 {α:Type}{src:List Nat}{a b:α}{s s':kB}(h:mr src a s=.ok b s'):∃ r l,src=[r]/\s[r]?=some (.dicF l)/\b=a/\s'=s.set r (.dic l):=by
 unfold mr at h
 split at h
 .split at h
  .rename_i l e;cases h;exact⟨_,l,rfl,e,rfl,rfl⟩
  .exact fb h
 .exact fb h
theorem bF8 {mI:kD->kB->kG lE}{mb:kD->kB->kG li}{tg:lh} (h:TSv Γ (λ U s=>(mI U s).bind λ q s0=>if DV.aR4 s q.src then(lP (λ s=>lf s0 s q.src) (λ d U s=>match k7 U tg d with
  | some U=>mb U s
  | none=>.bad) q.its U s0).bind (λ c s=>mr q.src c s)else .bad) D W H):cd4 (TIv Γ mI) (gOf Γ.K tg) (TSv Γ mb) (bW5 H D) W H:=by
 obtain⟨C,U,s,c,s',E,R,Y,k⟩:=h
 obtain⟨q,s0,e1,Y⟩:=aa0 Y
 split at Y
 case isFalse=>exact fb Y
 rename_i hz
 obtain⟨c',s1,e2,Y⟩:=aa0 Y
 obtain⟨r,l,hq,J,rfl,rfl⟩:=aW4 Y
 refine bs3 ⟨C,U,s,c,s1,E,R,(by show(mI U s).bind _=_;rw[e1];exact e2),λ C' H' g hl R'=>?_⟩
 obtain⟨o,kvs,ea,rd⟩:=R'.obj r _ J
 have wf:=R'.wf _ _ J
 have Z:=wf
 unfold kH at Z
 rw[ak]at Z
 have F:∀ o u,H (C' r)≠some (.frz o u):=λ o2 u z=>by
  by_cases hi:r<s.length
  .obtain⟨ob,eo⟩:∃ ob,s[r]?=some ob:=⟨s[r],af hi⟩
   have ho:=R.obj r ob eo
   rw[g.w.map r hi]at z
   have kd:=g.kd r ob _ eo J
   rw[hq]at hz
   unfold DV.aR4 at hz
   rw[bN,eo]at hz
   cases ob with
   | dic l2=>obtain⟨_,e,_⟩:=ho;rw[z]at e;cases e
   | dicF l2=>cases hz
   | _=>cases kd
  .have:=g.new r (by omega) (ac.mp J).1
   rw[z]at this;cases this
 have R2:=(R'.set1 (o:=.dic l) (u:=.dK kvs) J rfl wf (λ H' g e=>⟨kvs,e,RVD.monoW g l kvs Z.2 rd⟩) rfl).2
 have gw:Gw C' s1.length H' C' (upd H' (C' r) (.dK kvs)):=⟨λ _ _=>rfl,(Kp.refl H').put ea rfl⟩
 have ne:∀ b u,H b=some u->(bK2 u=true\/(∃ ob kv,u=.frz ob (.dK kv))\/H' b=some u)->H' b=some u->b≠C' r:=λ b u hb hu a0 zz=>by
  subst zz
  rw[ea]at a0;cases a0
  exact F _ _ hb
 have g2:Gr C s H C' (s1.set r (.dic l)) (upd H' (C' r) (.dK kvs)):=by
  refine⟨⟨g.w.map,λ b u hb hu=>?_⟩,by rw[aS];exact g.le,λ i h1 h2=>g.new i h1 (by rw[aS]at h2;exact h2),λ i o1 o2 h1 h2=>?_,λ b hb=>?_,λ b ob kv hb=>?_,λ b u hb nt no=>?_⟩
  .have:=g.w.kp b u hb hu
   rw[ze (ne b u hb (.inl hu) this)];exact this
  .by_cases hi:i=r
   .subst hi
    rw[aX (ac.mp J).1]at h2
    cases h2
    have kd:=g.kd i o1 (.dicF l) h1 J
    exact kd
   .rw[ao (bG hi)]at h2;exact g.kd i o1 o2 h1 h2
  .unfold upd;split
   .simp
   .exact g.st b hb
  .have:=g.fz b ob kv hb
   rw[ze (ne b _ hb (.inr (.inl ⟨_,_,rfl⟩)) this)];exact this
  .have:=g.fr b u hb nt no
   rw[ze (ne b u hb (.inr (.inr this)) this)];exact this
 have fin:=k C' _ g2 (by rw[aS];exact hl) R2
 rw[aS]at fin
 have re:∀ {U1:kD} {W1:St},RE Γ C' H' s1.length U1 W1->RE Γ C' (upd H' (C' r) (.dK kvs)) s1.length U1 W1:=λ G=>⟨G.len,λ i d e=>by
  obtain⟨b,v,e1,e2⟩:=G.val i d e
  exact⟨b,v,e1,RV.monoW gw d v b e2⟩⟩
 cases c with
 | next U1=>exact λ W1 G=>⟨_,_,_,ea,F,fin W1 (re G)⟩
 | ret d=>exact λ v b rv=>⟨_,_,_,ea,F,fin v b (RV.monoW gw d v b rv)⟩
 | cont U1=>exact λ W1 G=>⟨_,_,_,ea,F,fin W1 (re G)⟩
 | brk U1=>exact λ W1 G=>⟨_,_,_,ea,F,fin W1 (re G)⟩
structure Ck where
 N:List Str
 sc:Scope
 lk:String->List Nat->Expr->Bool
noncomputable abbrev ck0 (N:yH)(sc:Scope):Ck:=⟨N,sc,λ _ _ _=>false⟩
noncomputable def Ck.vis (c:Ck)(x:Str):Bool:=match c.sc.names.lookup x with|some .local=>true|some .cell=>true|some .free=>true|_=>false
noncomputable def Ck.loc (c:Ck)(x:Str):Bool:=match c.sc.names.lookup x with|some .local=>true|some .cell=>true|_=>false
noncomputable def Ck.gl (c:Ck)(x:Str):Bool:=(match c.sc.names.lookup x with|some .globalImplicit=>true|_=>false)&&!(x==("__debug__":Str))&&!decide (x=("__name__":Str))
noncomputable def Ck.var (c:Ck)(i:Nat)(x:Str):Bool:=decide (c.N[i]?=some x)&&c.vis x&&!(x==("__debug__":Str))&&!(x==("__classdict__":Str))
noncomputable def shp:Expr->Bool
 | .Starred ..=>false
 | .Set ..=>false
 | .SetComp ..=>false
 | .DictComp ..=>false
 | .GeneratorExp ..=>false
 | .Slice ..=>false
 | .NamedExpr ..=>false
 | _=>true
noncomputable def ao2:Expr->Bool
 | .ListComp ..=>false
 | .SetComp ..=>false
 | .DictComp ..=>false
 | _=>true
noncomputable def bS5:Expr->Bool
 | .Tuple ..=>false
 | _=>true
noncomputable def aV5:Expr->Bool
 | .Call _ [] [] _=>false
 | _=>true
noncomputable def mC:DV.Cn->Const->Bool
 | .non,.none=>true
 | .bl b,.bool c=>b==c
 | .int i,.int j=>decide (i=j)
 | .str x,.str y=>decide (y=⟨x.toArray⟩)&&decide (x.length<=1000)
 | _,_=>false
noncomputable def bZ0 (ck:Ck):List Nat->List Expr->Bool
 | [],[]=>true
 | i::is,.Name x _::es=>decide (ck.N[i]?=some x)&&ck.loc x&&bZ0 ck is es
 | _,_=>false
noncomputable def mTg (ck:Ck):lh->Expr->Bool
 | .one i,.Name x _=>decide (ck.N[i]?=some x)&&ck.loc x
 | .tup is,.Tuple es _ _=>bZ0 ck is es
 | _,_=>false
noncomputable def tgN:Expr->List Str
 | .Name x _=>[x]
 | .Tuple es _ _=>es.filterMap λ e=>match e with|.Name x _=>some x|_=>none
 | _=>[]
structure ItT where
 x:Str
 y:Str
 ob:Expr
 sc:Scope
 p1:Pos
 p2:Pos
 p3:Pos
 p4:Pos
 p5:Pos
 p6:Pos
 p7:Pos
 k1:Nat
 k2:Nat
 ap:Pos
 cp:Pos
 pos:Pos
noncomputable def ItT.tg (q:ItT):Expr:=.Tuple [.Name q.x q.p5,.Name q.y q.p6] q.k2 q.p7
noncomputable def ItT.it (q:ItT):Expr:=.Call (.Attribute q.ob "items" q.ap) [] [] q.cp
noncomputable def ItT.text (q:ItT):Expr:=.ListComp (.BinOp (.Name q.x q.p1) .Add (.Tuple [.Name q.y q.p2] q.k1 q.p3) q.p4) [⟨q.tg,q.it,[],0⟩] q.sc q.pos
noncomputable def ckC (ck:Ck)(tgt:Expr)(caps:yD)(scope:Scope):Ck:=⟨tgN tgt++(caps.filterMap id).map λ j=>ck.N.getD j "",scope,λ _ _ _=>false⟩
noncomputable def aO3 (ck:Ck)(tg:lh)(tgt iter:Expr)(caps:yD)(scope:Scope):Bool :=
 zN (ckC ck tgt caps scope).N caps scope ck.N ck.sc&&decide ((ckC ck tgt caps scope).N.Nodup)&&mTg (ckC ck tgt caps scope) tg tgt&&shp iter
noncomputable def biT:lq->Option Str
 | .len=>some "len" | .abs=>some "abs" | .min2=>some "min" | .max2=>some "max" | .int=>some "int" | .str=>some "str" | _=>none
noncomputable def biK:lq->Option (Nat×Str)
 | .isInt=>some (1, "int")|.isBool=>some (2, "bool")|.isStr=>some (3, "str")|.isTup=>some (4, "tuple")|.isList=>some (5, "list")|_=>none
noncomputable def mkT:lV->Option Str
 | .tuple=>some "tuple" | .list=>some "list" | _=>none
noncomputable def mkF:lV->Option Str
 | .all=>some "all" | .any=>some "any" | .min=>some "min" | _=>none
noncomputable def mtT:lW->Option (Str×Nat)
 | .append=>some ("append",1)|.reverse=>some ("reverse",0)|_=>none
noncomputable def bY9 (ck:Ck)(b:lq)(x:Str)(xs:yK)(m1 m2:Bool):Bool:=match biK b with
 | some p=>(match xs with|[_,.Name y _]=>decide (x=("isinstance":Str))&&ck.gl x&&decide (y=p.2)&&ck.gl y&&m2|_=>false)
 | none=>(match xs with|_::_=>decide (biT b=some x)&&ck.gl x&&m1|[]=>false)
noncomputable def bB0:dj->Option (List Str)
 | ⟨[],args,none,[],[],none,[]⟩=>some (args.map (·.arg))
 | _=>none
mutual
noncomputable def mE (ck:Ck):lx->Expr->Bool
 | .var i,E=>match E with|.Name x _=>ck.var i x|_=>false
 | .cst c,E=>match E with|.Constant v _ _=>mC c v|_=>false
 | .glob g,E=>match E with|.Name x _=>decide (x=(g:Str))&&ck.gl x|_=>false
 | .bin op a b,E=>match E with|.BinOp l o r _=>decide (o=bZ4 op)&&mE ck a l&&mE ck b r|_=>false
 | .not a,E=>match E with|.UnaryOp .Not l _=>mE ck a l|_=>false
 | .cmp op a b,E=>match E with|.Compare l [o] [r] _=>decide (o=bE1 op)&&mE ck a l&&mE ck b r|_=>false
 | .isN a,E=>match E with|.Compare l [.Is] [.Constant .none _ _] _=>mE ck a l|_=>false
 | .notN a,E=>match E with|.Compare l [.IsNot] [.Constant .none _ _] _=>mE ck a l|_=>false
 | .and a b,E=>match E with
  | .BoolOp .And [l,r] _=>mE ck a l&&mE ck b r
  | .BoolOp .And (l::m::r::es) p=>mE ck a l&&mE ck b (.BoolOp .And (m::r::es) p)
  | _=>false
 | .or a b,E=>match E with
  | .BoolOp .Or [l,r] _=>mE ck a l&&mE ck b r
  | .BoolOp .Or (l::m::r::es) p=>mE ck a l&&mE ck b (.BoolOp .Or (m::r::es) p)
  | _=>false
 | .ite c a b,E=>match E with|.IfExp t l r _=>mE ck c t&&mE ck a l&&mE ck b r|_=>false
 | .tup es,E=>match E with|.Tuple xs _ _=>mEs ck es xs&&decide (xs.length<=1000)|_=>false
 | .lst es,E=>match E with|.List xs _=>mEs ck es xs&&decide (xs.length<=1000)|_=>false
 | .dic ks vs,E=>match E with|.Dict a b _=>(match a,b with|[],[]=>mEs ck ks []&&mEs ck vs []|[some x],[y]=>mEs ck ks [x]&&mEs ck vs [y]|_,_=>false)|_=>false
 | .slL a lo,E=>match E with|.Subscript o (.Slice (some l) none none _) _=>mE ck a o&&mE ck lo l|_=>false
 | .slU a hi,E=>match E with|.Subscript o (.Slice none (some h) none _) _=>mE ck a o&&mE ck hi h|_=>false
 | .slLU a lo hi,E=>match E with|.Subscript o (.Slice (some l) (some h) none _) _=>mE ck a o&&mE ck lo l&&mE ck hi h|_=>false
 | .bitl o,E=>match E with|.Call (.Attribute ob x ap) [] [] cp=>decide (x=("bit_length":Str))&&aV5 ob&&(ap.endLine==cp.line)&&mE ck o ob|_=>false
 | .get1 o k,E=>match E with|.Call (.Attribute ob x ap) [a] [] cp=>decide (x=("get":Str))&&aV5 ob&&(ap.endLine==cp.line)&&mE ck o ob&&mE ck k a&&shp a|_=>false
 | .ix a b,E=>match E with|.Subscript o i _=>mE ck a o&&mE ck b i|_=>false
 | .call f as,E=>match E with|.Call (.Name x _) xs [] _=>decide (x=(f:Str))&&ck.gl x&&mAs ck as xs|_=>false
 | .bi b es,E=>match E with|.Call (.Name x _) xs [] _=>bY9 ck b x xs (mEs ck es xs) (mEs ck es (xs.take 1))|_=>false
 | .mk k l,E=>match E with
  | .Call (.Name x _) [a] [] _=>ck.gl x&&shp a&&((decide (mkT k=some x)&&mL ck 2 l a)||(decide (mkF k=some x)&&mL ck 1 l a))
  | .ListComp e gs sc p=>decide (k=.list)&&mL ck 0 l (.ListComp e gs sc p)
  | _=>false
 | .meth m o es,E=>match E with
  | .Call (.Attribute ob x ap) xs [] cp=>decide (mtT m=some (x,xs.length))&&aV5 ob&&(ap.endLine==cp.line)&&mE ck o ob&&mEs ck es xs
  | _=>false
 | .join o e,E=>match E with
  | .Call (.Attribute ob x ap) [a] [] cp=>decide (x=("join":Str))&&aV5 ob&&(ap.endLine==cp.line)&&mE ck o ob&&mE ck e a&&shp a
  | _=>false
 | .attr o f,E=>match E with|.Attribute ob x _=>decide (x=⟨f.toArray⟩)&&aV5 ob&&mE ck o ob|_=>false
 | .keysL e,E=>match E with|.Call (.Name x _) [a] [] _=>decide (x=("list":Str))&&ck.gl x&&shp a&&mE ck e a|_=>false
 | .srt e,E=>match E with|.Call (.Name x _) [a] [] _=>decide (x=("sorted":Str))&&ck.gl x&&shp a&&mE ck e a|_=>false
 | .new c as,E=>match E with|.Call (.Name x _) xs [] _=>decide (x=(c:Str))&&ck.gl x&&mAs ck as xs|_=>false
 | .mcall o m as,E=>match E with|.Call (.Attribute ob x ap) xs [] cp=>(match ob with|.Name y py=>decide (x=(m:Str))&&mE ck o (.Name y py)&&(ap.endLine==cp.line)&&decide (xs.length<29)&&mAs ck as xs|_=>false)|_=>false
noncomputable def mEs (ck:Ck):kX->List Expr->Bool
 | .nil,xs=>match xs with|[]=>true|_=>false
 | .cons e es,xs=>match xs with|x::xs=>mE ck e x&&shp x&&mEs ck es xs|_=>false
noncomputable def mFs (ck:Ck):kX->List Expr->Bool
 | .nil,xs=>match xs with|[]=>true|_=>false
 | .cons e es,xs=>match xs with
  | .FormattedValue v c none _::xs=>decide (c=-1)&&mE ck e v&&mFs ck es xs
  | .Constant v j p::xs=>mE ck e (.Constant v j p)&&mFs ck es xs
  | _=>false
noncomputable def mAs (ck:Ck):lF->List Expr->Bool
 | .nil,xs=>match xs with|[]=>true|_=>false
 | .ex e es,xs=>match xs with|x::xs=>mE ck e x&&shp x&&mAs ck es xs|_=>false
 | .fn _ _,_=>false
noncomputable def ci2 (ck:Ck):lF->List Expr->Bool
 | .nil,xs=>match xs with|[]=>true|_=>false
 | .ex e es,xs=>match xs with|x::xs=>mE ck e x&&shp x&&ci2 ck es xs|_=>false
 | .fn _ _,_=>false
noncomputable def mI (ck:Ck)(tgt:Expr):DV.I->Expr->Bool
 | .rng1 a,E=>match E with|.Call (.Name x _) [l] [] _=>decide (x=("range":Str))&&ck.gl x&&mE ck a l&&shp l|_=>false
 | .rng2 a b,E=>match E with|.Call (.Name x _) [l,r] [] _=>decide (x=("range":Str))&&ck.gl x&&mE ck a l&&shp l&&mE ck b r&&shp r|_=>false
 | .seq e,x=>mE ck e x&&shp x
 | .rngD a,E=>match E with|.Call (.Name x _) [l,.UnaryOp .USub (.Constant v _ _) _,.UnaryOp .USub (.Constant u _ _) _] [] _=>decide (x=("range":Str))&&ck.gl x&&mE ck a l&&shp l&&decide (v=.int 1)&&decide (u=.int 1)|_=>false
 | .keys e,x=>mE ck e x&&shp x
noncomputable def mL (ck:Ck)(k:Nat):DV.L->Expr->Bool
 | .comp tg it e caps,E=>match E with|.ListComp elt [⟨tgt,iter,[],z⟩] scope _=>decide (z=0)&&aO3 ck tg tgt iter caps scope&&mI ck tgt it iter&&mE (ckC ck tgt caps scope) e elt|_=>false
 | .compIf tg it c e caps,E=>match E with|.ListComp elt [⟨tgt,iter,[i],z⟩] scope _=>decide (z=0)&&aO3 ck tg tgt iter caps scope&&mI ck tgt it iter&&mE (ckC ck tgt caps scope) c i&&mE (ckC ck tgt caps scope) e elt|_=>false
 | .disp es,E=>match E with|.List xs _=>decide (1<=k)&&mEs ck es xs&&decide (xs.length<=1000)|_=>false
 | .seq e,x=>decide (k=2)&&mE ck e x
end
theorem ff {p:Prop}(h:false=true):p:=Bool.noConfusion h
mutual
noncomputable def mS (ck:Ck):DV.S->Stmt->Bool
 | .asg tg e,S=>match S with
  | .Assign [t] v _=>mTg ck tg t&&mE ck e v&&(match tg with|.one _=>true|.tup _=>bS5 v&&ao2 v)
  | _=>false
 | .setIx o i e,S=>match S with|.Assign [.Subscript ob ix _] v _=>mE ck o ob&&mE ck i ix&&mE ck e v&&ao2 v|_=>false
 | .ex e,S=>match S with|.Expr v _=>mE ck e v&&ao2 v|_=>false
 | .ret e,S=>match S with|.Return (some v) _=>mE ck e v|_=>false
 | .ite c a b,S=>match S with|.If t l r _=>mE ck c t&&mSs ck a l&&mSs ck b r|_=>false
 | .whl c b,S=>match S with|.While t l [] _=>mE ck c t&&mSs ck b l|_=>false
 | .for_ tg it b,S=>match S with|.For tgt iter l [] _=>mTg ck tg tgt&&mI ck tgt it iter&&mSs ck b l|_=>false
 | .setA o f e,S=>match S with|.Assign [.Attribute ob x _] v _=>decide (x=⟨f.toArray⟩)&&mE ck o ob&&mE ck e v&&ao2 v|_=>false
 | .forK tg e b,S=>match S with|.For tgt iter l [] _=>mTg ck tg tgt&&(mE ck e iter&&shp iter)&&mSs ck b l|_=>false
noncomputable def mSs (ck:Ck):DV.Ss->List Stmt->Bool
 | .nil,xs=>match xs with|[]=>true|_=>false
 | .cons s ss,xs=>match xs with|x::xs=>(mS ck s x&&mSs ck ss xs)|_=>false
end
theorem aG4 {z:Ck}{e:lx}{E:Expr}(h:mE z e E=true):shp E=true:=by
 cases E<;>first|rfl|(exfalso;cases e<;>exact ff h)
theorem bX5 {F:Ck}{z:Expr}{e:DV.I}{E:Expr}(h:mI F z e E=true):shp E=true:=by
 cases e with
 | seq e=>have h:(mE F e E&&shp E)=true:=h;rw[ak]at h;exact h.2
 | keys e=>have h:(mE F e E&&shp E)=true:=h;rw[ak]at h;exact h.2
 | _=>cases E<;>first|rfl|exact ff h
theorem zb {e:Expr}{es:yK}{env:Env}(h:shp e=true):aY (e::es) env=(false,eval e env)::aY es env:=by
 cases e<;>first|rfl|cases h
theorem zr {env:Env}{pos:Pos}:∀ {es:yK},(∀ e∈es,shp e=true)->(cD pos (aY es env)).any (·.1)=false/\(cD pos (aY es env)).all (λ x=>!x.1)=true
 | [],_=>⟨rfl,rfl⟩
 | e::es,h=>by
  have F:=zb (es:=es) (env:=env) (h e (aB ..))
  obtain⟨z,h3⟩:=zr (env:=env) (pos:=pos) (es:=es) λ x hx=>h x (ax _ hx)
  rw[F]
  unfold cD at z h3 ⊢
  simp only[aH,fF,bN,z,h3]
  exact⟨rfl,rfl⟩
theorem ar7 {e:Expr}{env:Env}(h:shp e=true)(x:Value):c8 e env x=pure x:=by
 cases e<;>first|rfl|cases h
theorem ay2 {e:Expr}{op:CmpOp}(h:shp e=true):cY op e=false:=by
 cases e<;>first|rfl|cases h
theorem am2 {e:Expr}{t:Option Expr}{l:Nat}{env:Env}(h:ao2 e=true):dZ e t l env=pure false:=by
 cases e<;>first|rfl|cases h
theorem qF {e:Expr}{f:Str}{env:Env}(h:aV5 e=true):cZ e f env (eval e env)=eval e env:=by
 cases e with
 | Call g a k p =>
  cases g with
  | Name x p' =>
   cases a with
   | nil=>cases k with
    | nil=>cases h
    | cons _ _=>rfl
   | cons _ _=>rfl
  | _=>rfl
 | _=>rfl
theorem aM8 {es:yK}{k:Nat}{p:Pos}{e:Expr}{env:Env}(h:bS5 e=true):h8 [.Tuple es k p] e env=pure none:=by
 cases e<;>first|rfl|cases h
theorem aM9 {o i:Expr}{p:Pos}{e:Expr}{env:Env}:h8 [.Subscript o i p] e env=pure none:=by
 cases e<;>rfl
theorem aQ7 {e:Expr}(h:shp e=true):aZ7 e:=by
 intro o i
 cases e<;>first|rfl|cases h
def spV (Γ:Gm)(c:List kC->kB->kG kC):Sp:=λ vs H Q _=>rCl Γ c vs H Q
noncomputable def bNames:List Str:=["len", "abs", "min", "max", "int", "isinstance", "bool", "str", "tuple", "list", "range", "sum", "all", "any", "sorted", "zip", "enumerate", "ord"]
noncomputable def LamI.own (J:LamI):Str:=match J.nm with|none => "<lambda>" | some p=>p.1
noncomputable def strD (kvs:List (List Nat×List Nat)):List (PyData×PyData):=kvs.map λ p=>(.str ⟨p.1.toArray⟩,.str ⟨p.2.toArray⟩)
structure ObOk (Γ:Gm)(prog:aE)(w:World)(K:ae)(mg:yC)(base:Heap)(F:kN)(n:Nat):Prop where
 att:∀(c:String) (f:List Nat) (Cc:Addr),F.att c f=true->Γ.cls c=some Cc->NoAttr K Cc ⟨f.toArray⟩
 mc:∀ c m:String,(∀ l s,F.mcall c m l s=.bad)\/∃ Cc a fd ps,Γ.cls c=some Cc/\Cls K Cc/\Meth K Cc (m:Str) a/\FnOk prog w K mg base CX0 n a fd ps (spV Γ (F.mcall c m))/\Binds K fd ps []
 nw:∀ c:String,(∀ l s,F.new c l s=.bad)\/∃ k Cc a fd ps,k+1<=n/\(Γ.cls c=some Cc/\Cls K Cc)/\mg (c:Str)=some (.ref Cc)/\Mk K Cc a/\FnOk prog w K mg base CX0 k a fd ps (spV Γ (F.new c))/\Binds K fd ps []
structure CG (Γ:Gm)(F:kN)(n:Nat)(X:Cx)(ck:Ck):Prop where
 K:X.K=Γ.K
 N:X.N=ck.N
 nd:ck.N.Nodup
 xe:X.xe=λ _ _=>False
 calm:X.calm=true
 deep:kO+1<=n
 room:Room n X.A
 sc:∀ x k,ck.sc.names.lookup x=some k->X.env.scope.names.lookup x=some k\/(k=.free/\X.env.scope.names.lookup x=some .cell)
 fn:∀ x,ck.sc.names.lookup x=some .cell->X.fn x=true
 bi:∀ x∈bNames,X.mg x=none
 call:∀ f:String,(∀ l s,F.call f l s=.bad)\/∃ a fd ps,FnOk X.prog X.w X.K X.mg X.base CX0 n a fd ps (spV Γ (F.call f))/\X.mg (f:Str)=some (.ref a)/\bz X.K (.ref a)=true/\Binds X.K fd ps []
 con:∀ x d,F.con x=some d->∃ v u,X.mg (x:Str)=some u/\RelV v u/\(∀ m,d.bnd m=true)/\∀ C H,RV Γ C H d v
 lam:∀ id caps E,ck.lk id caps E=true->False
 cl:True
 fa:∀(f:String) (a:Addr),Γ.fa f=some a->X.mg (f:Str)=some (.ref a)/\∃ oc od fd sl,X.K.lookup a=some ⟨oc,od,.func fd,sl⟩
 fk:DV.FK F
 cdc:∀ c kvs,F.cdc c=some kvs->∃ a,X.mg (c:Str)=some (.ref a)/\∀ h:Heap,X.K.In h->StrTab X.prog X.w h a (strD kvs)
 ob:ObOk Γ X.prog X.w X.K X.mg X.base F n
section
variable {Γ:Gm} {F:kN} {n:Nat} {X:Cx} {ck:Ck}
theorem CG.vis (G:CG Γ F n X ck){x:Str}(h:ck.vis x=true):Vis X.env.scope x:=by
 unfold Ck.vis at h
 split at h
 .rename_i e;rcases G.sc _ _ e with z|⟨z,_⟩
  .exact .inl z
  .cases z
 .rename_i e;rcases G.sc _ _ e with z|⟨z,_⟩
  .exact .inr (.inl z)
  .cases z
 .rename_i e;rcases G.sc _ _ e with z|⟨_,z⟩
  .exact .inr (.inr z)
  .exact .inr (.inl z)
 .cases h
theorem CG.loc (G:CG Γ F n X ck){x:Str}(h:ck.loc x=true):Loc X.env.scope x/\(X.fn x=true\/X.env.scope.names.lookup x=some .local):=by
 unfold Ck.loc at h
 split at h
 .rename_i e;rcases G.sc _ _ e with z|⟨z,_⟩
  .exact⟨.inl z,.inr z⟩
  .cases z
 .rename_i e;rcases G.sc _ _ e with z|⟨z,_⟩
  .exact⟨.inr z,.inl (G.fn _ e)⟩
  .cases z
 .cases h
theorem CG.gl (G:CG Γ F n X ck){x:Str}(h:ck.gl x=true):Gl X x/\(x==("__debug__":Str))=false/\x ≠ "__name__":=by
 unfold Ck.gl at h
 simp only[ak,Bool.not_eq_true']at h
 obtain⟨⟨J,Y⟩,h3⟩:=h
 refine⟨?_,Y,of_decide_eq_false h3⟩
 split at J
 .rename_i e;rcases G.sc _ _ e with z|⟨z,_⟩
  .exact z
  .cases z
 .cases J
theorem br0 (G:CG Γ F n X ck):∀ {is:List Nat} {es:yK},bZ0 ck is es=true->PGs X es (bZ2 is)/\(cu es X.env).length=is.length/\(cu es X.env).findIdx? (·.1)=none
 | [],[],_=>⟨bD4,rfl,rfl⟩
 | [],_::_,h=>by cases h
 | i::is,[],h=>by cases h
 | i::is,e::es,h=>by
  cases e with
  | Name x p =>
   unfold bZ0 at h
   simp only[ak,decide_eq_true_eq]at h
   obtain⟨⟨z,Y⟩,h3⟩:=h
   obtain⟨l1,J⟩:=G.loc Y
   obtain⟨a,b,c⟩:=br0 G h3
   have hs:cu (.Name x p::es) X.env=(false,fQ (.Name x p) X.env)::cu es X.env:=rfl
   refine⟨bi8 (aV8 (by rw[G.N];exact G.nd) (by rw[G.N];exact z) l1 J) a (by rw[hs];rfl),by rw[hs,aR,aR,b],?_⟩
   rw[hs,List.findIdx?_cons]
   simp[c]
  | _=>cases h
theorem bj4 (G:CG Γ F n X ck){tg:lh}{e:Expr}(h:mTg ck tg e=true):PG X e (gOf Γ.K tg):=by
 unfold mTg at h
 split at h
 .simp only[ak,decide_eq_true_eq]at h
  obtain⟨l1,z⟩:=G.loc h.2
  exact aV8 (by rw[G.N];exact G.nd) (by rw[G.N];exact h.1) l1 z
 .obtain⟨a,b,c⟩:=br0 G h
  exact bv3 G.K G.calm a b c
 .cases h
theorem CG.comp (G:CG Γ F n X ck){tg:lh}{Y iter:Expr}{J:yD}{scope:Scope}(h:aO3 ck tg Y iter J scope=true) :
  zN (ckC ck Y J scope).N J scope X.N X.env.scope=true/\shp iter=true /\
  ∀(Cc:Addr) (cells:yB) (s:ag) (H:Hp) (ex:List Addr),CG Γ F n (zy X (ckC ck Y J scope).N scope Cc cells s H ex) (ckC ck Y J scope)/\PG (zy X (ckC ck Y J scope).N scope Cc cells s H ex) Y (gOf Γ.K tg):=by
 unfold aO3 at h
 simp only[ak,decide_eq_true_eq]at h
 obtain⟨⟨⟨Z,h2⟩,h3⟩,h4⟩:=h
 refine⟨?_,h4,λ Cc cells s H ex=>?_⟩
 .rw[G.N]
  unfold zN at Z ⊢
  simp only[ak]at Z ⊢
  obtain⟨⟨⟨⟨⟨a1,a2⟩,a3⟩,a4⟩,a5⟩,a6⟩:=Z
  refine⟨⟨⟨⟨⟨a1,?_⟩,a3⟩,a4⟩,a5⟩,a6⟩
  rw[aL]at a2 ⊢
  intro y hy
  have:=a2 y hy
  rw[bn]at this ⊢
  rcases this with q|q
  .exact .inl q
  .right
   rw[bn]at q ⊢
   rcases q with q|q
   .rcases G.sc _ _ (eq_of_beq q)with z|⟨z,_⟩
    .left;rw[z];exact beq_self_eq_true _
    .cases z
   .rcases G.sc _ _ (eq_of_beq q)with z|⟨_,z⟩
    .right;rw[z];exact beq_self_eq_true _
    .left;rw[z];exact beq_self_eq_true _
 .have G':CG Γ F n (zy X (ckC ck Y J scope).N scope Cc cells s H ex) (ckC ck Y J scope):=by
   refine⟨G.K,rfl,h2,rfl,G.calm,G.deep,G.room,λ x k e=>?_,λ x e=>?_,G.bi,G.call,G.con,λ _ _ _ h=>(by cases h),G.cl,G.fa,G.fk,G.cdc,G.ob⟩
   .have q:=qc (env:=X.env) e
    have q':(d9 scope X.env).names.lookup x=some (if(k==NameKind.free&&X.env.scope.kind==.function&&X.env.kindOf x==some .cell)then NameKind.cell else k):=q
    show(d9 scope X.env).names.lookup x=some k\/_
    rw[q']
    split
    .rename_i hc
     simp only[ak]at hc
     exact .inr ⟨eq_of_beq hc.1.1,rfl⟩
    .exact .inl rfl
   .show(scope.names.lookup x==some .cell)=true
    rw[show scope.names.lookup x=some .cell from e];rfl
  exact⟨G',bj4 G' h3⟩
end
section
variable {Γ:Gm} {F:kN} {n:Nat} {X:Cx} {ck:Ck} {W:St} {H:Hp} {Q:VK}
theorem TEv.eq {m m':kD->kB->kG kC}(e:∀ U s,m U s=m' U s)(q:TEv Γ m W H Q):TEv Γ m' W H Q:=by
 have:m=m':=funext λ U=>funext λ s=>e U s
 subst this;exact q
theorem TTv.eq {m m':kD->kB->kG kC}{Q:Bool->Hp->Prop}(e:∀ U s,m U s=m' U s)(q:TTv Γ m W H Q):TTv Γ m' W H Q:=by
 have:m=m':=funext λ U=>funext λ s=>e U s
 subst this;exact q
theorem TAv.eq {m m':kD->kB->kG (List kC)}{Q:List V->Hp->Prop}(e:∀ U s,m U s=m' U s)(q:TAv Γ m W H Q):TAv Γ m' W H Q:=by
 have:m=m':=funext λ U=>funext λ s=>e U s
 subst this;exact q
theorem TFv.eq {m m':kD->kB->kG (List kC)}(e:∀ U s,m U s=m' U s)(q:TFv Γ m W H Q):TFv Γ m' W H Q:=by
 have:m=m':=funext λ U=>funext λ s=>e U s
 subst this;exact q
theorem TIv.eq {m m':kD->kB->kG lE}{R:It->Hp->Prop}(e:∀ U s,m U s=m' U s)(q:TIv Γ m W H R):TIv Γ m' W H R:=by
 have:m=m':=funext λ U=>funext λ s=>e U s
 subst this;exact q
theorem TSv.eq {m m':kD->kB->kG li}{D:Ends}(e:∀ U s,m U s=m' U s)(q:TSv Γ m D W H):TSv Γ m' D W H:=by
 have:m=m':=funext λ U=>funext λ s=>e U s
 subst this;exact q
def EvT (Γ:Gm)(X:Cx)(E:Expr)(m:kD->kB->kG kC):Prop:=PE X E (TEv Γ m)/\PT X E (TTv Γ m)
theorem EvT.val {E:Expr}{m:kD->kB->kG kC}(h:PE X E (TEv Γ m))(F:∀ z,dD E X.env z=(do let v <- z;iJ E.pos;fP [v] (truthy v)):=by intro _;rfl):EvT Γ X E m :=
 ⟨h,(bR9 h F).imp λ W H Q q=>aI8 q⟩
theorem bn4 {c a b:Expr}{pos:Pos}{Y tb J:TT}(hc:PT X c Y)(ha:PT X a tb)(hb:PT X b J):PT X (.IfExp c a b pos) (λ W H Q=>Y W H λ k F=>if k=true then tb W F Q else J W F Q):=by
 intro z s W H Q I h
 have e:dD (.IfExp c a b pos) X.env (eval (.IfExp c a b pos) X.env)=(do if <- dD c X.env (eval c X.env)then dD a X.env (eval a X.env)else dD b X.env (eval b X.env)):=by rw[dD]
 rw[e]
 refine ar (thn (hc z s W H _ I h) λ k s1 ⟨F,Z,G⟩=>?_)
 cases k with
 | true=>exact ha z s1 W F Q Z G
 | false=>exact hb z s1 W F Q Z G
theorem bL8 {mc G J:kD->kB->kG kC}{Q:Bool->Hp->Prop}(h:TTv Γ (λ U s=>kM (mc U s) λ k s=>if k then G U s else J U s) W H Q):TTv Γ mc W H λ k F=>if k=true then TTv Γ G W F Q else TTv Γ J W F Q:=by
 obtain⟨C,U,s,d,s',E,R,z,q⟩:=h
 obtain⟨c,s1,e1,z⟩:=zC z
 refine⟨C,U,s,c,s1,E,R,e1,λ C1 F g1 l1 R1=>?_⟩
 cases c with
 | true =>
  rw[if_pos rfl]at z ⊢
  exact⟨C1,U,s1,d,s',E.mono g1 l1,R1,z,q.trans g1 l1⟩
 | false =>
  rw[if_neg aW]at z ⊢
  exact⟨C1,U,s1,d,s',E.mono g1 l1,R1,z,q.trans g1 l1⟩
section
variable {a b c:lx} {l r t:Expr} {pos:Pos}
theorem bw9 (G:CG Γ F n X ck)(op:l9)(ha:EvT Γ X l (kF F a))(hb:EvT Γ X r (kF F b)):EvT Γ X (.BinOp l (bZ4 op) r pos) (kF F (.bin op a b)) :=
 .val ((cg2 (bV4 G.K op) ha.1 hb.1).imp λ W H Q q=>bm0 (TEv.eq (λ U s=>rfl) q))
theorem bv2 (ha:EvT Γ X l (kF F a)):EvT Γ X (.UnaryOp .Not l pos) (kF F (.not a)) :=
 ⟨(bV2 ha.1).imp λ W H Q q=>bX3 (TEv.eq (λ U s=>rfl) q),(bK6 ha.2).imp λ W H Q q=>bQ1 (TTv.eq (λ U s=>rfl) q)⟩
theorem bC1 (G:CG Γ F n X ck)(op:lY)(hs:shp r=true)(ha:EvT Γ X l (kF F a))(hb:EvT Γ X r (kF F b)):EvT Γ X (.Compare l [bE1 op] [r] pos) (kF F (.cmp op a b)):=by
 have ho:=bW4 (Γ:=Γ) G.K (G.room.mono G.deep) op
 refine⟨(bv6 ho ha.1 hb.1 (ay2 hs)).imp λ W H Q q=>bm0 (TEv.eq (λ U s=>rfl) q),(by9 ho ha.1 hb.1 (ay2 hs)).imp λ W H Q q=>?_⟩
 have q:=bH9 q
 exact bm0 (TEv.eq (λ U s=>rfl) q)
theorem RV.nonIff {C:Nat->Addr}{x:kC}{v:V}(r:RV Γ C H x v):decide (v=.non)=decide (x=.non):=by
 cases x with
 | non=>rw[r.nonE];rfl
 | bl b=>rw[r.blE];rfl
 | int i=>rw[r.intE];rfl
 | str z=>rw[r.strE];rfl
 | tup l=>obtain⟨a,h,rfl,_⟩:=r.tupE;rfl
 | ref k=>rw[r.refE];rfl
 | fn f=>unfold RV at r;obtain⟨a,_,rfl⟩:=r;rfl
 | clo f cs=>unfold RV at r;obtain⟨f,_,_,_,rfl,_⟩:=r;rfl
theorem bF2 {j pos'}(ha:EvT Γ X l (kF F a)):EvT Γ X (.Compare l [.Is] [.Constant .none j pos'] pos) (kF F (.isN a)):=by
 have key:∀ W H Q,TEv Γ (kF F (.isN a)) W H Q->cj8 (TEv Γ (kF F a)) W H Q:=λ W H Q q=>by
  obtain⟨C,U,s,d,s',E,R,h,k⟩:=q
  obtain⟨x,s1,e1,h⟩:=aa0 h
  cases h
  refine⟨C,U,s,x,_,E,R,e1,λ v C1 z g1 l1 G r1 R1=>?_⟩
  show Q (.bl (decide (v=.non))) z
  rw[r1.nonIff]
  exact k _ C1 z g1 l1 rfl RV.blI R1
 exact⟨(bq5 (br2 ha.1)).imp key,(bq0 (br2 ha.1)).imp λ W H Q q=>key _ _ _ (aI8 q)⟩
theorem bm6 {j pos'}(ha:EvT Γ X l (kF F a)):EvT Γ X (.Compare l [.IsNot] [.Constant .none j pos'] pos) (kF F (.notN a)):=by
 have key:∀ W H Q,TEv Γ (kF F (.notN a)) W H Q->bS1 (TEv Γ (kF F a)) W H Q:=λ W H Q q=>by
  obtain⟨C,U,s,d,s',E,R,h,k⟩:=q
  obtain⟨x,s1,e1,h⟩:=aa0 h
  cases h
  refine⟨C,U,s,x,_,E,R,e1,λ v C1 z g1 l1 G r1 R1=>?_⟩
  show Q (.bl (!decide (v=.non))) z
  rw[r1.nonIff]
  exact k _ C1 z g1 l1 rfl RV.blI R1
 exact⟨(bq5 (aZ4 ha.1)).imp key,(bq0 (aZ4 ha.1)).imp λ W H Q q=>key _ _ _ (aI8 q)⟩
theorem aY4 {op:BoolOp}{es:yK}{t:TT}(h:PT X (.BoolOp op es pos) t):PW X (.BoolOp op es pos) t:=by
 intro F z s W H Q I q
 have:=h z s W H Q I q
 have e:∀ w,dD (.BoolOp op es pos) X.env w=allTrue op es X.env:=λ w=>by rw[dD]
 rw[e]at this ⊢
 exact this
theorem bD8 (ha:EvT Γ X l (kF F a))(hb:EvT Γ X r (kF F b)):EvT Γ X (.BoolOp .And [l,r] pos) (kF F (.and a b)) :=
 ⟨(bs5 ha.1 (bq1 hb.1)).imp λ W H Q q=>bt3 (TEv.eq (λ U s=>rfl) q),(bs1 ha.2 (bz3 hb.2)).pt.imp λ W H Q q=>bp5 (TTv.eq (λ U s=>rfl) q)⟩
theorem bB3 {es:yK}(ha:EvT Γ X l (kF F a))(hb:EvT Γ X (.BoolOp .And (r::es) pos) (kF F b)):EvT Γ X (.BoolOp .And (l::r::es) pos) (kF F (.and a b)) :=
 ⟨(bs5 ha.1 hb.1).imp λ W H Q q=>bt3 (TEv.eq (λ U s=>rfl) q),(bs1 ha.2 (aY4 hb.2)).pt.imp λ W H Q q=>bp5 (TTv.eq (λ U s=>rfl) q)⟩
theorem bW1 (ha:EvT Γ X l (kF F a))(hb:EvT Γ X r (kF F b)):EvT Γ X (.BoolOp .Or [l,r] pos) (kF F (.or a b)) :=
 ⟨(bL7 ha.1 (bq1 hb.1)).imp λ W H Q q=>bX4 (TEv.eq (λ U s=>rfl) q),(bU3 ha.2 (bP6 hb.2)).pt.imp λ W H Q q=>bN2 (TTv.eq (λ U s=>rfl) q)⟩
theorem bS3 {es:yK}(ha:EvT Γ X l (kF F a))(hb:EvT Γ X (.BoolOp .Or (r::es) pos) (kF F b)):EvT Γ X (.BoolOp .Or (l::r::es) pos) (kF F (.or a b)) :=
 ⟨(bL7 ha.1 hb.1).imp λ W H Q q=>bX4 (TEv.eq (λ U s=>rfl) q),(bU3 ha.2 (aY4 hb.2)).pt.imp λ W H Q q=>bN2 (TTv.eq (λ U s=>rfl) q)⟩
theorem bx9 (hc:EvT Γ X t (kF F c))(ha:EvT Γ X l (kF F a))(hb:EvT Γ X r (kF F b)):EvT Γ X (.IfExp t l r pos) (kF F (.ite c a b)) :=
 ⟨(bo3 hc.2 ha.1 hb.1).imp λ W H Q q=>bQ0 (TEv.eq (λ U s=>rfl) q),(bn4 hc.2 ha.2 hb.2).imp λ W H Q q=>bL8 (TTv.eq (λ U s=>rfl) q)⟩
theorem bO7 (G:CG Γ F n X ck)(hs:shp r=true)(ha:EvT Γ X l (kF F a))(hb:EvT Γ X r (kF F b)):EvT Γ X (.Subscript l r pos) (kF F (.ix a b)) :=
 .val ((cc0 (cg7 G.K (ax2 G.room)) ha.1 hb.1 (aQ7 hs)).imp λ W H Q q=>bm0 (TEv.eq (λ U s=>rfl) q))
theorem bH0 {h:Pos}(G:CG Γ F n X ck)(ha:EvT Γ X l (kF F a))(hb:EvT Γ X r (kF F b)):EvT Γ X (.Subscript l (.Slice (some r) none none h) pos) (kF F (.slL a b)) :=
 .val ((au0 (by7 G.K) ha.1 (au7 hb.1) bc6).imp λ W H Q q=>(bG3 (mh:=kF F b)).1 (TEv.eq (λ U s=>rfl) q))
theorem bD5 {h:Pos}(G:CG Γ F n X ck)(ha:EvT Γ X l (kF F a))(hb:EvT Γ X r (kF F b)):EvT Γ X (.Subscript l (.Slice none (some r) none h) pos) (kF F (.slU a b)) :=
 .val ((au0 (by7 G.K) ha.1 bc6 (au7 hb.1)).imp λ W H Q q=>(bG3 (ml:=kF F b)).2.1 (TEv.eq (λ U s=>rfl) q))
theorem bl0 {h:Pos}(G:CG Γ F n X ck)(ha:EvT Γ X l (kF F a))(hb:EvT Γ X r (kF F b))(hc:EvT Γ X t (kF F c)):EvT Γ X (.Subscript l (.Slice (some r) (some t) none h) pos) (kF F (.slLU a b c)) :=
 .val ((au0 (by7 G.K) ha.1 (au7 hb.1) (au7 hc.1)).imp λ W H Q q=>bG3.2.2 (TEv.eq (λ U s=>rfl) q))
end
end
section
variable {Γ:Gm} {F:kN} {n:Nat} {X:Cx} {ck:Ck} {W:St} {H:Hp} {Q:VK}
theorem ar9:∀ {es:kX} {U:kD} {s s':kB} {l:List kC} {z:yK} {G:Ck},k6 F es U s=.ok l s'->mEs G es z=true->l.length=z.length
 | .nil,U,s,s',l,z,G,h,m=>by
  cases h
  cases z with
  | nil=>rfl
  | cons _ _=>rw[mEs]at m<;>first|cases m|(intros;simp_all)
 | .cons e es,U,s,s',l,z,G,h,m=>by
  obtain⟨d,s1,e1,h⟩:=aa0 h
  obtain⟨r,s2,e2,h⟩:=aa0 h
  cases h
  cases z with
  | nil=>rw[mEs]at m<;>first|cases m|(intros;simp_all)
  | cons x z =>
   rw[mEs,ak]at m
   rw[aR,aR,ar9 e2 m.2]
theorem aC5:∀ {es:kX} {z:yK},mEs ck es z=true->∀ x∈z,shp x=true
 | .nil,[],_,x,hx=>by cases hx
 | .nil,_::_,m,_,_=>by rw[mEs]at m<;>first|cases m|(intros;simp_all)
 | .cons e es,[],m,x,hx=>by cases hx
 | .cons e es,y::z,m,x,hx=>by
  rw[mEs,ak,ak]at m
  rcases aG.mp hx with h|h
  .rw[h];exact m.1.2
  .exact aC5 m.2 x h
theorem al8:∀ {es:lF} {z:yK},mAs ck es z=true->∀ x∈z,shp x=true
 | .nil,[],_,x,hx=>by cases hx
 | .nil,_::_,m,_,_=>by rw[mAs]at m<;>first|cases m|(intros;simp_all)
 | .ex e es,[],m,x,hx=>by cases hx
 | .fn _ _,_,m,_,_=>by rw[mAs]at m<;>first|cases m|(intros;simp_all)
 | .ex e es,y::z,m,x,hx=>by
  rw[mAs,ak,ak]at m
  rcases aG.mp hx with h|h
  .rw[h];exact m.1.2
  .exact al8 m.2 x h
theorem aJ4 {e:lx}{x:Expr}{h:yK}{z:kD->kB->kG (List kC)}(hs:shp x=true)(G:PE X x (TEv Γ (kF F e)))(J:PA X h (TAv Γ z)) :
  PA X (x::h) (TAv Γ (λ U s=>(kF F e U s).bind λ d s=>(z U s).bind λ l s=>.ok (d::l) s)) :=
 (zx G J (zb hs)).imp λ W H Q q=>bw2 q
theorem aZ0 {k:Nat}(h:k<=1000):k<=aM:=by rw[dF];lia
theorem bz0 {es:kX}{z:yK}{k:Nat}{pos:Pos}(m:mEs ck es z=true)(hz:z.length<=1000)(h:PA X z (TAv Γ (k6 F es))):EvT Γ X (.Tuple z k pos) (kF F (.tup es)) :=
 .val ((bP9 h).imp λ W H Q q=>tv_tup' hz m q)
where
 tv_tup' {es:kX} {z:yK} {W:St} {H:Hp} {Q:VK} (hz:z.length<=1000) (m:mEs ck es z=true) (q:TEv Γ (kF F (.tup es)) W H Q):cg8 (TAv Γ (k6 F es)) W H Q:=by
  obtain⟨C,U,s,d,s',E,R,G,q⟩:=q
  obtain⟨l,s1,e1,G⟩:=aa0 G
  cases G
  refine⟨C,U,s,l,_,E,R,e1,λ vs C1 Z g1 l1 J r1 R1=>⟨by rw[r1.length,ar9 e1 m];exact aZ0 hz,λ p Y=>?_⟩⟩
  exact(q.trans g1 l1).tup R1 r1 J Y
theorem bB4 {es:kX}{z:yK}{pos:Pos}(m:mEs ck es z=true)(hz:z.length<=1000)(h:PA X z (TAv Γ (k6 F es))):EvT Γ X (.List z pos) (kF F (.lst es)):=by
 refine .val ((bt7 h).imp λ W H Q q=>?_)
 obtain⟨C,U,s,d,s',E,R,G,q⟩:=q
 obtain⟨l,s1,e1,G⟩:=aa0 G
 obtain⟨rfl,rfl⟩:=zY G
 refine⟨C,U,s,l,_,E,R,e1,λ vs C1 Z g1 l1 J r1 R1=>⟨by rw[r1.length,ar9 e1 m];exact aZ0 hz,λ p Y=>?_⟩⟩
 exact(q.trans g1 l1).alloc R1 r1 J Y
theorem bl6 {f:String}{z:lF}{Y:yK}{p pos:Pos}(G:CG Γ F n X ck)(hg:ck.gl (f:Str)=true)(m:mAs ck z Y=true)(h:PA X Y (TAv Γ (lj F z))):EvT Γ X (.Call (.Name (f:Str) p) Y [] pos) (kF F (.call f z)):=by
 refine .val ?_
 obtain⟨g1,g2,g3⟩:=G.gl hg
 rcases G.call f with hbad|⟨a,fd,ps,hF,J,hk,hb⟩
 .intro a0 s W H Q I q
  obtain⟨C,U,s,d,s',E,R,Z,q⟩:=q
  obtain⟨l,s1,e1,Z⟩:=aa0 Z
  rw[hbad]at Z
  cases Z
 have key:∀ W H Q,TEv Γ (kF F (.call f z)) W H Q->aN5 (spV Γ (F.call f)) [] E0 (TAv Γ (lj F z)) W H Q:=λ W H Q q=>by
  have:=aC1 (TEv.eq (m':=λ U s=>(lj F z U s).bind λ l s=>F.call f l s) (λ U s=>rfl) q)
  unfold tCB at this
  unfold aN5 spV
  simpa only[aK]using this
 cases Y with
 | nil =>
  have h0:PE X (.Call (.Name (f:Str) p) [] [] pos) (aN5 (spV Γ (F.call f)) [] E0 aQ1):=bo0 hF G.room g1 J hk hb .nil aP1 g2
  cases z with
  | nil =>
   refine h0.imp λ W H Q q=>?_
   have q1:=key W H Q q
   unfold aN5 at q1 ⊢
   exact ar4 (TAv.eq (λ U s=>rfl) q1)
  | _=>rw[mAs]at m<;>first|cases m|(intros;simp_all)
 | cons x Y =>
  have hs:=al8 m
  exact(bv1 hF G.room g1 J hk hb .nil aP1 h g2 (zb (hs x (aB ..))) (zr λ e he=>hs e (ax _ he)).1).imp key
def BiC (Γ:Gm)(X:Cx)(b:lq)(x:Str):Prop:=(∃ id,bc x=some (.builtin id)/\ac0 X (.builtin id) (rCl Γ (lT b)))\/∃ T,bc x=some (.type T)/\ac0 X (.type T) (rCl Γ (lT b))
theorem bS0 (G:CG Γ F n X ck){b:lq}{x:Str}(h:biT b=some x):x∈bNames/\BiC Γ X b x:=by
 cases b<;>first|cases h|skip
 .exact⟨by decide,.inl ⟨_,cf9,bg7 G.K G.calm (k:=1) rfl⟩⟩
 .exact⟨by decide,.inl ⟨_,ca1,bg7 G.K G.calm (k:=1) rfl⟩⟩
 .exact⟨by decide,.inr ⟨_,bJ5,bU9⟩⟩
 .exact⟨by decide,.inr ⟨_,bL2,bO8⟩⟩
 .exact⟨by decide,.inl ⟨_,bW8,bg7 G.K G.calm (k:=2) rfl⟩⟩
 .exact⟨by decide,.inl ⟨_,cb3,bg7 G.K G.calm (k:=2) rfl⟩⟩
theorem bT0 {b:lq}{es:kX}{x:Str}{y:Expr}{z:yK}{p pos:Pos}(G:CG Γ F n X ck)(hb:biT b=some x)(hg:ck.gl x=true)(m:mEs ck es (y::z)=true)(h:PA X (y::z) (TAv Γ (k6 F es))) :
  EvT Γ X (.Call (.Name x p) (y::z) [] pos) (kF F (.bi b es)):=by
 refine .val ?_
 obtain⟨g1,Z,g3⟩:=G.gl hg
 obtain⟨hm,hc⟩:=bS0 G hb
 have hs:=aC5 m
 have s1:=zb (es:=z) (env:=X.env) (hs y (aB ..))
 have s2:=(zr (env:=X.env) (pos:=pos) λ e he=>hs e (ax _ he)).1
 rcases hc with⟨id,J,Y⟩|⟨T,J,Y⟩
 .exact(ak5 Y g1 (G.bi _ hm) J h g3 Z s1 s2).imp λ W H Q q=>aC1 (TEv.eq (λ U s=>rfl) q)
 .exact(af7 Y g1 (G.bi _ hm) J h g3 Z s1 s2).imp λ W H Q q=>aC1 (TEv.eq (λ U s=>rfl) q)
theorem bQ4 {b:lq}{k:Nat}{t:Str}(h:biK b=some (k,t)):(1<=k/\k<=5)/\t∈bNames/\bc t=some (.type (ao8 k))/\lT b=l8 (mn k):=by
 cases b<;>cases h
 .exact⟨by lia,by decide,bJ5,rfl⟩
 .exact⟨by lia,by decide,bO4,rfl⟩
 .exact⟨by lia,by decide,bL2,rfl⟩
 .exact⟨by lia,by decide,bc4,rfl⟩
 .exact⟨by lia,by decide,aZ5,rfl⟩
noncomputable def PEs (Γ:Gm)(F:kN)(X:Cx):kX->List Expr->Prop
 | .nil,[]=>True
 | .cons e es,x::xs=>(shp x=true/\EvT Γ X x (kF F e))/\PEs Γ F X es xs
 | _,_=>False
theorem aq3:∀ {es:kX} {z:yK},PEs Γ F X es z->PA X z (TAv Γ (k6 F es))
 | .nil,[],_=>ad4.imp λ W H Q q=>ar4 (TAv.eq (λ U s=>rfl) q)
 | .nil,_::_,h=>h.elim
 | .cons _ _,[],h=>h.elim
 | .cons e es,x::z,h=>(aJ4 h.1.1 h.1.2.1 (aq3 h.2)).imp λ W H Q q=>TAv.eq (λ U s=>rfl) q
theorem bB1 {b:lq}{es:kX}{k:Nat}{t:Str}{a:Expr}{p Y pos:Pos}(G:CG Γ F n X ck)(hb:biK b=some (k,t))(hg:ck.gl "isinstance"=true)(a0:ck.gl t=true)(h:PEs Γ F X es [a]) :
  EvT Γ X (.Call (.Name "isinstance" p) [a,.Name t Y] [] pos) (kF F (.bi b es)):=by
 refine .val ?_
 obtain⟨g1,g2,g3⟩:=G.gl hg
 obtain⟨t1,t2,t3⟩:=G.gl a0
 obtain⟨hk,z,hv,Z⟩:=bQ4 hb
 have J:PE X (.Name t Y) (tC (.ty (ao8 k))):=bu3 t1 (G.bi _ z) hv rfl t3 t2
 cases es with
 | nil=>exact h.elim
 | cons e es =>
  cases es with
  | cons _ _=>exact h.2.elim
  | nil =>
   obtain⟨⟨hs,ha,_⟩,_⟩:=h
   have hA:PA X [a,.Name t Y] (an1 (TEv Γ (kF F e)) (an1 (tC (.ty (ao8 k))) aQ1)):=zx ha (zx J ad4 (zb rfl)) (zb hs)
   refine(ak5 (bW0 G.K hk) g1 (G.bi _ (by decide)) ay7 hA g3 g2 (zb hs) (zr λ e he=>by rw[aD.mp he];rfl).1).imp λ W H Q q=>?_
   obtain⟨C,U,s,d,s',E,R,z,q⟩:=q
   obtain⟨l,s1,e1,z⟩:=aa0 z
   obtain⟨x,s2,e2,e1⟩:=aa0 e1
   obtain⟨l2,s3,e3,e1⟩:=aa0 e1
   cases e3
   cases e1
   rw[Z]at z
   refine⟨C,U,s,x,_,E,R,e2,λ v C1 H1 g1 l1 b1 r1 R1=>?_⟩
   exact⟨v,rfl,C1,_,[x],d,s',R1,.cons r1 .nil,by unfold kE;rw[b1];rfl,z,q.trans g1 l1⟩
end
section
variable {Γ:Gm} {F:kN} {n:Nat} {X:Cx} {ck:Ck} {W:St} {H:Hp}
def TAp (Γ:Gm)(cells:yB)(N:yH)(m:kD->kB->kG (List kC)):TA:=λ W H Q=>∃ C U s l s',RE Γ C H s.length U W/\Rp Γ C H s/\m U s=.ok l s' /\
 ∀ vs C' H',Gr C s H C' s' H'->s.length<=s'.length->kE s'.length l=true->PVL Γ cells N W C' H' l vs->Rp Γ C' H' s'->Q vs H'
theorem TAp.eq {cells:yB}{N:yH}{m m':kD->kB->kG (List kC)}{Q:List V->Hp->Prop}(e:∀ U s,m U s=m' U s)(q:TAp Γ cells N m W H Q):TAp Γ cells N m' W H Q:=by
 obtain⟨C,U,s,l,s',E,R,h,q⟩:=q
 exact⟨C,U,s,l,s',E,R,by rw[<-e];exact h,q⟩
theorem bz9 {cells:yB}{N:yH}{Q:List V->Hp->Prop}(h:TAp Γ cells N (λ U s=>.ok [] s) W H Q):aQ1 W H Q:=by
 obtain⟨C,U,s,l,s',E,R,z,q⟩:=h
 cases z
 exact q [] C H (Gr.refl _ _ _) (ah _) rfl .nil R
theorem bV7 {cells:yB}{N:yH}{m:kD->kB->kG kC}{F:kD->kB->kG (List kC)}{Q:List V->Hp->Prop}(h:TAp Γ cells N (λ U s=>(m U s).bind λ d s=>(F U s).bind λ l s=>.ok (d::l) s) W H Q):an1 (TEv Γ m) (TAp Γ cells N F) W H Q:=by
 obtain⟨C,U,s,l,s',E,R,z,q⟩:=h
 obtain⟨x,s1,e1,z⟩:=aa0 z
 obtain⟨y,s2,e2,z⟩:=aa0 z
 cases z
 refine⟨C,U,s,x,s1,E,R,e1,λ v C1 H1 g1 l1 G r1 R1=>?_⟩
 refine⟨C1,U,s1,y,s',E.mono g1 l1,R1,e2,λ vs C2 Z J Y b2 r2 R2=>?_⟩
 exact q (v::vs) C2 Z (g1.trans J l1) (aj l1 Y) (by unfold kE;rw[zl Y x G,b2];rfl) (.cons (PVp.mono J G (.inl r1)) r2) R2
end
section
variable {Γ:Gm} {F:kN} {n:Nat} {X:Cx} {ck:Ck} {W:St} {H:Hp} {Q:VK}
def cm3 (K:ae)(H:Hp)(v:V)(ys:List V)(z:Bool):Prop:=(∃ a,v=.ref a/\(SqL K H a ys\/(SqT K H a ys/\(z=true->H a=some (.tup ys)))))\/∃ x:List Nat,v=.str ⟨x.toArray⟩/\x.length<=kJ/\ys=sgV x
def TLv (Γ:Gm)(m:kD->kB->kG (List kC)):TE:=λ W H Q=>∃ C U s l s',RE Γ C H s.length U W/\Rp Γ C H s/\m U s=.ok l s' /\
 ∀ v ys C' H',Gr C s H C' s' H'->s.length<=s'.length->kE s'.length l=true->cm3 Γ.K H' v ys (k9 l)->RVL Γ C' H' l ys->Rp Γ C' H' s'->Q v H'
theorem aH2 {m:kD->kB->kG (List kC)}(h:TLv Γ m W H Q):TFv Γ m W H Q:=by
 obtain⟨C,U,s,l,s',E,R,z,q⟩:=h
 exact⟨C,U,s,l,s',E,R,z,λ p ys C' H' g hl hb F h0 ho r G=>q (.ref p) ys C' H' g hl hb (.inl ⟨p,rfl,.inl (SqL.of F)⟩) r G⟩
theorem av4 {C:Nat->Addr}:∀ x:List Nat,RVL Γ C H (x.map λ c=>.str [c]) (sgV x)
 | []=>.nil
 | c::x=>.cons (RV.strI (by unfold kJ;simp)) (av4 x)
theorem ar1 {k:Nat}:∀ x:List Nat,kE k (x.map λ c=>.str [c])=true
 | []=>rfl
 | c::x=>by rw[aH];unfold kE;rw[ar1 x];rfl
theorem bT6 {m:kD->kB->kG kC}(h:TLv Γ (λ U s=>(m U s).bind λ d s=>DV.bO9 d s) W H Q):TEv Γ m W H Q:=by
 obtain⟨C,U,s,l,s',E,R,z,q⟩:=h
 obtain⟨d,s1,e1,z⟩:=aa0 z
 refine⟨C,U,s,d,s1,E,R,e1,λ v C1 Y g1 l1 Z r1 R1=>?_⟩
 cases d with
 | tup l' =>
  cases z
  obtain⟨a,F,⟨rfl,z1⟩,G,J⟩:=r1.tupZ
  unfold kI at Z
  exact q _ F C1 Y g1 l1 Z (.inl ⟨a,rfl,.inr ⟨G,z1⟩⟩) J R1
 | str x =>
  cases z
  exact q v (sgV x) C1 Y g1 l1 (ar1 x) (.inr ⟨x,r1.strE,r1.strL,rfl⟩) (av4 x) R1
 | ref k =>
  have z:(match s1[k]? with
   | some (.lst l)=>DV.R.ok l s1
   | some (.ro l)=>.ok l s1
   | _=>.bad)=.ok l s':=z
  rw[r1.refE]
  cases e:s1[k]? with
  | none=>rw[e]at z;exact fb z
  | some ob =>
   rw[e]at z
   cases ob with
   | lst l' =>
    cases z
    obtain⟨F,G,J⟩:=R1.addr e
    have:=R1.wf k _ e
    unfold kH at this
    exact q _ F C1 Y g1 l1 this (.inl ⟨_,rfl,.inl (SqL.of G)⟩) J R1
   | ro l' =>
    cases z
    obtain⟨F,G,J⟩:=R1.obj k _ e
    have:=R1.wf k _ e
    unfold kH at this
    exact q _ F C1 Y g1 l1 this (.inl ⟨_,rfl,.inl G.1⟩) J R1
   | _=>exact fb z
 | _=>exact fb z
theorem TLv.eq {m m':kD->kB->kG (List kC)}(e:∀ U s,m U s=m' U s)(q:TLv Γ m W H Q):TLv Γ m' W H Q:=by
 have:m=m':=funext λ U=>funext λ s=>e U s
 subst this;exact q
theorem aR0 {m:kD->kB->kG (List kC)}{a:Expr}{p pos:Pos}(G:CG Γ F n X ck)(hg:ck.gl "tuple"=true)(hs:shp a=true)(h:PE X a (TLv Γ m)) :
  PE X (.Call (.Name "tuple" p) [a] [] pos) (TEv Γ (λ U s=>(m U s).bind λ l s=>lK .tuple l s)):=by
 obtain⟨g1,Z,g3⟩:=G.gl hg
 refine(af7 ((aB7 G.K).or (aE2 G.calm)) g1 (G.bi _ (by decide)) bc4 (zx h ad4 (zb hs)) g3 Z (zb hs) rfl).imp λ W H Q q=>?_
 obtain⟨C,U,s,d,s',E,R,Y,q⟩:=q
 obtain⟨l,s1,e1,Y⟩:=aa0 Y
 cases Y
 refine⟨C,U,s,l,_,E,R,e1,λ v ys C1 H1 g1 l1 z hq r1 R1=>?_⟩
 rcases hq with⟨a,rfl,hq|hq⟩|⟨x,rfl,hx,rfl⟩
 .exact .inl ⟨a,ys,rfl,.inl ⟨hq,λ p J=>(q.trans g1 l1).tup R1 r1 z J⟩⟩
 .exact .inl ⟨a,ys,rfl,.inr ⟨hq.1,q _ C1 H1 g1 l1 (by unfold kI;exact z) (RV.tupC hq.1 hq.2 r1) R1⟩⟩
 .exact .inr ⟨x,rfl,hx,λ p J=>(q.trans g1 l1).tup R1 r1 z J⟩
theorem aY8 {m:kD->kB->kG (List kC)}{a:Expr}{p pos:Pos}(G:CG Γ F n X ck)(hg:ck.gl "list"=true)(hs:shp a=true)(h:PE X a (TLv Γ m)) :
  PE X (.Call (.Name "list" p) [a] [] pos) (TEv Γ (λ U s=>(m U s).bind λ l s=>lK .list l s)):=by
 obtain⟨g1,Z,g3⟩:=G.gl hg
 refine(af7 ((aQ6 G.K).or (aQ0 G.calm)) g1 (G.bi _ (by decide)) aZ5 (zx h ad4 (zb hs)) g3 Z (zb hs) rfl).imp λ W H Q q=>?_
 obtain⟨C,U,s,d,s',E,R,J,q⟩:=q
 obtain⟨l,s1,e1,J⟩:=aa0 J
 obtain⟨rfl,rfl⟩:=zY J
 refine⟨C,U,s,l,_,E,R,e1,λ v ys C1 H1 g1 l1 Y hq r1 R1=>?_⟩
 rcases hq with⟨a,rfl,hq⟩|⟨x,rfl,hx,rfl⟩
 .exact .inl ⟨a,ys,rfl,hq.imp id (·.1),λ p z=>(q.trans g1 l1).alloc R1 r1 Y z⟩
 .exact .inr ⟨x,rfl,hx,λ p z=>(q.trans g1 l1).alloc R1 r1 Y z⟩
theorem bK8 {m:kD->kB->kG (List kC)}{k:lV}{x:Str}{a:Expr}{p pos:Pos}(G:CG Γ F n X ck)(hk:mkT k=some x)(hg:ck.gl x=true)(hs:shp a=true)(h:PE X a (TLv Γ m)) :
  PE X (.Call (.Name x p) [a] [] pos) (TEv Γ (λ U s=>(m U s).bind λ l s=>lK k l s)):=by
 cases k<;>cases hk
 .exact aR0 G hg hs h
 .exact aY8 G hg hs h
def FrC (Γ:Gm)(X:Cx)(x:Str)(k:lV):Prop:=∃ id r,bc x=some (.builtin id)/\x∈bNames/\ac0 X (.builtin id) r/\∀ C H s l ys p d s' Q,Rp Γ C H s->RVL Γ C H l ys->H p=some (.lst ys)->lK k l s=.ok d s'->ad9 Γ C s H d s' Q->r [.ref p] H Q
theorem aK8:∀(l:List Int) (a:Int),(l.foldl min a=a\/l.foldl min a∈l)/\l.foldl min a<=a/\∀ y∈l,l.foldl min a<=y
 | [],a=>⟨.inl rfl,jl _,λ y hy=>by cases hy⟩
 | b::l,a=>by
  obtain⟨F,G,h3⟩:=aK8 l (min a b)
  rw[dB]
  refine⟨?_,by lia,λ y hy=>?_⟩
  .rcases F with h|h
   .rw[h]
    rcases Int.le_total a b with z|z
    .left;lia
    .right;rw[show min a b=b by lia];exact aB ..
   .exact .inr (ax _ h)
  .rcases aG.mp hy with z|z
   .rw[z];lia
   .exact h3 y z
theorem bg3 {l:List Int}{m:Int}(h:mw l=some m):m∈l/\∀ y∈l,m<=y:=by
 cases l with
 | nil=>cases h
 | cons a l =>
  cases h
  obtain⟨F,G,h3⟩:=aK8 l a
  refine⟨?_,λ y hy=>?_⟩
  .rcases F with h|h
   .rw[h];exact aB ..
   .exact ax _ h
  .rcases aG.mp hy with z|z
   .rw[z];exact G
   .exact h3 y z
theorem bz6 (G:CG Γ F n X ck){k:lV}{x:Str}(hk:mkF k=some x):FrC Γ X x k:=by
 cases k<;>cases hk
 .refine⟨_,_,ce0,by decide,aY5 G.calm G.K,λ C H s l ys p d s' Q R r Y h q=>?_⟩
  unfold lK at h
  dsimp only at h
  cases e:lC l with
  | none=>rw[e]at h;exact fb h
  | some bs =>
   rw[e]at h
   cases h
   have:=ag9 e
   subst this
   exact⟨p,bs,rfl,SqL.of (by rw[<-r.bls];exact Y),q.here R rfl RV.blI⟩
 .refine⟨_,_,ca2,by decide,aS9 G.calm G.K,λ C H s l ys p d s' Q R r Y h q=>?_⟩
  unfold lK at h
  dsimp only at h
  cases e:lC l with
  | none=>rw[e]at h;exact fb h
  | some bs =>
   rw[e]at h
   cases h
   have:=ag9 e
   subst this
   exact⟨p,bs,rfl,SqL.of (by rw[<-r.bls];exact Y),q.here R rfl RV.blI⟩
 .refine⟨_,_,bW8,by decide,aW0 G.calm G.K,λ C H s l ys p d s' Q R r Y h q=>?_⟩
  unfold lK at h
  dsimp only at h
  cases e:lr l with
  | none=>rw[e]at h;exact fb h
  | some is =>
   rw[e]at h
   have h:(match mw is with|some m=>DV.R.ok (DV.D.int m) s|none=>.bad)=.ok d s':=h
   cases e2:mw is with
   | none=>rw[e2]at h;exact fb h
   | some mm =>
    rw[e2]at h
    cases h
    have:=qg e
    subst this
    refine⟨p,is,rfl,SqL.of (by rw[<-r.ints];exact Y),(λ(z:is=[])=>by rw[z]at e2;cases e2),λ m h J=>?_⟩
    obtain⟨a,b⟩:=bg3 e2
    have:m=mm:=Int.le_antisymm (J mm a) (b m h)
    rw[this]
    exact q.here R rfl RV.intI
theorem bT9 {m:kD->kB->kG (List kC)}{k:lV}{x:Str}{a:Expr}{p pos:Pos}(G:CG Γ F n X ck)(hk:mkF k=some x)(hg:ck.gl x=true)(hs:shp a=true)(h:PE X a (TFv Γ m)) :
  PE X (.Call (.Name x p) [a] [] pos) (TEv Γ (λ U s=>(m U s).bind λ l s=>lK k l s)):=by
 obtain⟨g1,J,Y⟩:=G.gl hg
 obtain⟨id,r,hb,hx,hc,hr⟩:=bz6 (Γ:=Γ) G hk
 refine(ak5 hc g1 (G.bi _ hx) hb (zx h ad4 (zb hs)) Y J (zb hs) rfl).imp λ W H Q q=>?_
 obtain⟨C,U,s,d,s',E,R,z,q⟩:=q
 obtain⟨l,s1,e1,z⟩:=aa0 z
 exact⟨C,U,s,l,_,E,R,e1,λ p ys C1 Z g1 l1 b1 hp h0 ho r1 R1=>hr C1 Z s1 l ys p d s' Q R1 r1 hp z (q.trans g1 l1)⟩
theorem bk6 {x:kC}{s s':kB}{l:List kC}(h:my x s=.ok l s'):s'=s/\∃ r,x=.ref r/\s[r]?=some (.lst l):=by
 unfold my at h
 split at h
 .rename_i r
  split at h
  .rename_i z e;cases h;exact⟨rfl,r,rfl,e⟩
  .exact fb h
 .exact fb h
theorem bp0 {C C':Nat->Addr}{s s':kB}{H':Hp}{r:Nat}{l:List kC}(R:Rp Γ C H s)(g:Gr C s H C' s' H')(hb:r<s.length)(e:s'[r]?=some (.lst l)):tyV Γ.K "list" (.ref (C r)) H:=by
 obtain⟨h,z⟩:∃ h,s[r]?=some h:=⟨s[r],af hb⟩
 have J:=g.mu r h _ z e rfl
 have ho:=R.obj r h z
 cases h with
 | lst l0 =>
  obtain⟨G,F,_⟩:=ho
  exact .inl ⟨rfl,G,SqL.of F⟩
 | ro _=>cases J
 | _=>have:=g.kd r _ _ z e;cases this
def mtR (Γ:Gm)(m:lW):V->List V->Hp->VK->Prop:=λ x vs H Q=>∃ C s a l d s',Rp Γ C H s/\RV Γ C H a x/\RVL Γ C H l vs/\a.bnd s.length=true/\kE s.length l=true/\lQ m a l s=.ok d s'/\ad9 Γ C s H d s' Q
theorem bM5:kJ<aM:=by rw[dF];decide
theorem as2 {m:lW}{x:Str}{k:Nat}(F:mtT m=some (x,k)){a:kC}{l:List kC}{s s':kB}{d:kC}(h:lQ m a l s=.ok d s'):∃ r l0,a=.ref r/\s[r]?=some (.lst l0):=by
 have go:∀ {r:Nat} {f:List kC->kG kC},(match s[r]? with|some (.lst l)=>f l|_=>.bad)=.ok d s'->∃ l0,s[r]?=some (.lst l0):=λ {r f} h=>by
  cases e:s[r]? with
  | none=>rw[e]at h;exact fb h
  | some ob =>
   cases ob with
   | lst l0=>exact⟨l0,rfl⟩
   | _=>rw[e]at h;exact fb h
 cases a with
 | ref r =>
  have z:∀ {f:List kC->kG kC},(match s[r]? with|some (.lst l)=>f l|_=>.bad)=.ok d s'->∃ r' l0,DV.D.ref r=.ref r'/\s[r']?=some (.lst l0):=λ h=>by obtain⟨l0,e⟩:=go h;exact⟨_,l0,rfl,e⟩
  cases m with
  | append=>match l with
   | [d]=>exact z h
   | []=>exact fb h
   | _::_::_=>exact fb h
  | reverse=>match l with
   | []=>exact z h
   | _::_=>exact fb h
  | _=>exact fb h
 | _=>cases m<;>exact fb h
theorem bg2:MtR X "list.append" (mtR Γ .append):=by
 intro G sh W H x vs v us Q I rx rv h
 obtain⟨C,s,a,l,d,s',R,ra,rl,ba,bl,F,q⟩:=h
 obtain⟨r,l0,rfl,e⟩:=as2 (m:=.append) rfl F
 cases l with
 | nil=>exact fb F
 | cons y t =>
  cases t with
  | cons _ _=>exact fb F
  | nil =>
   simp only[lQ,e]at F
   split at F
   case isFalse=>exact fb F
   rename_i hlt
   cases F
   obtain⟨z,rfl,Z⟩:=rl.one
   obtain⟨xs,h1,Y⟩:=R.addr e
   have J:kE s.length l0=true:=by have:=R.wf r _ e;unfold kH at this;exact this
   refine av9 G sh W H x [z] v us Q I rx rv ⟨C r,xs,z,ra.refE,rfl,h1,by rw[Y.length];have:=bM5;lia,?_⟩
   exact q.put R e (Y.append (.cons Z .nil)) (zV J bl) rfl RV.nonI
theorem bc0:MtR X "list.reverse" (mtR Γ .reverse):=by
 intro z sh W H x vs v us Q I rx Z h
 obtain⟨C,s,a,l,d,s',R,ra,J,ba,bl,F,q⟩:=h
 obtain⟨r,l0,rfl,e⟩:=as2 (m:=.reverse) rfl F
 cases l with
 | cons _ _=>exact fb F
 | nil =>
  simp only[lQ,e]at F
  cases F
  have hv:=J.unnil
  subst hv
  obtain⟨Y,h1,h2⟩:=R.addr e
  have G:kE s.length l0=true:=by have:=R.wf r _ e;unfold kH at this;exact this
  refine aN1 z sh W H x [] v us Q I rx Z ⟨C r,Y,ra.refE,rfl,h1,?_⟩
  exact q.put R e h2.reverse (at5 G λ d hd=>List.mem_reverse.mp hd) rfl RV.nonI
structure MtOk (Γ:Gm)(X:Cx)(m:lW)(x:Str):Prop where
 ex:∃ id,PySem.Slot "list" x id/\typeOf (.builtin id)=pure (.type "method_descriptor")/\MtR X id (mtR Γ m)
theorem bM4 (G:X.K=Γ.K)(z:Room (kO+1) X.A){m:lW}{x:Str}{k:Nat}(h:mtT m=some (x,k)):MtOk Γ X m x:=by
 cases m<;>cases h
 .exact⟨_,gr,PySem.F.type_list_append,bg2⟩
 .exact⟨_,f9,PySem.F.type_list_reverse,bc0⟩
theorem bi2 {m:lW}{o:lx}{es:kX}{ob:Expr}{J:yK}{x:Str}{ap cp:Pos}(G:CG Γ F n X ck)(hm:mtT m=some (x,J.length))(hab:aV5 ob=true)(hl:(ap.endLine==cp.line)=true)(ho:PE X ob (TEv Γ (kF F o)))
  (a2:mEs ck es J=true) (h:PEs Γ F X es J):EvT Γ X (.Call (.Attribute ob x ap) J [] cp) (kF F (.meth m o es)):=by
 refine .val ?_
 obtain⟨id,slot,a1,hr⟩:=(bM4 (Γ:=Γ) (X:=X) G.K (G.room.mono G.deep) hm).ex
 have hs:=aC5 a2
 have key:∀ W H Q,TEv Γ (kF F (.meth m o es)) W H Q->tBM Γ.K "list" (mtR Γ m) (TEv Γ (kF F o)) (TAv Γ (k6 F es)) W H Q:=λ W H Q q=>by
  obtain⟨C,U,s,d,s',E,R,z,q⟩:=q
  obtain⟨a,s1,e1,z⟩:=aa0 z
  obtain⟨l,s2,e2,z⟩:=aa0 z
  refine⟨C,U,s,a,s1,E,R,e1,λ v C1 H1 g1 l1 Y r1 R1=>?_⟩
  obtain⟨r,l0,rfl,er⟩:=as2 hm z
  rw[r1.refE]
  have hk:∀ C2 H2,Gr C1 s1 H1 C2 s2 H2->tyV Γ.K "list" (.ref (C1 r)) H1:=λ C2 H2 g2=>bp0 R1 g2 (by unfold kI at Y;exact of_decide_eq_true Y) er
  have Z:TAv Γ (k6 F es) W H1 λ J H2=>mtR Γ m (.ref (C1 r)) J H2 Q:=by
   refine⟨C1,U,s1,l,s2,E.mono g1 l1,R1,e2,λ vs C2 H2 g2 l2 b2 r2 R2=>?_⟩
   refine⟨C2,s2,.ref r,l,d,s',R2,?_,r2,zl l2 _ Y,b2,z,q.trans (g1.trans g2 l1) (aj l1 l2)⟩
   have:=RV.mono g2 _ _ Y r1
   rw[r1.refE]at this
   exact this
  refine⟨?_,Z⟩
  have hlt:r<s1.length:=by unfold kI at Y;exact of_decide_eq_true Y
  obtain⟨o0,e0⟩:∃ o0,s1[r]?=some o0:=⟨s1[r],af hlt⟩
  have a0:=R1.obj r o0 e0
  cases o0 with
  | lst l0 =>
   obtain⟨J,h1,_⟩:=a0
   exact .inl ⟨rfl,J,SqL.of h1⟩
  | ro l0 =>
   obtain⟨J,h1,_⟩:=a0
   exact .inl ⟨rfl,J,h1.1⟩
  | _ =>
   obtain⟨o',eo,ek⟩:=DV.an0 G.fk es U s1 _ _ e2 r _ e0
   rw[er]at eo;cases eo;cases ek
 cases J with
 | nil =>
  have p0:PE X (.Call (.Attribute ob x ap) [] [] cp) (cj3 X.K "list" (mtR Γ m) (TEv Γ (kF F o))):=bs7 fK slot a1 hr ho (qF hab) hl
  rw[G.K]at p0
  refine p0.imp λ W H Q q=>?_
  cases es with
  | cons _ _=>exact h.elim
  | nil =>
   obtain⟨C,U,s,d,s',E,R,z,k⟩:=key W H Q q
   refine⟨C,U,s,d,s',E,R,z,λ v C1 H1 g1 l1 Y r1 R1=>?_⟩
   obtain⟨h1,h2⟩:=k v C1 H1 g1 l1 Y r1 R1
   exact⟨h1,ar4 (TAv.eq (λ U s=>rfl) h2)⟩
 | cons y ys =>
  refine(bq7 G.K fK slot a1 hr ho (aq3 h) (qF hab) ?_ hl (zb (hs y (aB ..))) (zr λ e he=>hs e (ax _ he)).1).imp key
  rw[(zr hs).2]
  have:(y::ys).length<=1:=by
   unfold mtT at hm
   split at hm<;>first|(have:=aw hm;have:=congrArg Prod.snd this;simp at this;simp;omega)|cases hm
  simp only[dz,eL,dW]
  show(true&&decide ((y::ys).length+0+0<30))=true
  rw[dz]
  exact decide_eq_true (by lia)
end
noncomputable abbrev mkS (x:List Nat):Str:=⟨x.toArray⟩
theorem bb0 (h:List Nat):∀ z:List (List Nat),Str.join (mkS h) (z.map mkS)=mkS (kP h z)
 | []=>rfl
 | [x]=>rfl
 | x::y::r=>by
  show mkS x++mkS h++Str.join (mkS h) ((y::r).map mkS)=mkS (x++(h++kP h (y::r)))
  rw[bb0 h (y::r),au4,au4,aQ]
theorem bt5 (h:List Nat):∀ z:List (List Nat),((z.map mkS).map (·.length)).sum+(z.map mkS).length*(mkS h).length=(z.map λ w=>w.length+h.length).sum
 | []=>by simp
 | x::r=>by
  have G:=bt5 h r
  have F:(mkS x).length=x.length:=by simp[iA]
  have J:(mkS h).length=h.length:=by simp[iA]
  simp only[aH,ig,aR,kc,F,J]at G ⊢
  lia
theorem am6 (h:List Nat):∀ z:List (List Nat),(kP h z).length<=(z.map λ w=>w.length+h.length).sum
 | []=>bS _
 | [x]=>by simp[kP]
 | x::y::r=>by
  have:=am6 h (y::r)
  show(x++(h++kP h (y::r))).length<=_
  rw[am,am,aH,ig]
  lia
theorem ay9:∀ h:List (List Nat),kP [] h=h.flatten
 | []=>rfl
 | [x]=>by simp[kP]
 | x::y::r=>by
  show x++([]++kP [] (y::r))=_
  rw[ay9 (y::r),dC];simp
theorem bh0 {X:Cx}:MtR X "str.join" (λ x vs H Q=>∃(a:Addr) (z:List Nat) (G:List (List Nat)),x=bG0 z/\vs=[.ref a]/\H a=some (.lst (G.map bG0))/\(G.map λ w=>w.length+z.length).sum<=aM/\Q (bG0 (kP z G)) H):=by
 intro a0 s W H x vs v us Q I rx rv h
 obtain⟨a,z,G,rfl,rfl,hH,hz,q⟩:=h
 obtain⟨t,rfl⟩:=(show ∃ t,v=Value.str (mkS z) t from rx)
 obtain⟨u,rfl,ru⟩:=rv.one
 cases ru
 obtain⟨_,its,n,r,hl,e⟩:=I.lstM hH
 obtain⟨l,rfl,Z⟩:=av5 r
 replace Z:l.map (·.1)=G.map mkS:=Z
 have J:dX ((l.map (·.1)).toArray.foldl (·+·.length+(mkS z).length) 0)=false:=by
  rw[Z,StrLaws.joinTotal,bt5]
  unfold dX
  exact decide_eq_false (by lia)
 refine e9 gz (iB s _ t) PySem.F.entry_str_join (PySem.F.args_str_join_2 _ _) (meets_str_join_list (mkS z) t a l J) ⟨⟨_,e,rfl,n,rfl⟩,?_⟩
 have Y:Builtin.Str.glued (mkS z) (G.map mkS)=mkS (kP z G):=by rw[StrLaws.glued_eq_join,bb0]
 unfold joinMade
 split
 .rename_i p
  have e1:[p.1]=G.map mkS:=Z
  have:p.1=mkS (kP z G):=by
   cases G with
   | nil=>cases e1
   | cons y G =>
    cases G with
    | nil=>rw[aH,cR]at e1;rw[List.head_eq_of_cons_eq e1];rfl
    | cons _ _=>rw[aH,aH]at e1;cases List.tail_eq_of_cons_eq e1
  show EP X a0 W Q (.str p.1 p.2) s
  rw[this]
  exact⟨bG0 (kP z G),H,I,⟨_,rfl⟩,q⟩
 .rw[Z,Y]
  refine⟨?_,bG0 (kP z G),H,I.tok _,⟨_,rfl⟩,q⟩
  show(kP z G).toArray.size<=_
  have:=am6 z G
  simp only[av]
  lia
theorem split_at {c:Nat}{l:List Nat}:∀ {p:List Nat},c ∉ p->mz c (p++c::l)=p::mz c l
 | [],_=>by show(if c=c then _ else _)=_;rw[if_pos rfl]
 | x::p,h=>by
  have F:x≠c:=λ z=>h (by rw[z];exact aB ..)
  rw[dm]
  show(if x=c then _ else(match mz c (p++c::l)with|p::ps=>(x::p)::ps|[]=>[[x]]))=_
  rw[if_neg F,split_at (λ z=>h (ax _ z))]
section
variable {Γ:Gm} {F:kN} {n:Nat} {X:Cx} {ck:Ck} {W:St} {H:Hp} {Q:VK}
theorem aT5 {C:Nat->Addr}{H:Hp}:∀ {l:List kC} {G:List (List Nat)} {F:List V},ln l=some G->RVL Γ C H l F->F=G.map bG0
 | [],G,F,h,r=>by cases h;exact r.unnil
 | d::l,G,F,h,r=>by
  obtain⟨w,ws,rfl,r1,J⟩:=r.uncons
  cases d with
  | str z =>
   unfold ln at h
   cases e:ln l with
   | none=>rw[e]at h;cases h
   | some ss' =>
    rw[e]at h
    cases h
    rw[aH,<-aT5 e J,r1.strE];rfl
  | _=>cases h
theorem by5 {o:lx}{m:kD->kB->kG kC}{ob a:Expr}{ap cp:Pos}(G:CG Γ F n X ck)(hab:aV5 ob=true)(hl:(ap.endLine==cp.line)=true)(ho:PE X ob (TEv Γ (kF F o)))(hs:shp a=true)(h:PE X a (TEv Γ m)) :
  PE X (.Call (.Attribute ob "join" ap) [a] [] cp) (TEv Γ (λ U s=>(kF F o U s).bind λ x s=>(m U s).bind λ q s=>DV.aA0 x q s)):=by
 refine(bq7 G.K PySem.F.plainAttrs_str gz PySem.F.type_str_join bh0 ho (zx h ad4 (zb hs)) (qF hab) ?_ hl (zb hs) rfl).imp λ W H Q q=>?_
 .rw[(zr (es:=[a]) λ e he=>by rw[aD.mp he];exact hs).2];rfl
 .obtain⟨C,U,s,d,s',E,R,z,q⟩:=q
  obtain⟨x,s1,e1,z⟩:=aa0 z
  obtain⟨y,s2,e2,z⟩:=aa0 z
  obtain⟨J,r,l,Y,rfl,rfl,er,es,hlim,rfl,rfl⟩:∃ J r l Y,x=.str J/\y=.ref r/\s2[r]?=some (.lst l)/\ln l=some Y/\(Y.map λ w=>w.length+J.length).sum<=kJ/\d=.str (kP J Y)/\s'=s2:=by
   unfold DV.aA0 at z
   split at z
   .split at z
    .split at z
     .split at z
      .split at z
       .rename_i Y _ hz
        cases z
        have hf:(Y.map λ w=>w.length+([]:List Nat).length).sum=Y.flatten.length:=by
         rw[hJ]
         simp
        exact⟨_,_,_,Y,rfl,rfl,by assumption,by assumption,by rw[hf];exact hz,by rw[ay9],rfl⟩
       .exact fb z
      .exact fb z
     .exact fb z
    .exact fb z
   .split at z
    .split at z
     .split at z
      .split at z
       .cases z;exact⟨_,_,_,_,rfl,rfl,by assumption,by assumption,by assumption,rfl,rfl⟩
       .exact fb z
      .exact fb z
     .exact fb z
    .exact fb z
   .exact fb z
  refine⟨C,U,s,_,s1,E,R,e1,λ v C1 H1 g1 l1 b1 r1 R1=>?_⟩
  have ev:=r1.strE
  subst ev
  refine⟨rfl,C1,U,s1,_,s',E.mono g1 l1,R1,e2,λ v C2 H2 g2 l2 b2 r2 R2=>?_⟩
  have ew:=r2.refE
  subst ew
  obtain⟨xs,Z,h2⟩:=R2.addr er
  rw[aT5 es h2]at Z
  exact⟨C2 r,J,Y,rfl,rfl,Z,aj hlim zG,(q.trans (g1.trans g2 l1) (aj l1 l2)).here R2 rfl (RV.strI (aj (am6 J Y) hlim))⟩
theorem PIf.imp {e:yK}{t t':TT}(h:PIf X e t)(i:∀ W H Q,t' W H Q->t W H Q):PIf X e t':=λ z s W H Q I q=>h z s W H Q I (i W H Q q)
structure CompF (Γ:Gm)(X:Cx)(m:kD->kB->kG (List kC))(E:Expr):Prop where
 ex:∃ elt tgt iter ifs scope pos N' caps wi g tc te,E=.ListComp elt [⟨tgt,iter,ifs,0⟩] scope pos/\zN N' caps scope X.N X.env.scope=true/\PI X tgt iter wi /\
  (∀(Cc:Addr) (cells:yB) (s:ag) (H:Hp) (ex:List Addr),PG (zy X N' scope Cc cells s H ex) tgt g/\PIf (zy X N' scope Cc cells s H ex) ifs tc/\PE (zy X N' scope Cc cells s H ex) elt te) /\
  (∀ x,c8 iter X.env x=pure x)/\∀ W H Q,TFv Γ m W H Q->tComp caps wi g tc te W H Q
theorem CompF.pe {m:kD->kB->kG (List kC)}{E:Expr}(h:CompF Γ X m E)(hc:X.calm=true):PE X E (TFv Γ m):=by
 obtain⟨Z,F,iter,a0,scope,pos,Y,z,wi,g,tc,te,rfl,J,h2,h3,h4,G⟩:=h.ex
 exact(bc3 Y z J h2 hc h3 h4).imp G
theorem bC7 {tg:lh}{mI:kD->kB->kG lE}{mc Y:kD->kB->kG kC}{h:yD}{J z iter i:Expr}{scope:Scope}{pos:Pos}(G:CG Γ F n X ck)(hm:aO3 ck tg z iter h scope=true)
  (hi:PI X z iter (TIv Γ mI)) (hc:∀ Cc cells s H ex,PT (zy X (ckC ck z h scope).N scope Cc cells s H ex) i (TTv Γ mc)) (he:∀ Cc cells s H ex,PE (zy X (ckC ck z h scope).N scope Cc cells s H ex) J (TEv Γ Y)) :
  CompF Γ X (λ U s=>(mI U s).bind λ q s0=>if q.its.length<=kJ then lU (λ s=>lf s0 s q.src) (λ d U s=>match k7 U tg d with
   | some U=>kM (mc U s) λ k s=>if k then(Y U s).bind λ v s=>.ok (some v,U) s else .ok (none,U) s
   | none=>.bad) q.its (lL U h) s0 else .bad) (.ListComp J [⟨z,iter,[i],0⟩] scope pos):=by
 obtain⟨Z,c2,c3⟩:=G.comp hm
 exact⟨J,z,iter,[i],scope,pos,_,h,_,_,_,_,rfl,Z,hi,λ Cc cells s H ex=>⟨(c3 Cc cells s H ex).2,bw1 (hc Cc cells s H ex),he Cc cells s H ex⟩,ar7 c2,λ W H Q q=>ba5 q⟩
theorem bo6 {tg:lh}{mI:kD->kB->kG lE}{Z:kD->kB->kG kC}{h:yD}{J z iter:Expr}{scope:Scope}{pos:Pos}(G:CG Γ F n X ck)(Y:aO3 ck tg z iter h scope=true)
  (hi:PI X z iter (TIv Γ mI)) (he:∀ Cc cells s H ex,PE (zy X (ckC ck z h scope).N scope Cc cells s H ex) J (TEv Γ Z)) :
  CompF Γ X (λ U s=>(mI U s).bind λ q s0=>if q.its.length<=kJ then lU (λ s=>lf s0 s q.src) (λ d U s=>match k7 U tg d with
   | some U=>(Z U s).bind λ v s=>.ok (some v,U) s
   | none=>.bad) q.its (lL U h) s0 else .bad) (.ListComp J [⟨z,iter,[],0⟩] scope pos):=by
 obtain⟨c1,c2,c3⟩:=G.comp Y
 refine⟨J,z,iter,[],scope,pos,_,h,_,_,TTv Γ (λ U s=>.ok (.bl true) s),_,rfl,c1,hi,λ Cc cells s H ex=>⟨(c3 Cc cells s H ex).2,bA7.imp λ W H Q q=>?_,he Cc cells s H ex⟩,ar7 c2,λ W H Q q=>ba5 (TFv.eq (λ U s=>?_) q)⟩
 .obtain⟨C,U,s,b,s',E,R,Y,q⟩:=q
  cases Y
  exact q C H (Gr.refl _ _ _) (ah _) R
 .congr 1
theorem bu4 {tg:Expr}{e:lx}{E:Expr}(G:CG Γ F n X ck)(h:PE X E (TEv Γ (kF F e))):PI X tg E (TIv Γ (lR F (.seq e))):=by
 refine(PI.or (bC9 G.K h) (PI.or (bj0 G.K h) (bQ8 h))).imp λ W H R q=>bR4 (TIv.eq (λ U s=>rfl) q)
theorem bn0 {tg:Expr}{a:lx}{l:Expr}{p pos:Pos}(G:CG Γ F n X ck)(hg:ck.gl "range"=true)(hs:shp l=true)(h:PE X l (TEv Γ (kF F a))):PI X tg (.Call (.Name "range" p) [l] [] pos) (TIv Γ (lR F (.rng1 a))) :=
 (aW7 (G.gl hg).1 (G.bi _ (by decide)) (zx h ad4 (zb hs)) (zb hs)).imp λ W H R q=>bF1 (TIv.eq (λ U s=>rfl) q)
theorem bo1 {tg:Expr}{a b:lx}{l r:Expr}{p pos:Pos}(G:CG Γ F n X ck)(hg:ck.gl "range"=true)(hs:shp l=true)(z:shp r=true)(h:PE X l (TEv Γ (kF F a)))(J:PE X r (TEv Γ (kF F b))):PI X tg (.Call (.Name "range" p) [l,r] [] pos) (TIv Γ (lR F (.rng2 a b))) :=
 (aX3 (G.gl hg).1 (G.bi _ (by decide)) (zx h (zx J ad4 (zb z)) (zb hs)) (by rw[zb hs,zb z];rfl) (zb z)).imp λ W H R q=>bA8 (TIv.eq (λ U s=>rfl) q)
theorem be7 {tg:Expr}{a:lx}{l:Expr}{p pos cp J z Z:Pos}{ck0 Y:Nat}(G:CG Γ F n X ck)(hg:ck.gl "range"=true)(hs:shp l=true)(h:PE X l (TEv Γ (kF F a))):PI X tg (.Call (.Name "range" p) [l,.UnaryOp .USub (.Constant (.int 1) ck0 cp) J,.UnaryOp .USub (.Constant (.int 1) Y z) Z] [] pos) (TIv Γ (lR F (.rngD a))) :=
 (aV7 (G.gl hg).1 (G.bi _ (by decide)) (zx h (zx ay0 (zx ay0 ad4 rfl) rfl) (zb hs)) (zb hs) rfl).imp λ W H R q=>bx3 (TIv.eq (λ U s=>rfl) q)
theorem bQ6 (h:TEv Γ (λ U s=>lz (.dic []) s) W H Q):bt9 W H Q:=by
 obtain⟨C,U,s,d,s',E,R,z,q⟩:=h
 obtain⟨rfl,rfl⟩:=zY z
 intro p F
 obtain⟨g,G⟩:=R.new (o:=.dic []) (u:=.dK []) F rfl λ C' H' g e=>⟨[],e,rfl⟩
 exact q (.ref p) _ _ g (by simp) (by unfold kI;simp) (by unfold RV;simp) G
theorem bN7 {mk mv:kD->kB->kG kC}(h:TEv Γ (λ U s=>(mk U (s++[.dic []])).bind λ kd s1=>(mv U s1).bind λ G s2=>if kd.key=true/\s2[s.length]?=some (.dic [])then .ok (.ref s.length) (s2.set s.length (.dic [(kd,G)]))else .bad) W H Q):bN3 [(TEv Γ mk,TEv Γ mv)] W H Q:=by
 obtain⟨C,U,s,d,s',E,R,F,q⟩:=h
 obtain⟨kd,s1,e1,F⟩:=aa0 F
 obtain⟨G,s2,e2,F⟩:=aa0 F
 split at F
 case isFalse=>exact fb F
 rename_i hc
 cases F
 intro p hp
 obtain⟨g0,R0⟩:=R.new (o:=.dic []) (u:=.dK []) hp rfl λ C' H' g e=>⟨[],e,rfl⟩
 have l0:s.length<=(s++[DV.O.dic []]).length:=by simp
 refine⟨_,U,s++[DV.O.dic []],kd,s1,E.mono g0 l0,R0,e1,λ v1 C1 H1 g1 l1 b1 r1 R1=>?_⟩
 refine⟨C1,U,s1,G,s2,(E.mono g0 l0).mono g1 l1,R1,e2,λ Z C2 H2 J Y b2 r2 R2=>?_⟩
 have z:C2 s.length=p:=by
  rw[J.w.map s.length (aA (by simp) l1),g1.w.map s.length (by simp)];simp
 obtain⟨k,hk⟩:=ah5 hc.1
 have ek:=aA1 hk (RV.mono J kd v1 b1 r1)
 obtain⟨kvs,z1,z2⟩:=R2.obj s.length _ hc.2
 have z2:kvs=[]:=z2
 subst z2
 rw[z]at z1
 refine⟨z1,[(k,Z)],by rw[ek];rfl,by simp,?_⟩
 have hb:(DV.O.dic [(kd,G)]).bnd s2.length=true:=by
  unfold kH
  simp only[aH,cR,kE,fG,ak]
  exact⟨zl Y _ b1,b2⟩
 obtain⟨g3,R3⟩:=R2.set (o:=.dic [(kd,G)]) (u:=.dK [(k,Z)]) hc.2 rfl hb λ H' g e=>⟨_,e,k,Z,[],rfl,hk,RV.monoW g _ _ b2 r2,rfl⟩
 rw[z]at g3 R3
 have L:s.length<=s2.length:=aj l0 (aj l1 Y)
 have lt:s.length<s2.length:=aA (by simp) (aj l1 Y)
 exact q (.ref p) _ _ (((g0.trans g1 l0).trans J (aj l0 l1)).trans g3 L) (by rw[aS];exact L) (by unfold kI;rw[aS];exact decide_eq_true lt) (by unfold RV;rw[z]) R3
theorem aT0 {x y d:kC}{s s':kB}(h:DV.ap0 x y s=.ok d s'):∃ r l,x=.ref r/\s[r]?=some (.dic l)/\y.key=true/\d=(kR y l).getD .non/\s'=s:=by
 unfold DV.ap0 at h
 split at h
 .split at h
  .split at h
   .cases h;exact⟨_,_,rfl,by assumption,by assumption,rfl,rfl⟩
   .exact fb h
  .exact fb h
 .exact fb h
theorem dic_kd2 {o:kY}(h:o.kd=2):(∃ l,o=.dic l)\/∃ l,o=.dicF l:=by
 cases o with
 | dic l=>exact .inl ⟨l,rfl⟩
 | dicF l=>exact .inr ⟨l,rfl⟩
 | _=>cases h
theorem bn6 {o k:lx}{ob a:Expr}{ap cp:Pos}(G:CG Γ F n X ck)(hab:aV5 ob=true)(hl:(ap.endLine==cp.line)=true)(s1:shp a=true)(ho:PE X ob (TEv Γ (kF F o)))(hk:PE X a (TEv Γ (kF F k))) :
  EvT Γ X (.Call (.Attribute ob "get" ap) [a] [] cp) (kF F (.get1 o k)):=by
 have a0:∀ x∈[a],shp x=true:=λ x hx=>by rw[aD.mp hx];exact s1
 refine .val ((bf7 (ax2 G.room) ho hk ⟨qF hab,by rw[(zr a0).2];rfl,hl,by rw[zb s1];rfl⟩).imp λ W H Q q=>?_)
 obtain⟨C,U,s,d,s',E,R,hm,q⟩:=q
 obtain⟨x,z,e1,J⟩:=aa0 hm
 obtain⟨y,t2,e2,Z⟩:=aa0 J
 clear hm J
 obtain⟨r,l,rfl,er,hy,rfl,rfl⟩:=aT0 Z
 refine⟨C,U,s,_,z,E,R,e1,λ v1 C1 H1 g1 l1 b1 r1 R1=>?_⟩
 have hlt:r<z.length:=by unfold kI at b1;exact of_decide_eq_true b1
 obtain⟨o1,f1⟩:∃ o1,z[r]?=some o1:=⟨z[r],af hlt⟩
 obtain⟨o2,f2,k2⟩:=DV.zg G.fk k U z _ _ e2 r _ f1
 rw[er]at f2;cases f2
 have a3:IsD H1 (C1 r):=by
  rcases dic_kd2 k2.symm with⟨l0,rfl⟩|⟨l0,rfl⟩
  .obtain⟨h,a1,_⟩:=R1.obj r _ f1
   exact .inl ⟨h,.inl a1⟩
  .obtain⟨o0,h,a1,_⟩:=R1.obj r _ f1
   exact .inl ⟨h,.inr ⟨o0,a1⟩⟩
 refine⟨C1 r,r1.refE,a3,C1,U,z,y,_,E.mono g1 l1,R1,e2,λ v2 C2 H2 g2 l2 b2 r2 R2=>?_⟩
 obtain⟨kk,Y⟩:=ah5 hy
 have ey:=aA1 Y r2
 subst ey
 obtain⟨kvs,c1,c2⟩:=R2.obj r _ er
 have a2:C2 r=C1 r:=g2.w.map r hlt
 rw[a2]at c1
 refine⟨aL8 kvs kk,aR5.k c1,?_⟩
 have hq:=q.trans (g1.trans g2 l1) (aj l1 l2)
 rcases c2.val keyOf_inj Y with⟨q1,q2⟩|⟨e',v',q1,q2,q3,q4⟩
 .rw[q1]at hq;rw[q2];exact hq.here R2 rfl RV.nonI
 .rw[q1]at hq;rw[q2]
  have wf:=R2.wf _ _ er
  unfold kH at wf
  rw[ak]at wf
  exact hq.here R2 (aa6.mp wf.2 _ q4) q3
section
variable {c:String} {kvs:List (List Nat×List Nat)} {a:Addr}
end
theorem ev_bitl' {o:lx}{ob:Expr}{ap cp:Pos}(G:CG Γ F n X ck)(hab:aV5 ob=true)(hl:(ap.endLine==cp.line)=true)(ho:PE X ob (TEv Γ (kF F o))) :
  EvT Γ X (.Call (.Attribute ob "bit_length" ap) [] [] cp) (kF F (.bitl o)):=by
 refine .val ((bs7 PySem.F.plainAttrs_int eU PySem.F.type_int_bit_length bE9 ho (qF hab) hl).imp λ W H Q q=>?_)
 obtain⟨C,U,s,d,s',E,R,Y,q⟩:=q
 obtain⟨x,J,e1,z⟩:=aa0 Y
 unfold DV.aO0 at z
 refine⟨C,U,s,_,J,E,R,e1,λ v1 C1 H1 g1 l1 Z r1 R1=>?_⟩
 cases x with
 | int i =>
  cases z
  rw[r1.intE]
  refine⟨rfl,i,rfl,rfl,?_⟩
  have e:eR i=DV.bitsN i:=by
   unfold eR DV.bitsN
   by_cases h:i=0
   .subst h;rfl
   .rw[if_neg h,if_neg (by simpa using h)]
  rw[e]
  exact(q.trans g1 l1).here R1 rfl RV.intI
 | _=>exact fb z
end
section
variable {Γ:Gm} {F:kN} {n:Nat} {X:Cx} {ck:Ck}
end
section
variable {Γ:Gm} {F:kN} {n:Nat} {X:Cx} {ck:Ck}
def TJv (Γ:Gm)(m:kD->kB->kG (List kC))(out:List Nat):TE:=λ W H Q=>∃ C U s l s' ws,RE Γ C H s.length U W/\Rp Γ C H s/\m U s=.ok l s'/\ln l=some ws/\(out++ws.flatten).length<=kJ /\
 ∀ C' H',Gr C s H C' s' H'->s.length<=s'.length->Rp Γ C' H' s'->Q (.str ⟨(out++ws.flatten).toArray⟩) H'
def PF (Γ:Gm)(X:Cx)(vs:yK)(m:kD->kB->kG (List kC)):Prop :=
 ∀(out:List Nat) (pins:yA) (s:ag) (W:St) (H:Hp) (Q:VK),Inv X pins W H s->TJv Γ m out W H Q->wpAny (model X.prog X.w) X.A (joinParts ⟨out.toArray⟩ (evalEach vs X.env)) (EP X pins W Q) X.xe s
theorem PF.eq {vs:yK}{m m':kD->kB->kG (List kC)}(e:∀ U s,m U s=m' U s)(h:PF Γ X vs m):PF Γ X vs m':=λ out z s W H Q I q=>by
 obtain⟨C,U,s0,l,s',ws,E,R,F,q⟩:=q
 exact h out z s W H Q I ⟨C,U,s0,l,s',ws,E,R,by rw[e];exact F,q⟩
theorem aF1 (w:List Nat):(⟨w.toArray⟩:Str).length=w.length:=by simp[iA]
theorem bQ2:PF Γ X [] (λ _ s=>.ok [] s):=λ out h s W H Q I q=>by
 obtain⟨C,U,s0,l,s',ws,E,R,z,hw,hl,q⟩:=q
 cases z
 cases hw
 rw[List.flatten_nil,aK]at q hl
 exact joinParts_nilE (joinParts_nil ⟨.str ⟨out.toArray⟩,H,I.tok _,⟨_,rfl⟩,q C H (Gr.refl _ _ _) (ah _) R⟩ (by rw[aF1];exact aj hl zG))
theorem aW9 {d:kC}{l:List kC}{ws:List (List Nat)}(h:ln (d::l)=some ws):∃ w z,d=.str w/\ln l=some z/\ws=w::z:=by
 cases d with
 | str w =>
  have h:(ln l).map (w::·)=some ws:=h
  cases e:ln l with
  | none=>rw[e]at h;cases h
  | some z=>rw[e]at h;cases h;exact⟨w,z,rfl,rfl,rfl⟩
 | _=>cases h
theorem aS8 {v:Expr}{vs:yK}{m1:kD->kB->kG kC}{m2:kD->kB->kG (List kC)}(h2:PF Γ X vs m2)
  (h1:∀(h:yA) (s:ag) (W:St) (H:Hp) (w:List Nat) (Q:VK),w.length<=kJ->Inv X h W H s->TEv Γ m1 W H (λ x z=>x=.str ⟨w.toArray⟩/\Q x z) ->
   wpAny (model X.prog X.w) X.A (eval v X.env) (λ u s1=>∃ t z,u=.str ⟨w.toArray⟩ t/\Inv X h W z s1/\Q (.str ⟨w.toArray⟩) z) X.xe s) :
  PF Γ X (v::vs) (λ U s=>(m1 U s).bind λ d s=>(m2 U s).bind λ l s=>.ok (d::l) s):=λ out h s W H Q I q=>by
 obtain⟨C,U,s0,l,s',ws,E,R,G,hw,hl,q⟩:=q
 obtain⟨d,s1,e1,G⟩:=aa0 G
 obtain⟨Y,s2,e2,G⟩:=aa0 G
 cases G
 obtain⟨w,Z,rfl,a1,rfl⟩:=aW9 hw
 rw[cG,<-aQ]at hl q
 have J:(out++w).length<=kJ:=by rw[am]at hl;lia
 have F:w.length<=kJ:=by rw[am]at J;lia
 refine joinParts_consE (joinParts_cons (bT (h1 h s W H w (λ x z=>∃ C1,Gr C s0 H C1 s1 z/\s0.length<=s1.length/\Rp Γ C1 z s1) F I ⟨C,U,s0,.str w,s1,E,R,e1,λ v C1 z g1 l1 b1 r1 R1=>⟨r1.strE,C1,g1,l1,R1⟩⟩) (λ u a0 hu=>?_) λ _ _ x=>x))
 obtain⟨t,z,rfl,I1,C1,g1,l1,R1⟩:=hu
 show(_++_:Str).length<=aM/\_
 rw[au4]
 refine⟨by rw[aF1];exact aj J zG,h2 (out++w) h a0 W z Q I1 ⟨C1,U,s1,Y,s',Z,E.mono g1 l1,R1,e2,a1,hl,λ C2 H2 g2 Y R2=>q C2 H2 (g1.trans g2 l1) (aj l1 Y) R2⟩⟩
theorem br4 {v:Expr}{F:kD->kB->kG kC}(hv:PE X v (TEv Γ F))(h:yA)(s:ag)(W:St)(H:Hp)(w:List Nat)(Q:VK)(I:Inv X h W H s)(q:TEv Γ F W H (λ x z=>x=.str ⟨w.toArray⟩/\Q x z)) :
  wpAny (model X.prog X.w) X.A (eval v X.env) (λ u s1=>∃ t z,u=.str ⟨w.toArray⟩ t/\Inv X h W z s1/\Q (.str ⟨w.toArray⟩) z) X.xe s :=
 bT (hv h s W H _ I q) (λ u s1 hu=>by
  obtain⟨x,z,J,Y,ex,G⟩:=hu
  subst ex
  obtain⟨t,rfl⟩:=(show ∃ t,u=Value.str ⟨w.toArray⟩ t from Y)
  exact⟨t,z,rfl,J,G⟩) λ _ _ x=>x
theorem bO3 {v:Expr}{p:Pos}{vs:yK}{F:kD->kB->kG kC}{z:kD->kB->kG (List kC)}(hv:PE X v (TEv Γ F))(Z:PF Γ X vs z) :
  PF Γ X (.FormattedValue v (-1) none p::vs) (λ U s=>(F U s).bind λ d s=>(z U s).bind λ l s=>.ok (d::l) s) :=
 aS8 Z λ h s W H w Q hw I q=>FormattedValue_plain (bT (br4 hv h s W H w Q I q) (λ u s1 hu=>by
  obtain⟨t,J,rfl,Y,G⟩:=hu
  exact formatField_str (λ t' tk=>⟨t',J,rfl,Y.tok tk,G⟩) (by rw[aF1];exact aj hw zG)) λ _ _ x=>x)
theorem bQ7 {v:Expr}{vs:yK}{z:kD->kB->kG kC}{F:kD->kB->kG (List kC)}(hv:PE X v (TEv Γ z))(G:PF Γ X vs F) :
  PF Γ X (v::vs) (λ U s=>(z U s).bind λ d s=>(F U s).bind λ l s=>.ok (d::l) s) :=
 aS8 G λ h s W H w Q hw I q=>br4 hv h s W H w Q I q
end
section
variable {Γ:Gm} {F:kN} {n:Nat} {X:Cx} {ck:Ck} {W:St} {H:Hp} {Q:VK}
theorem aG6:bX2 bR8:=λ {a b k} ha hb=>by
 cases a with
 | str x =>
  cases ha
  cases b with
  | str y =>
   have h:=aw hb
   injection h with h
   have z:y=x:=by simpa using h
   rw[z]
  | _=>cases hb
 | _=>cases ha
theorem RVD.lk {C:Nat->Addr}{f:List Nat}{d:kC}:∀ {l:List (kC×kC)} {F:List (Str×V)},RVD bR8 Γ C H l F->kR (.str f) l=some d->∃ v,F.lookup ⟨f.toArray⟩=some v/\RV Γ C H d v/\((⟨f.toArray⟩,v):Str×V)∈F/\d∈l.map (·.2)
 | [],_,_,e=>by cases e
 | (a,e0)::l,_,h,e=>by
  obtain⟨J,v',r,rfl,e2,Z,Y⟩:=h
  unfold kR at e
  split at e
  .rename_i ha
   subst ha
   cases e2
   cases e
   exact⟨v',by simp[a9],Z,by simp,by simp⟩
  .rename_i ha
   obtain⟨v,G,q2,q3,q4⟩:=RVD.lk Y e
   refine⟨v,?_,q2,ax _ q3,by simp at q4 ⊢;exact .inr q4⟩
   have ne:((⟨f.toArray⟩:Str)==J)=false:=beq_eq_false_iff_ne.mpr λ z=>ha (aG6 e2 (by rw[<-z];rfl))
   rw[a9,ne];exact G
theorem RVD.putA {C:Nat->Addr}{f:List Nat}{d:kC}{v:V}(hv:RV Γ C H d v):∀ {l:List (kC×kC)} {J:List (Str×V)},RVD bR8 Γ C H l J->RVD bR8 Γ C H (lp (.str f) d l) (al3 ⟨f.toArray⟩ v J)
 | [],_,h=>by cases(show _=[]from h);exact⟨_,v,[],rfl,rfl,hv,rfl⟩
 | (a,e0)::l,_,h=>by
  obtain⟨F,v',r,rfl,e2,Y,G⟩:=h
  rw[show al3 ⟨f.toArray⟩ v ((F,v')::r)=(if F=⟨f.toArray⟩then(F,v)::r else(F,v')::al3 ⟨f.toArray⟩ v r)from rfl]
  unfold lp
  by_cases ha:a=.str f
  .subst ha
   cases e2
   rw[if_pos rfl,if_pos rfl]
   exact⟨_,v,r,rfl,rfl,hv,G⟩
  .rw[if_neg ha,if_neg λ z=>ha (aG6 e2 (by rw[z];rfl))]
   exact⟨F,v',_,rfl,e2,Y,RVD.putA hv G⟩
theorem putA_mem {k v:kC}{p:kC×kC}:∀ {l:List (kC×kC)},p∈lp k v l->p∈l\/(p.1=k/\p.2=v)
 | [],h=>by simp[lp]at h;exact .inr (by rw[h];exact⟨rfl,rfl⟩)
 | (a,e)::l,h=>by
  unfold lp at h
  split at h
  .rename_i ha
   rcases aG.mp h with z|z
   .subst z;exact .inr ⟨ha,rfl⟩
   .exact .inl (ax _ z)
  .rcases aG.mp h with z|z
   .subst z;exact .inl (aB ..)
   .rcases putA_mem z with z|z
    .exact .inl (ax _ z)
    .exact .inr z
theorem bj9 {n:Nat}{c:String}{f:List Nat}{d:kC}{l:List (kC×kC)}(h:(DV.O.ins c l).bnd n=true)(hd:d.bnd n=true):(DV.O.ins c (lp (.str f) d l)).bnd n=true:=by
 unfold kH at h ⊢
 rw[ak]at h ⊢
 have g1:=aa6.mp h.1
 have G:=aa6.mp h.2
 refine⟨aa6.mpr λ x hx=>?_,aa6.mpr λ x hx=>?_⟩
 .obtain⟨p,F,rfl⟩:=aZ.mp hx
  rcases putA_mem F with z|⟨z,_⟩
  .exact g1 _ (bv (f:=(·.1)) z)
  .rw[z];rfl
 .obtain⟨p,F,rfl⟩:=aZ.mp hx
  rcases putA_mem F with z|⟨_,z⟩
  .exact G _ (bv (f:=(·.2)) z)
  .rw[z];exact hd
theorem bb6 {f:List Nat}{x d:kC}{s s':kB}(h:mB f x s=.ok d s'):∃ r c fs,x=.ref r/\s[r]?=some (.ins c fs)/\kR (.str f) fs=some d/\s'=s:=by
 unfold mB at h
 split at h
 .split at h
  .rename_i c fs e
   split at h
   .rename_i e2;cases h;exact⟨_,c,fs,rfl,e,e2,rfl⟩
   .exact fb h
  .exact fb h
 .exact fb h
theorem bi9 {m:kD->kB->kG kC}{o:Expr}{f:List Nat}{pos:Pos}(G:CG Γ F n X ck)(hab:aV5 o=true)(h:PE X o (TEv Γ m)):PE X (.Attribute o ⟨f.toArray⟩ pos) (TEv Γ (λ U s=>(m U s).bind λ x s=>mB f x s)):=by
 refine(bK5 h (qF hab)).imp λ W H Q q=>?_
 obtain⟨C,U,s,d,s',E,R,Y,q⟩:=q
 obtain⟨x,s1,e1,Y⟩:=aa0 Y
 obtain⟨r,c,fs,rfl,hs,hl,rfl⟩:=bb6 Y
 refine⟨C,U,s,.ref r,_,E,R,e1,λ v C1 H1 g1 l1 b1 r1 R1=>?_⟩
 obtain⟨Cc,dx,Z,⟨hc,J⟩,z,ea,rd⟩:=R1.obj r _ hs
 obtain⟨v',q1,q2,q3,q4⟩:=rd.lk hl
 have wf:=R1.wf _ _ hs
 unfold kH at wf
 rw[ak]at wf
 rw[G.K]
 exact⟨C1 r,Cc,dx,Z,v',r1.refE,ea,J,z _ q3,q1,(q.trans g1 l1).here R1 (aa6.mp wf.2 _ q4) q2⟩
theorem bc1 {ok:String->Bool}{f:List Nat}{x v:kC}{u:Unit}{s s':kB}(h:mD ok f x v s=.ok u s'):∃ r c fs,x=.ref r/\s[r]?=some (.ins c fs)/\ok c=true/\fs.length<1000/\s'=s.set r (.ins c (lp (.str f) v fs)):=by
 unfold mD at h
 split at h
 .split at h
  .rename_i c fs e
   split at h
   .rename_i hc
    rw[ak]at hc
    cases h
    exact⟨_,c,fs,rfl,e,hc.1,of_decide_eq_true hc.2,rfl⟩
   .exact fb h
  .exact fb h
 .exact fb h
theorem bm2 {me mo:kD->kB->kG kC}{o h:Expr}{f:List Nat}{pos a0:Pos}(G:CG Γ F n X ck)(ho:PE X o (TEv Γ mo))(hv:PE X h (TEv Γ me))(hn:ao2 h=true) :
  PS X (.Assign [.Attribute o ⟨f.toArray⟩ a0] h pos) (TSv Γ (λ U s=>(me U s).bind λ d s=>(mo U s).bind λ x s=>(mD (λ c=>F.att c f) f x d s).bind λ _ s=>.ok (.next U) s)):=by
 refine(bK3 ho hv (am2 hn)).imp λ D W H q=>?_
 obtain⟨C,U,s,c,s',E,R,e,q⟩:=q
 obtain⟨d,s1,e1,e⟩:=aa0 e
 obtain⟨x,s2,e2,e⟩:=aa0 e
 obtain⟨u,s4,e4,e⟩:=aa0 e
 cases e
 obtain⟨r,cn,fs,rfl,hs,hat,a1,rfl⟩:=bc1 e4
 refine⟨C,U,s,d,s1,E,R,e1,λ v1 C1 H1 g1 l1 b1 r1 R1=>?_⟩
 refine⟨C1,U,s1,.ref r,s2,E.mono g1 l1,R1,e2,λ v2 C2 H2 g2 l2 b2 r2 R2=>?_⟩
 obtain⟨Cc,dx,gs,⟨hc,a2⟩,a3,ea,rd⟩:=R2.obj r _ hs
 have Z:NoAttr Γ.K Cc ⟨f.toArray⟩:=by rw[<-G.K];exact G.ob.att cn f Cc hat hc
 have wf:=R2.wf _ _ hs
 have bd:=zl l2 d b1
 have rv:=RV.mono g2 d v1 b1 r1
 have hb:=bj9 (f:=f) wf bd
 have Y:=hb
 unfold kH at Y
 rw[ak]at Y
 have key:∀ {l:List (Str×V)},(∀ p∈l,NoAttr Γ.K Cc p.1)->∀ p∈al3 ⟨f.toArray⟩ v1 l,NoAttr Γ.K Cc p.1:=by
  intro l
  induction l with
  | nil=>intro _ p J;cases(show p∈[_]from J)with
   | head=>exact Z
   | tail _ z=>cases z
  | cons a l ih =>
   intro hl p J
   obtain⟨k,x⟩:=a
   rw[show al3 ⟨f.toArray⟩ v1 ((k,x)::l)=(if k=⟨f.toArray⟩then(k,v1)::l else(k,x)::al3 ⟨f.toArray⟩ v1 l)from rfl]at J
   split at J
   .rcases aG.mp J with z|z
    .subst z;exact hl (k,x) (aB ..)
    .exact hl _ (ax _ z)
   .rcases aG.mp J with z|z
    .subst z;exact hl _ (aB ..)
    .exact ih (λ p J=>hl p (ax _ J)) p z
 obtain⟨g3,R3⟩:=R2.set (o:=.ins cn (lp (.str f) d fs)) (u:=.ins Cc dx (al3 ⟨f.toArray⟩ v1 gs)) hs rfl hb λ H' g e=>⟨Cc,dx,_,⟨hc,a2⟩,key a3,e,RVD.monoW g _ _ Y.2 (RVD.putA rv rd)⟩
 have G2:=g1.trans g2 l1
 have L2:=aj l1 l2
 have L3:s.length<=(s2.set r (.ins cn (lp (.str f) d fs))).length:=by rw[aS];exact L2
 rw[G.K]
 refine⟨C2 r,Cc,dx,gs,r2.refE,ea,a2,Z,by rw[rd.length];exact a1,q C2 _ (G2.trans g3 L2) L3 R3 W (E.mono (G2.trans g3 L2) L3)⟩
theorem aT7 {c:String}{Cc:Addr}{as:lF}(hc:Γ.cls c=some Cc/\Cls Γ.K Cc)(q:TEv Γ (kF F (.new c as)) W H Q):bb4 Cc (spV Γ (F.new c)) [] E0 (TAv Γ (lj F as)) W H Q:=by
 obtain⟨C,U,s,d,s',E,R,h,q⟩:=q
 obtain⟨l,s1,e1,h⟩:=aa0 h
 obtain⟨d0,s2,e2,h⟩:=aa0 h
 split at h
 case isFalse=>exact fb h
 rename_i a0
 subst a0
 cases h
 refine⟨C,U,s,l,s1,E,R,e1,λ vs C1 Y g1 l1 b1 r1 R1 x G hx J ne=>?_⟩
 obtain⟨g2,R2⟩:=R1.same (H':=upd Y G (.own x)) ((ae2.refl Y).new J)
 have Z:upd Y G (.own x) x=none:=by rw[ze (bG ne)];exact hx
 obtain⟨g3,R3⟩:=R2.new (o:=.ins c []) (u:=.ins Cc G []) Z rfl λ C' H' g e=>⟨Cc,G,[],hc,(λ p hp=>by cases hp),e,rfl⟩
 have g4:=g2.trans g3 (ah _)
 have l4:s1.length<=(s1++[DV.O.ins c []]).length:=by simp
 have z:(if s1.length=s1.length then x else C1 s1.length)=x:=if_pos rfl
 refine⟨_,s1++[.ins c []],.ref s1.length::l,.non,_,R3,.cons (by unfold RV;show V.ref x=V.ref (if s1.length=s1.length then x else C1 s1.length);rw[z]) (by rw[aK];exact RVL.mono g4 l vs b1 r1),by unfold kE;rw[aa9 l4 l b1];unfold kI;simp,e2,λ v C' H' g l' b r R'=>⟨r.nonE,?_⟩⟩
 have l5:=aA (show s1.length<(s1++[DV.O.ins c []]).length by simp) l'
 refine q (.ref x) C' H' ((g1.trans g4 l1).trans g (aj l1 l4)) (aj l1 (aj l4 l')) (by unfold kI;exact decide_eq_true l5) ?_ R'
 unfold RV
 rw[g.w.map s1.length (by simp)]
 show V.ref x=V.ref (if s1.length=s1.length then x else C1 s1.length)
 rw[z]
theorem bu2 {c:String}{Z:lF}{J:yK}{p pos:Pos}(G:CG Γ F n X ck)(hg:ck.gl (c:Str)=true)(m:mAs ck Z J=true)(h:PA X J (TAv Γ (lj F Z))):EvT Γ X (.Call (.Name (c:Str) p) J [] pos) (kF F (.new c Z)):=by
 refine .val ?_
 obtain⟨g1,g2,g3⟩:=G.gl hg
 rcases G.ob.nw c with hbad|⟨k,Cc,a,fd,ps,hk,hc,z,M,hF,hb⟩
 .intro a0 s W H Q I q
  obtain⟨C,U,s,d,s',E,R,hm,q⟩:=q
  obtain⟨l,s1,e1,hm⟩:=aa0 hm
  obtain⟨d0,s2,e2,hm⟩:=aa0 hm
  rw[hbad]at e2
  cases e2
 have hr:Room (k+1) X.A:=G.room.mono hk
 have Y:Γ.cls c=some Cc/\Cls Γ.K Cc:=by rw[<-G.K];exact hc
 cases J with
 | nil =>
  have h0:PE X (.Call (.Name (c:Str) p) [] [] pos) (bb4 Cc (spV Γ (F.new c)) [] E0 aQ1):=bj8 M hF hr g1 z hb .nil aP1 g2
  cases Z with
  | nil =>
   refine h0.imp λ W H Q q=>?_
   have q1:=aT7 Y q
   unfold bb4 at q1 ⊢
   exact ar4 (TAv.eq (λ U s=>rfl) q1)
  | _=>rw[mAs]at m<;>first|cases m|(intros;simp_all)
 | cons x J =>
  have hs:=al8 m
  exact(bx5 M hF hr g1 z hb .nil aP1 h g2 (zb (hs x (aB ..))) (zr λ e he=>hs e (ax _ he)).1).imp λ W H Q q=>aT7 Y q
theorem bn5 {x:kC}{c:String}{s s':kB}(h:DV.bp7 x s=.ok c s'):∃ r fs,x=.ref r/\s[r]?=some (.ins c fs)/\s'=s:=by
 unfold DV.bp7 at h
 split at h
 .split at h
  .rename_i c fs e;cases h;exact⟨_,fs,rfl,e,rfl⟩
  .exact fb h
 .exact fb h
theorem bb8 {K:ae}{Cc a:Addr}{m:Str}(G:Meth K Cc m a):∀ {F:List (Str×V)},(∀ p∈F,NoAttr K Cc p.1)->F.lookup m=none
 | [],_=>rfl
 | (k,v)::F,h=>by
  rw[a9]
  cases e:m==k with
  | true =>
   have e':=eq_of_beq e
   subst e'
   have z:=h (m,v) (aB ..)
   unfold NoAttr at z
   rw[G.at_]at z;cases z
  | false=>exact bb8 G λ p J=>h p (ax _ J)
theorem aU9 {x:Str}{px:Pos}{m:Str}{h pos:Pos}{args:yK}{env:Env}(F:methodCallForm (args.length+([]:List d8).length) (cD pos (aY args env)) (ef pos (cQ [] env))=true)(hl:(h.endLine==pos.line)=true):∃ pl,eval (.Call (.Attribute (.Name x px) m h) args [] pos) env=(do
  let ov <- eval (.Name x px) env
  iJ h.atName
  let(f,first) <- fP [ov] (gN ov m pl)
  callWith pos f first (cD pos (aY args env)) (ef pos (cQ [] env))):=by
 have z:methodCallPos true (.Name x px) env h pos=pure pos:=by unfold methodCallPos;simp[hl]
 rw[arm_eval_Call,qF (e:=.Name x px) rfl]
 unfold methodCall
 rw[F]
 simp only[z,pure_bind]
 exact⟨_,rfl⟩
theorem aY9 {mo:lx}{m:String}{as:lF}{J:yK}{y:Str}{py ap pos:Pos}(G:CG Γ F n X ck)(ho:PE X (.Name y py) (TEv Γ (kF F mo)))(ma:mAs ck as J=true)(hl:(ap.endLine==pos.line)=true)(hx:J.length<29)(h:PA X J (TAv Γ (lj F as))):EvT Γ X (.Call (.Attribute (.Name y py) (m:Str) ap) J [] pos) (kF F (.mcall mo m as)):=by
 refine .val ?_
 intro Y sh W H Q I q
 obtain⟨C,U,s,d,s',E,R,Z,q⟩:=q
 obtain⟨x,s1,e1,a5⟩:=aa0 Z
 obtain⟨c,s2,e2,a4⟩:=aa0 a5
 obtain⟨l,s3,e3,Z⟩:=aa0 a4
 obtain⟨r,fs,rfl,hs,rfl⟩:=bn5 e2
 rcases G.ob.mc c m with hbad|⟨Cc,a,fd,ps,hc,a2,z,hF,hb⟩
 .rw[hbad]at Z;exact fb Z
 have key:be9 Cc (m:Str) (spV Γ (F.mcall c m)) [] E0 (TEv Γ (kF F mo)) (TAv Γ (lj F as)) W H Q:=by
  refine⟨C,U,s,.ref r,s2,E,R,e1,λ v1 C1 H1 g1 l1 b1 r1 R1=>?_⟩
  obtain⟨Cc',dx,gs,⟨a1,a6⟩,a0,ea,rd⟩:=R1.obj r _ hs
  rw[hc]at a1;cases a1
  rw[<-G.K]at a0
  refine⟨C1 r,dx,gs,r1.refE,ea,bb8 z a0,C1,U,s2,l,s3,E.mono g1 l1,R1,e3,λ vs C2 H2 g2 l2 b2 r2 R2=>?_⟩
  refine⟨C2,s3,.ref r::l,d,s',R2,.cons (RV.mono g2 _ _ b1 r1) (by rw[aK];exact r2),by unfold kE;rw[b2,zl l2 _ b1];rfl,Z,q.trans (g1.trans g2 l1) (aj l1 l2)⟩
 have hf:methodCallForm (J.length+([]:List d8).length) (cD pos (aY J X.env)) (ef pos (cQ [] X.env))=true:=by
  show((cD pos (aY J X.env)).all (λ x=>!x.1)&&(ef pos (cQ [] X.env)).all (λ x=>x.1.isSome)&&decide (J.length+([]:List d8).length+(if([]:List d8).isEmpty then 0 else 1)<30))=true
  rw[(zr (al8 ma)).2]
  simp only[dz,ak,decide_eq_true_eq]
  exact⟨rfl,by simp;lia⟩
 obtain⟨pl,ht⟩:=aU9 (x:=y) (px:=py) (m:=(m:Str)) hf hl
 cases J with
 | nil =>
  have h0:PE X (.Call (.Attribute (.Name y py) (m:Str) ap) [] [] pos) (be9 Cc (m:Str) (spV Γ (F.mcall c m)) [] E0 (TEv Γ (kF F mo)) aQ1):=bh3 (pl:=pl) ho a2 z hF G.room hb .nil aP1 ht
  refine h0 Y sh W H Q I ?_
  cases as with
  | nil =>
   obtain⟨C,U,s,d,s',E,R,Z,k⟩:=key
   refine⟨C,U,s,d,s',E,R,Z,λ v1 C1 H1 g1 l1 b1 r1 R1=>?_⟩
   obtain⟨a,dx,fs,w1,w2,w3,w4⟩:=k v1 C1 H1 g1 l1 b1 r1 R1
   exact⟨a,dx,fs,w1,w2,w3,ar4 (TAv.eq (λ U s=>rfl) w4)⟩
  | _=>rw[mAs]at ma<;>first|cases ma|(intros;simp_all)
 | cons e es =>
  have a3:=al8 ma
  exact bI4 (pl:=pl) ho a2 z hF G.room hb .nil aP1 h (zb (a3 e (aB ..))) (zr λ e he=>a3 e (ax _ he)).1 ht Y sh W H Q I key
theorem aN7 {x d:kC}{s s':kB}(h:mF x s=.ok d s'):∃ r l,x=.ref r/\s[r]?=some (.dic l)/\l.all (λ p=>p.1.keyF)=true/\d=.ref s.length/\s'=s++[.lst (l.map (·.1))]:=by
 unfold mF at h
 split at h
 .split at h
  .rename_i l e
   split at h
   .rename_i hk;cases h;exact⟨_,l,rfl,e,hk,rfl,rfl⟩
   .exact fb h
  .exact fb h
 .exact fb h
theorem aK5 {C:Nat->Addr}:∀ {l:List (kC×kC)} {kvs:List (Key×V)},RVD al4 Γ C H l kvs->l.all (λ p=>p.1.keyF)=true->RVL Γ C H (l.map (·.1)) (kvs.map λ F=>kV F.1)
 | [],_,h,_=>by cases(show _=[]from h);exact .nil
 | (a,e)::l,_,h,hk=>by
  obtain⟨G,v',r,rfl,e2,J,z⟩:=h
  rw[bN,ak]at hk
  exact .cons (ba4 e2 hk.1) (aK5 z hk.2)
theorem aV9 {m:kD->kB->kG kC}{a:Expr}{p pos:Pos}(G:CG Γ F n X ck)(hg:ck.gl "list"=true)(hs:shp a=true)(h:PE X a (TEv Γ m)) :
  PE X (.Call (.Name "list" p) [a] [] pos) (TEv Γ (λ U s=>(m U s).bind λ x s=>mF x s)):=by
 obtain⟨g1,Y,Z⟩:=G.gl hg
 refine(af7 (aM6 G.calm) g1 (G.bi _ (by decide)) aZ5 (zx h ad4 (zb hs)) Z Y (zb hs) rfl).imp λ W H Q q=>?_
 obtain⟨C,U,s,d,s',E,R,z,q⟩:=q
 obtain⟨x,s1,e1,z⟩:=aa0 z
 obtain⟨r,l,rfl,er,hk,rfl,rfl⟩:=aN7 z
 refine⟨C,U,s,_,_,E,R,e1,λ v C1 H1 g1 l1 b1 r1 R1=>?_⟩
 obtain⟨kvs,ea,J⟩:=R1.obj r _ er
 have wf:=R1.wf _ _ er
 unfold kH at wf
 rw[ak]at wf
 exact⟨C1 r,kvs,by rw[r1.refE],ea,λ p hp=>(q.trans g1 l1).alloc R1 (aK5 J hk) wf.1 hp⟩
theorem at3 (a:Int):∀ l:List Int,(lS a l).Perm (a::l)
 | []=>.refl _
 | b::l=>by
  unfold lS
  split
  .exact .refl _
  .exact((at3 a l).cons b).trans (.swap a b l)
theorem ar3:∀ l:List Int,(mG l).Perm l
 | []=>.refl _
 | a::l=>(at3 a _).trans ((ar3 l).cons a)
theorem ap2 {a:Int}:∀ {l:List Int},l.Pairwise (·<=·)->(lS a l).Pairwise (·<=·)
 | [],_=>by unfold lS;exact List.pairwise_singleton _ _
 | b::l,h=>by
  unfold lS
  rw[cB]at h
  split
  .rename_i hab
   exact cB.mpr ⟨λ c hc=>(aG.mp hc).elim (λ z=>z▸hab) λ z=>kl hab (h.1 c z),cB.mpr h⟩
  .rename_i hab
   refine cB.mpr ⟨λ c hc=>?_,ap2 h.2⟩
   rcases aG.mp ((at3 a l).mem_iff.mp hc)with z|z
   .lia
   .exact h.1 c z
theorem aj0:∀ l:List Int,(mG l).Pairwise (·<=·)
 | []=>.nil
 | a::l=>ap2 (aj0 l)
theorem aA3:∀ {l m:List Int},l.Perm m->l.Pairwise (·<=·)->m.Pairwise (·<=·)->l=m
 | [],m,p,_,_=>(List.nil_perm.mp p).symm
 | a::l,[],p,_,_=>absurd (List.perm_nil.mp p) (by simp)
 | a::l,b::m,p,h1,h2=>by
  have g1:=cB.mp h1
  have h:=cB.mp h2
  have hab:a=b:=by
   have x1:a<=b:=by
    rcases aG.mp (p.symm.mem_iff.mp (aB ..):b∈a::l)with z|z
    .lia
    .exact g1.1 b z
   have x2:b<=a:=by
    rcases aG.mp (p.mem_iff.mp (aB ..):a∈b::m)with z|z
    .lia
    .exact h.1 a z
   lia
  subst hab
  rw[aA3 (List.Perm.cons_inv p) g1.2 h.2]
theorem bk2 {l:List kC}{d:kC}{s s':kB}(h:mH l s=.ok d s'):∃ is,lr l=some is/\is.length<64/\d=.ref s.length/\s'=s++[.lst ((mG is).map DV.D.int)]:=by
 unfold mH at h
 split at h
 .rename_i is e
  split at h
  .cases h;exact⟨is,e,‹_›,rfl,rfl⟩
  .exact fb h
 .exact fb h
theorem aG3 {C:Nat->Addr}:∀ {l:List kC} {is:List Int} {z:List V},lr l=some is->RVL Γ C H l z->z=is.map V.int
 | [],is,z,h,r=>by cases h;exact r.unnil
 | d::l,is,z,h,r=>by
  cases d with
  | int i =>
   obtain⟨G,e,rfl⟩:=cS.mp (show(lr l).map (i::·)=some is from h)
   obtain⟨x,ys,rfl,r1,F⟩:=r.uncons
   rw[r1.intE,aG3 e F];rfl
  | _=>cases h
theorem av7 {C:Nat->Addr}{H:Hp}:∀ ns:List Int,RVL Γ C H (ns.map DV.D.int) (ns.map V.int)
 | []=>.nil
 | n::ns=>.cons RV.intI (av7 ns)
theorem aq5 {m:Nat}:∀ ns:List Int,kE m (ns.map DV.D.int)=true
 | []=>rfl
 | n::ns=>by rw[aH];unfold kE;rw[aq5 ns];rfl
theorem bx4 {m:kD->kB->kG kC}{a:Expr}{p pos:Pos}(G:CG Γ F n X ck)(hg:ck.gl "sorted"=true)(hs:shp a=true)(h:PE X a (TEv Γ m)) :
  PE X (.Call (.Name "sorted" p) [a] [] pos) (TEv Γ (λ U s=>(m U s).bind λ x s=>(my x s).bind λ q s=>mH q s)):=by
 obtain⟨g1,g2,g3⟩:=G.gl hg
 refine(ak5 aG0 g1 (G.bi _ (by decide)) (by decide +kernel) (zx h ad4 (zb hs)) g3 g2 (zb hs) rfl).imp λ W H Q q=>?_
 obtain⟨C,U,s,d,s',E,R,hm,q⟩:=q
 obtain⟨x,s1,e1,Y⟩:=aa0 hm
 obtain⟨l,s2,e2,z⟩:=aa0 Y
 obtain⟨J,r,rfl,er⟩:=bk6 e2
 subst J
 obtain⟨is,ei,Z,rfl,rfl⟩:=bk2 z
 refine⟨C,U,s,_,_,E,R,e1,λ v C1 H1 g1 l1 b1 r1 R1=>?_⟩
 obtain⟨xs,ea,rd⟩:=R1.addr er
 rw[aG3 ei rd]at ea
 refine⟨C1 r,is,by rw[r1.refE],ea,Z,λ p ms hp pm so=>?_⟩
 rw[aA3 (pm.trans (ar3 is).symm) so (aj0 is)]
 exact(q.trans g1 l1).alloc R1 (av7 _) (aq5 _) hp
end
section
variable {Γ:Gm} {F:kN} {n:Nat}
theorem bM6 {X:Cx}{c:DV.Cn}{v:Const}{k:Nat}{pos:Pos}(h:mC c v=true):EvT Γ X (.Constant v k pos) (kF F (.cst c)):=by
 refine .val ?_
 unfold mC at h
 split at h
 .exact bO5.imp λ W H Q q=>ax9 (c:=.non) (λ _=>rfl) (λ _ _=>RV.nonI) (TEv.eq (λ U s=>rfl) q)
 .rename_i b c
  have e:=eq_of_beq h
  subst e
  exact ca3.imp λ W H Q q=>ax9 (c:=.bl b) (λ _=>rfl) (λ _ _=>RV.blI) (TEv.eq (λ U s=>rfl) q)
 .rename_i i j
  have e:=of_decide_eq_true h
  subst e
  exact bt1.imp λ W H Q q=>ax9 (c:=.int i) (λ _=>rfl) (λ _ _=>RV.intI) (TEv.eq (λ U s=>rfl) q)
 .rename_i x y
  rw[ak]at h
  have e:=of_decide_eq_true h.1
  have e2:=of_decide_eq_true h.2
  subst e
  exact bK7.imp λ W H Q q=>ax9 (c:=.str x) (λ _=>rfl) (λ _ _=>RV.strI (by unfold kJ;lia)) (TEv.eq (λ U s=>rfl) q)
 .cases h
theorem bF6 {X:Cx}{ck:Ck}{es:kX}{z:yK}{pos:Pos}(m:mEs ck es z=true)(hz:z.length<=1000)(h:PA X z (TAv Γ (k6 F es))):PE X (.List z pos) (TFv Γ (DV.evL F (.disp es))):=by
 refine(bt7 h).imp λ W H Q q=>?_
 obtain⟨C,U,s,l,s',E,R,hm,q⟩:=q
 refine⟨C,U,s,l,s',E,R,hm,λ vs C1 Z g1 l1 J r1 R1=>⟨by rw[r1.length,ar9 hm m];exact aZ0 hz,λ p G=>?_⟩⟩
 obtain⟨Y,R2⟩:=R1.same (H':=upd Z p (.lst vs)) ((ae2.refl Z).new G)
 refine q p vs C1 _ (g1.trans Y l1) l1 J zq ?_ (Off.new R1 G) (RVL.mono Y _ _ J r1) R2
 cases e:H p with
 | none=>rfl
 | some o=>exact absurd G (g1.st p (by rw[e];simp))
theorem CompF.eq {X:Cx}{m m':kD->kB->kG (List kC)}{E:Expr}(c:CompF Γ X m E)(e:∀ U s,m' U s=m U s):CompF Γ X m' E:=by
 have:m'=m:=funext λ U=>funext λ s=>e U s
 subst this;exact c
theorem zf {a b:Bool}(h:(a&&b)=true):a=true/\b=true:=by rw[ak]at h;exact h
theorem bz7 {X:Cx}{J:Ck}{g:String}{p:Pos}(G:CG Γ F n X J)(h:J.gl (g:Str)=true):EvT Γ X (.Name (g:Str) p) (kF F (.glob g)):=by
 refine .val ?_
 obtain⟨g1,Z,g3⟩:=G.gl h
 cases e:F.con g with
 | none =>
  intro Y s W H Q I q
  obtain⟨C,U,s,d,s',E,R,z,q⟩:=q
  have z:(match F.con g with|some d=>DV.R.ok d s|none=>.bad)=.ok d s':=z
  rw[e]at z
  cases z
 | some d =>
  obtain⟨v,u,h1,h2,h3,h4⟩:=G.con g d e
  exact(bI1 g1 h1 h2 Z).imp λ W H Q q=>ax9 (c:=d) h3 h4 (TEv.eq (λ U s=>by show(match F.con g with|some d=>DV.R.ok d s|none=>.bad)=DV.R.ok d s;rw[e]) q)
theorem bL3 {X:Cx}{z:Ck}{i:Nat}{x:Str}{p:Pos}(G:CG Γ F n X z)(h:z.var i x=true):EvT Γ X (.Name x p) (kF F (.var i)):=by
 refine .val ?_
 unfold Ck.var at h
 obtain⟨h,Y⟩:=zf h
 obtain⟨h,h3⟩:=zf h
 obtain⟨J,Z⟩:=zf h
 have e1:(x==("__debug__":Str))=false:=by simpa using h3
 have e2:(x==("__classdict__":Str))=false:=by simpa using Y
 exact(bO0 (by rw[G.N];exact of_decide_eq_true J) (G.vis Z) e1 e2).imp λ W H Q q=>bP1 i (TEv.eq (λ U s=>rfl) q)
theorem aH9 {X:Cx}{E:Expr}{m:kD->kB->kG kC}(h:∀ U s,m U s=.bad):EvT Γ X E m:=by
 refine⟨λ F s W H Q I q=>?_,λ F s W H Q I q=>?_⟩
 .obtain⟨C,U,s,d,s',E,R,z,q⟩:=q
  rw[h]at z;exact fb z
 .obtain⟨C,U,s,d,s',E,R,z,q⟩:=q
  rw[h]at z;exact fb z
inductive LK (Γ:Gm)(X:Cx)(m:kD->kB->kG (List kC))(E:Expr)(k:Nat):Prop where
 | c (h:CompF Γ X m E):LK Γ X m E k
 | f (hk:1<=k) (h:PE X E (TFv Γ m)):LK Γ X m E k
 | s (hk:k=2) (h:PE X E (TLv Γ m)):LK Γ X m E k
theorem bQ5 {X:Cx}{m:kD->kB->kG (List kC)}{E:Expr}(h:LK Γ X m E 0):CompF Γ X m E:=by
 cases h with
 | c h=>exact h
 | f hk h=>lia
 | s hk h=>lia
theorem cb7 {X:Cx}{z:Ck}{m:kD->kB->kG (List kC)}{E:Expr}(G:CG Γ F n X z)(h:LK Γ X m E 1):PE X E (TFv Γ m):=by
 cases h with
 | c h=>exact h.pe G.calm
 | f hk h=>exact h
 | s hk h=>lia
theorem cb1 {X:Cx}{z:Ck}{m:kD->kB->kG (List kC)}{E:Expr}(G:CG Γ F n X z)(h:LK Γ X m E 2):PE X E (TLv Γ m):=by
 cases h with
 | c h=>exact(h.pe G.calm).imp λ W H Q q=>aH2 q
 | f hk h=>exact h.imp λ W H Q q=>aH2 q
 | s hk h=>exact h
theorem biOk_inv {z:Ck}{b:lq}{x:Str}{F:yK}{es:kX}(h:bY9 z b x F (mEs z es F) (mEs z es (F.take 1))=true) :
  (∃ k t a y Y,biK b=some (k,t)/\F=[a,.Name y Y]/\x=("isinstance":Str)/\y=t/\z.gl x=true/\z.gl y=true/\mEs z es [a]=true)\/∃ a ys,F=a::ys/\biT b=some x/\z.gl x=true/\mEs z es (a::ys)=true:=by
 unfold bY9 at h
 cases hk:biK b with
 | none =>
  rw[hk]at h
  cases F with
  | nil=>exact ff h
  | cons a ys =>
   obtain⟨h,h3⟩:=zf h
   obtain⟨G,J⟩:=zf h
   exact .inr ⟨a,ys,rfl,of_decide_eq_true G,J,h3⟩
 | some p =>
  rw[hk]at h
  cases F with
  | nil=>exact ff h
  | cons a ys=>cases ys with
   | nil=>exact ff h
   | cons b ys=>cases b with
    | Name y Y=>cases ys with
     | nil =>
      obtain⟨h,h5⟩:=zf h
      obtain⟨h,Z⟩:=zf h
      obtain⟨h,h3⟩:=zf h
      obtain⟨G,J⟩:=zf h
      exact .inl ⟨p.1,p.2,a,y,Y,rfl,rfl,of_decide_eq_true G,of_decide_eq_true h3,J,Z,h5⟩
     | cons _ _=>exact ff h
    | _=>exact ff h
mutual
theorem sE:∀(e:lx) (E:Expr) (X:Cx) (z:Ck),CG Γ F n X z->mE z e E=true->EvT Γ X E (kF F e)
 | .var i,E,X,z,G,h=>by
  cases E with
  | Name x p =>
   exact bL3 G h
  | _=>exact ff h
 | .cst c,E,X,z,G,h=>by
  cases E with
  | Constant v k p =>
   exact bM6 h
  | _=>exact ff h
 | .glob g,E,X,z,G,h=>by
  cases E with
  | Name x p =>
   obtain⟨Y,J⟩:=zf h
   have e:=of_decide_eq_true Y
   subst e
   exact bz7 G J
  | _=>exact ff h
 | .bin op a b,E,X,z,G,h=>by
  cases E with
  | BinOp l o r pE =>
   obtain⟨h,h3⟩:=zf h
   obtain⟨Y,J⟩:=zf h
   have e:=of_decide_eq_true Y
   subst e
   exact bw9 G op (sE a _ X z G J) (sE b _ X z G h3)
  | _=>exact ff h
 | .not a,E,X,z,G,h=>by
  cases E with
  | UnaryOp o l p =>
   cases o with
   | Not =>
    exact bv2 (sE a _ X z G h)
   | _=>exact ff h
  | _=>exact ff h
 | .cmp op a b,E,X,z,G,h=>by
  cases E with
  | Compare l os rs pE =>
   cases os with
   | cons o os_0 =>
    cases os_0 with
    | nil =>
     cases rs with
     | cons r rs_0 =>
      cases rs_0 with
      | nil =>
       obtain⟨h,h3⟩:=zf h
       obtain⟨Y,J⟩:=zf h
       have e:=of_decide_eq_true Y
       subst e
       exact bC1 G op (aG4 h3) (sE a _ X z G J) (sE b _ X z G h3)
      | _=>exact ff h
     | _=>exact ff h
    | _=>exact ff h
   | _=>exact ff h
  | _=>exact ff h
 | .isN a,E,X,z,G,h=>by
  cases E with
  | Compare l os rs pE =>
   cases os with
   | cons o os1 =>
    cases o with
    | Is =>
     cases os1 with
     | nil =>
      cases rs with
      | cons r rs1 =>
       cases r with
       | Constant v k p1 =>
        cases v with
        | none =>
         cases rs1 with
         | nil =>
          exact bF2 (sE a _ X z G h)
         | _=>exact ff h
        | _=>exact ff h
       | _=>exact ff h
      | _=>exact ff h
     | _=>exact ff h
    | _=>exact ff h
   | _=>exact ff h
  | _=>exact ff h
 | .notN a,E,X,z,G,h=>by
  cases E with
  | Compare l os rs pE =>
   cases os with
   | cons o os1 =>
    cases o with
    | IsNot =>
     cases os1 with
     | nil =>
      cases rs with
      | cons r rs1 =>
       cases r with
       | Constant v k p1 =>
        cases v with
        | none =>
         cases rs1 with
         | nil =>
          exact bm6 (sE a _ X z G h)
         | _=>exact ff h
        | _=>exact ff h
       | _=>exact ff h
      | _=>exact ff h
     | _=>exact ff h
    | _=>exact ff h
   | _=>exact ff h
  | _=>exact ff h
 | .and a b,E,X,z,G,h=>by
  cases E with
  | BoolOp op vs p=>cases op with
   | And =>
    cases vs with
    | nil=>exact ff h
    | cons l vs=>cases vs with
     | nil=>exact ff h
     | cons r vs=>cases vs with
      | nil =>
       obtain⟨Y,J⟩:=zf h
       exact bD8 (sE a _ X z G Y) (sE b _ X z G J)
      | cons r2 vs =>
       obtain⟨Y,J⟩:=zf h
       exact bB3 (sE a _ X z G Y) (sE b _ X z G J)
   | _=>exact ff h
  | _=>exact ff h
 | .or a b,E,X,z,G,h=>by
  cases E with
  | BoolOp op vs p=>cases op with
   | Or =>
    cases vs with
    | nil=>exact ff h
    | cons l vs=>cases vs with
     | nil=>exact ff h
     | cons r vs=>cases vs with
      | nil =>
       obtain⟨Y,J⟩:=zf h
       exact bW1 (sE a _ X z G Y) (sE b _ X z G J)
      | cons r2 vs =>
       obtain⟨Y,J⟩:=zf h
       exact bS3 (sE a _ X z G Y) (sE b _ X z G J)
   | _=>exact ff h
  | _=>exact ff h
 | .ite c a b,E,X,z,G,h=>by
  cases E with
  | IfExp tE l r pE =>
   obtain⟨h,h3⟩:=zf h
   obtain⟨Y,J⟩:=zf h
   exact bx9 (sE c _ X z G Y) (sE a _ X z G J) (sE b _ X z G h3)
  | _=>exact ff h
 | .tup es,E,X,z,G,h=>by
  cases E with
  | Tuple xs k p =>
   obtain⟨Y,J⟩:=zf h
   exact bz0 Y (of_decide_eq_true J) (aq3 (sEs es _ X z G Y))
  | _=>exact ff h
 | .lst es,E,X,z,G,h=>by
  cases E with
  | List xs p =>
   obtain⟨Y,J⟩:=zf h
   exact bB4 Y (of_decide_eq_true J) (aq3 (sEs es _ X z G Y))
  | _=>exact ff h
 | .dic .nil .nil,E,X,z,G,h=>by
  cases E with
  | Dict a b p=>cases a with
   | nil=>cases b with
    | nil=>exact .val (bf0.imp λ W H Q q=>bQ6 (TEv.eq (λ U s=>rfl) q))
    | _=>exact ff h
   | cons x a=>cases x with
    | none=>exact ff h
    | some x=>cases a with
     | nil=>cases b with
      | nil=>exact ff h
      | cons y b=>cases b with
       | nil=>exact ff h
       | _=>exact ff h
     | _=>exact ff h
  | _=>exact ff h
 | .dic (.cons k .nil) (.cons v .nil),E,X,z,G,h=>by
  cases E with
  | Dict a b p=>cases a with
   | nil=>cases b with
    | nil=>exact ff h
    | _=>exact ff h
   | cons x a=>cases x with
    | none=>exact ff h
    | some x=>cases a with
     | nil=>cases b with
      | nil=>exact ff h
      | cons y b=>cases b with
       | nil =>
        obtain⟨Y,J⟩:=zf h
        obtain⟨Y,_⟩:=zf Y
        obtain⟨Y,_⟩:=zf Y
        obtain⟨J,_⟩:=zf J
        obtain⟨J,_⟩:=zf J
        exact .val ((bF3 (bl2 (sE k _ X z G Y).1 (sE v _ X z G J).1 bD7) rfl rfl (by nofun) (by show 1<=15;decide)).imp λ W H Q q=>bN7 (TEv.eq (λ U s=>rfl) q))
       | _=>exact ff h
     | _=>exact ff h
  | _=>exact ff h
 | .dic .nil (.cons _ _),E,X,z,G,h=>aH9 λ _ _=>rfl
 | .dic (.cons _ .nil) .nil,E,X,z,G,h=>aH9 λ _ _=>rfl
 | .dic (.cons _ .nil) (.cons _ (.cons _ _)),E,X,z,G,h=>aH9 λ _ _=>rfl
 | .dic (.cons _ (.cons _ _)) _,E,X,z,G,h=>aH9 λ _ _=>rfl
 | .attr o f,E,X,z,G,h=>by
  cases E with
  | Attribute ob x p =>
   obtain⟨h,h3⟩:=zf h
   obtain⟨Y,J⟩:=zf h
   have e:=of_decide_eq_true Y
   subst e
   exact .val ((bi9 G J (sE o _ X z G h3).1).imp λ W H Q q=>TEv.eq (λ U s=>rfl) q)
  | _=>exact ff h
 | .new c as,E,X,z,G,h=>by
  cases E with
  | Call fE xs kw p =>
   cases fE with
   | Name x pN =>
    cases kw with
    | nil =>
     obtain⟨h,h3⟩:=zf h
     obtain⟨Y,J⟩:=zf h
     have e:=of_decide_eq_true Y
     subst e
     exact bu2 G J h3 (sAs as _ X z G h3)
    | _=>exact ff h
   | _=>exact ff h
  | _=>exact ff h
 | .mcall o m as,E,X,z,G,h=>by
  cases E with
  | Call fE xs kw p =>
   cases fE with
   | Attribute ob x ap =>
    cases kw with
    | nil =>
     cases ob with
     | Name y py =>
      obtain⟨h,h5⟩:=zf h
      obtain⟨h,Z⟩:=zf h
      obtain⟨h,h3⟩:=zf h
      obtain⟨Y,J⟩:=zf h
      have e:=of_decide_eq_true Y
      subst e
      exact aY9 G (sE o _ X z G J).1 h5 h3 (of_decide_eq_true Z) (sAs as _ X z G h5)
     | _=>exact ff h
    | _=>exact ff h
   | _=>exact ff h
  | _=>exact ff h
 | .keysL e,E,X,z,G,h=>by
  cases E with
  | Call fE xs kw p =>
   cases fE with
   | Name x pN =>
    cases xs with
    | cons a ys =>
     cases ys with
     | nil =>
      cases kw with
      | nil =>
       obtain⟨h,Z⟩:=zf h
       obtain⟨h,h3⟩:=zf h
       obtain⟨Y,J⟩:=zf h
       have e1:=of_decide_eq_true Y
       subst e1
       exact .val ((aV9 G J h3 (sE e _ X z G Z).1).imp λ W H Q q=>TEv.eq (λ U s=>rfl) q)
      | _=>exact ff h
     | _=>exact ff h
    | _=>exact ff h
   | _=>exact ff h
  | _=>exact ff h
 | .srt e,E,X,z,G,h=>by
  cases E with
  | Call fE xs kw p =>
   cases fE with
   | Name x pN =>
    cases xs with
    | cons a ys =>
     cases ys with
     | nil =>
      cases kw with
      | nil =>
       obtain⟨h,Z⟩:=zf h
       obtain⟨h,h3⟩:=zf h
       obtain⟨Y,J⟩:=zf h
       have e1:=of_decide_eq_true Y
       subst e1
       exact .val ((bx4 G J h3 (sE e _ X z G Z).1).imp λ W H Q q=>TEv.eq (λ U s=>rfl) q)
      | _=>exact ff h
     | _=>exact ff h
    | _=>exact ff h
   | _=>exact ff h
  | _=>exact ff h
 | .bitl o,E,X,z,G,h=>by
  cases E with
  | Call fE xs kw cp =>
   cases fE with
   | Attribute ob x ap =>
    cases xs with
    | nil =>
     cases kw with
     | nil =>
      obtain⟨h,Z⟩:=zf h
      obtain⟨h,h3⟩:=zf h
      obtain⟨Y,J⟩:=zf h
      have e:=of_decide_eq_true Y
      subst e
      exact ev_bitl' G J h3 (sE o _ X z G Z).1
     | _=>exact ff h
    | _=>exact ff h
   | _=>exact ff h
  | _=>exact ff h
 | .get1 o k,E,X,z,G,h=>by
  cases E with
  | Call fE xs kw cp =>
   cases fE with
   | Attribute ob x ap =>
    cases xs with
    | cons a xs_0 =>
     cases xs_0 with
     | nil =>
      cases kw with
      | nil =>
       obtain⟨h,h7⟩:=zf h
       obtain⟨h,h5⟩:=zf h
       obtain⟨h,Z⟩:=zf h
       obtain⟨h,h3⟩:=zf h
       obtain⟨Y,J⟩:=zf h
       have e:=of_decide_eq_true Y
       subst e
       exact bn6 G J h3 h7 (sE o _ X z G Z).1 (sE k _ X z G h5).1
      | _=>exact ff h
     | _=>exact ff h
    | _=>exact ff h
   | _=>exact ff h
  | _=>exact ff h
 | .ix a b,E,X,z,G,h=>by
  cases E with
  | Subscript o i p =>
   obtain⟨Y,J⟩:=zf h
   exact bO7 G (aG4 J) (sE a _ X z G Y) (sE b _ X z G J)
  | _=>exact ff h
 | .slL a lo,E,X,z,G,h=>by
  cases E with
  | Subscript o i p =>
   cases i with
   | Slice lo hi st p2 =>
    cases lo with
    | some l =>
     cases hi with
     | none =>
      cases st with
      | none =>
       obtain⟨Y,J⟩:=zf h
       exact bH0 G (sE a _ X z G Y) (sE lo _ X z G J)
      | _=>exact ff h
     | _=>exact ff h
    | _=>exact ff h
   | _=>exact ff h
  | _=>exact ff h
 | .slU a hi,E,X,z,G,h=>by
  cases E with
  | Subscript o i p =>
   cases i with
   | Slice lo hi st p2 =>
    cases lo with
    | none =>
     cases hi with
     | some l =>
      cases st with
      | none =>
       obtain⟨Y,J⟩:=zf h
       exact bD5 G (sE a _ X z G Y) (sE hi _ X z G J)
      | _=>exact ff h
     | _=>exact ff h
    | _=>exact ff h
   | _=>exact ff h
  | _=>exact ff h
 | .slLU a lo hi,E,X,z,G,h=>by
  cases E with
  | Subscript o i p =>
   cases i with
   | Slice lo hi st p2 =>
    cases lo with
    | some l =>
     cases hi with
     | some l2 =>
      cases st with
      | none =>
       obtain⟨h,h3⟩:=zf h
       obtain⟨Y,J⟩:=zf h
       exact bl0 G (sE a _ X z G Y) (sE lo _ X z G J) (sE hi _ X z G h3)
      | _=>exact ff h
     | _=>exact ff h
    | _=>exact ff h
   | _=>exact ff h
  | _=>exact ff h
 | .call f as,E,X,z,G,h=>by
  cases E with
  | Call fE xs kw p =>
   cases fE with
   | Name x pN =>
    cases kw with
    | nil =>
     obtain⟨h,h3⟩:=zf h
     obtain⟨Y,J⟩:=zf h
     have e:=of_decide_eq_true Y
     subst e
     exact bl6 G J h3 (sAs as _ X z G h3)
    | _=>exact ff h
   | _=>exact ff h
  | _=>exact ff h
 | .bi b es,E,X,z,G,h=>by
  cases E with
  | Call fE xs kw p =>
   cases fE with
   | Name x pN =>
    cases kw with
    | nil =>
     have h:bY9 z b x xs (mEs z es xs) (mEs z es (xs.take 1))=true:=h
     rcases biOk_inv h with⟨k,t,a,y,py,hk,rfl,rfl,rfl,J,Z,h5⟩|⟨a,ys,rfl,Y,J,h3⟩
     .exact bB1 G hk J Z (sEs es _ X z G h5)
     .exact bT0 G Y J h3 (aq3 (sEs es _ X z G h3))
    | _=>exact ff h
   | _=>exact ff h
  | _=>exact ff h
 | .mk k l,E,X,z,G,h=>by
  cases E with
  | ListComp e gs sc p =>
   obtain⟨Y,J⟩:=zf h
   have e:=of_decide_eq_true Y
   subst e
   exact .val (((bQ5 (sL l _ X z G 0 J)).pe G.calm).imp λ W H Q q=>aS1 (TEv.eq (λ U s=>rfl) q))
  | Call fE xs kw p =>
   cases fE with
   | Name x pN =>
    cases xs with
    | cons a xs_0 =>
     cases xs_0 with
     | nil =>
      cases kw with
      | nil =>
       obtain⟨h,Z⟩:=zf h
       obtain⟨J,h3⟩:=zf h
       rw[bn]at Z
       rcases Z with Z|Z
       .obtain⟨h5,h6⟩:=zf Z
        exact .val ((bK8 G (of_decide_eq_true h5) J h3 (cb1 G (sL l _ X z G 2 h6))).imp λ W H Q q=>TEv.eq (λ U s=>rfl) q)
       .obtain⟨h5,h6⟩:=zf Z
        exact .val ((bT9 G (of_decide_eq_true h5) J h3 (cb7 G (sL l _ X z G 1 h6))).imp λ W H Q q=>TEv.eq (λ U s=>rfl) q)
      | _=>exact ff h
     | _=>exact ff h
    | _=>exact ff h
   | _=>exact ff h
  | _=>exact ff h
 | .meth m o es,E,X,z,G,h=>by
  cases E with
  | Call fE xs kw p =>
   cases fE with
   | Attribute ob x ap =>
    cases kw with
    | nil =>
     obtain⟨h,h5⟩:=zf h
     obtain⟨h,Z⟩:=zf h
     obtain⟨h,h3⟩:=zf h
     obtain⟨Y,J⟩:=zf h
     exact bi2 G (of_decide_eq_true Y) J h3 (sE o _ X z G Z).1 h5 (sEs es _ X z G h5)
    | _=>exact ff h
   | _=>exact ff h
  | _=>exact ff h
 | .join o e',E,X,z,G,h=>by
  cases E with
  | Call fE xs kw p =>
   cases fE with
   | Attribute ob x ap =>
    cases xs with
    | cons a xs_0 =>
     cases xs_0 with
     | nil =>
      cases kw with
      | nil =>
       obtain⟨h,h6⟩:=zf h
       obtain⟨h,h5⟩:=zf h
       obtain⟨h,Z⟩:=zf h
       obtain⟨h,h3⟩:=zf h
       obtain⟨Y,J⟩:=zf h
       have e:=of_decide_eq_true Y
       subst e
       exact .val ((by5 G J h3 (sE o _ X z G Z).1 h6 (sE e' _ X z G h5).1).imp λ W H Q q=>TEv.eq (λ U s=>rfl) q)
      | _=>exact ff h
     | _=>exact ff h
    | _=>exact ff h
   | _=>exact ff h
  | _=>exact ff h
theorem sEs:∀(es:kX) (z:yK) (X:Cx) (J:Ck),CG Γ F n X J->mEs J es z=true->PEs Γ F X es z
 | .nil,z,X,J,G,h=>by
  cases z with
  | nil =>
   exact trivial
  | _=>exact ff h
 | .cons e es,z,X,J,G,h=>by
  cases z with
  | cons x z =>
   obtain⟨h,h3⟩:=zf h
   obtain⟨Y,Z⟩:=zf h
   exact⟨⟨Z,sE e _ X J G Y⟩,sEs es _ X J G h3⟩
  | _=>exact ff h
theorem sFs:∀(es:kX) (J:yK) (X:Cx) (z:Ck),CG Γ F n X z->mFs z es J=true->PF Γ X J (k6 F es)
 | .nil,J,X,z,G,h=>by
  cases J with
  | nil=>exact(bQ2).eq λ _ _=>rfl
  | _=>exact ff h
 | .cons e es,J,X,z,G,h=>by
  cases J with
  | cons x J =>
   cases x with
   | FormattedValue v c sp p =>
    cases sp with
    | none =>
     obtain⟨h,h3⟩:=zf h
     obtain⟨Y,Z⟩:=zf h
     have e1:=of_decide_eq_true Y
     subst e1
     exact(bO3 (sE e _ X z G Z).1 (sFs es _ X z G h3)).eq λ _ _=>rfl
    | _=>exact ff h
   | Constant v j p =>
    obtain⟨Y,Z⟩:=zf h
    exact(bQ7 (sE e _ X z G Y).1 (sFs es _ X z G Z)).eq λ _ _=>rfl
   | _=>exact ff h
  | _=>exact ff h
theorem sAs:∀(es:lF) (z:yK) (X:Cx) (J:Ck),CG Γ F n X J->mAs J es z=true->PA X z (TAv Γ (lj F es))
 | .nil,z,X,J,G,h=>by
  cases z with
  | nil =>
   exact ad4.imp λ W H Q q=>ar4 (TAv.eq (λ U s=>rfl) q)
  | _=>exact ff h
 | .ex e es,z,X,J,G,h=>by
  cases z with
  | cons x z =>
   obtain⟨h,h3⟩:=zf h
   obtain⟨Y,Z⟩:=zf h
   exact(aJ4 Z (sE e _ X J G Y).1 (sAs es _ X J G h3)).imp λ W H Q q=>TAv.eq (λ U s=>rfl) q
  | _=>exact ff h
 | .fn _ _,z,X,J,G,h=>ff h
theorem cm0:∀(es:lF) (z:yK) (X:Cx) (J:Ck),CG Γ F n X J->ci2 J es z=true->PA X z (TAp Γ X.env.cells X.N (lj F es))
 | .nil,z,X,J,G,h=>by
  cases z with
  | nil =>
   exact ad4.imp λ W H Q q=>bz9 (TAp.eq (λ U s=>rfl) q)
  | _=>exact ff h
 | .ex e es,z,X,J,G,h=>by
  cases z with
  | cons x z =>
   obtain⟨h,h3⟩:=zf h
   obtain⟨Y,Z⟩:=zf h
   exact(zx (sE e _ X J G Y).1 (cm0 es _ X J G h3) (zb Z)).imp λ W H Q q=>bV7 (TAp.eq (λ U s=>rfl) q)
  | _=>exact ff h
 | .fn _ _,z,X,J,G,h=>ff h
theorem sI:∀(i:DV.I) (E tg:Expr) (X:Cx) (z:Ck),CG Γ F n X z->mI z tg i E=true->PI X tg E (TIv Γ (lR F i))
 | .seq e,E,tg,X,z,G,h=>by
  obtain⟨J,Y⟩:=zf h
  exact bu4 G (sE e _ X z G J).1
 | .keys e,E,tg,X,z,G,h=>by
  obtain⟨J,Y⟩:=zf h
  exact(bH7 (sE e _ X z G J).1).imp λ W H R q=>bE5 (TIv.eq (λ U s=>rfl) q)
 | .rng1 a,E,tg,X,z,G,h=>by
  cases E with
  | Call fE xs kw p =>
   cases fE with
   | Name x pN =>
    cases xs with
    | cons l xs_0 =>
     cases xs_0 with
     | nil =>
      cases kw with
      | nil =>
       obtain⟨h,Z⟩:=zf h
       obtain⟨h,h3⟩:=zf h
       obtain⟨J,Y⟩:=zf h
       have e:=of_decide_eq_true J
       subst e
       exact bn0 G Y Z (sE a _ X z G h3).1
      | _=>exact ff h
     | _=>exact ff h
    | _=>exact ff h
   | _=>exact ff h
  | _=>exact ff h
 | .rng2 a b,E,tg,X,z,G,h=>by
  cases E with
  | Call fE xs kw p =>
   cases fE with
   | Name x pN =>
    cases xs with
    | cons l xs_0 =>
     cases xs_0 with
     | cons r xs_1 =>
      cases xs_1 with
      | nil =>
       cases kw with
       | nil =>
        obtain⟨h,h6⟩:=zf h
        obtain⟨h,h5⟩:=zf h
        obtain⟨h,Z⟩:=zf h
        obtain⟨h,h3⟩:=zf h
        obtain⟨J,Y⟩:=zf h
        have e:=of_decide_eq_true J
        subst e
        exact bo1 G Y Z h6 (sE a _ X z G h3).1 (sE b _ X z G h5).1
       | _=>exact ff h
      | _=>exact ff h
     | _=>exact ff h
    | _=>exact ff h
   | _=>exact ff h
  | _=>exact ff h
 | .rngD a,E,tg,X,z,G,h=>by
  cases E with
  | Call fE xs kw p =>
   cases fE with
   | Name x pN =>
    cases xs with
    | cons l xs1 =>
     cases xs1 with
     | cons r xs2 =>
      cases r with
      | UnaryOp o1 c1 p1 =>
       cases o1 with
       | USub =>
        cases c1 with
        | Constant v k1 p2 =>
         cases xs2 with
         | cons cc xs3 =>
          cases cc with
          | UnaryOp o2 c2 p3 =>
           cases o2 with
           | USub =>
            cases c2 with
            | Constant u k2 p4 =>
             cases xs3 with
             | nil =>
              cases kw with
              | nil =>
               obtain⟨h,h6⟩:=zf h
               obtain⟨h,h5⟩:=zf h
               obtain⟨h,Z⟩:=zf h
               obtain⟨h,h3⟩:=zf h
               obtain⟨J,Y⟩:=zf h
               have e:=of_decide_eq_true J
               have e2:=of_decide_eq_true h5
               have e3:=of_decide_eq_true h6
               subst e e2 e3
               exact be7 G Y Z (sE a _ X z G h3).1
              | _=>exact ff h
             | _=>exact ff h
            | _=>exact ff h
           | _=>exact ff h
          | _=>exact ff h
         | _=>exact ff h
        | _=>exact ff h
       | _=>exact ff h
      | _=>exact ff h
     | _=>exact ff h
    | _=>exact ff h
   | _=>exact ff h
  | _=>exact ff h
theorem sL:∀(l:DV.L) (E:Expr) (X:Cx) (Y:Ck),CG Γ F n X Y->∀ k,mL Y k l E=true->LK Γ X (DV.evL F l) E k
 | .comp tg it e caps,E,X,Y,G,k,h=>by
  cases E with
  | ListComp elt gs scope p =>
   cases gs with
   | cons g gs1 =>
    cases g with
    | mk tgt iter ifs z =>
     cases ifs with
     | nil =>
      cases gs1 with
      | nil =>
       obtain⟨h,h3⟩:=zf h
       obtain⟨h,Z⟩:=zf h
       obtain⟨h0,J⟩:=zf h
       have e0:=of_decide_eq_true h0
       subst e0
       have c:=bo6 (pos:=p) G J (sI it _ _ X Y G Z) λ Cc cells s H ex=>(sE e _ _ _ ((G.comp J).2.2 Cc cells s H ex).1 h3).1
       exact .c (c.eq λ U s=>rfl)
      | _=>exact ff h
     | _=>exact ff h
   | _=>exact ff h
  | _=>exact ff h
 | .compIf tg it i e caps,E,X,Y,G,k,h=>by
  cases E with
  | ListComp elt gs scope p =>
   cases gs with
   | cons g gs1 =>
    cases g with
    | mk tgt iter ifs z =>
     cases ifs with
     | cons i1 ifs1 =>
      cases ifs1 with
      | nil =>
       cases gs1 with
       | nil =>
        obtain⟨h,h4⟩:=zf h
        obtain⟨h,h3⟩:=zf h
        obtain⟨h,Z⟩:=zf h
        obtain⟨h0,J⟩:=zf h
        have e0:=of_decide_eq_true h0
        subst e0
        have c:=bC7 (pos:=p) G J (sI it _ _ X Y G Z) (λ Cc cells s H ex=>(sE i _ _ _ ((G.comp J).2.2 Cc cells s H ex).1 h3).2) λ Cc cells s H ex=>(sE e _ _ _ ((G.comp J).2.2 Cc cells s H ex).1 h4).1
        exact .c (c.eq λ U s=>rfl)
       | _=>exact ff h
      | _=>exact ff h
     | _=>exact ff h
   | _=>exact ff h
  | _=>exact ff h
 | .disp es,E,X,Y,G,k,h=>by
  cases E with
  | List xs p =>
   obtain⟨h,Z⟩:=zf h
   obtain⟨h0,J⟩:=zf h
   exact .f (of_decide_eq_true h0) (bF6 J (of_decide_eq_true Z) (aq3 (sEs es _ X Y G J)))
  | _=>exact ff h
 | .seq e,E,X,Y,G,k,h=>by
  obtain⟨h0,J⟩:=zf h
  exact .s (of_decide_eq_true h0) ((sE e _ X Y G J).1.imp λ W H Q q=>bT6 (TLv.eq (λ U s=>rfl) q))
end
end
section
variable {Γ:Gm} {F:kN} {n:Nat}
theorem bf1 {X:Cx}{ck:Ck}{m:kD->kB->kG (List kC)}{E:Expr}{x:Str}{i:Nat}{px pos:Pos}(G:CG Γ F n X ck)(c:CompF Γ X m E)(hi:ck.N[i]?=some x)(hl:ck.loc x=true) :
  PS X (.Assign [.Name x px] E pos) (bm4 (TFv Γ m) (ax6 i)):=by
 obtain⟨Z,Y,iter,a0,scope,p2,N',h,wi,g,tc,te,rfl,h1,h2,h3,h4,h5⟩:=c.ex
 obtain⟨l1,l2⟩:=G.loc hl
 have nd:X.N.Nodup:=by rw[G.N];exact G.nd
 have z:X.N[i]?=some x:=by rw[G.N];exact hi
 generalize hb:((X.env.blockKind==.function&&X.env.kindOf x==some .local&&px.line==(Expr.ListComp Z [⟨Y,iter,a0,0⟩] scope p2).pos.line&&!(scope.names.any λ(n,k)=>n==x&&(k==.local||k==.cell))))=b
 have J:dZ (.ListComp Z [⟨Y,iter,a0,0⟩] scope p2) (some (.Name x px)) pos.line X.env=pure b:=by rw[<-hb];rfl
 have imp:∀ D W H,bm4 (TFv Γ m) (ax6 i) D W H->bm4 (tComp h wi g tc te) (ax6 i) D W H:=λ D W H q=>h5 _ _ _ q
 cases b with
 | true =>
  have a1:X.env.scope.names.lookup x=some .local:=by
   simp only[ak]at hb
   exact eq_of_beq hb.1.1.2
  exact(aP6 N' h nd z a1 h1 h2 G.calm h3 h4 J).imp imp
 | false=>exact(bt6 nd z l1 (bc3 N' h h1 h2 G.calm h3 h4) J l2).imp imp
theorem bE8 {X:Cx}{z:Ck}{e:lx}{v:Expr}{x:Str}{i:Nat}{px pos:Pos}(G:CG Γ F n X z)(Y:z.N[i]?=some x)(hl:z.loc x=true)(h:mE z e v=true) :
  PS X (.Assign [.Name x px] v pos) (TSv Γ (DV.ex F (.asg (.one i) e))):=by
 obtain⟨l1,l2⟩:=G.loc hl
 have nd:X.N.Nodup:=by rw[G.N];exact G.nd
 have J:X.N[i]?=some x:=by rw[G.N];exact Y
 by_cases hc:ao2 v=true
 .exact(bt6 nd J l1 (sE e v X z G h).1 (am2 hc) l2).imp λ D W H q=>aT9 (tg:=.one i) (TSv.eq (λ U s=>rfl) q)
 .have hs:=aG4 h
  cases v with
  | ListComp elt gs sc p =>
   cases e with
   | mk k l =>
    obtain⟨Z,h2⟩:=zf h
    have e:=of_decide_eq_true Z
    subst e
    exact(bf1 G (bQ5 (sL l _ X z G 0 h2)) Y hl).imp λ D W H q=>bh2 (tg:=.one i) (TSv.eq (λ U s=>rfl) q)
   | _=>exact ff h
  | SetComp _ _ _ _=>cases hs
  | DictComp _ _ _ _ _=>cases hs
  | _=>exact absurd rfl hc
mutual
theorem sS:∀(st:DV.S) (S:Stmt) (X:Cx) (z:Ck),CG Γ F n X z->mS z st S=true->PS X S (TSv Γ (DV.ex F st))
 | .asg tg e,S,X,z,G,h=>by
  cases S with
  | Assign ts v p =>
   cases ts with
   | cons t ts1 =>
    cases ts1 with
    | nil =>
     obtain⟨h,h3⟩:=zf h
     obtain⟨Y,J⟩:=zf h
     cases tg with
     | one i =>
      have h:=Y
      cases t with
      | Name x px =>
       obtain⟨a1,a2⟩:=zf h
       exact bE8 G (of_decide_eq_true a1) a2 J
      | _=>exact ff h
     | tup is =>
      obtain⟨a1,a2⟩:=zf h3
      have h:=Y
      cases t with
      | Tuple te tk tp=>exact(bt2 (sE e _ X z G J).1 (bj4 G Y) (show dZ v (some (.Tuple te tk tp)) p.line X.env=pure false from am2 a2) (aM8 a1) rfl).imp λ D W H q=>aT9 (TSv.eq (λ U s=>rfl) q)
      | _=>exact ff h
    | _=>exact ff h
   | _=>exact ff h
  | _=>exact ff h
 | .setIx o i e,S,X,z,G,h=>by
  cases S with
  | Assign ts v p2 =>
   cases ts with
   | cons tt ts1 =>
    cases tt with
    | Subscript ob ix p1 =>
     cases ts1 with
     | nil =>
      obtain⟨h,Z⟩:=zf h
      obtain⟨h,h3⟩:=zf h
      obtain⟨Y,J⟩:=zf h
      have a0:=aG4 J
      refine(bt2 (sE e _ X z G h3).1 (bP7 (sE o _ X z G Y).1 (sE i _ X z G J).1 (bU7 (ax2 G.room)) ?_) (show dZ v (some (.Subscript ob ix p1)) p2.line X.env=pure false from am2 Z) aM9 ?_).imp λ D W H q=>bf3 (TSv.eq (λ U s=>rfl) q)
      .intro w
       cases ix<;>first|rfl|cases a0
      .rfl
     | _=>exact ff h
    | _=>exact ff h
   | _=>exact ff h
  | _=>exact ff h
 | .ex e,S,X,z,G,h=>by
  cases S with
  | Expr v p =>
   obtain⟨Y,J⟩:=zf h
   exact(bB2 (sE e _ X z G Y).1 (am2 J)).imp λ D W H q=>by3 (TSv.eq (λ U s=>rfl) q)
  | _=>exact ff h
 | .ret e,S,X,z,G,h=>by
  cases S with
  | Return vo p =>
   cases vo with
   | some v =>
    exact(bU1 (sE e _ X z G h).1).imp λ D W H q=>bW3 (TSv.eq (λ U s=>rfl) q)
   | _=>exact ff h
  | _=>exact ff h
 | .ite c a b,S,X,z,G,h=>by
  cases S with
  | If t l r p =>
   obtain⟨h,h3⟩:=zf h
   obtain⟨Y,J⟩:=zf h
   exact(cd9 (sE c _ X z G Y).2 (sSs a _ X z G J) (sSs b _ X z G h3)).imp λ D W H q=>ca7 (TSv.eq (λ U s=>rfl) q)
  | _=>exact ff h
 | .whl c b,S,X,z,G,h=>by
  cases S with
  | While t l o p =>
   cases o with
   | nil =>
    obtain⟨Y,J⟩:=zf h
    exact(be8 (by rw[G.xe];exact gj) (sE c _ X z G Y).2 (sSs b _ X z G J)).imp λ D W H q=>bp4 (TSv.eq (λ U s=>rfl) q)
   | _=>exact ff h
  | _=>exact ff h
 | .for_ tg it b,S,X,z,G,h=>by
  cases S with
  | For tgt iter l o p =>
   cases o with
   | nil =>
    obtain⟨h,h3⟩:=zf h
    obtain⟨Y,J⟩:=zf h
    exact(br1 (by rw[G.xe];exact gj) G.calm (sI it _ _ X z G J) (bj4 G Y) (sSs b _ X z G h3) (ar7 (bX5 J))).imp λ D W H q=>bs3 (TSv.eq (λ U s=>rfl) q)
   | _=>exact ff h
  | _=>exact ff h
 | .setA o f e,S,X,z,G,h=>by
  cases S with
  | Assign ts v p =>
   cases ts with
   | cons t0 ts =>
    cases t0 with
    | Attribute ob x ap =>
     cases ts with
     | nil =>
      obtain⟨h,Z⟩:=zf h
      obtain⟨h,h3⟩:=zf h
      obtain⟨Y,J⟩:=zf h
      have e1:=of_decide_eq_true Y
      subst e1
      exact(bm2 G (sE o _ X z G J).1 (sE e _ X z G h3).1 Z).imp λ D W H q=>TSv.eq (λ U s=>rfl) q
     | _=>exact ff h
    | _=>exact ff h
   | _=>exact ff h
  | _=>exact ff h
 | .forK tg e b,S,X,z,G,h=>by
  cases S with
  | For tgt iter l o p =>
   cases o with
   | nil =>
    obtain⟨h,h3⟩:=zf h
    obtain⟨Y,J⟩:=zf h
    exact(bG9 (br1 (by rw[G.xe];exact gj) G.calm (sI (.keys e) _ _ X z G J) (bj4 G Y) (sSs b _ X z G h3) (ar7 (zf J).2))).imp λ D W H q=>bF8 (TSv.eq (λ U s=>rfl) q)
   | _=>exact ff h
  | _=>exact ff h
theorem sSs:∀(st:DV.Ss) (S:yL) (X:Cx) (z:Ck),CG Γ F n X z->mSs z st S=true->PSs X S (TSv Γ (DV.exs F st))
 | .nil,S,X,z,G,h=>by
  cases S with
  | nil =>
   exact bH1.imp λ D W H q=>bF9 (m:=DV.exs F .nil) (λ U s=>rfl) q
  | _=>exact ff h
 | .cons s ss,S,X,z,G,h=>by
  cases S with
  | cons x xs =>
   obtain⟨J,Y⟩:=zf h
   exact(bp3 (sS s _ X z G J) (sSs ss _ X z G Y)).imp λ D W H q=>bN0 (TSv.eq (λ U s=>rfl) q)
  | _=>exact ff h
end
end
noncomputable def ci3 (ck:Ck):List String->List Expr->Bool
 | [],xs=>match xs with|[]=>true|_=>false
 | c::cs,xs=>match xs with|.Name x _::es=>decide (x=(c:Str))&&ck.gl x&&ci3 ck cs es|_=>false
noncomputable def mHT (ck:Ck)(n:Str):DV.HT->Expr->Bool
 | .isi cs,E=>match E with|.Call (.Name g _) [.Name x _,.Tuple es _ _] [] _=>decide (g=("isinstance":Str))&&ck.gl g&&decide (x=n)&&ci3 ck cs es&&decide (cs.length<=1000)|_=>false
 | .one c,E=>match E with|.Call (.Name g _) [.Name x _,.Name d _] [] _=>decide (g=("isinstance":Str))&&ck.gl g&&decide (x=n)&&decide (d=(c:Str))&&ck.gl d|_=>false
 | .not t,E=>match E with|.UnaryOp .Not e _=>mHT ck n t e|_=>false
 | .ve,E=>match E with|.Call (.Name g _) [.Name x _,.Name d _] [] _=>decide (g=("isinstance":Str))&&ck.gl g&&decide (x=n)&&decide (d=("ValueError":Str))&&ck.gl d|_=>false
 | .or a b,E=>match E with|.BoolOp .Or [x,y] _=>mHT ck n a x&&mHT ck n b y|_=>false
noncomputable def mHd (ck:Ck)(n:Str):DV.Hd->List Stmt->Bool
 | .ret t,S=>match S with|[.Return (some e) _]=>mHT ck n t e|_=>false
 | .iff t b h,S=>match S with|.If e [.Return (some (.Constant (.bool b') _ _)) _] [] _::rest=>mHT ck n t e&&decide (b'=b)&&mHd ck n h rest|_=>false
 | .nob _,_=>false
 | .noe,_=>false
 | .iffN t h,S=>match S with|.If e [.Return (some (.Constant .none _ _)) _] [] _::rest=>mHT ck n t e&&mHd ck n h rest|_=>false
 | .aoN a b,S=>match S with|[.Return (some (.BoolOp .Or [.BoolOp .And [x,y] _,.Constant .none _ _] _)) _]=>mHT ck n a x&&mHT ck n b y|_=>false
 | .sup _ h,S=>mHd ck n h S
 | .kin _ _,_=>false
section
variable {Γ:Gm} {F:kN} {n:Nat} {X:Cx} {ck:Ck} {a Cc:Addr} {oe:Obj}
end
noncomputable def cf3 (ck:Ck)(nm:Str):List String->List Expr->Bool
 | [],es=>match es with|[]=>true|_=>false
 | c::cs,es=>match es with|e::es=>mHT ck nm (.one c) e&&cf3 ck nm cs es|_=>false
noncomputable def bT2:List (List Nat)->List Expr->Bool
 | [],es=>match es with|[]=>true|_=>false
 | t::ts,es=>match es with|.Constant (.str y) _ _::es=>decide (y=⟨t.toArray⟩)&&bT2 ts es|_=>false
noncomputable def ck7 (ck:Ck)(nm ks:Str)(e1 e4:Expr)(y1 y5 m4 m5 m6:Str)(es2 es3 es6:yK)(l4 l5 l6:Bool):Bool :=
 (ck.sc.names.lookup nm==some .local)&&((ck.sc.names.lookup ks==some .local)&&(!(nm==("__debug__":Str))&&(!(nm==("__classdict__":Str))&&(!(ks==("__debug__":Str))&&(!(ks==("__classdict__":Str))&&(mHT ck nm (.not .ve) e1&&(decide (y1=⟨DV.ar6.toArray⟩)&&(decide (y5=⟨DV.ar6.toArray⟩)&&(decide (m4=("append":Str))&&(decide (m5=("count":Str))&&(decide (m6=("index":Str))&&(l4&&(l5&&(l6&&(cf3 ck nm (DV.aG5.take 4) es2&&(cf3 ck nm ((DV.aG5.drop 4).take 4) es3&&(mHT ck nm (.one "NoName") e4&&bT2 DV.bq3 es6)))))))))))))))))
def cg1 (ck:Ck)(S:yL):Prop:=∃(nm ks:Str) (e1 e4:Expr) (y1 y5 m4 m5 m6:Str) (es2 es3 es6:yK) (j1 j5 i5 k5 j6:Nat) (p1 q1 r1 a2 b2 c2 a3 b3 c3 d3 f3 a4 ap4 cp4 p4 a5 ap5 pj5 cp5 pi5 pc5 pk5 q5 p5 pl6 a6 ap6 pj6 cp6 ps6 p6:Pos),
 S=[.If e1 [.Return (some (.Constant (.str y1) j1 p1)) q1] [] r1,.Assign [.Name ks a2] (.List es2 b2) c2,.Assign [.Name ks a3] (.BinOp (.Name ks b3) .Add (.List es3 c3) d3) f3,.Expr (.Call (.Attribute (.Name ks a4) m4 ap4) [e4] [] cp4) p4,
  .If (.Compare (.Call (.Attribute (.Name ks a5) m5 ap5) [.Constant (.bool true) j5 pj5] [] cp5) [.NotEq] [.Constant (.int 1) i5 pi5] pc5) [.Return (some (.Constant (.str y5) k5 pk5)) q5] [] p5,.Return (some (.Subscript (.List es6 pl6) (.Call (.Attribute (.Name ks a6) m6 ap6) [.Constant (.bool true) j6 pj6] [] cp6) ps6)) p6]/\ck.N=[nm,ks] /\
 ck7 ck nm ks e1 e4 y1 y5 m4 m5 m6 es2 es3 es6 (ap4.endLine==cp4.line) (ap5.endLine==cp5.line) (ap6.endLine==cp6.line)=true
noncomputable def mX (ck:Ck):DV.XB->List Stmt->Bool
 | .no,_=>true
 | .kind,S=>@decide (cg1 ck S) (dL _)
 | .alt a b,S=>mX ck a S&&mX ck b S
 | .rais c,S=>match S with|.Raise (some (.Call (.Name x _) [.Constant (.str _) _ _] [] _)) none _::_=>decide (x=(c:Str))&&ck.gl x|_=>false
 | .call f as,S=>match S with
  | .Return (some (.Call (.Name x _) (e::es) [] _)) _::_=>decide (x=(f:Str))&&ck.gl x&&mAs ck as (e::es)
  | .Expr (.Call (.Name x _) (e::es) [] _) _::_=>decide (x=(f:Str))&&ck.gl x&&mAs ck as (e::es)
  | .Return (some (.List [.Call (.Name x _) (e::es) [] _] _)) _::_=>decide (x=(f:Str))&&ck.gl x&&mAs ck as (e::es)
  | .Assign [.Name _ _] (.Call (.Name x _) (e::es) [] _) _::_=>decide (x=(f:Str))&&ck.gl x&&mAs ck as (e::es)
  | .Assign [.Name _ _] (.Subscript (.Call (.Name x _) (e::es) [] _) ix _) _::_=>decide (x=(f:Str))&&ck.gl x&&mAs ck as (e::es)&&shp ix
  | _=>false
 | .iteT c a r,S=>match S with|.If t l [] _::rest=>mE ck c t&&mX ck a l&&mX ck r rest|_=>false
 | .iteE c a r,S=>match S with|.If t l o _::_=>mE ck c t&&mX ck a l&&mX ck r o|_=>false
 | .seq s b,S=>match S with|x::rest=>mS ck s x&&mX ck b rest|_=>false
 | .forX tg it b x,S=>match S with|.For tgt iter l [] _::_=>mTg ck tg tgt&&mI ck tgt it iter&&mSs ck b l&&mX ck x l|_=>false
 | .whlX c b x,S=>match S with|.While t l [] _::_=>mE ck c t&&mSs ck b l&&mX ck x l|_=>false
noncomputable def noL:DV.XB->Bool
 | .alt a b=>noL a&&noL b
 | .iteT _ a r=>noL a&&noL r
 | .iteE _ a r=>noL a&&noL r
 | .seq _ b=>noL b
 | .forX _ _ _ _=>false
 | .whlX _ _ _=>false
 | _=>true
noncomputable def noR:DV.XB->Bool
 | .alt a b=>noR a&&noR b
 | .rais _=>false
 | .iteT _ a r=>noR a&&noR r
 | .iteE _ a r=>noR a&&noR r
 | .seq _ b=>noR b
 | .forX _ _ _ x=>noR x
 | .whlX _ _ x=>noR x
 | _=>true
section
variable {Γ:Gm} {F:kN} {n:Nat} {X:Cx} {ck:Ck} {a Cc:Addr} {oe:Obj}
noncomputable def mHn (h:DV.Hd)(S:yL):Bool:=match h with
 | .nob b=>(match S with|[.Return (some (.Constant (.bool b') _ _)) _]=>decide (b'=b)|_=>false)
 | .noe=>(match S with|[.Return (some (.List [] _)) _]=>true|_=>false)
 | _=>false
end
section
variable {F:kN} {X:Cx} {ck:Ck} {a Cc:Addr} {oe:Obj}
end
section
variable {Γ:Gm}
theorem aE0 {C C1:Nat->Addr}{H z:Hp}{s s1:kB}(R:Rp Γ C H s)(g:Gr C s H C1 s1 z)(ho:DV.qC s s1=true){i:Nat}{o:kY}(F:i<s.length)(e:s1[i]?=some o):o.bnd s.length=true:=by
 unfold DV.qC at ho
 have:=aL.mp ho i (br.mpr F)
 rw[e,bn]at this
 rcases this with h|h
 .exact R.wf i o (of_decide_eq_true h).symm
 .exact h
theorem qj {s1:kB}{k i:Nat}{o:kY}(e:(s1.take k)[i]?=some o):i<k/\s1[i]?=some o:=by
 rw[fe]at e
 split at e
 .exact⟨‹_›,e⟩
 .cases e
theorem aN8 {C C1:Nat->Addr}{H h:Hp}{s s1:kB}(R:Rp Γ C H s)(g:Gr C s H C1 s1 h)(R1:Rp Γ C1 h s1)(ho:DV.qC s s1=true):Gr C s H C1 (s1.take s.length) h/\Rp Γ C1 h (s1.take s.length):=by
 have hl:(s1.take s.length).length=s.length:=by rw[bB];have:=g.le;lia
 refine⟨⟨g.w,by rw[hl];exact ah _,λ i J G=>by rw[hl]at G;lia,λ i o F e e'=>g.kd i o F e (qj e').2,g.st,g.fz,g.fr⟩,λ i j o F e e' m m' z=>R1.inj i j o F (qj e).2 (qj e').2 m m' z,λ i o e=>R1.obj i o (qj e).2,λ i o e=>?_,R1.tab⟩
 rw[hl]
 exact aE0 R g ho (qj e).1 (qj e).2
theorem aH3 {C C1:Nat->Addr}{H J:Hp}{s s1 s':kB}{v0 d:kC}{v:V}(R:Rp Γ C H s)(g:Gr C s H C1 s1 J)(R1:Rp Γ C1 J s1)(hb:v0.bnd s1.length=true)(r:RV Γ C1 J v0 v)(h:DV.zm s v0 s1=.ok d s') :
  ∃ C',Gr C s H C' s' J/\s.length<=s'.length/\d.bnd s'.length=true/\RV Γ C' J d v/\Rp Γ C' J s':=by
 have all:d=v0->s'=s1->∃ C',Gr C s H C' s' J/\s.length<=s'.length/\d.bnd s'.length=true/\RV Γ C' J d v/\Rp Γ C' J s':=λ e1 e2=>by
  subst e1;subst e2
  exact⟨C1,g,g.le,hb,r,R1⟩
 unfold DV.zm at h
 split at h
 case isFalse=>cases h;exact all rfl rfl
 rename_i ho
 obtain⟨gt,Rt⟩:=aN8 R g R1 ho
 have hl:(s1.take s.length).length=s.length:=by rw[bB];have:=g.le;omega
 have tk:d=v0->s'=s1.take s.length->v0.bnd s.length=true->∃ C',Gr C s H C' s' J/\s.length<=s'.length/\d.bnd s'.length=true/\RV Γ C' J d v/\Rp Γ C' J s':=λ e1 e2 b=>by
  subst e1;subst e2
  exact⟨C1,gt,by rw[hl];exact ah _,by rw[hl];exact b,r,Rt⟩
 split at h
 .rename_i k
  split at h
  .cases h
   exact tk rfl rfl (by unfold kI;exact decide_eq_true ‹_›)
  .rename_i hk
   split at h
   .rename_i o Z
    split at h
    .rename_i Y
     cases h
     have gw:Gw C1 s.length J (λ i=>if i=s.length then C1 k else C1 i) J:=⟨λ i z=>if_neg (aC z),Kp.refl _⟩
     have key:∀(i:Nat) (G:kY),(s1.take s.length++[o])[i]?=some G->(i<s.length/\s1[i]?=some G)\/(i=s.length/\G=o):=λ i G e=>by
      rcases c9 i s.length with h|h|h
      .rw[au (by rw[hl];exact h)]at e;exact .inl (qj e)
      .subst h
       rw[aI (by rw[hl];exact ah _),hl,eV]at e
       exact .inr ⟨rfl,(aw e).symm⟩
      .rw[bJ (by rw[am,hl];simp;lia)]at e;cases e
     have F:(s1.take s.length++[o]).length=s.length+1:=by rw[am,hl];rfl
     refine⟨λ i=>if i=s.length then C1 k else C1 i,⟨⟨λ i z=>?_,g.w.kp⟩,by rw[F];lia,λ i h1 h2=>?_,λ i oo G e e'=>?_,g.st,g.fz,g.fr⟩,by rw[F];omega,by unfold kI;rw[F];exact decide_eq_true (bL _),?_,⟨λ i j oi oj a1 a0 mi mj e=>?_,λ i G e=>?_,λ i G e=>?_,R1.tab⟩⟩
     .show(if i=s.length then C1 k else C1 i)=C i
      rw[if_neg (aC z)];exact g.w.map i z
     .rw[F]at h2
      show H (if i=s.length then C1 k else C1 i)=none
      rw[if_pos (by lia)]
      exact g.new k (by lia) (ac.mp Z).1
     .rcases key i G e' with⟨_,e2⟩|⟨z,_⟩
      .exact g.kd i oo G e e2
      .have:=(ac.mp e).1;lia
     .rw[r.refE]
      unfold RV
      show V.ref (C1 k)=V.ref (if s.length=s.length then C1 k else C1 s.length)
      rw[if_pos rfl]
     .rcases key i oi a1 with⟨z,ei⟩|⟨z,zi⟩<;>rcases key j oj a0 with⟨hj,ej⟩|⟨hj,zj⟩
      .rw[if_neg (aC z),if_neg (aC hj)]at e
       exact R1.inj i j oi oj ei ej mi mj e
      .rw[if_neg (aC z),if_pos hj]at e
       subst zj
       have:=R1.inj i k oi _ ei Z mi mj e
       lia
      .rw[if_neg (aC hj),if_pos z]at e
       subst zi
       have:=R1.inj k j _ oj Z ej mi mj e
       lia
      .rw[z,hj]
     .rcases key i G e with⟨z,e⟩|⟨z,rfl⟩
      .show RO Γ _ _ (if i=s.length then C1 k else C1 i) G
       rw[if_neg (aC z)]
       exact(R1.obj i G e).mono gw (aE0 R g ho z e) λ _ u hu=>hu
      .show RO Γ _ _ (if i=s.length then C1 k else C1 i) G
       rw[if_pos z]
       exact(R1.obj k _ Z).mono gw Y λ _ u hu=>hu
     .rw[F]
      rcases key i G e with⟨z,e⟩|⟨_,rfl⟩
      .exact zT (b7 _) _ (aE0 R g ho z e)
      .exact zT (b7 _) _ Y
    .cases h;exact all rfl rfl
   .exact fb h
 .split at h
  .cases h;exact tk rfl rfl ‹_›
  .cases h;exact all rfl rfl
def bI9 (Γ:Gm)(cds:yF)(f:Str)(sc:Scope)(N:yH)(fd:bM)(lk:String->List Nat->Expr->Bool):Prop :=
 ∀ id caps E,lk id caps E=true->False
def GoodB (Γ:Gm)(cds:yF)(mg:yC)(f:String)(pc vc:Nat)(m:Ck->List Stmt->Bool):Prop:=∃ st N ps a fd lk,DefAt Γ.K mg (f:Str) st ps a fd/\FnScope N ps (defScope st)/\ps.length=pc/\N.length=pc+vc/\m ⟨N,defScope st,lk⟩ (defBody st)=true/\bI9 Γ cds (f:Str) (defScope st) N fd lk
def Good (Γ:Gm)(cds:yF)(mg:yC)(f:String)(d:k8):Prop:=GoodB Γ cds mg f d.ps d.vs λ ck S=>mSs ck d.body S
noncomputable def mKc (ck:Ck)(nm:Str)(f:String)(E:Expr):Bool:=match E with|.Call (.Name g _) [.Name x _] [] _=>decide (g=(f:Str))&&(ck.gl g&&decide (x=nm))|_=>false
noncomputable def cm5 (ck:Ck)(nm:Str)(f:String)(l:Bool)(S:yL):Bool:=match S with
 | [.Return (some e) _]=>(match l with|true=>(match e with|.List [c] _=>mKc ck nm f c|_=>false)|false=>mKc ck nm f e)
 | _=>false
noncomputable def mHk (ck:Ck)(nm:Str)(h:DV.Hd)(S:yL):Bool:=match h.kn with|some (f,l)=>cm5 ck nm f l S|none=>mHd ck nm h S
noncomputable def mT0 (ck:Ck)(d:DV.Tf)(S:yL):Bool:=match S with
 | st::rest=>(match st with|.Try tb hs [] [] _=>(match hs with|[eh]=>(match eh with|.ExceptHandler (some en) (some nm) hb _=>(match en,hb with|.Name x _,b::su=>mSs ck d.body tb&&(mX ck d.xb tb&&(noR d.xb&&(noL d.xb&&(d.h.supOk d.c&&(decide (x=((d.h.cls d.c:String):Str))&&(ck.gl x&&(decide (ck.N[d.i]?=some nm)&&((ck.sc.names.lookup nm==some .local)&&(!(nm==("__debug__":Str))&&(!(nm==("__classdict__":Str))&&(mHk ck nm d.h (b::su)&&mSs ck d.tl rest)))))))))))|_,_=>false)|.ExceptHandler (some en) none hb _=>(match en,hb with|.Name x _,b::su=>mSs ck d.body tb&&(mX ck d.xb tb&&(noR d.xb&&(noL d.xb&&(decide (x=(d.c:Str))&&(ck.gl x&&(mHn d.h (b::su)&&mSs ck d.tl rest))))))|_,_=>false)|_=>false)|_=>false)|_=>false)
 | _=>false
noncomputable def cj5 (ck:Ck):DV.Ss->List Stmt->Option (List Stmt)
 | .nil,S=>some S
 | .cons s ss,S=>match S with|x::xs=>(match mS ck s x with|true=>cj5 ck ss xs|false=>none)|[]=>none
noncomputable def mT (ck:Ck)(d:DV.Tf)(S:yL):Bool:=match cj5 ck d.pre S with
 | some S1=>mT0 ck d S1
 | none=>false
def GoodM (Γ:Gm)(c m:String)(d:k8):Prop:=∃ st N ps a fd Cc,(Γ.cls c=some Cc/\Cls Γ.K Cc)/\Meth Γ.K Cc (m:Str) a/\Fun Γ.K (m:Str) ((c ++ "."++m:String):Str) st a fd/\Binds Γ.K fd ps []/\FnScope N ps (defScope st)/\ps.length=d.ps/\N.length=d.ps+d.vs/\mSs ⟨N,defScope st,λ _ _ _=>false⟩ d.body (defBody st)=true
structure PrOk (Γ:Gm)(cds:yF)(P:kQ)(mg:yC)(w:World):Prop where
 df:∀ f d,P.df f=some d->Good Γ cds mg f d
 con:∀ x d,P.con x=some d->∃ v u,mg (x:Str)=some u/\RelV v u/\(∀ m,d.bnd m=true)/\∀ C H,RV Γ C H d v
 bi:∀ x∈bNames,mg x=none
 fa:∀(f:String) (a:Addr),Γ.fa f=some a->mg (f:Str)=some (.ref a)/\∃ oc od fd sl,Γ.K.lookup a=some ⟨oc,od,.func fd,sl⟩
 lg:True
 nd:(Γ.T.map (·.1)).Nodup
 xf:∀ f d,P.xf f=some d->GoodB Γ cds mg f d.ps d.vs λ ck S=>mX ck d.body S
 tf:∀ f d,P.tf f=some d->GoodB Γ cds mg f d.ps d.vs λ ck S=>mT ck d S
 xc:∀ c:String,P.xc c=true->∃ Cc,mg (c:Str)=some (.ref Cc)/\ExcCls Γ.K Cc/\excI Γ.K Cc=true
 xt:∀ c:String,P.xt c=true->∃ Cc,mg (c:Str)=some (.ref Cc)
 xs:∀(c d:String) (Cc D:Addr),P.xc c=true->P.xt d=true->mg (c:Str)=some (.ref Cc)->mg (d:Str)=some (.ref D)->bQ Γ.K (.ref Cc) (.ref D)=some (DV.subC c d)
 xm:∀(c d:String) (Cc D:Addr),P.xc c=true->P.xt d=true->mg (c:Str)=some (.ref Cc)->mg (d:Str)=some (.ref D)->jO Γ.K (.ref Cc) (.ref D)=some (DV.subC c d)
 xe:∀(c:String) (Cc:Addr),P.xc c=true->mg (c:Str)=some (.ref Cc)->jO Γ.K (.ref Cc) (.ref Cc)=some true
 v0:∀ c:String,P.xc c=true->mg ("ValueError":Str)=none
 v1:∀(c:String) (Cc:Addr),P.xc c=true->mg (c:Str)=some (.ref Cc)->bQ Γ.K (.ref Cc) (.type "ValueError")=some true
 cdc:∀(c:String) kvs,P.cdc c=some kvs->∃ a,mg (c:Str)=some (.ref a)/\∀(prog:aE) (h:Heap),Γ.K.In h->StrTab prog w h a (strD kvs)
 mt:∀ c m d,P.mt c m=some d->GoodM Γ c m d
 att:∀(c:String) (f:List Nat) (Cc:Addr),P.att c f=true->Γ.cls c=some Cc->NoAttr Γ.K Cc ⟨f.toArray⟩
 nwc:∀(c:String) (Cc:Addr),Γ.cls c=some Cc->mg (c:Str)=some (.ref Cc)/\cW Γ.K Cc=true/\bz Γ.K (.ref Cc)=true
def aw4 (Γ:Gm)(prog:aE)(w:World)(mg:yC)(base:Heap)(F:kN)(n:Nat):Prop:=(∀ f:String,(∀ l s,F.call f l s=.bad) \/
  ∃ a fd ps,FnOk prog w Γ.K mg base CX0 n a fd ps (spV Γ (F.call f))/\mg (f:Str)=some (.ref a)/\bz Γ.K (.ref a)=true/\Binds Γ.K fd ps []) /\
 True/\ObOk Γ prog w Γ.K mg base F n
theorem bo7 {C:Nat->Addr}{H:Hp}{n k:Nat}{N:yH}{l:List kC}{vs:List V}(r:RVL Γ C H l vs)(b:kE n l=true)(hN:N.length=l.length+k):RE Γ C H n (l.map some++ai k none) (aj4 N vs):=by
 have hl:=r.length
 refine⟨?_,λ i d e=>?_⟩
 .unfold aj4;simp[hl,hN]
 .by_cases hi:i<l.length
  .rw[au (by simpa using hi),aF]at e
   have e':l[i]?=some d:=by
    rw[af hi]at e ⊢
    exact aw e
   obtain⟨v,e1,e2⟩:=r.get e'
   refine⟨ar5 b e',v,?_,e2⟩
   unfold aj4
   rw[au (by rw[az,hl];exact hi),aF,e1];rfl
  .rw[aI (by simpa using jh hi)]at e
   rw[dG]at e
   split at e<;>cases e
theorem bX7 {z:yF}{P:kQ}{prog:aE}{w:World}{F:yC}(J:PrOk Γ z P F w)(n:Nat):∀(c:String) kvs,(kK P n).cdc c=some kvs->∃ a,F (c:Str)=some (.ref a)/\∀ h:Heap,Γ.K.In h->StrTab prog w h a (strD kvs):=by
 have:(kK P n).cdc=P.cdc:=by cases n<;>rfl
 rw[this]
 intro c kvs e
 obtain⟨a,G,Y⟩:=J.cdc c kvs e
 exact⟨a,G,Y prog⟩
theorem bR5 {z:yF}{P:kQ}{prog:aE}{w:World}{Z:yC}{base:Heap}(Y:PrOk Γ z P Z w)(hb:∀ y∈z,b9 base y.1 y.2/\BM Z base)(n:Nat)(h:aw4 Γ prog w Z base (kK P n) (n+31))
  {f:String} {st:Stmt} {N ps:yH} {a:Addr} {fd:bM} {lk:String->List Nat->Expr->Bool} (hS:FnScope N ps (defScope st)) (hL:bI9 Γ z (f:Str) (defScope st) N fd lk) (G:Value) (a0:∀ id J E,lk id J E=true->fd.code=G) (A:a7) (F:List Env) (sh:ag) (H:Hp) (E:XK) (hr:Room (n+31) (A.deeper (fA (f:Str) (defScope st) sh.heap.objs.size a G))) :
  CG Γ (kK P n) (n+31) (br5 CX0 prog w Γ.K Z base N (f:Str) (defScope st) a G A F sh H E).nox ⟨N,defScope st,lk⟩:=by
 refine⟨rfl,rfl,hS.nd,rfl,rfl,?_,hr,λ x k e=>.inl e,λ _ _=>rfl,Y.bi,h.1,?_,hL,h.2.1,Y.fa,DV.qA P n,bX7 Y n,h.2.2⟩
 .show kO+1<=n+31
  unfold kO;lia
 .have:(kK P n).con=P.con:=by cases n<;>rfl
  rw[this];exact Y.con
theorem aW2 {z:yF}{f:Str}{sc:Scope}{N:yH}{F:bM}:bI9 Γ z f sc N F (λ _ _ _=>false):=λ _ _ _ h=>by cases h
theorem bt0 {Z:yF}{P:kQ}{prog:aE}{w:World}{mg:yC}{base:Heap}(hP:PrOk Γ Z P mg w)(hb:∀ y∈Z,b9 base y.1 y.2/\BM mg base)(n:Nat)(a0:aw4 Γ prog w mg base (kK P n) (n+31))
  {f:String} {x:Str} {d:k8} {st:Stmt} {N ps:yH} {a:Addr} {fd:bM} {lk:String->List Nat->Expr->Bool} (hD:Fun Γ.K x (f:Str) st a fd) (hS:FnScope N ps (defScope st)) (h1:ps.length=d.ps) (h2:N.length=d.ps+d.vs) (hm:mSs ⟨N,defScope st,lk⟩ d.body (defBody st)=true) (hL:bI9 Γ Z (f:Str) (defScope st) N fd lk) :
  FnOk prog w Γ.K mg base CX0 (n+1+31) a fd ps (spV Γ (lD (kK P n) d)):=by
 have Y:∀ vs H Q E,spV Γ (lD (kK P n) d) vs H Q E->vs.length=ps.length:=λ vs H Q E q=>by
  obtain⟨C,s,l,d',s',R,r,b,hc,k⟩:=q
  unfold lD at hc
  split at hc
  .rw[r.length,h1];assumption
  .exact fb hc
 have body:∀(F:Value),(∀ id J E,lk id J E=true->fd.code=F)->∀(A:a7) (z:List Env) (sh:ag) (H:Hp) (vs:List V) (Q:VK) (E:XK),Room (n+31) (A.deeper (fA (f:Str) (defScope st) sh.heap.objs.size a F))->spV Γ (lD (kK P n) d) vs H Q E ->
   ∃ t,PSs (br5 CX0 prog w Γ.K mg base N (f:Str) (defScope st) a F A z sh H E).nox (defBody st) t/\t { nx:=λ _ H'=>Q .non H',rt:=Q } (aj4 N vs) H:=by
  intro F a1 A z sh H vs Q E hr q
  have G:=bR5 hP hb n a0 hS hL (a:=a) F a1 A z sh H E hr
  refine⟨_,sSs d.body (defBody st) _ ⟨N,defScope st,lk⟩ G hm,?_⟩
  obtain⟨C,s,l,d',s',R,r,b,hc,k⟩:=q
  unfold lD at hc
  split at hc
  case isFalse=>exact fb hc
  rename_i Y
  obtain⟨c,s1,e1,hc⟩:=aa0 hc
  refine⟨C,l.map some++ai d.vs none,s,c,s1,bo7 r b (by rw[h2,Y]),R,e1,λ C1 H1 g1 l1 R1=>?_⟩
  cases c with
  | ret v0 =>
   intro v hb rv
   obtain⟨C',g',l',b',r',R'⟩:=aH3 R g1 R1 hb rv hc
   exact k v C' H1 g' l' b' r' R'
  | next U =>
   intro W' _
   obtain⟨C',g',l',b',r',R'⟩:=aH3 (v0:=.non) R g1 R1 rfl RV.nonI hc
   exact k .non C' H1 g' l' b' r' R'
  | cont U=>exact fb hc
  | brk U=>exact fb hc
 exact hD.ok hS Y (λ F=>body F λ id J E h=>(hL id J E h).elim)
theorem bV0 {h:yF}{P:kQ}{prog:aE}{w:World}{G:yC}{base:Heap}(Y:PrOk Γ h P G w)(hb:∀ y∈h,b9 base y.1 y.2/\BM G base)(n:Nat)(F:aw4 Γ prog w G base (kK P n) (n+31))
  {f:String} {d:k8} (e:P.df f=some d) {st:Stmt} {N ps:yH} {a:Addr} {J:bM} {lk:String->List Nat->Expr->Bool} (hD:DefAt Γ.K G (f:Str) st ps a J) (hS:FnScope N ps (defScope st)) (Z:ps.length=d.ps) (h2:N.length=d.ps+d.vs) (hm:mSs ⟨N,defScope st,lk⟩ d.body (defBody st)=true) (hL:bI9 Γ h (f:Str) (defScope st) N J lk) :
  FnOk prog w Γ.K G base CX0 (n+1+31) a J ps (spV Γ ((kK P (n+1)).call f)):=by
 have z:(kK P (n+1)).call f=lD (kK P n) d:=by funext l s;simp only[kK,e];rfl
 rw[z]
 exact bt0 Y hb n F hD.fn hS Z h2 hm hL
theorem ce1 {J:yF}{P:kQ}{prog:aE}{w:World}{mg:yC}{base:Heap}(Y:PrOk Γ J P mg w)(hb:∀ y∈J,b9 base y.1 y.2/\BM mg base)(n:Nat)(F:aw4 Γ prog w mg base (kK P n) (n+31)):ObOk Γ prog w Γ.K mg base (kK P (n+1)) (n+1+31):=by
 refine⟨λ c f Cc h=>Y.att c f Cc h,λ c m=>?_,λ c=>?_⟩
 .cases e:P.mt c m with
  | none=>exact .inl λ l s=>by simp only[kK,e]
  | some d =>
   obtain⟨st,N,ps,a,fd,Cc,hc,Z,hD,G,hS,h1,h2,a0⟩:=Y.mt c m d e
   have z:(kK P (n+1)).mcall c m=lD (kK P n) d:=by funext l s;simp only[kK,e]
   refine .inr ⟨Cc,a,fd,ps,hc.1,hc.2,Z,?_,G⟩
   rw[z]
   exact bt0 Y hb n F hD hS h1 h2 a0 aW2
 .rcases F.2.2.mc c "__init__" with h|⟨Cc,a,fd,ps,hc,a1,Z,hF,G⟩
  .exact .inl λ l s=>h l s
  .obtain⟨m1,m2,m3⟩:=Y.nwc c Cc hc
   exact .inr ⟨n+31,Cc,a,fd,ps,by lia,⟨hc,a1⟩,m1,⟨m2,Z.at_,Z.fn,m3⟩,hF,G⟩
theorem aL3 {F:yF}{P:kQ}{prog:aE}{w:World}{mg:yC}{base:Heap}(z:PrOk Γ F P mg w)(hb:∀ y∈F,b9 base y.1 y.2/\BM mg base)(ht:∀ f,P.tf f=none):∀ n:Nat,aw4 Γ prog w mg base (kK P n) (n+31)
 | 0=>⟨λ f=>.inl λ l s=>rfl,trivial,λ c f Cc h=>z.att c f Cc h,λ _ _=>.inl λ _ _=>rfl,λ _=>.inl λ _ _=>rfl⟩
 | n+1=>by
  have G:=aL3 (prog:=prog) (w:=w) (base:=base) z hb ht n
  refine⟨λ f=>?_,trivial,ce1 z hb n G⟩
  cases e:P.df f with
  | none=>exact .inl λ l s=>by simp only[kK,e,ht f]
  | some d =>
   obtain⟨st,N,ps,a,Z,lk,hD,hS,J,h2,hm,Y⟩:=z.df f d e
   exact .inr ⟨a,Z,ps,bV0 z hb n G e hD hS J h2 hm Y,hD.mg,hD.fn.kp,hD.bi⟩
def spT (Γ:Gm):Sp:=λ vs H Q _=>∃(a:Addr) (ns:List Int),vs=[.ref a]/\SqF Γ.K H a (ns.map V.int)/\ns.length<=63/\TabsH Γ.T H/\∀ H',Q (.bl true) H'
theorem aG8 {C:Nat->Addr}{H:Hp}:∀ ns:List Int,RVL Γ C H (ns.map DV.D.int) (ns.map V.int)
 | []=>.nil
 | n::ns=>.cons RV.intI (aG8 ns)
theorem az5 {m:Nat}:∀ ns:List Int,kE m (ns.map DV.D.int)=true
 | []=>rfl
 | n::ns=>by rw[aH];unfold kE;rw[az5 ns];rfl
theorem bN9 {P:kQ}{k:Nat}(h:∀ ns:List Int,ns.length<=63->∃ s',(kK P k).call "law" [.ref 0] [.ro (ns.map DV.D.int)]=.ok (.bl true) s')(vs:List V)(H:Hp)(Q:VK)(E:XK)(q:spT Γ vs H Q E):spV Γ ((kK P k).call "law") vs H Q E:=by
 obtain⟨a,ns,rfl,F,hl,hT,z⟩:=q
 obtain⟨s',hs⟩:=h ns hl
 refine⟨λ _=>a,[.ro (ns.map DV.D.int)],[.ref 0],.bl true,s',⟨λ i j o G e e' m m' _=>?_,λ i o e=>?_,λ i o e=>?_,hT⟩,.cons RV.refI .nil,?_,hs,λ v C' H' g l b r R=>?_⟩
 .cases i with
  | zero=>cases e;cases m
  | succ i=>cases e
 .cases i with
  | zero=>cases e;exact⟨_,F,aG8 ns⟩
  | succ i=>cases e
 .cases i with
  | zero=>cases e;unfold kH;exact az5 ns
  | succ i=>cases e
 .unfold kE kI kE;rfl
 .rw[r.blE];exact z H'
theorem aI7 {z:yF}{F:yC}:∀ {tbl:List (String×k8)},(∀ p∈tbl,Good Γ z F p.1 p.2)->∀ f d,tbl.lookup f=some d->Good Γ z F f d
 | [],_,f,d,h=>by cases h
 | (g,e)::tbl,H,f,d,h=>by
  rw[a9]at h
  cases q:f==g with
  | true =>
   rw[q]at h
   cases h
   rw[eq_of_beq q]
   exact H (g,_) (aB ..)
  | false =>
   rw[q]at h
   exact aI7 (λ p G=>H p (ax _ G)) f d h
def bL6 (Γ:Gm)(mg:yC)(x:String)(d:kC):Prop:=∃ v u,mg (x:Str)=some u/\RelV v u/\(∀ m,d.bnd m=true)/\∀ C H,RV Γ C H d v
theorem aS3 {z:yC}:∀ {tbl:List (String×kC)},(∀ p∈tbl,bL6 Γ z p.1 p.2)->∀ f d,tbl.lookup f=some d->bL6 Γ z f d
 | [],_,f,d,h=>by cases h
 | (g,e)::tbl,H,f,d,h=>by
  rw[a9]at h
  cases q:f==g with
  | true =>
   rw[q]at h
   cases h
   rw[eq_of_beq q]
   exact H (g,_) (aB ..)
  | false =>
   rw[q]at h
   exact aS3 (λ p F=>H p (ax _ F)) f d h
end
theorem aM7 {P:aE}{w:World}{K:ae}{mg mb:yC}{k:Nat}{fa a:Addr}{fd:bM}{x:Str}{sp:Sp}{G:ag}{vs:yG}{ns:List Int}{tabs:yF}
  (KX:K.In G.heap) (c1:G.heap.Ns bf mg) (hb:G.heap.Ns fN mb) (c3:∀ x:Str,x ≠ "__name__"->mb x=bc x) (hlim:G.heap.NoLimit) (hg:G.gens=#[]) (f0:BM mg G.heap) (hT:jP tabs G.heap) (c2:jQ K=true)
  (ha:G.heap.get? a=some { cls:=.type "list",data:=.seq vs.toArray }) (hi:iW vs ns) (hl:ns.length<=aM) (hr:Room k gO)
  (F:∀ base:Heap,K.In base->base.Ns bf mg->BM mg base->(∀ q∈tabs,b9 base q.1 q.2)->FnOk P w K mg base CX0 k fa fd [x] sp) (a3:∀(s:ag) (u:Value),jx s fd ⟨[u],[]⟩ [(x,u)])
  (d3:∀ H:Hp,(∀ q∈tabs,H q.2=some (.tbl #[]))->SqL K H a (ns.map V.int)->(∀ u,H a=some u->(∃ o xs,u=.frz o (.lst xs))\/∃ ps,u=.tbl ps)->sp [.ref a] H (λ v _=>v=.bl true) E0) :
  fU (model P w) gO (.call (.ref fa) ⟨[.ref a],[]⟩) (λ r s'=>r=.ok (.ret (.bool true))/\OldK G.heap s'.heap/\s'.os=G.os/\fj s'.gens) G:=by
 have rv:=am9 hi
 have c0:=hi.length
 have J:∀ b,b∈tabs.map (·.2)->G.heap.get? b=some (gK #[]):=λ b h=>by
  obtain⟨q,hq,rfl⟩:=aZ.mp h
  exact(hT q hq).2
 have a2:∀ H:Hp,(∀ b u,H b=some u->(b=a/\∃ o xs,u=.frz o (.lst xs))\/(b∈tabs.map (·.2)/\u=.tbl #[]))->(∀ q∈tabs,H q.2=some (.tbl #[]))->SqL K H a (ns.map V.int)->HOk P w H G.heap->(H a≠none->K.lookup a=none) ->
   fU (model P w) gO (.call (.ref fa) ⟨[.ref a],[]⟩) (λ r s'=>r=.ok (.ret (.bool true))/\OldK G.heap s'.heap/\s'.os=G.os/\fj s'.gens) G:=by
  intro H hO d0 hS hok hK
  have un:∀ b o,G.heap.get? b=some o->o.cls≠.type "list"->(∀ vs,o.data≠.fields vs)->H b=none:=λ b o e n1 n2=>by
   cases q:H b with
   | none=>rfl
   | some u =>
    rcases hO b u q with⟨z,_⟩|⟨z,_⟩
    .rw[z,ha]at e;cases e;exact absurd rfl n1
    .rw[J b z]at e;cases e;exact absurd rfl (n2 #[])
  have Z:∀ {b:Addr} {m:yC},G.heap.Ns b m->(be5 G.heap H).Ns b m:=λ {b m} ⟨o,es,ep,e,d,r⟩=>by
   refine⟨o,es,ep,aj9 e ?_,d,r⟩
   cases q:H b with
   | none=>rfl
   | some u =>
    rcases hO b u q with⟨z,_⟩|⟨z,_⟩
    .rw[z,ha]at e;cases e;cases d
    .rw[J b z]at e;cases e;cases d
  have a6:K.In (be5 G.heap H):=λ b o e=>aj9 (KX b o e) (by
   cases q:H b with
   | none=>rfl
   | some u =>
    rcases hO b u q with⟨z,_⟩|⟨z,_⟩
    .subst z
     rw[hK (by rw[q];simp)]at e;cases e
    .have e2:=KX b o e
     rw[J b z]at e2
     have h2:=aL.mp c2 (b,o) (PySem.W.mem_of_lookupK e)
     have e3:o=gK #[]:=(aw e2).symm
     subst e3
     exact absurd (show false=true from h2) aW)
  have hM:Mod K mg (be5 G.heap H):=⟨a6,Z c1,⟨mb,Z hb,c3⟩,let⟨mc,h1,h2⟩:=hlim;⟨mc,Z h1,h2⟩⟩
  have d2:BM mg (be5 G.heap H):=by
   obtain⟨bm,ob,b1,b2,b3,b4,b5,b6⟩:=f0
   exact⟨bm,ob,b1,b2,aj9 b3 (un bm ob b3 (by rw[b4];nofun) (by rw[b6];nofun)),b4,b5,b6⟩
  have e4:∀ q∈tabs,b9 (be5 G.heap H) q.1 q.2:=λ q hq=>by
   obtain⟨o,e5,b0,tf,a4,tg,d1,text,tt,e1,r1,r2⟩:=(hT q hq).1
   refine⟨o,e5,b0,tf,a4,tg,d1,text,tt,aj9 e1 ?_,r1,r2⟩
   cases q2:H q.1 with
   | none=>rfl
   | some u =>
    rcases hO _ u q2 with⟨z,_⟩|⟨z,_⟩
    .rw[z,ha]at e1;cases e1;exact absurd r1 (by simp)
    .rw[J _ z]at e1;cases e1;exact absurd r1 (by simp)
  have e0:Env0 P w K mg (be5 G.heap H) gO [] G H:=⟨rfl,hM,λ b o e=>bx2 e,ka (aX6 _ _),trivial,λ b hb=>absurd (show b∈([]:List Addr)from hb) (by simp),hok,.of_eq hg⟩
  refine fW ((F _ a6 (Z c1) d2 e4).run gO [] G H ⟨[.ref a],[]⟩ [.ref a] [.ref a] _ _ hr e0 (a3 G (.ref a)) (.cons rfl .nil) (d3 H d0 hS (λ u e=>(hO a u e).elim (λ z=>.inl z.2) (λ z=>.inr ⟨_,z.2⟩)))) λ r s' h=>?_
  cases r with
  | error e=>exact bP h
  | ok fl =>
   cases fl with
   | next=>exact bP h
   | brk=>exact bP h
   | cont=>exact bP h
   | ret u =>
    obtain⟨v,H',os,bare,a5,a0,r',q⟩:=h
    have q':v=.bl true:=q
    subst q'
    obtain rfl:u=Value.bool true:=r'
    have key:∀ b o,G.heap.get? b=some o->asItWas G.heap s'.heap b o/\∃ o',s'.heap.get? b=some o':=λ b o e=>by
     cases q:H b with
     | none =>
      have z:=a5.keep b o e q (by intro z;exact absurd (show b∈([]:List Addr)from z) (by simp)) (by simp)
      exact⟨.inl z,o,z⟩
     | some u =>
      rcases hO b u q with⟨_,ob,xs,z⟩|⟨z,z2⟩
      .subst z
       have z2:=a5.frzs b ob _ q
       obtain⟨e1,_⟩:=hok b _ q
       obtain⟨e2,_⟩:=a0 b _ z2
       rw[e]at e1;cases e1
       exact⟨.inl e2,_,e2⟩
      .subst z2
       obtain⟨a1,z3⟩:=a5.tbls b _ q
       have g:s'.heap.get? b=some { cls:=.none,data:=.fields (#[]++a1) }:=a0 b _ z3
       have e1:=J b z
       rw[e]at e1;cases e1
       obtain⟨p,hp,ep⟩:=aZ.mp z
       refine⟨.inr (.inl ⟨?_,rfl,#[],a1,rfl,g⟩),_,g⟩
       have t:=((hT p hp).1.tab (hT p hp).2).isCodeTable
       rw[ep]at t
       exact t
    exact⟨rfl,⟨λ b o e=>(key b o e).1,λ b o e=>(key b o e).2⟩,os,bare⟩
 have tbl:∀ b,b∈tabs.map (·.2)->b≠a:=λ b h z=>by
  have e:=J b h
  rw[z,ha]at e;cases e
 cases hk:K.lookup a with
 | some o =>
  have e:=KX a o hk
  rw[ha]at e
  cases e
  refine a2 (λ b=>if b∈tabs.map (·.2)then some (.tbl #[])else none) (λ b u z=>?_) (λ q hq=>if_pos (bv hq)) (.inr ⟨_,vs.toArray,_,hk,rfl,rfl,rfl,by rw[av,c0];exact hl,by simpa using rv⟩) (λ b u z=>?_) λ z=>?_
  .by_cases hb:b∈tabs.map (·.2)
   .have Y:=(if_pos hb).symm.trans z
    cases Y
    exact .inr ⟨hb,rfl⟩
   .have Y:=(if_neg hb).symm.trans z
    cases Y
  .by_cases hb:b∈tabs.map (·.2)
   .have Y:=(if_pos hb).symm.trans z
    cases Y
    exact J b hb
   .have Y:=(if_neg hb).symm.trans z
    cases Y
  .exact absurd (if_neg λ y=>tbl a y rfl) z
 | none =>
  refine a2 (λ b=>if b=a then some (.frz { cls:=.type "list",data:=.seq vs.toArray } (.lst (ns.map V.int)))else if b∈tabs.map (·.2)then some (.tbl #[])else none) (λ b u z=>?_) (λ q hq=>?_) (.inl (.inr ⟨{ cls:=.type "list",data:=.seq vs.toArray },if_pos rfl⟩)) (λ b u z=>?_) λ _=>hk
  .by_cases hb:b=a
   .have Y:=(if_pos hb).symm.trans z
    cases Y
    exact .inl ⟨hb,_,_,rfl⟩
   .have Y:=(if_neg hb).symm.trans z
    by_cases hc:b∈tabs.map (·.2)
    .rw[if_pos hc]at Y;cases Y;exact .inr ⟨hc,rfl⟩
    .rw[if_neg hc]at Y;cases Y
  .have hm:q.2∈tabs.map (·.2):=bv hq
   show(if _ then _ else if _ then _ else _)=_
   rw[if_neg (tbl _ hm),if_pos hm]
  .by_cases hb:b=a
   .have Y:=(if_pos hb).symm.trans z
    cases Y
    subst hb
    exact⟨ha,by rw[az];exact hl,vs,_,rv,ha⟩
   .have Y:=(if_neg hb).symm.trans z
    by_cases hc:b∈tabs.map (·.2)
    .rw[if_pos hc]at Y;cases Y;exact J b hc
    .rw[if_neg hc]at Y;cases Y
theorem aY0 {ts:List Addr}{l:cV}{n k:Nat}{q:aE}{loose:yH}{XP:(Str->Option Value)->Heap->Prop}{YP:World->Heap->Prop}{d:DefRec}{K:Params->ae}{sp:ae->Sp}{x:Str}(names:yH)
  (hn:l.most=some n) (a5:n<=aM) (a4:d.params.defaults=[]) (hr:Room k gO)
  (hY:∀(w:World) (h:Heap),YP w h->(K w.params).In h/\∀ P∈ts,h.get? P=some (gK #[])) (a1:∀ w:World,bR0 (K w.params) names ts=true) (a2:∀ w:World,jQ (K w.params)=true)
  (F:∀(w:World) (mg:yC) (fa:Addr) (h:Heap),(K w.params).In h->h.Ns bf mg->mg d.name=some (.ref fa) ->
   ∃ fd:bM,(∀(s:ag) (u:Value),jx s fd ⟨[u],[]⟩ [(x,u)]) /\
    ∀ base:Heap,(K w.params).In base->base.Ns bf mg->BM mg base->bu1 (K w.params) names base->FnOk l.prog w (K w.params) mg base CX0 k fa fd [x] (sp (K w.params)))
  (b0:∀(K:ae) (H:Hp) (a:Addr) (ns:List Int),ns.length<=n->bD2 K names H->SqL K H a (ns.map V.int)->(∀ u,H a=some u->(∃ o xs,u=.frz o (.lst xs))\/∃ ps,u=.tbl ps)->sp K [.ref a] H (λ v _=>v=.bl true) E0) :
  jV q loose XP YP l.row.toRowW d [] (λ f vs=>jA f vs):=by
 refine Att.attach_call hn a4 λ w s₀ s₁ mg mb fa o pm cd b2 a vs ns G Y ho hd b1 a3 a0 Z J hg=>?_
 obtain⟨KX,a6⟩:=hY w _ Y
 obtain⟨fd,hb,hF⟩:=F w mg fa _ KX G.T.g a3
 have hT:jP ((az4 (K w.params) names).map (·.2)) s₁.heap:=λ p hp=>by
  obtain⟨y,hy,rfl⟩:=aZ.mp hp
  obtain⟨h1,h2⟩:=ar0.mp hy
  have z:=aL.mp (a1 w) y.1 h1
  rw[h2]at z
  have z':(ji (K w.params) y.2.1 y.2.2&&ts.contains y.2.2)=true:=z
  rw[ak]at z'
  exact⟨PySem.W.codeHd_of_K KX z'.1,a6 _ (by simpa using z'.2)⟩
 have hm:∀ x∈names,∀ c P,bq (K w.params) x=some (c,P)->(c,P)∈(az4 (K w.params) names).map (·.2):=λ x hx c P e=>aZ.mpr ⟨(x,c,P),ar0.mpr ⟨hx,e⟩,rfl⟩
 refine aM7 (tabs:=(az4 (K w.params) names).map (·.2)) KX G.T.g G.T.b G.T.builtins G.T.nolimit hg ?_ hT (a2 w) a0 Z (aj J a5) hr (λ base k1 k2 k3 k4=>hF base k1 k2 k3 λ x hx c P e=>k4 _ (hm x hx c P e)) hb λ H hO hS hF=>b0 (K w.params) H a ns J (λ x hx c P e=>hO _ (hm x hx c P e)) hS hF
 obtain⟨bm,ob,h1,h2,h3,h4,h5,h6⟩:=G.T.bmain
 exact⟨bm,ob,h1,h2,h3,h4,h5,h6⟩
def spB (names:yH)(K:ae):Sp:=λ vs H Q _=>∃(a:Addr) (ns:List Int),vs=[.ref a]/\SqF K H a (ns.map V.int)/\ns.length<=63/\bD2 K names H/\∀ H',Q (.bl true) H'
theorem bJ6 {names:yH}{K:ae}{H:Hp}{a:Addr}{ns:List Int}(hl:ns.length<=63)(Y:bD2 K names H)(F:SqL K H a (ns.map V.int))(J:∀ u,H a=some u->(∃ o G,u=.frz o (.lst G))\/∃ ps,u=.tbl ps):spB names K [.ref a] H (λ v _=>v=.bl true) E0:=by
 refine⟨a,ns,rfl,⟨F,λ H' k=>?_⟩,hl,Y,λ _=>rfl⟩
 rcases F with(h|⟨o,h⟩)|h
 .rcases J _ h with⟨_,_,z⟩|⟨_,z⟩<;>cases z
 .exact .inl (.inr ⟨o,k _ _ h rfl⟩)
 .exact .inr h
def ck5 (P:kQ):String->LamI->Prop:=λ _ _=>False
noncomputable def sfx (x:Str):Str:=if x = "letter_table" then "least_fee" else "<lambda>"
noncomputable def bE0 (names:yH)(K:ae):List (Addr×Str):=names.map λ x=>(((bq K x).getD (0,0)).2,x ++ ".<locals>."++sfx x)
noncomputable def bL0 (names:yH)(K:ae):List (Addr×Addr):=names.map λ x=>(bq K x).getD (0,0)
noncomputable def cd7 (K:ae)(f:String):Option Addr:=match cj K bf (f:Str)with
 | some (some (.ref a))=>(match K.lookup a with
  | some ⟨_,_,.func _,_⟩=>some a
  | _=>none)
 | _=>none
theorem aG2 {K:ae}{f:String}{a:Addr}(h:cd7 K f=some a):cj K bf (f:Str)=some (some (.ref a))/\∃ oc od z sl,K.lookup a=some ⟨oc,od,.func z,sl⟩:=by
 unfold cd7 at h
 split at h
 .rename_i F e
  split at h
  .rename_i oc od z sl e2
   cases h
   exact⟨e,_,_,_,_,e2⟩
  .cases h
 .cases h
noncomputable def aX0 (P:kQ)(K:ae)(c:String):Option Addr:=match P.mt c "__init__" with
 | some _=>(match cj K bf (c:Str)with|some (some (.ref Cc))=>some Cc|_=>none)
 | none=>none
noncomputable abbrev aX1 (names:yH)(P:kQ)(K:ae):Gm:=⟨K,cd7 K,ck5 P,bE0 names K,aX0 P K⟩
theorem ce6 {names:yH}{P:kQ}{K:ae}{h:Heap}{z:yC}(X:K.In h)(G:h.Ns bf z):∀(f:String) (a:Addr),(aX1 names P K).fa f=some a->z (f:Str)=some (.ref a)/\∃ oc od F sl,(aX1 names P K).K.lookup a=some ⟨oc,od,.func F,sl⟩:=λ f a e=>⟨ee X G (aG2 e).1,(aG2 e).2⟩
theorem bf6 {names:yH}{P:kQ}{K:ae}(ht:∀ x∈names,(bq K x).isSome=true){vs:List V}{H:Hp}{Q:VK}{E:XK}(q:spB names K vs H Q E):spT (aX1 names P K) vs H Q E:=by
 obtain⟨a,ns,e,F,hl,G,z⟩:=q
 refine⟨a,ns,e,F,hl,TabsH.init λ p h=>?_,z⟩
 simp only[bE0,cU]at h
 obtain⟨x,hx,rfl⟩:=aZ.mp h
 exact G x hx _ _ (aM4 (ht x hx))
theorem bs8 {names:yH}{K:ae}{h:yC}{base:Heap}(ht:∀ x∈names,(bq K x).isSome=true)(z:BM h base)(hc:bu1 K names base):∀ y∈bL0 names K,b9 base y.1 y.2/\BM h base:=λ y hy=>by
 obtain⟨x,hx,rfl⟩:=aZ.mp hy
 exact⟨hc x hx _ _ (aM4 (ht x hx)),z⟩
noncomputable def bT7 (ps fr:yH)(sc:Scope):Bool:=decide (sc.kind=.function)&&!sc.isCoroutine&&!sc.isGenerator&&decide ((ps++fr).Nodup)&&(ps.all λ x=>decide (sc.names.lookup x=some .local)||decide (sc.names.lookup x=some .cell))&&(fr.all λ x=>decide (sc.names.lookup x=some .free))&&(sc.names.all λ y=>!decide (y.2=.cell)||decide (sc.names.lookup y.1=some .cell))
noncomputable def cg6 (scope sc:Scope):Bool:=scope.names.all λ y=>!decide (scope.names.lookup y.1=some .free)||decide (sc.names.lookup y.1=some .cell)
noncomputable def lkB (sc:Scope)(N:yH)(caps:List Nat)(params:dj)(body:Expr)(scope:Scope)(t:DV.Lm×List Str×List Str):Bool :=
 decide (bB0 params=some t.2.1)&&decide (caps.map (λ j=>N[j]?)=t.2.2.map some)&&bf4 scope sc&&cg6 scope sc&&bT7 t.2.1 t.2.2 scope&&decide (t.2.1.length=t.1.ps)&&decide (t.2.2.length=t.1.cs)&&mE (ck0 (t.2.1++t.2.2) scope) t.1.body body
theorem aR9 {names:yH}{P:kQ}{K:ae}{f:Str}{sc:Scope}{N:yH}{z:bM}:bI9 (aX1 names P K) (bL0 names K) f sc N z (λ _ _ _=>false):=λ _ _ _ h=>by cases h
def ca5 (K:ae)(n:Str)(st:Stmt):Prop:=∃(f:Addr) (od an:yI) (sl:yE) (oc kV dc pm cd ct:Value),cj K bf n=some (some (.ref f)) /\
 K.lookup f=some ⟨oc,od,.func (ci n n (defArgs st) (defBody st) (defScope st) .none kV dc pm an cd ct),sl⟩/\dN K cd n=true/\bz K (.ref f)=true
def ch7 (n:Str)(st:Stmt)(ps:yH):Prop:=∀(kV doc pm:Value) (an:yI) (cdv ct:Value) (us:yG),us.length=ps.length->jF (ci n n (defArgs st) (defBody st) (defScope st) .none kV doc pm an cdv ct) ⟨us,[]⟩=pure (ps.zip us)
theorem bd0 {Q:List Value->Prop}(h:Q [])(us:yG)(hl:us.length=0):Q us:=by
 cases us with
 | nil=>exact h
 | cons _ _=>cases hl
theorem bdS {k:Nat}{Q:List Value->Prop}(h:∀ a us,us.length=k->Q (a::us))(us:yG)(hl:us.length=k+1):Q us:=by
 cases us with
 | nil=>cases hl
 | cons a us=>exact h a us (kg hl)
theorem bd1 {Q:List Value->Prop}(h:∀ a,Q [a]):∀ us:List Value,us.length=1->Q us:=bdS λ a=>bd0 (h a)
theorem bd2 {Q:List Value->Prop}(h:∀ a b,Q [a,b]):∀ us:List Value,us.length=2->Q us:=bdS λ a=>bd1 (h a)
theorem bd3 {Q:List Value->Prop}(h:∀ a b c,Q [a,b,c]):∀ us:List Value,us.length=3->Q us:=bdS λ a=>bd2 (h a)
theorem bd4 {Q:List Value->Prop}(h:∀ a b c d,Q [a,b,c,d]):∀ us:List Value,us.length=4->Q us:=bdS λ a=>bd3 (h a)
def DTB (names:yH)(P:kQ)(n:String)(pc vc:Nat)(m:Ck->List Stmt->Bool)(st:Stmt):Prop:=∃ N ps,FnScope N ps (defScope st)/\ps.length=pc/\N.length=pc+vc/\ch7 n st ps/\(m ⟨N,defScope st,λ _ _ _=>false⟩ (defBody st)=true \/
 False)
def DT (names:yH)(P:kQ)(n:String)(d:k8)(st:Stmt):Prop:=DTB names P n d.ps d.vs (λ ck S=>mSs ck d.body S) st
theorem bl9 {names:yH}{P:kQ}{K:ae}{h:Heap}{J:yC}{n:String}{Y Z:Nat}{m:Ck->List Stmt->Bool}{st:Stmt}(X:K.In h)(G:h.Ns bf J)(hT:∀ x∈names,(bq K x).isSome=true)(hD:ca5 K n st)(hd:DTB names P n Y Z m st):GoodB (aX1 names P K) (bL0 names K) J n Y Z m:=by
 obtain⟨f,od,an,sl,oc,kV,dc,pm,cd,ct,a,l,c,k⟩:=hD
 obtain⟨N,ps,h1,h2,h3,h4,z⟩:=hd
 have F:=aU3 (st:=st) l c k
 have D:DefAt K J n st ps f _:=⟨F,ee X G a,F.binds h4⟩
 rcases z with z|z
 .exact⟨_,_,_,_,_,_,D,h1,h2,h3,z,aR9⟩
 .exact z.elim
theorem good_of {names:yH}{P:kQ}{K:ae}{h:Heap}{z:yC}{n:String}{d:k8}{st:Stmt}(X:K.In h)(G:h.Ns bf z)(hT:∀ x∈names,(bq K x).isSome=true)(hD:ca5 K n st)(hd:DT names P n d st):Good (aX1 names P K) (bL0 names K) z n d:=bl9 X G hT hD hd
def cj7 (K:ae)(c m:String)(st:Stmt):Prop:=∃(f Cc:Addr) (od an:yI) (sl:yE) (oc kV dc pm cd ct:Value),cj K bf (c:Str)=some (some (.ref Cc))/\bo K (.ref Cc) (m:Str)=some (some (.ref f)) /\
 K.lookup f=some ⟨oc,od,.func (ci (m:Str) ((c ++ "."++m:String):Str) (defArgs st) (defBody st) (defScope st) .none kV dc pm an cd ct),sl⟩/\dN K cd ((c ++ "."++m:String):Str)=true/\bz K (.ref f)=true/\fT K (.ref f)=true
def cc7 (x q:Str)(st:Stmt)(ps:yH):Prop:=∀(kV doc pm:Value) (an:yI) (cdv ct:Value) (us:yG),us.length=ps.length->jF (ci x q (defArgs st) (defBody st) (defScope st) .none kV doc pm an cdv ct) ⟨us,[]⟩=pure (ps.zip us)
def DTM (c m:String)(d:k8)(st:Stmt):Prop:=∃ N ps,FnScope N ps (defScope st)/\ps.length=d.ps/\N.length=d.ps+d.vs/\cc7 (m:Str) ((c ++ "."++m:String):Str) st ps/\mSs ⟨N,defScope st,λ _ _ _=>false⟩ d.body (defBody st)=true
noncomputable def cj6 (K:ae)(Cc:Addr)(f:List Nat):Bool:=match bo K (.ref Cc) ⟨f.toArray⟩with|some none=>true|_=>false
noncomputable def saB (K:ae)(Cc:Addr):Bool:=match bo K (.ref Cc) "__setattr__" with|some (some (.builtin x))=>x == "object.__setattr__" | _=>false
noncomputable def bW2 (K:ae)(c:String)(fs:List (List Nat)):Bool:=match cj K bf (c:Str)with
 | some (some (.ref Cc))=>di K Cc Str.empty&&(dM K Cc&&(fm K Cc&&(saB K Cc&&(cW K Cc&&(bz K (.ref Cc)&&fs.all (cj6 K Cc))))))
 | _=>false
theorem aE9 {K:ae}{c:String}{fs:List (List Nat)}(h:bW2 K c fs=true):∃ Cc,cj K bf (c:Str)=some (some (.ref Cc))/\Cls K Cc/\cW K Cc=true/\bz K (.ref Cc)=true/\∀ f∈fs,NoAttr K Cc ⟨f.toArray⟩:=by
 unfold bW2 at h
 split at h
 .rename_i Cc e
  simp only[ak]at h
  obtain⟨J,h2,h3,z,Y,G,Z⟩:=h
  refine⟨Cc,e,⟨J,h2,h3,?_⟩,Y,G,λ f F=>?_⟩
  .unfold saB at z
   split at z
   .rename_i x e2;rw[e2,eq_of_beq z]
   .cases z
  .have:=aL.mp Z f F
   unfold cj6 at this
   split at this
   .rename_i e2;exact e2
   .cases this
 .cases h
theorem qw {α β:Type}[BEq α][LawfulBEq α]:∀ {tbl:List (α×β)} {a:α} {b:β},tbl.lookup a=some b->(a,b)∈tbl
 | [],_,_,h=>by cases h
 | (g,e)::tbl,a,b,h=>by
  rw[a9]at h
  cases q:a==g with
  | true=>rw[q]at h;cases h;rw[eq_of_beq q];exact aB ..
  | false=>rw[q]at h;exact ax _ (qw h)
theorem bQ9 {names:yH}{P:kQ}{K:ae}{h:Heap}{mg:yC}{mtb:List ((String×String)×k8×Stmt)}{obt:List (String×List (List Nat))}(X:K.In h)(G:h.Ns bf mg)
  (e1:∀ c m,P.mt c m=(mtb.lookup (c,m)).map (·.1)) (e2:∀ c f,P.att c f=(obt.lookup c).any λ l=>l.contains f) (hO:(obt.all λ p=>bW2 K p.1 p.2)=true) (hc:(mtb.all λ p=>(obt.lookup p.1.1).isSome&&(mtb.lookup (p.1.1, "__init__")).isSome)=true)
  (hM:∀ p∈mtb,cj7 K p.1.1 p.1.2 p.2.2) (hT:∀ p∈mtb,DTM p.1.1 p.1.2 p.2.1 p.2.2) :
  (∀ c m d,P.mt c m=some d->GoodM (aX1 names P K) c m d)/\(∀(c:String) (f:List Nat) (Cc:Addr),P.att c f=true->(aX1 names P K).cls c=some Cc->NoAttr K Cc ⟨f.toArray⟩) /\
  ∀(c:String) (Cc:Addr),(aX1 names P K).cls c=some Cc->mg (c:Str)=some (.ref Cc)/\cW K Cc=true/\bz K (.ref Cc)=true:=by
 have ns:∀ {c:String} {Cc:Addr},(aX1 names P K).cls c=some Cc->cj K bf (c:Str)=some (some (.ref Cc))/\(P.mt c "__init__").isSome=true:=λ {c Cc} e=>by
  have e:aX0 P K c=some Cc:=e
  unfold aX0 at e
  split at e
  .rename_i d hd
   split at e
   .rename_i Cc' hn;cases e;exact⟨hn,by rw[hd];rfl⟩
   .cases e
  .cases e
 have at_:∀ {c:String} {l:List (List Nat)},obt.lookup c=some l->bW2 K c l=true:=λ {c l} e=>aL.mp hO _ (qw e)
 have ob:∀ {c m:String} {p:k8×Stmt},mtb.lookup (c,m)=some p->∃ l,obt.lookup c=some l:=λ {c m p} e=>by
  have:=aL.mp hc _ (qw e)
  rw[ak]at this
  exact bW.mp this.1
 refine⟨λ c m d e=>?_,λ c f Cc e q=>?_,λ c Cc q=>?_⟩
 .rw[e1]at e
  obtain⟨p,J,rfl⟩:=cS.mp e
  obtain⟨l,hl⟩:=ob J
  obtain⟨Cc,z,n2,_⟩:=aE9 (at_ hl)
  obtain⟨f,Cc',od,an,sl,oc,kV,dc,pm,cd,ct,a1,a2,a3,a4,a5,a6⟩:=hM _ (qw J)
  rw[z]at a1;cases a1
  obtain⟨N,ps,b1,b2,b3,b4,b5⟩:=hT _ (qw J)
  have F:=aU3 (st:=p.2) a3 a4 a5
  have Y:=aL.mp hc _ (qw J)
  rw[ak]at Y
  have a0:aX0 P K c=some Cc:=by
   unfold aX0
   obtain⟨p0,Z⟩:=bW.mp Y.2
   rw[e1,show mtb.lookup (c, "__init__")=some p0 from Z,gk]
   show(match cj K bf (c:Str)with|some (some (.ref Cc))=>some Cc|_=>none)=some Cc
   rw[z]
  exact⟨p.2,N,ps,f,_,Cc,⟨a0,n2⟩,⟨a2,a6,a5⟩,F,F.binds b4,b1,b2,b3,b5⟩
 .rw[e2]at e
  cases hl:obt.lookup c with
  | none=>rw[hl]at e;cases e
  | some l =>
   rw[hl]at e
   obtain⟨Cc',z,_,_,_,n5⟩:=aE9 (at_ hl)
   rw[(ns q).1]at z;cases z
   exact n5 f (List.contains_iff_mem.mp e)
 .obtain⟨n0,Y⟩:=ns q
  rw[e1]at Y
  obtain⟨d,hd⟩:=bW.mp Y
  obtain⟨p,J,_⟩:=cS.mp hd
  obtain⟨l,hl⟩:=ob J
  obtain⟨Cc',z,_,n3,n4,_⟩:=aE9 (at_ hl)
  rw[n0]at z;cases z
  exact⟨ee X G n0,n3,n4⟩
end L2
end
noncomputable section
namespace DV
noncomputable def av1:Df:=⟨"_law_bag",2,3,(.cons (.asg (.one 2) (.cst (.int 0))) (.cons (.ite (.cmp .lt (.var 1) (.bi .len (.cons (.var 0) .nil))) (.cons (.asg (.one 2) (.bi .abs (.cons (.ix (.var 0) (.var 1)) .nil))) .nil) .nil) (.cons (.asg (.one 3) (.bin .add (.bin .mul (.cst (.int 7919)) (.var 1)) (.cst (.int 17)))) (.cons (.for_ (.one 4) (.rng1 (.bi .min2 (.cons (.bi .len (.cons (.var 0) .nil)) (.cons (.cst (.int 60)) .nil)))) (.cons (.asg (.one 3) (.bin .mod (.bin .add (.bin .add (.bin .mul (.var 3) (.cst (.int 48271))) (.bin .mod (.ix (.var 0) (.var 4)) (.cst (.int 2147483647)))) (.var 4)) (.cst (.int 2147483629)))) .nil)) (.cons (.ite (.cmp .lt (.var 2) (.bin .pow (.cst (.int 10)) (.cst (.int 18)))) (.cons (.asg (.one 2) (.cst (.int 0))) .nil) .nil) (.cons (.ret (.lst (.cons (.var 2) (.cons (.var 3) .nil)))) .nil))))))⟩
noncomputable def ac6:Df:=⟨"_law_take",2,3,(.cons (.ite (.cmp .gt (.ix (.var 0) (.cst (.int 0))) (.cst (.int 0))) (.cons (.asg (.one 2) (.bin .mod (.ix (.var 0) (.cst (.int 0))) (.var 1))) (.cons (.setIx (.var 0) (.cst (.int 0)) (.bin .fdiv (.ix (.var 0) (.cst (.int 0))) (.var 1))) (.cons (.ret (.var 2)) .nil))) .nil) (.cons (.asg (.one 3) (.cst (.int 0))) (.cons (.asg (.one 4) (.cst (.int 1))) (.cons (.whl (.cmp .lt (.var 4) (.var 1)) (.cons (.setIx (.var 0) (.cst (.int 1)) (.bin .mod (.bin .add (.bin .mul (.ix (.var 0) (.cst (.int 1))) (.cst (.int 48271))) (.cst (.int 7919))) (.cst (.int 2147483647)))) (.cons (.asg (.one 3) (.bin .add (.bin .mul (.var 3) (.cst (.int 1073741789))) (.bin .mod (.bin .mul (.bin .fdiv (.ix (.var 0) (.cst (.int 1))) (.cst (.int 8))) (.cst (.int 69621))) (.cst (.int 1073741789))))) (.cons (.asg (.one 4) (.bin .mul (.var 4) (.cst (.int 1073741789)))) .nil)))) (.cons (.ret (.bin .mod (.var 3) (.var 1))) .nil)))))⟩
noncomputable def ai7:Df:=⟨"_law_word",3,2,(.cons (.asg (.one 3) (.cst (.str []))) (.cons (.for_ (.one 4) (.rng1 (.call "_law_take" (.ex (.var 0) (.ex (.bin .add (.var 2) (.cst (.int 1))) .nil)))) (.cons (.asg (.one 3) (.bin .add (.var 3) (.ix (.cst (.str [97,98,99])) (.call "_law_take" (.ex (.var 0) (.ex (.var 1) .nil)))))) .nil)) (.cons (.ret (.var 3)) .nil)))⟩
noncomputable def bS6:Df:=⟨"grid",2,2,.nil⟩
noncomputable def ap1:Df:=⟨"sign_product",2,1,.nil⟩
noncomputable def ai4:Lm:=⟨"sign_product.0",2,3,(.mk .min (.comp (.one 0) (.rng1 (.var 2)) (.bi .max2 (.cons (.ix (.ix (.var 1) (.var 2)) (.var 0)) (.cons (.ix (.ix (.var 3) (.var 0)) (.var 4)) .nil))) [none,some 3,some 0,some 4,some 1]))⟩
noncomputable def cl8:Df:=⟨"_law_on",3,5,(.cons (.asg (.one 3) (.mk .list (.comp (.one 0) (.seq (.var 2)) (.cst .non) [none]))) (.cons (.for_ (.tup [4,5,6,7]) (.seq (.ix (.var 0) (.cst (.int 4)))) (.cons (.ite (.and (.cmp .eq (.var 5) (.var 1)) (.notN (.ix (.var 2) (.var 4)))) (.cons (.ite (.or (.isN (.ix (.var 3) (.var 6))) (.cmp .lt (.bin .add (.ix (.var 2) (.var 4)) (.var 7)) (.ix (.var 3) (.var 6)))) (.cons (.setIx (.var 3) (.var 6) (.bin .add (.ix (.var 2) (.var 4)) (.var 7))) .nil) .nil) .nil) .nil) .nil)) (.cons (.ret (.var 3)) .nil)))⟩
noncomputable def ad5:Df:=⟨"_law_set",4,4,(.cons (.asg (.one 4) (.call "_law_take" (.ex (.var 0) (.ex (.cst (.int 8)) .nil)))) (.cons (.ite (.or (.cmp .eq (.var 1) (.cst (.int 1))) (.or (.cmp .lt (.var 2) (.cst (.int 3))) (.cmp .eq (.var 4) (.cst (.int 0))))) (.cons (.asg (.one 5) (.call "_law_take" (.ex (.var 0) (.ex (.cst (.int 4)) .nil)))) (.cons (.ite (.or (.cmp .eq (.var 5) (.cst (.int 3))) (.cmp .eq (.ix (.var 3) (.cst (.int 0))) (.cst (.int 0)))) (.cons (.ret (.tup (.cons (.cst (.str [110,111,116,104,105,110,103])) .nil))) .nil) .nil) (.cons (.setIx (.var 3) (.cst (.int 0)) (.bin .sub (.ix (.var 3) (.cst (.int 0))) (.cst (.int 1)))) (.cons (.ret (.tup (.cons (.cst (.str [108,101,116,116,101,114])) (.cons (.ix (.cst (.str [97,98,99])) (.var 5)) .nil)))) .nil)))) .nil) (.cons (.ite (.cmp .lt (.var 4) (.cst (.int 3))) (.cons (.ret (.tup (.cons (.cst (.str [114,101,112,101,97,116])) (.cons (.call "_law_set" (.ex (.var 0) (.ex (.bin .sub (.var 1) (.cst (.int 1))) (.ex (.bin .sub (.var 2) (.cst (.int 1))) (.ex (.var 3) .nil))))) .nil)))) .nil) .nil) (.cons (.asg (.one 6) (.bin .add (.cst (.int 1)) (.call "_law_take" (.ex (.var 0) (.ex (.bin .sub (.var 2) (.cst (.int 2))) .nil))))) (.cons (.asg (.one 7) (.call "_law_set" (.ex (.var 0) (.ex (.bin .sub (.var 1) (.cst (.int 1))) (.ex (.var 6) (.ex (.var 3) .nil)))))) (.cons (.ret (.tup (.cons (.ix (.lst (.cons (.cst (.str [101,105,116,104,101,114])) (.cons (.cst (.str [98,101,104,105,110,100])) .nil))) (.bin .mod (.var 4) (.cst (.int 2)))) (.cons (.var 7) (.cons (.call "_law_set" (.ex (.var 0) (.ex (.bin .sub (.var 1) (.cst (.int 1))) (.ex (.bin .sub (.bin .sub (.var 2) (.cst (.int 1))) (.var 6)) (.ex (.var 3) .nil))))) .nil))))) .nil))))))⟩
noncomputable def ab0:Df:=⟨"rooms_for",1,2,(.cons (.asg (.one 1) (.new "Rooms" .nil)) (.cons (.asg (.one 2) (.mcall (.var 1) "lay" (.ex (.var 0) .nil))) (.cons (.ex (.mcall (.var 1) "link" (.ex (.lst (.cons (.cst (.int 0)) .nil)) (.ex (.ix (.var 2) (.cst (.int 1))) .nil)))) (.cons (.setA (.var 1) [101,110,100,115] (.ite (.ix (.var 2) (.cst (.int 0))) (.srt (.bin .add (.lst (.cons (.cst (.int 0)) .nil)) (.ix (.var 2) (.cst (.int 2))))) (.srt (.ix (.var 2) (.cst (.int 2)))))) (.cons (.ret (.var 1)) .nil)))))⟩
noncomputable def ab8:Df:=⟨"led_by",3,3,(.cons (.asg (.one 3) (.dic .nil .nil)) (.cons (.for_ (.one 4) (.seq (.var 1)) (.cons (.forK (.one 5) (.ix (.attr (.var 0) [102,111,108,108,111,119,115]) (.var 4)) (.cons (.ite (.cmp .eq (.ix (.attr (.var 0) [108,101,116,116,101,114,115]) (.var 5)) (.var 2)) (.cons (.setIx (.var 3) (.var 5) (.cst (.bl true))) .nil) .nil) .nil)) .nil)) (.cons (.ret (.keysL (.var 3))) .nil)))⟩
noncomputable def ab1:Df:=⟨"ends_from",3,3,(.cons (.asg (.one 3) (.lst .nil)) (.cons (.asg (.one 4) (.lst (.cons (.cst (.int 0)) .nil))) (.cons (.for_ (.one 5) (.rng2 (.var 2) (.bin .add (.bi .len (.cons (.var 1) .nil)) (.cst (.int 1)))) (.cons (.ite (.mk .any (.comp (.one 0) (.seq (.var 4)) (.cmp .isin (.var 0) (.attr (.var 1) [101,110,100,115])) [none,some 0])) (.cons (.ex (.meth .append (.var 3) (.cons (.var 5) .nil))) .nil) .nil) (.cons (.asg (.one 4) (.call "led_by" (.ex (.var 0) (.ex (.var 4) (.ex (.slLU (.var 1) (.var 5) (.bin .add (.var 5) (.cst (.int 1)))) .nil))))) .nil))) (.cons (.ret (.var 3)) .nil))))⟩
noncomputable def ab4:Df:=⟨"_law_onward",2,2,(.cons (.asg (.one 2) (.cst (.int 0))) (.cons (.whl (.cmp .gt (.var 0) (.cst (.int 0))) (.cons (.asg (.one 3) (.bin .sub (.bitl (.var 0)) (.cst (.int 1)))) (.cons (.asg (.one 2) (.bin .bor (.var 2) (.ix (.var 1) (.var 3)))) (.cons (.asg (.one 0) (.bin .sub (.var 0) (.bin .shl (.cst (.int 1)) (.var 3)))) .nil)))) (.cons (.ret (.var 2)) .nil)))⟩
noncomputable def ac3:Df:=⟨"_law_again",1,2,(.cons (.asg (.one 1) (.mk .list (.comp (.one 0) (.rng1 (.bi .len (.cons (.var 0) .nil))) (.bin .shl (.cst (.int 1)) (.var 0)) [none]))) (.cons (.for_ (.one 2) (.rngD (.bin .sub (.bi .len (.cons (.var 0) .nil)) (.cst (.int 1)))) (.cons (.setIx (.var 1) (.var 2) (.bin .bor (.ix (.var 1) (.var 2)) (.call "_law_onward" (.ex (.bin .shl (.bin .shr (.ix (.var 0) (.var 2)) (.bin .add (.var 2) (.cst (.int 1)))) (.bin .add (.var 2) (.cst (.int 1)))) (.ex (.var 1) .nil))))) .nil)) (.cons (.ret (.var 1)) .nil)))⟩
noncomputable def ac2:Df:=⟨"_law_ends",2,3,(.cons (.asg (.one 2) (.bi .len (.cons (.var 1) .nil))) (.cons (.ite (.cmp .eq (.ix (.var 0) (.cst (.int 0))) (.cst (.str [108,101,116,116,101,114]))) (.cons (.ret (.mk .list (.comp (.one 0) (.rng1 (.bin .add (.var 2) (.cst (.int 1)))) (.bin .shl (.bi .int (.cons (.cmp .eq (.slLU (.var 1) (.var 0) (.bin .add (.var 0) (.cst (.int 1)))) (.ix (.var 2) (.cst (.int 1)))) .nil)) (.bin .add (.var 0) (.cst (.int 1)))) [none,some 1,some 0]))) .nil) .nil) (.cons (.ite (.cmp .eq (.ix (.var 0) (.cst (.int 0))) (.cst (.str [110,111,116,104,105,110,103]))) (.cons (.ret (.mk .list (.comp (.one 0) (.rng1 (.bin .add (.var 2) (.cst (.int 1)))) (.bin .shl (.cst (.int 1)) (.var 0)) [none]))) .nil) .nil) (.cons (.asg (.one 3) (.call "_law_ends" (.ex (.ix (.var 0) (.cst (.int 1))) (.ex (.var 1) .nil)))) (.cons (.ite (.cmp .eq (.ix (.var 0) (.cst (.int 0))) (.cst (.str [114,101,112,101,97,116]))) (.cons (.ret (.call "_law_again" (.ex (.var 3) .nil))) .nil) .nil) (.cons (.asg (.one 4) (.call "_law_ends" (.ex (.ix (.var 0) (.cst (.int 2))) (.ex (.var 1) .nil)))) (.cons (.ite (.cmp .eq (.ix (.var 0) (.cst (.int 0))) (.cst (.str [101,105,116,104,101,114]))) (.cons (.ret (.mk .list (.comp (.one 0) (.rng1 (.bin .add (.var 2) (.cst (.int 1)))) (.bin .bor (.ix (.var 1) (.var 0)) (.ix (.var 2) (.var 0))) [none,some 3,some 4]))) .nil) .nil) (.cons (.ret (.mk .list (.comp (.one 0) (.seq (.var 3)) (.call "_law_onward" (.ex (.var 0) (.ex (.var 1) .nil))) [none,some 4]))) .nil))))))))⟩
noncomputable def ab2:Df:=⟨"_law_member",3,3,(.cons (.setIx (.var 2) (.cst (.int 0)) (.bin .sub (.ix (.var 2) (.cst (.int 0))) (.cst (.int 1)))) (.cons (.ite (.cmp .eq (.ix (.var 1) (.cst (.int 0))) (.cst (.str [108,101,116,116,101,114]))) (.cons (.ret (.ix (.var 1) (.cst (.int 1)))) .nil) .nil) (.cons (.ite (.cmp .eq (.ix (.var 1) (.cst (.int 0))) (.cst (.str [110,111,116,104,105,110,103]))) (.cons (.ret (.cst (.str []))) .nil) .nil) (.cons (.ite (.cmp .eq (.ix (.var 1) (.cst (.int 0))) (.cst (.str [101,105,116,104,101,114]))) (.cons (.ret (.call "_law_member" (.ex (.var 0) (.ex (.ix (.var 1) (.bin .add (.cst (.int 1)) (.call "_law_take" (.ex (.var 0) (.ex (.cst (.int 2)) .nil))))) (.ex (.var 2) .nil))))) .nil) .nil) (.cons (.ite (.cmp .eq (.ix (.var 1) (.cst (.int 0))) (.cst (.str [98,101,104,105,110,100]))) (.cons (.asg (.one 3) (.call "_law_member" (.ex (.var 0) (.ex (.ix (.var 1) (.cst (.int 1))) (.ex (.var 2) .nil))))) (.cons (.ret (.bin .add (.var 3) (.call "_law_member" (.ex (.var 0) (.ex (.ix (.var 1) (.cst (.int 2))) (.ex (.var 2) .nil)))))) .nil)) .nil) (.cons (.asg (.one 4) (.cst (.str []))) (.cons (.for_ (.one 5) (.rng1 (.call "_law_take" (.ex (.var 0) (.ex (.cst (.int 5)) .nil)))) (.cons (.ite (.cmp .gt (.ix (.var 2) (.cst (.int 0))) (.cst (.int 0))) (.cons (.asg (.one 4) (.bin .add (.var 4) (.call "_law_member" (.ex (.var 0) (.ex (.ix (.var 1) (.cst (.int 1))) (.ex (.var 2) .nil)))))) .nil) .nil) .nil)) (.cons (.ret (.var 4)) .nil))))))))⟩
noncomputable def ac7:Df:=⟨"_law_spoilt",2,2,(.cons (.asg (.one 2) (.call "_law_take" (.ex (.var 0) (.ex (.bin .add (.bi .len (.cons (.var 1) .nil)) (.cst (.int 1))) .nil)))) (.cons (.asg (.one 3) (.call "_law_take" (.ex (.var 0) (.ex (.cst (.int 3)) .nil)))) (.cons (.ret (.bin .add (.bin .add (.slU (.var 1) (.var 2)) (.ix (.lst (.cons (.cst (.str [])) (.cons (.ix (.cst (.str [97,98,99])) (.call "_law_take" (.ex (.var 0) (.ex (.cst (.int 3)) .nil)))) (.cons (.ix (.cst (.str [97,98,99])) (.call "_law_take" (.ex (.var 0) (.ex (.cst (.int 3)) .nil)))) .nil)))) (.var 3))) (.slL (.var 1) (.bin .add (.var 2) (.bi .int (.cons (.cmp .lt (.var 3) (.cst (.int 2))) .nil)))))) .nil)))⟩
noncomputable def ad6:Df:=⟨"_law_held",2,0,(.cons (.ret (.cmp .eq (.bin .band (.bin .shr (.ix (.call "_law_ends" (.ex (.var 0) (.ex (.var 1) .nil))) (.cst (.int 0))) (.bi .len (.cons (.var 1) .nil))) (.cst (.int 1))) (.cst (.int 1)))) .nil)⟩
noncomputable def aa5:Df:=⟨"Rooms.__init__",1,0,(.cons (.setA (.var 0) [108,101,116,116,101,114,115] (.lst (.cons (.cst (.str [])) .nil))) (.cons (.setA (.var 0) [102,111,108,108,111,119,115] (.lst (.cons (.dic .nil .nil) .nil))) (.cons (.setA (.var 0) [101,110,100,115] (.lst .nil)) .nil)))⟩
noncomputable def aa4:Df:=⟨"Rooms.lay",2,4,(.cons (.ite (.cmp .eq (.ix (.var 1) (.cst (.int 0))) (.cst (.str [108,101,116,116,101,114]))) (.cons (.ret (.mcall (.var 0) "lay_letter" (.ex (.ix (.var 1) (.cst (.int 1))) .nil))) .nil) .nil) (.cons (.ite (.cmp .eq (.ix (.var 1) (.cst (.int 0))) (.cst (.str [110,111,116,104,105,110,103]))) (.cons (.ret (.tup (.cons (.cst (.bl true)) (.cons (.lst .nil) (.cons (.lst .nil) .nil))))) .nil) .nil) (.cons (.asg (.one 2) (.mcall (.var 0) "lay" (.ex (.ix (.var 1) (.cst (.int 1))) .nil))) (.cons (.ite (.cmp .eq (.ix (.var 1) (.cst (.int 0))) (.cst (.str [114,101,112,101,97,116]))) (.cons (.ex (.mcall (.var 0) "link" (.ex (.ix (.var 2) (.cst (.int 2))) (.ex (.ix (.var 2) (.cst (.int 1))) .nil)))) (.cons (.ret (.tup (.cons (.cst (.bl true)) (.cons (.ix (.var 2) (.cst (.int 1))) (.cons (.ix (.var 2) (.cst (.int 2))) .nil))))) .nil)) .nil) (.cons (.asg (.one 3) (.mcall (.var 0) "lay" (.ex (.ix (.var 1) (.cst (.int 2))) .nil))) (.cons (.ite (.cmp .eq (.ix (.var 1) (.cst (.int 0))) (.cst (.str [101,105,116,104,101,114]))) (.cons (.ret (.tup (.cons (.or (.ix (.var 2) (.cst (.int 0))) (.ix (.var 3) (.cst (.int 0)))) (.cons (.bin .add (.ix (.var 2) (.cst (.int 1))) (.ix (.var 3) (.cst (.int 1)))) (.cons (.bin .add (.ix (.var 2) (.cst (.int 2))) (.ix (.var 3) (.cst (.int 2)))) .nil))))) .nil) .nil) (.cons (.ex (.mcall (.var 0) "link" (.ex (.ix (.var 2) (.cst (.int 2))) (.ex (.ix (.var 3) (.cst (.int 1))) .nil)))) (.cons (.asg (.one 4) (.ite (.ix (.var 2) (.cst (.int 0))) (.bin .add (.ix (.var 2) (.cst (.int 1))) (.ix (.var 3) (.cst (.int 1)))) (.ix (.var 2) (.cst (.int 1))))) (.cons (.asg (.one 5) (.ite (.ix (.var 3) (.cst (.int 0))) (.bin .add (.ix (.var 2) (.cst (.int 2))) (.ix (.var 3) (.cst (.int 2)))) (.ix (.var 3) (.cst (.int 2))))) (.cons (.ret (.tup (.cons (.and (.ix (.var 2) (.cst (.int 0))) (.ix (.var 3) (.cst (.int 0)))) (.cons (.var 4) (.cons (.var 5) .nil))))) .nil))))))))))⟩
noncomputable def aa3:Df:=⟨"Rooms.lay_letter",2,1,(.cons (.asg (.one 2) (.bi .len (.cons (.attr (.var 0) [108,101,116,116,101,114,115]) .nil))) (.cons (.ex (.meth .append (.attr (.var 0) [108,101,116,116,101,114,115]) (.cons (.var 1) .nil))) (.cons (.ex (.meth .append (.attr (.var 0) [102,111,108,108,111,119,115]) (.cons (.dic .nil .nil) .nil))) (.cons (.ret (.tup (.cons (.cst (.bl false)) (.cons (.lst (.cons (.var 2) .nil)) (.cons (.lst (.cons (.var 2) .nil)) .nil))))) .nil))))⟩
noncomputable def aa7:Df:=⟨"Rooms.link",3,2,(.cons (.for_ (.one 3) (.seq (.var 1)) (.cons (.for_ (.one 4) (.seq (.var 2)) (.cons (.setIx (.ix (.attr (.var 0) [102,111,108,108,111,119,115]) (.var 3)) (.var 4) (.cst (.bl true))) .nil)) .nil)) .nil)⟩
noncomputable def ac4:Df:=⟨"cut_up",2,3,(.cons (.asg (.one 2) (.call "rooms_for" (.ex (.var 0) .nil))) (.cons (.asg (.one 3) (.dic (.cons (.cst (.int 0)) .nil) (.cons (.lst .nil) .nil))) (.cons (.for_ (.one 4) (.rng1 (.bi .len (.cons (.var 1) .nil))) (.cons (.ite (.cmp .isin (.var 4) (.var 3)) (.cons (.ex (.call "take_pieces" (.ex (.var 3) (.ex (.var 1) (.ex (.var 4) (.ex (.call "ends_from" (.ex (.var 2) (.ex (.var 1) (.ex (.var 4) .nil)))) .nil)))))) .nil) .nil) .nil)) (.cons (.ret (.get1 (.var 3) (.bi .len (.cons (.var 1) .nil)))) .nil))))⟩
noncomputable def aa8:Df:=⟨"take_pieces",4,1,(.cons (.for_ (.one 4) (.seq (.var 3)) (.cons (.ite (.and (.cmp .gt (.var 4) (.var 2)) (.or (.cmp .notin (.var 4) (.var 0)) (.cmp .lt (.bin .add (.bi .len (.cons (.ix (.var 0) (.var 2)) .nil)) (.cst (.int 1))) (.bi .len (.cons (.ix (.var 0) (.var 4)) .nil))))) (.cons (.setIx (.var 0) (.var 4) (.bin .add (.ix (.var 0) (.var 2)) (.lst (.cons (.slLU (.var 1) (.var 2) (.var 4)) .nil)))) .nil) .nil) .nil)) .nil)⟩
noncomputable def ab3:Df:=⟨"_law_fewest",2,4,(.cons (.asg (.one 2) (.call "_law_ends" (.ex (.var 0) (.ex (.var 1) .nil)))) (.cons (.asg (.one 3) (.bin .add (.mk .list (.comp (.one 0) (.rng1 (.bi .len (.cons (.var 1) .nil))) (.cst .non) [none])) (.lst (.cons (.cst (.int 0)) .nil)))) (.cons (.for_ (.one 4) (.rngD (.bin .sub (.bi .len (.cons (.var 1) .nil)) (.cst (.int 1)))) (.cons (.for_ (.one 5) (.rng2 (.bin .add (.var 4) (.cst (.int 1))) (.bin .add (.bi .len (.cons (.var 1) .nil)) (.cst (.int 1)))) (.cons (.ite (.and (.cmp .eq (.bin .band (.bin .shr (.ix (.var 2) (.var 4)) (.var 5)) (.cst (.int 1))) (.cst (.int 1))) (.and (.notN (.ix (.var 3) (.var 5))) (.or (.isN (.ix (.var 3) (.var 4))) (.cmp .lt (.bin .add (.ix (.var 3) (.var 5)) (.cst (.int 1))) (.ix (.var 3) (.var 4)))))) (.cons (.setIx (.var 3) (.var 4) (.bin .add (.ix (.var 3) (.var 5)) (.cst (.int 1)))) .nil) .nil) .nil)) .nil)) (.cons (.ret (.ix (.var 3) (.cst (.int 0)))) .nil))))⟩
noncomputable def ab6:Df:=⟨"_law_pieced",2,3,(.cons (.asg (.one 2) (.cst (.str []))) (.cons (.for_ (.one 3) (.rng1 (.call "_law_take" (.ex (.var 0) (.ex (.cst (.int 13)) .nil)))) (.cons (.asg (.one 4) (.call "_law_member" (.ex (.var 0) (.ex (.var 1) (.ex (.lst (.cons (.cst (.int 12)) .nil)) .nil))))) (.cons (.ite (.cmp .lt (.bi .len (.cons (.bin .add (.var 2) (.var 4)) .nil)) (.cst (.int 41))) (.cons (.asg (.one 2) (.bin .add (.var 2) (.var 4))) .nil) .nil) .nil))) (.cons (.ret (.var 2)) .nil)))⟩
noncomputable def ab9:Df:=⟨"_law_is_cut",4,0,(.cons (.ite (.or (.isN (.var 3)) (.isN (.var 2))) (.cons (.ret (.and (.isN (.var 3)) (.isN (.var 2)))) .nil) .nil) (.cons (.ite (.or (.not (.bi .isList (.cons (.var 2) .nil))) (.cmp .ne (.bi .len (.cons (.var 2) .nil)) (.var 3))) (.cons (.ret (.cst (.bl false))) .nil) .nil) (.cons (.ite (.or (.not (.mk .all (.comp (.one 0) (.seq (.var 2)) (.and (.bi .isStr (.cons (.var 0) .nil)) (.cmp .ne (.var 0) (.cst (.str [])))) [none]))) (.cmp .ne (.join (.cst (.str [])) (.var 2)) (.var 1))) (.cons (.ret (.cst (.bl false))) .nil) .nil) (.cons (.ret (.mk .all (.comp (.one 0) (.seq (.var 2)) (.call "_law_held" (.ex (.var 1) (.ex (.var 0) .nil))) [none,some 0]))) .nil))))⟩
noncomputable def ac1:Df:=⟨"_law_right",2,3,(.cons (.asg (.one 2) (.call "_law_fewest" (.ex (.var 0) (.ex (.var 1) .nil)))) (.cons (.for_ (.one 3) (.rng1 (.cst (.int 2))) (.cons (.asg (.one 4) (.call "cut_up" (.ex (.var 0) (.ex (.var 1) .nil)))) (.cons (.ite (.not (.call "_law_is_cut" (.ex (.var 0) (.ex (.var 1) (.ex (.var 4) (.ex (.var 2) .nil)))))) (.cons (.ret (.cst (.bl false))) .nil) .nil) (.cons (.ite (.notN (.var 4)) (.cons (.ex (.meth .append (.var 4) (.cons (.cst (.str [97])) .nil))) (.cons (.ex (.meth .reverse (.var 4) .nil)) .nil)) .nil) .nil)))) (.cons (.ret (.cst (.bl true))) .nil)))⟩
noncomputable def ab5:Df:=⟨"law",1,5,(.cons (.asg (.one 1) (.lst .nil)) (.cons (.for_ (.one 2) (.rng1 (.cst (.int 2))) (.cons (.asg (.one 3) (.call "_law_bag" (.ex (.var 0) (.ex (.var 2) .nil)))) (.cons (.ex (.meth .append (.var 1) (.cons (.call "_law_set" (.ex (.var 3) (.ex (.bin .add (.cst (.int 1)) (.call "_law_take" (.ex (.var 3) (.ex (.cst (.int 12)) .nil)))) (.ex (.bin .add (.cst (.int 1)) (.call "_law_take" (.ex (.var 3) (.ex (.cst (.int 40)) .nil)))) (.ex (.lst (.cons (.cst (.int 40)) .nil)) .nil))))) .nil))) .nil))) (.cons (.for_ (.one 2) (.rng2 (.cst (.int 2)) (.bi .max2 (.cons (.cst (.int 4)) (.cons (.bi .min2 (.cons (.bi .len (.cons (.var 0) .nil)) (.cons (.cst (.int 5)) .nil))) .nil)))) (.cons (.asg (.one 3) (.call "_law_bag" (.ex (.var 0) (.ex (.var 2) .nil)))) (.cons (.asg (.one 4) (.call "_law_pieced" (.ex (.var 3) (.ex (.ix (.var 1) (.bin .mod (.var 2) (.cst (.int 2)))) .nil)))) (.cons (.for_ (.one 5) (.seq (.lst (.cons (.cst (.str [])) (.cons (.var 4) (.cons (.slU (.call "_law_spoilt" (.ex (.var 3) (.ex (.var 4) .nil))) (.cst (.int 40))) (.cons (.call "_law_word" (.ex (.var 3) (.ex (.cst (.int 3)) (.ex (.cst (.int 40)) .nil)))) .nil)))))) (.cons (.ite (.or (.not (.call "_law_right" (.ex (.ix (.var 1) (.cst (.int 0))) (.ex (.var 5) .nil)))) (.not (.call "_law_right" (.ex (.ix (.var 1) (.cst (.int 1))) (.ex (.var 5) .nil))))) (.cons (.ret (.cst (.bl false))) .nil) .nil) .nil)) .nil)))) (.cons (.ret (.cst (.bl true))) .nil))))⟩
class Has (P:Pr)(d:Df):Prop where
 eq:P.df d.name=some d
class HasM (P:Pr)(c m:String)(d:Df):Prop where
 at_:P.mt c m=some d
class HasA (P:Pr)(c:String)(f:List Nat):Prop where
 at_:P.att c f=true
class HasL (P:Pr)(d:Lm):Prop where
 eq:P.lm d.id=some d
noncomputable def fin (s:Sto)(c:Ct)(s':Sto):R D:=match c with
 | .ret v=>zm s v s'
 | .next _=>zm s .non s'
 | _=>.bad
@[simp] theorem fin_ret (s:Sto) (v:D) (s':Sto):fin s (.ret v) s'=zm s v s':=rfl
@[simp] theorem fin_next (s:Sto) (U:Env) (s':Sto):fin s (.next U) s'=zm s .non s':=rfl
theorem zd {P:Pr}(d:Df)[h:Has P d]{n:Nat}{l:List D}{s:Sto}(hl:l.length=d.ps) :
  (aa1 P (n+1)).call d.name l s=(exs (aa1 P n) d.body (l.map some++ai d.vs none) s).bind (fin s):=by
 simp only[aa1,h.eq,hl,if_true]
 rfl
theorem zM {P:Pr}{c m:String}(d:Df)[h:HasM P c m d]{n:Nat}{l:List D}{s:Sto}(hl:l.length=d.ps) :
  (aa1 P (n+1)).mcall c m l s=(exs (aa1 P n) d.body (l.map some++ai d.vs none) s).bind λ c s'=>fin s c s':=by
 simp only[aa1,h.at_,be4,hl,if_true]
 rfl
theorem au3 {P:Pr}{c:String}{f:List Nat}[h:HasA P c f]{n:Nat}:(aa1 P n).att c f=true:=by
 have:(aa1 P n).att=P.att:=by cases n<;>rfl
 rw[this];exact h.at_
theorem aw5 (s t:Sto):qC s (s++t)=true:=by
 unfold qC
 rw[aL]
 intro i h
 rw[br]at h
 rw[au h]
 simp
theorem aT6 (s t:Sto)(r:Nat)(o:O)(h:o.bnd s.length=true):qC s (s.set r o++t)=true:=by
 unfold qC
 rw[aL]
 intro i z
 rw[br]at z
 rw[au (by rw[aS];exact z)]
 by_cases e:r=i
 .subst e;rw[aX z];simp[h]
 .rw[ao e];simp
theorem qq {s t:Sto}{d:D}(h:∀ n,d.bnd n=true)(z:∀ r,d≠.ref r):zm s d (s++t)=.ok d s:=by
 unfold zm
 rw[aw5,if_pos rfl]
 cases d with
 | ref r=>exact absurd rfl (z r)
 | _=>simp[h]
theorem zH {s:Sto}{d:D}(h:∀ n,d.bnd n=true)(z:∀ r,d≠.ref r):zm s d s=.ok d s:=by
 have:=qq (s:=s) (t:=[]) h z
 rwa [aK]at this
theorem an8 {s t:Sto}{d:D}{r:Nat}{o:O}(h:∀ n,d.bnd n=true)(z:∀ r,d≠.ref r)(ho:o.bnd s.length=true):zm s d (s.set r o++t)=.ok d (s.set r o):=by
 unfold zm
 rw[aT6 s t r o ho,if_pos rfl]
 have e:(s.set r o++t).take s.length=s.set r o:=by rw[eD (by simp),dT (by simp)]
 cases d with
 | ref r=>exact absurd rfl (z r)
 | _=>simp only[h,if_true,e]
theorem ai3 {s:Sto}{d:D}{r:Nat}{o:O}(h:∀ n,d.bnd n=true)(z:∀ r,d≠.ref r)(ho:o.bnd s.length=true):zm s d (s.set r o)=.ok d (s.set r o):=by
 have:=an8 (s:=s) (t:=[]) (r:=r) h z ho
 rwa [aK]at this
theorem zL {s t u:Sto}{o:O}(ho:o.bnd s.length=true):zm s (.ref (s.length+t.length)) (s++(t++o::u))=.ok (.ref s.length) (s++[o]):=by
 unfold zm
 rw[aw5,if_pos rfl]
 simp[ho,aI]
@[simp] theorem bJ2 {s:Sto} {i:Int}:zm s (.int i) s=.ok (.int i) s:=zH (λ _=>rfl) (by nofun)
@[simp] theorem aI1 {s:Sto} {i:Bool}:zm s (.bl i) s=.ok (.bl i) s:=zH (λ _=>rfl) (by nofun)
@[simp] theorem bM8 {s:Sto}:zm s .non s=.ok .non s:=zH (λ _=>rfl) (by nofun)
@[simp] theorem bV1 {s:Sto} {x:List Nat}:zm s (.str x) s=.ok (.str x) s:=zH (λ _=>rfl) (by nofun)
theorem qo {c:Env->Sto->R D}{g:Env->Sto->R Ct}:∀ {n:Nat} {U:Env} {s:Sto},qJ c g n U s≠.bad->qJ c g (n+1) U s=qJ c g n U s
 | 0,_,_,h=>absurd rfl h
 | n+1,U,s,h=>by
  rw[show qJ c g (n+1+1) U s=tru (c U s) (λ b s=>if b then(g U s).bind λ z s=>match z with
   | .next U=>qJ c g (n+1) U s|.cont U=>qJ c g (n+1) U s|.brk U=>.ok (.next U) s|.ret d=>.ok (.ret d) s else .ok (.next U) s)from rfl]
  have e:qJ c g (n+1) U s=tru (c U s) (λ b s=>if b then(g U s).bind λ z s=>match z with
   | .next U=>qJ c g n U s|.cont U=>qJ c g n U s|.brk U=>.ok (.next U) s|.ret d=>.ok (.ret d) s else .ok (.next U) s):=rfl
  rw[e]at h ⊢
  unfold tru at h ⊢
  cases hc:c U s with
  | exc _ _=>rfl
  | bad=>rfl
  | ok d s1 =>
   rw[hc]at h
   cases d with
   | bl b =>
    cases b with
    | false=>rfl
    | true =>
     simp only[R.bind_ok,if_true]at h ⊢
     cases hg:g U s1 with
     | exc _ _=>rfl
     | bad=>rfl
     | ok z s2 =>
      rw[hg]at h
      simp only[R.bind_ok]at h ⊢
      cases z with
      | next U'=>exact qo h
      | cont U'=>exact qo h
      | _=>rfl
   | _=>rfl
theorem zZ {c:Env->Sto->R D}{g:Env->Sto->R Ct}{n:Nat}{U:Env}{s:Sto}(h:qJ c g n U s≠.bad):∀ k,qJ c g (n+k) U s=qJ c g n U s
 | 0=>rfl
 | k+1=>by
  have e:=zZ h k
  rw[<-j3,qo (by rw[e];exact h),e]
theorem bO2 {c:Env->Sto->R D}{g:Env->Sto->R Ct}{n:Nat}{U:Env}{s:Sto}{r:Ct}{t:Sto}(h:qJ c g n U s=.ok r t):whl c g U s=.ok r t:=by
 have hb:qJ c g n U s≠.bad:=by rw[h];nofun
 have hx:∃ n,qJ c g n U s≠.bad:=⟨n,hb⟩
 unfold whl
 rw[dif_pos hx]
 have z:=zZ hx.choose_spec n
 have F:=zZ hb hx.choose
 rw[<-z,gb,F,h]
theorem aL4 {c:Env->Sto->R D}{g:Env->Sto->R Ct}{U U':Env}{s s1 s':Sto}(hc:c U s=.ok (.bl true) s1)(hg:g U s1=.ok (.next U') s'):whl c g U s=whl c g U' s':=by
 have key:∀ n,qJ c g (n+1) U s=qJ c g n U' s':=λ n=>by
  show tru (c U s) _=_
  rw[hc,tru_bl,if_pos rfl,hg];rfl
 unfold whl
 by_cases hx:∃ n,qJ c g n U' s'≠.bad
 .have hy:∃ n,qJ c g n U s≠.bad:=⟨hx.choose+1,by rw[key];exact hx.choose_spec⟩
  rw[dif_pos hx,dif_pos hy]
  have h:=zZ hy.choose_spec (hx.choose+1)
  have z:=zZ (n:=hx.choose+1) (U:=U) (s:=s) (by rw[key];exact hx.choose_spec) hy.choose
  rw[<-h,gb,z,key]
 .have hy:¬ ∃ n,qJ c g n U s≠.bad:=λ⟨n,hn⟩=>by
   cases n with
   | zero=>exact hn rfl
   | succ n=>exact hx ⟨n,by rw[<-key];exact hn⟩
  rw[dif_neg hx,dif_neg hy]
theorem aV4 {c:Env->Sto->R D}{g:Env->Sto->R Ct}{U:Env}{s s1:Sto}(hc:c U s=.ok (.bl false) s1):whl c g U s=.ok (.next U) s1 :=
 bO2 (n:=1) (by show tru (c U s) _=_;rw[hc,tru_bl];rfl)
theorem z6 {ok:Sto->Bool}{g:D->Env->Sto->R Ct}(P:Nat->Env->Sto->Prop):∀(l:List D) (k:Nat) (U:Env) (s:Sto),
  P k U s->(∀(j:Nat) (U:Env) (s:Sto),j<=l.length->P (k+j) U s->ok s=true)->(∀(j:Nat) (d:D) (U:Env) (s:Sto),l[j]?=some d->P (k+j) U s->∃ U' s',(g d U s=.ok (.next U') s'\/g d U s=.ok (.cont U') s')/\P (k+j+1) U' s') ->
  ∃ U' s',aD0 ok g l U s=.ok (.next U') s'/\P (k+l.length) U' s'
 | [],k,U,s,h,o,_=>⟨U,s,by show(if ok s then _ else _)=_;rw[if_pos (o 0 U s (ah _) h)],h⟩
 | d::l,k,U,s,h,o,t=>by
  have ho:=o 0 U s (bS _) h
  obtain⟨U1,s1,hg,z⟩:=t 0 d U s rfl h
  obtain⟨U2,s2,e,G⟩:=z6 P l (k+1) U1 s1 z (λ j U' s' hj F=>o (j+1) U' s' (by simpa using hj) (by rwa [show k+(j+1)=k+1+j by lia])) λ j d' U' s' hj F=>by
   have:=t (j+1) d' U' s' (by simpa using hj) (by rwa [show k+(j+1)=k+1+j by lia])
   rwa [show k+(j+1)+1=k+1+j+1 by lia]at this
  refine⟨U2,s2,?_,by rwa [aR,show k+(l.length+1)=k+1+l.length by lia]⟩
  show(if ok s then _ else _)=_
  rw[if_pos ho]
  rcases hg with hg|hg<;>(rw[hg];exact e)
noncomputable def Nx (Q:Env->Sto->Prop):R Ct->Prop
 | .ok (.next U) s=>Q U s
 | .ok (.cont U) s=>Q U s
 | _=>False
@[simp] theorem cf8 (Q:Env->Sto->Prop) (U:Env) (s:Sto):Nx Q (.ok (.next U) s)=Q U s:=rfl
@[simp] theorem cb8 (Q:Env->Sto->Prop) (U:Env) (s:Sto):Nx Q (.ok (.cont U) s)=Q U s:=rfl
theorem ah9 {Q:Env->Sto->Prop}{r:R Ct}{U:Env}{s:Sto}(e:r=.ok (.next U) s)(h:Q U s):Nx Q r:=by rw[e];exact h
theorem Nx.out {Q:Env->Sto->Prop}:∀ {r:R Ct},Nx Q r->∃ U s,(r=.ok (.next U) s\/r=.ok (.cont U) s)/\Q U s
 | .ok (.next U) s,h=>⟨U,s,.inl rfl,h⟩
 | .ok (.cont U) s,h=>⟨U,s,.inr rfl,h⟩
 | .ok (.ret _) _,h=>h.elim
 | .ok (.brk _) _,h=>h.elim
 | .exc _ _,h=>h.elim
 | .bad,h=>h.elim
noncomputable def Tst (A B:Sto->Prop):R D->Prop
 | .ok (.bl false) s=>A s
 | .ok (.bl true) s=>B s
 | _=>False
@[simp] theorem bs6 (A B:Sto->Prop) (b:Bool) (s:Sto):Tst A B (.ok (.bl b) s)=if b then B s else A s:=by cases b<;>rfl
theorem Tst.out {A B:Sto->Prop}:∀ {r:R D},Tst A B r->(∃ s,r=.ok (.bl false) s/\A s)\/∃ s,r=.ok (.bl true) s/\B s
 | .ok (.bl false) s,h=>.inl ⟨s,rfl,h⟩
 | .ok (.bl true) s,h=>.inr ⟨s,rfl,h⟩
 | .ok .non _,h=>h.elim
 | .ok (.int _) _,h=>h.elim
 | .ok (.str _) _,h=>h.elim
 | .ok (.tup _) _,h=>h.elim
 | .ok (.ref _) _,h=>h.elim
 | .ok (.fn _) _,h=>h.elim
 | .ok (.clo _ _) _,h=>h.elim
 | .exc _ _,h=>h.elim
 | .bad,h=>h.elim
theorem bm7 {c:Env->Sto->R D}{g:Env->Sto->R Ct}{U U':Env}{s s1 s':Sto}(hc:c U s=.ok (.bl true) s1)(hg:g U s1=.ok (.cont U') s'):whl c g U s=whl c g U' s':=by
 have key:∀ n,qJ c g (n+1) U s=qJ c g n U' s':=λ n=>by
  show tru (c U s) _=_
  rw[hc,tru_bl,if_pos rfl,hg];rfl
 unfold whl
 by_cases hx:∃ n,qJ c g n U' s'≠.bad
 .have hy:∃ n,qJ c g n U s≠.bad:=⟨hx.choose+1,by rw[key];exact hx.choose_spec⟩
  rw[dif_pos hx,dif_pos hy]
  have h:=zZ hy.choose_spec (hx.choose+1)
  have z:=zZ (n:=hx.choose+1) (U:=U) (s:=s) (by rw[key];exact hx.choose_spec) hy.choose
  rw[<-h,gb,z,key]
 .have hy:¬ ∃ n,qJ c g n U s≠.bad:=λ⟨n,hn⟩=>by
   cases n with
   | zero=>exact hn rfl
   | succ n=>exact hx ⟨n,by rw[<-key];exact hn⟩
  rw[dif_neg hx,dif_neg hy]
theorem bR6 {c:Env->Sto->R D}{g:Env->Sto->R Ct}(P:Nat->Env->Sto->Prop)(Q:Env->Sto->Prop)
  (step:∀ k U s,P k U s->Tst (λ s1=>Q U s1) (λ s1=>Nx (λ U' s'=>∃ z,z<k/\P z U' s') (g U s1)) (c U s)) :
  ∀(k:Nat) (U:Env) (s:Sto),P k U s->∃ U' s',whl c g U s=.ok (.next U') s'/\Q U' s':=by
 intro k
 induction k using ju with
 | _ k ih =>
  intro U s h
  rcases(step k U s h).out with⟨s1,hc,hq⟩|⟨s1,hc,hn⟩
  .exact⟨U,s1,aV4 hc,hq⟩
  .obtain⟨U',s',hg,z,hk,F⟩:=hn.out
   rcases hg with hg|hg
   .rw[aL4 hc hg];exact ih z hk U' s' F
   .rw[bm7 hc hg];exact ih z hk U' s' F
theorem bi5 {c:Env->Sto->R D}{g:Env->Sto->R Ct}{U:Env}{s:Sto}{α:Type}{f:Ct->Sto->R α}{Ww:R α->Prop}(P:Nat->Env->Sto->Prop)(Q:Env->Sto->Prop)(k:Nat)(h:P k U s)
  (step:∀ k U s,P k U s->Tst (λ s1=>Q U s1) (λ s1=>Nx (λ U' s'=>∃ z,z<k/\P z U' s') (g U s1)) (c U s))
  (F:∀ U' s',Q U' s'->Ww (f (.next U') s')):Ww ((whl c g U s).bind f):=by
 obtain⟨U',s',e,q⟩:=bR6 P Q step k U s h
 rw[e]
 exact F U' s' q
theorem bg0 {c:Env->Sto->R D}{g:Env->Sto->R Ct}{U:Env}{s:Sto}{α:Type}{f:Ct->Sto->R α}{x:R α}(P:Nat->Env->Sto->Prop)(Q:Env->Sto->Prop)(k:Nat)(h:P k U s)
  (step:∀ k U s,P k U s->Tst (λ s1=>Q U s1) (λ s1=>Nx (λ U' s'=>∃ z,z<k/\P z U' s') (g U s1)) (c U s))
  (F:∀ U' s',Q U' s'->f (.next U') s'=x):(whl c g U s).bind f=x:=bi5 (Ww:=(·=x)) P Q k h step F
theorem z9 {ok:Sto->Bool}{g:D->Env->Sto->R Ct}{l:List D}{U:Env}{s:Sto}{α:Type}{f:Ct->Sto->R α}{Ww:R α->Prop}(P:Nat->Env->Sto->Prop)(h:P 0 U s)
  (o:∀(j:Nat) (U:Env) (s:Sto),j<=l.length->P j U s->ok s=true) (step:∀(j:Nat) (d:D) (U:Env) (s:Sto),l[j]?=some d->P j U s->Nx (P (j+1)) (g d U s))
  (F:∀ U' s',P l.length U' s'->Ww (f (.next U') s')):Ww ((aD0 ok g l U s).bind f):=by
 obtain⟨U',s',e,q⟩:=z6 P l 0 U s h (λ j U s hj z=>o j U s hj (by rwa [aU]at z)) (λ j d U s hj z=>by
  rw[aU]at z ⊢
  exact(step j d U s hj z).out)
 rw[e]
 rw[aU]at q
 exact F U' s' q
theorem aK7 {ok:Sto->Bool}{g:D->Env->Sto->R Ct}{l:List D}{U:Env}{s:Sto}{α:Type}{f:Ct->Sto->R α}{x:R α}(P:Nat->Env->Sto->Prop)(h:P 0 U s)
  (o:∀(j:Nat) (U:Env) (s:Sto),j<=l.length->P j U s->ok s=true) (step:∀(j:Nat) (d:D) (U:Env) (s:Sto),l[j]?=some d->P j U s->Nx (P (j+1)) (g d U s))
  (z:∀ U' s',P l.length U' s'->f (.next U') s'=x):(aD0 ok g l U s).bind f=x:=z9 (Ww:=(·=x)) P h o step z
section
variable {F:Fns} {U:Env} {s:Sto}
@[simp] theorem ev_var (i:Nat):ev F (.var i) U s=be6 U i s:=rfl
@[simp] theorem ev_cst (c:Cn):ev F (.cst c) U s=.ok c.d s:=rfl
@[simp] theorem ev_bin (op:BOp) (a b:E):ev F (.bin op a b) U s=(ev F a U s).bind λ x s=>(ev F b U s).bind λ y s=>z0 op x y s:=rfl
@[simp] theorem ev_not (a:E):ev F (.not a) U s=tru (ev F a U s) λ b s=>.ok (.bl (!b)) s:=rfl
@[simp] theorem ev_cmp (op:COp) (a b:E):ev F (.cmp op a b) U s=(ev F a U s).bind λ x s=>(ev F b U s).bind λ y s=>zc op x y s:=rfl
@[simp] theorem ev_isN (a:E):ev F (.isN a) U s=(ev F a U s).bind λ x s=>.ok (.bl (decide (x=.non))) s:=rfl
@[simp] theorem ev_notN (a:E):ev F (.notN a) U s=(ev F a U s).bind λ x s=>.ok (.bl (!decide (x=.non))) s:=rfl
@[simp] theorem ev_and (a b:E):ev F (.and a b) U s=tru (ev F a U s) λ c s=>if c then tru (ev F b U s) λ c s=>.ok (.bl c) s else .ok (.bl false) s:=rfl
@[simp] theorem ev_or (a b:E):ev F (.or a b) U s=tru (ev F a U s) λ c s=>if c then .ok (.bl true) s else tru (ev F b U s) λ c s=>.ok (.bl c) s:=rfl
@[simp] theorem ev_ite (c a b:E):ev F (.ite c a b) U s=tru (ev F c U s) λ k s=>if k then ev F a U s else ev F b U s:=rfl
@[simp] theorem ev_tup (es:Es):ev F (.tup es) U s=(evs F es U s).bind λ l s=>.ok (.tup l) s:=rfl
@[simp] theorem ev_lst (es:Es):ev F (.lst es) U s=(evs F es U s).bind λ l s=>ac5 (.lst l) s:=rfl
@[simp] theorem ev_ix (a b:E):ev F (.ix a b) U s=(ev F a U s).bind λ x s=>(ev F b U s).bind λ y s=>ixM x y s:=rfl
@[simp] theorem ev_call (f:String) (h:As):ev F (.call f h) U s=(aj5 F h U s).bind λ l s=>F.call f l s:=rfl
@[simp] theorem ev_bi (b:Bi) (es:Es):ev F (.bi b es) U s=(evs F es U s).bind λ l s=>bi b l s:=rfl
@[simp] theorem ev_mk (k:Mk) (it:L):ev F (.mk k it) U s=(evL F it U s).bind λ q s=>mk k q s:=rfl
@[simp] theorem ev_meth (m:Mt) (o:E) (es:Es):ev F (.meth m o es) U s=(ev F o U s).bind λ x s=>(evs F es U s).bind λ l s=>meth m x l s:=rfl
@[simp] theorem evs_nil:evs F .nil U s=.ok [] s:=rfl
@[simp] theorem evs_cons (e:E) (es:Es):evs F (.cons e es) U s=(ev F e U s).bind λ d s=>(evs F es U s).bind λ l s=>.ok (d::l) s:=rfl
@[simp] theorem evas_nil:aj5 F .nil U s=.ok [] s:=rfl
@[simp] theorem evas_ex (e:E) (h:As):aj5 F (.ex e h) U s=(ev F e U s).bind λ d s=>(aj5 F h U s).bind λ l s=>.ok (d::l) s:=rfl
@[simp] theorem ce2 (f:String) (h:As):aj5 F (.fn f h) U s=(aj5 F h U s).bind λ l s=>.ok (.fn f::l) s:=rfl
@[simp] theorem evI_seq (e:E):evI F (.seq e) U s=(ev F e U s).bind λ d s=>ao6 d s:=rfl
@[simp] theorem bY5 (es:Es):evL F (.disp es) U s=evs F es U s:=rfl
@[simp] theorem evL_seq (e:E):evL F (.seq e) U s=(ev F e U s).bind λ d s=>bO9 d s:=rfl
noncomputable def az8 (x:D):M Sq:=λ s=>match x with|.int i=>if -Ww62<=i/\i<Ww62 then .ok ⟨ae1 0 i,[]⟩ s else .bad|_=>.bad
@[simp] theorem evI_rng1 (a:E):evI F (.rng1 a) U s=(ev F a U s).bind λ x s=>az8 x s:=rfl
theorem zO {i:Int}(h0:-Ww62<=i)(h:i<Ww62):az8 (.int i) s=.ok ⟨ae1 0 i,[]⟩ s:=by unfold az8;simp only[h0,h,and_self,if_true]
noncomputable def nxt (F:Fns)(ss:Ss)(c:Ct)(s:Sto):R Ct:=match c with|.next U=>exs F ss U s|c=>.ok c s
@[simp] theorem nxt_next (h:Ss) (U:Env) (s:Sto):nxt F h (.next U) s=exs F h U s:=rfl
@[simp] theorem nxt_ret (h:Ss) (d:D) (s:Sto):nxt F h (.ret d) s=.ok (.ret d) s:=rfl
@[simp] theorem nxt_cont (h:Ss) (U:Env) (s:Sto):nxt F h (.cont U) s=.ok (.cont U) s:=rfl
@[simp] theorem exs_nil:exs F .nil U s=.ok (.next U) s:=rfl
@[simp] theorem exs_cons (st:S) (h:Ss):exs F (.cons st h) U s=(ex F st U s).bind (nxt F h):=rfl
noncomputable def ch0 (U:Option Env)(s:Sto):R Ct:=match U with|some U=>.ok (.next U) s|none=>.bad
@[simp] theorem setC_some (U:Env) (s:Sto):ch0 (some U) s=.ok (.next U) s:=rfl
@[simp] theorem ex_asg (tg:Tg) (e:E):ex F (.asg tg e) U s=(ev F e U s).bind λ d s=>ch0 (qG U tg d) s:=rfl
@[simp] theorem ex_setIx (o i e:E):ex F (.setIx o i e) U s=(ev F e U s).bind λ d s=>(ev F o U s).bind λ x s=>(ev F i U s).bind λ y s=>(setIx x y d s).bind λ _ s=>.ok (.next U) s:=rfl
@[simp] theorem ex_ex (e:E):ex F (.ex e) U s=(ev F e U s).bind λ _ s=>.ok (.next U) s:=rfl
@[simp] theorem ex_ret (e:E):ex F (.ret e) U s=(ev F e U s).bind λ d s=>.ok (.ret d) s:=rfl
@[simp] theorem ex_ite (c:E) (a b:Ss):ex F (.ite c a b) U s=tru (ev F c U s) λ k s=>if k then exs F a U s else exs F b U s:=rfl
@[simp] theorem ex_whl (c:E) (b:Ss):ex F (.whl c b) U s=whl (ev F c) (exs F b) U s:=rfl
noncomputable def turn (F:Fns)(tg:Tg)(b:Ss)(d:D)(U:Env)(s:Sto):R Ct:=match qG U tg d with
 | some U=>exs F b U s
 | none=>.bad
@[simp] theorem ex_for (tg:Tg) (it:I) (b:Ss):ex F (.for_ tg it b) U s=(evI F it U s).bind λ q s0=>aD0 (λ s=>chk s0 s q.src) (turn F tg b) q.its U s0:=rfl
@[simp] theorem bindT_one (i:Nat) (d:D):qG U (.one i) d=aK3 U i d:=rfl
@[simp] theorem bindT_tup (is:List Nat) (l:List D):qG U (.tup is) (.tup l)=ak9 U is l:=rfl
@[simp] theorem setVs_nil:ak9 U [] []=some U:=rfl
@[simp] theorem setVs_cons (i:Nat) (is:List Nat) (d:D) (l:List D):ak9 U (i::is) (d::l)=(aK3 U i d).bind λ U=>ak9 U is l:=rfl
@[simp] theorem getV_0 (d:D) (U:Env):be6 (some d::U) 0 s=.ok d s:=rfl
@[simp] theorem getV_s (x:Option D) (U:Env) (i:Nat):be6 (x::U) (i+1) s=be6 U i s:=by unfold be6;rw[fL]
@[simp] theorem setV_0 (d:D) (x:Option D) (U:Env):aK3 (x::U) 0 d=some (some d::U):=rfl
@[simp] theorem setV_s (d:D) (x:Option D) (U:Env) (i:Nat):aK3 (x::U) (i+1) d=(aK3 U i d).map (x::·):=by
 unfold aK3
 by_cases h:i < U.length
 .rw[if_pos (by simpa using h),if_pos h];rfl
 .rw[if_neg (by simpa using h),if_neg h];rfl
@[simp] theorem unsetV_0 (x:Option D) (U:Env):aH6 (x::U) 0=some (none::U):=rfl
@[simp] theorem unsetV_s (x:Option D) (U:Env) (i:Nat):aH6 (x::U) (i+1)=(aH6 U i).map (x::·):=by
 unfold aH6
 by_cases h:i < U.length
 .rw[if_pos (by simpa using h),if_pos h];rfl
 .rw[if_neg (by simpa using h),if_neg h];rfl
@[simp] theorem Cn_int (i:Int):(Cn.int i).d=.int i:=rfl
@[simp] theorem Cn_bl (i:Bool):(Cn.bl i).d=.bl i:=rfl
@[simp] theorem Cn_str (i:List Nat):(Cn.str i).d=.str i:=rfl
@[simp] theorem Cn_non:Cn.non.d=.non:=rfl
@[simp] theorem add_int (a b:Int):z0 .add (.int a) (.int b) s=.ok (.int (a+b)) s:=rfl
@[simp] theorem sub_int (a b:Int):z0 .sub (.int a) (.int b) s=.ok (.int (a - b)) s:=rfl
theorem ai0 {a b:Int}(h:mulOk a b=true):z0 .mul (.int a) (.int b) s=.ok (.int (a*b)) s:=by show(if mulOk a b then _ else _:M D) s=_;rw[if_pos h];rfl
theorem bu5 {a b:Int}(h:a.natAbs<2^64):mulOk a b=true:=by unfold mulOk;simp[h]
theorem at0 {a b:Int}(h:b.natAbs<2^64):mulOk a b=true:=by unfold mulOk;simp[h]
theorem ai5 {a b:Int}(h:0<b):z0 .mod (.int a) (.int b) s=.ok (.int (a % b)) s:=by show(if 0<b then _ else _:M D) s=_;rw[if_pos h];rfl
theorem bv8:(10:Int)^200<=(DIVL:Int):=by unfold DIVL;decide +kernel
theorem aH1 {a b:Int}(h:0<b)(z:b<10^200):z0 .fdiv (.int a) (.int b) s=.ok (.int (a / b)) s:=by show(if 0<b/\b<(DIVL:Int)then _ else _:M D) s=_;rw[if_pos ⟨h,Int.lt_of_lt_of_le z bv8⟩];rfl
theorem aZ3 {a b:Int}(h:0<=b/\b<=1000000/\a.natAbs<2^64):z0 .pow (.int a) (.int b) s=.ok (.int (a^b.toNat)) s:=by show(if _ then _ else _:M D) s=_;rw[if_pos h];rfl
@[simp] theorem lt_int (a b:Int):zc .lt (.int a) (.int b) s=.ok (.bl (decide (a<b))) s:=rfl
@[simp] theorem le_int (a b:Int):zc .le (.int a) (.int b) s=.ok (.bl (decide (a<=b))) s:=rfl
@[simp] theorem gt_int (a b:Int):zc .gt (.int a) (.int b) s=.ok (.bl (decide (b<a))) s:=rfl
@[simp] theorem ge_int (a b:Int):zc .ge (.int a) (.int b) s=.bad:=rfl
@[simp] theorem eq_int (a b:Int):zc .eq (.int a) (.int b) s=.ok (.bl (decide (a=b))) s:=rfl
@[simp] theorem ne_int (a b:Int):zc .ne (.int a) (.int b) s=.ok (.bl (!decide (a=b))) s:=rfl
@[simp] theorem alloc_eq (o:O):ac5 o s=.ok (.ref s.length) (s++[o]):=rfl
@[simp] theorem bZ5 (l:List D):bi .len [.tup l] s=.ok (.int l.length) s:=rfl
@[simp] theorem bE4 (l:List Nat):bi .len [.str l] s=.ok (.int l.length) s:=rfl
theorem ah7 {r:Nat}{l:List D}(h:s[r]?=some (.lst l)):bi .len [.ref r] s=.ok (.int l.length) s:=by simp only[bi,bi1,bB6,h]
theorem bp8 {r:Nat}{l:List D}(h:s[r]?=some (.ro l)):bi .len [.ref r] s=.ok (.int l.length) s:=by simp only[bi,bi1,bB6,h]
@[simp] theorem cc2 (i:Int):bi .abs [.int i] s=.ok (.int (if i<0 then -i else i)) s:=rfl
@[simp] theorem bk0 (a b:Int):bi .min2 [.int a,.int b] s=.ok (.int (if b<a then b else a)) s:=rfl
@[simp] theorem bo2 (a b:Int):bi .max2 [.int a,.int b] s=.ok (.int (if b > a then b else a)) s:=rfl
@[simp] theorem bV8 (a:Int):bi .isInt [.int a] s=.ok (.bl true) s:=rfl
@[simp] theorem bI7 (a:Int):bi .isBool [.int a] s=.ok (.bl false) s:=rfl
@[simp] theorem bN8 (l:List D):bi .isTup [.tup l] s=.ok (.bl true) s:=rfl
theorem bU0 {r:Nat}{l:List D}{j:Nat}{d:D}(h:s[r]?=some (.ro l))(hj:l[j]?=some d):ixM (.ref r) (.int (j:Int)) s=.ok d s:=by
 have hl:j<l.length:=(ac.mp hj).1
 have e:l[j]=d:=(ac.mp hj).2
 simp[ixM,h,ixn,hl,e]
theorem zw {r:Nat}{l:List D}{j:Nat}{d:D}(h:s[r]?=some (.lst l))(hj:l[j]?=some d):ixM (.ref r) (.int (j:Int)) s=.ok d s:=by
 have hl:j<l.length:=(ac.mp hj).1
 have e:l[j]=d:=(ac.mp hj).2
 simp[ixM,h,ixn,hl,e]
theorem ix_tup {l:List D}{j:Nat}{d:D}(hj:l[j]?=some d):ixM (.tup l) (.int (j:Int)) s=.ok d s:=by
 have hl:j<l.length:=(ac.mp hj).1
 have e:l[j]=d:=(ac.mp hj).2
 simp[ixM,ixn,hl,e]
theorem at6 {r:Nat}{l:List D}{j:Nat}{v:D}(h:s[r]?=some (.lst l))(hl:j<l.length):setIx (.ref r) (.int (j:Int)) v s=.ok () (s.set r (.lst (l.set j v))):=by
 simp[setIx,h,ixn,hl]
theorem qe {r:Nat}{l:List D}{v:D}(h:s[r]?=some (.lst l))(hl:l.length<LIM):meth .append (.ref r) [v] s=.ok .non (s.set r (.lst (l++[v]))):=by
 show(match s[r]? with|some (.lst l)=>(if l.length<LIM then R.ok D.non (s.set r (.lst (l++[v])))else .bad)|_=>.bad:R D)=_
 rw[h]
 exact if_pos hl
end
theorem aB8 (s t:Sto)(b:Bool):∃ s',zm s (.bl b) t=.ok (.bl b) s':=by
 unfold zm
 by_cases h:qC s t=true
 .rw[if_pos h];exact⟨_,rfl⟩
 .rw[if_neg h];exact⟨_,rfl⟩
def Yes (r:R D):Prop:=∃ s',r=.ok (.bl true) s'
theorem bc8 (s t:Sto):Yes (zm s (.bl true) t):=aB8 s t true
theorem zQ {a b:Int}{j:Nat}{d:D}(h:(ae1 a b)[j]?=some d):(j:Int)<b - a/\d=.int (a+j):=by
 have hj:=(ac.mp h).1
 simp only[ae1,az,bI]at hj
 unfold ae1 at h
 rw[aF,bR hj]at h
 exact⟨by omega,(aw h).symm⟩
def bY0 (P:Pr)(k:Nat):Prop:=∀ ns:List Int,ns.length<=63->Yes ((aa1 P k).call "law" [.ref 0] [.ro (ns.map D.int)])
noncomputable def bI5:Option Int->D
 | none=>.non
 | some i=>.int i
@[simp] theorem bM3:bI5 none=.non:=rfl
@[simp] theorem bT3 (i:Int):bI5 (some i)=.int i:=rfl
@[simp] theorem bj2 (p:Option Int) (n:Nat):(bI5 p).bnd n=true:=by cases p<;>rfl
theorem bn3 (p:Option Int)(r:Nat):bI5 p≠.ref r:=by cases p<;>nofun
@[simp] theorem bJ0 {s:Sto} {p:Option Int}:zm s (bI5 p) s=.ok (bI5 p) s:=zH (bj2 p) (bn3 p)
noncomputable def zv (b:Nat×Nat):O:=.lst [.int b.1,.int b.2]
@[simp] theorem bZ3 (b:Nat×Nat) (n:Nat):(zv b).bnd n=true:=rfl
noncomputable def tkW (many:Nat):Nat->Nat->Nat->Nat->Nat×Nat
 | 0,mix,num,_=>(num,mix)
 | n+1,mix,num,room=>if room<many then tkW many n ((mix*48271+7919) % 2147483647) (num*1073741789+(mix*48271+7919) % 2147483647 / 8*69621 % 1073741789) (room*1073741789)else(num,mix)
noncomputable def tk (b:Nat×Nat)(many:Nat):Nat×(Nat×Nat) :=
 if 0<b.1 then(b.1 % many,(b.1 / many,b.2))else let r:=tkW many 12 b.2 0 1;(r.1 % many,(b.1,r.2))
theorem ce9 (b:Nat×Nat){many:Nat}(h:0<many):(tk b many).1<many:=by
 unfold tk
 split
 .exact Nat.mod_lt _ h
 .exact Nat.mod_lt _ h
theorem aZ9 {many:Nat}{k z F room:Nat}(h:many<=room):tkW many k z F room=(F,z):=by
 cases k with
 | zero=>rfl
 | succ k=>unfold tkW;rw[if_neg (by lia)]
theorem bo9 {many:Nat}{k z F room:Nat}(h:room<many):tkW many (k+1) z F room=tkW many k ((z*48271+7919) % 2147483647) (F*1073741789+(z*48271+7919) % 2147483647 / 8*69621 % 1073741789) (room*1073741789):=by
 conv=>lhs;unfold tkW
 rw[if_pos h]
theorem bC5 {P:Pr}[Has P ac6](n:Nat)(b:Nat×Nat)(many:Nat)(h0:0<many)(h:many<=10^90)(s:Sto)(r:Nat)(hs:s[r]?=some (zv b)) :
  (aa1 P (n+1)).call "_law_take" [.ref r,.int many] s=.ok (.int (tk b many).1) (s.set r (zv (tk b many).2)):=by
 refine(zd ac6 rfl).trans ?_
 obtain⟨c,m⟩:=b
 have hr:r<s.length:=(ac.mp hs).1
 have J:(0:Int)<(many:Int):=by lia
 have a0:(many:Int)<10^200:=by
  have:(10:Int)^90<10^200:=by decide +kernel
  have:((many:Nat):Int)<=((10^90:Nat):Int):=by exact_mod_cast h
  lia
 by_cases hc:0<c
 .have Y:s[r]?=some (.lst [.int c,.int m]):=hs
  simp[ac6,ixM,Y,ixn,hc,ai5 J,aH1 J a0,setIx,tk]
  exact ai3 (λ _=>rfl) (by nofun) rfl
 .have Z:c=0:=by lia
  subst Z
  have Y:s[r]?=some (.lst [.int 0,.int m]):=hs
  simp[ac6,ixM,Y,ixn]
  refine bg0 (λ k U t=>∃ z F room:Nat,U=[some (.ref r),some (.int many),none,some (.int F),some (.int room)]/\t=s.set r (zv (0,z))/\many<=room*1073741789^k/\tkW many k z F room=tkW many 12 m 0 1)
   (λ U t=>∃ room:Nat,U=[some (.ref r),some (.int many),none,some (.int (tkW many 12 m 0 1).1),some (.int room)]/\t=s.set r (zv (0,(tkW many 12 m 0 1).2))) 12 ⟨m,0,1,by simp,?_,?_,rfl⟩ ?_ ?_
  .have e:s[r]=zv (0,m):=(ac.mp hs).2
   rw[<-e,cC]
  .refine aj h ?_
   decide +kernel
  .rintro k U t ⟨z,F,room,rfl,rfl,G,he⟩
   by_cases hlt:room<many
   .simp only[ev_cmp,ev_var,getV_0,getV_s,R.bind_ok,lt_int,bs6,i7,hlt,decide_true,if_true]
    cases k with
    | zero=>simp at G;omega
    | succ k =>
     have h1:(s.set r (zv (0,z)))[r]?=some (.lst [.int 0,.int z]):=by rw[aX hr];rfl
     have m1:∀ a:Int,mulOk a 48271=true:=λ a=>at0 (by decide)
     have m2:∀ a:Int,mulOk a 1073741789=true:=λ a=>at0 (by decide)
     have m3:∀ a:Int,mulOk a 69621=true:=λ a=>at0 (by decide)
     refine ah9 ?_ ⟨k,bL k,(z*48271+7919) % 2147483647,F*1073741789+(z*48271+7919) % 2147483647 / 8*69621 % 1073741789,room*1073741789,rfl,rfl,?_,?_⟩
     .simp[ixM,h1,ixn,ai0 (m1 _),ai5,setIx,hr,ai0 (m2 _),ai0 (m3 _),aH1,zv]
     .rw[ja]at G
      rw[Nat.mul_assoc,ke 1073741789];exact G
     .rw[<-he,bo9 hlt]
   .simp only[ev_cmp,ev_var,getV_0,getV_s,R.bind_ok,lt_int,bs6,i7,hlt,decide_false,if_false,cz]
    refine⟨room,?_,?_⟩
    .rw[<-he,aZ9 (by lia)]
    .rw[<-he,aZ9 (by omega)]
  .rintro U t ⟨room,rfl,rfl⟩
   simp[ai5 J,tk]
   exact ai3 (λ _=>rfl) (by nofun) rfl
noncomputable def bp6 (at_:Int)(ns:List Int):Nat->Int
 | 0=>7919*at_+17
 | k+1=>(bp6 at_ ns k*48271+(ns.getD k 0) % 2147483647+k) % 2147483629
theorem bF5 (at_:Int)(h:0<=at_)(ns:List Int):∀ k,0<=bp6 at_ ns k
 | 0=>by unfold bp6;lia
 | k+1=>by unfold bp6;exact Int.emod_nonneg _ (by decide)
noncomputable def cellF (ns:List Int)(at_:Nat):Nat:=if 10^18<=(ns.getD at_ 0).natAbs then(ns.getD at_ 0).natAbs else 0
noncomputable def bx8 (ns:List Int)(at_:Nat):Nat×Nat:=(cellF ns at_,(bp6 at_ ns (min ns.length 60)).toNat)
theorem bs0 {P:Pr}[Has P av1](n:Nat)(ns:List Int)(at_:Nat)(s:Sto)(r:Nat)(hs:s[r]?=some (.ro (ns.map D.int)))(hl:ns.length<=63) :
  (aa1 P (n+1)).call "_law_bag" [.ref r,.int at_] s=.ok (.ref s.length) (s++[zv (bx8 ns at_)]):=by
 refine(zd av1 rfl).trans ?_
 have m1:∀ a:Int,mulOk 7919 a=true:=λ a=>bu5 (by decide)
 have m2:∀ a:Int,mulOk a 48271=true:=λ a=>at0 (by decide)
 have z:bi .len [.ref r] s=.ok (.int ns.length) s:=by rw[bp8 hs,az]
 have G:∀(c:Int),(c<10^18->cellF ns at_=0)->(10^18<=c->(cellF ns at_:Int)=c) ->
   (exs (aa1 P n) (.cons (.asg (.one 3) (.bin .add (.bin .mul (.cst (.int 7919)) (.var 1)) (.cst (.int 17)))) (.cons (.for_ (.one 4) (.rng1 (.bi .min2 (.cons (.bi .len (.cons (.var 0) .nil)) (.cons (.cst (.int 60)) .nil)))) (.cons (.asg (.one 3) (.bin .mod (.bin .add (.bin .add (.bin .mul (.var 3) (.cst (.int 48271))) (.bin .mod (.ix (.var 0) (.var 4)) (.cst (.int 2147483647)))) (.var 4)) (.cst (.int 2147483629)))) .nil)) (.cons (.ite (.cmp .lt (.var 2) (.bin .pow (.cst (.int 10)) (.cst (.int 18)))) (.cons (.asg (.one 2) (.cst (.int 0))) .nil) .nil) (.cons (.ret (.lst (.cons (.var 2) (.cons (.var 3) .nil)))) .nil)))) [some (.ref r),some (.int at_),some (.int c),none,none] s).bind (fin s)=.ok (.ref s.length) (s++[zv (bx8 ns at_)]):=by
  intro c h1 h2
  simp[ai0 (m1 _),z]
  have hk:(if(60:Int)<(ns.length:Int)then 60 else(ns.length:Int))=((min ns.length 60:Nat):Int):=by lia
  rw[hk,zO (by unfold Ww62;lia) (by unfold Ww62;omega)]
  simp only[R.bind_ok]
  refine aK7 (λ j U t=>t=s/\∃ x,U=[some (.ref r),some (.int at_),some (.int c),some (.int (bp6 at_ ns j)),x]) ⟨rfl,none,rfl⟩ (λ _ _ _ _ _=>rfl) ?_ ?_
  .rintro j d U t hj ⟨rfl,x,rfl⟩
   have Y:j<min ns.length 60:=by have:=(ac.mp hj).1;simpa [ae1]using this
   have hd:d=.int (j:Int):=by simpa [ae1,Y]using hj.symm
   subst hd
   refine ah9 ?_ ⟨rfl,some (.int (j:Int)),rfl⟩
   have hx:ixM (.ref r) (.int (j:Int)) t=.ok (.int (ns.getD j 0)) t:=bU0 hs (by simp[show j<ns.length by lia])
   simp[turn,ai0 (m2 _),hx,ai5,bp6]
  .rintro U t ⟨rfl,x,rfl⟩
   have J:(ae1 0 ((min ns.length 60:Nat):Int)).length=min ns.length 60:=by simp[ae1]
   rw[J]
   have a0:=bF5 at_ (by lia) ns (min ns.length 60)
   have F:∀ c',(c':Int)=cellF ns at_->zm t (.ref t.length) (t++[.lst [.int c',.int (bp6 at_ ns (min ns.length 60))]])=.ok (.ref t.length) (t++[zv (bx8 ns at_)]):=by
    intro c' Z
    have:=zL (s:=t) (t:=[]) (u:=[]) (o:=zv (bx8 ns at_)) rfl
    simp only[eL,dW,dC]at this
    rw[<-this]
    simp[zv,bx8,Z,eQ a0]
   by_cases h:c<10^18
   .have h':c<1000000000000000000:=h
    simp[aZ3,h']
    exact F 0 (by rw[h1 h];rfl)
   .have h':¬ c<1000000000000000000:=h
    simp[aZ3,h']
    exact F c (h2 (by omega)).symm
 by_cases hat:at_<ns.length
 .have hx:ixM (.ref r) (.int at_) s=.ok (.int (ns.getD at_ 0)) s:=bU0 hs (by simp[hat])
  have e:=G (if ns.getD at_ 0<0 then -ns.getD at_ 0 else ns.getD at_ 0) (by unfold cellF;intro h;rw[if_neg (by omega)]) (by unfold cellF;intro h;rw[if_pos (by omega)];omega)
  rw[<-e]
  simp[av1,z,hat,hx]
 .have e:=G 0 (by unfold cellF;intro h;rw[if_neg];rw[ay,bJ (by lia)];decide) (by intro h;exact absurd h (by decide))
  rw[<-e]
  simp[av1,z,hat]
theorem an4 {s t:Sto}{r:Nat}{o:O}(h:r<s.length):(s++t).set r o=s.set r o++t:=by rw[List.set_append,if_pos h]
theorem aa2 {s t:Sto}{r:Nat}{o:O}(h:s[r]?=some o):(s++t)[r]?=some o:=by
 rw[au (ac.mp h).1];exact h
theorem zI {s:Sto}{r:Nat}{o:O}(h:r<s.length):(s.set r o)[r]?=some o:=aX h
theorem bm3 {P:Pr}[Has P ac6](n:Nat)(b:Nat×Nat)(many:Int)(h0:0<many)(h:many<=10^90)(s:Sto)(r:Nat)(hs:s[r]?=some (zv b)) :
  (aa1 P (n+1)).call "_law_take" [.ref r,.int many] s=.ok (.int (tk b many.toNat).1) (s.set r (zv (tk b many.toNat).2)):=by
 have:=bC5 n b many.toNat (P:=P) (by lia) (by have:many<=((10^90:Nat):Int):=(by simpa using h);lia) s r hs
 rwa [show((many.toNat:Nat):Int)=many by lia]at this
noncomputable def bd (b:Nat×Nat):Nat×(Nat×Nat) :=
 let x0:=tk b 3
 let x1:=tk x0.2 13
 let x2:=tk x1.2 1000000000
 let x3:=tk x2.2 1000000000000000000000000000000
 let i:=tk x3.2 4
 ([x0.1,x1.1,x2.1,x3.1].getD i.1 0,i.2)
section
variable {F:Fns} {U:Env} {s:Sto}
noncomputable def qm (F:Fns)(tg:Tg)(e:E)(d:D)(U:Env)(s:Sto):R (Option D×Env):=match qG U tg d with
 | some U=>(ev F e U s).bind λ v s=>.ok (some v,U) s
 | none=>.bad
noncomputable def cb9 (F:Fns)(tg:Tg)(c e:E)(d:D)(U:Env)(s:Sto):R (Option D×Env):=match qG U tg d with
 | some U=>tru (ev F c U s) λ k s=>if k then(ev F e U s).bind λ v s=>.ok (some v,U) s else .ok (none,U) s
 | none=>.bad
@[simp] theorem zR (tg:Tg) (it:I) (e:E) (h:yD):evL F (.comp tg it e h) U s=(evI F it U s).bind λ q s0=>if q.its.length<=LIM then qH (λ s=>chk s0 s q.src) (qm F tg e) q.its (qd U h) s0 else .bad:=rfl
@[simp] theorem bI8 (tg:Tg) (it:I) (c e:E) (h:yD):evL F (.compIf tg it c e h) U s=(evI F it U s).bind λ q s0=>if q.its.length<=LIM then qH (λ s=>chk s0 s q.src) (cb9 F tg c e) q.its (qd U h) s0 else .bad:=rfl
@[simp] theorem bs2 (a h:E):ev F (.slU a h) U s=(ev F a U s).bind λ x s=>(ev F h U s).bind λ y s=>match y with|.int i=>slM x none (some i) s|_=>.bad:=rfl
@[simp] theorem bJ8 (a h:E):ev F (.slL a h) U s=(ev F a U s).bind λ x s=>(ev F h U s).bind λ y s=>match y with|.int i=>slM x (some i) none s|_=>.bad:=rfl
end
theorem zP {P:Pr}[Has P ac6](n:Nat){s:Sto}{r:Nat}(hs:∃ b,s[r]?=some (zv b))(many:Int)(h0:0<many)(h:many<=10^90) :
  ∃(k:Nat) (b:Nat×Nat),(k:Int)<many/\(aa1 P (n+1)).call "_law_take" [.ref r,.int many] s=.ok (.int k) (s.set r (zv b)):=by
 obtain⟨b,hb⟩:=hs
 have:=ce9 b (many:=many.toNat) (by omega)
 exact⟨(tk b many.toNat).1,(tk b many.toNat).2,by lia,bm3 n b many h0 h s r hb⟩
theorem qb {k:Int}(h:k<=1000):k<=10^90:=kl h (by decide)
theorem qt {s:Sto}{r:Nat}{b:Nat×Nat}(h:r<s.length):∃ z,(s.set r (zv b))[r]?=some (zv z):=⟨b,zI h⟩
theorem ba9 {s t:Sto}{r:Nat}(h:∃ b,s[r]?=some (zv b)):∃ b,(s++t)[r]?=some (zv b):=by obtain⟨b,hb⟩:=h;exact⟨b,aa2 hb⟩
theorem ax1 {s:Sto}{r:Nat}(h:∃ b,s[r]?=some (zv b)):r<s.length:=by obtain⟨b,hb⟩:=h;exact(ac.mp hb).1
theorem aK4 {k:Nat}(h:k<3)(s:Sto):ixM (.str [97,98,99]) (.int (k:Int)) s=.ok (.str [97+k]) s:=by
 match k,h with
 | 0,_=>rfl
 | 1,_=>rfl
 | 2,_=>rfl
theorem ae3 {a b:List Nat}{s:Sto}(h:a.length+b.length<=LIM):z0 .add (.str a) (.str b) s=.ok (.str (a++b)) s:=by
 show(if a.length+b.length<=LIM then _ else _:M D) s=_;rw[if_pos h];rfl
def Lts (L:Nat)(w:List Nat):Prop:=∀ c∈w,97<=c/\c<97+L
theorem rep_len (l:List Nat):∀ n,(rep n l).length=l.length*n
 | 0=>by simp[rep]
 | n+1=>by simp[rep,rep_len l n,jo];omega
noncomputable def bT1 (L:Nat)(d:D):Bool:=match d with
 | .str w=>decide (w.length<=200)&&w.all λ c=>decide (97<=c/\c<97+L)
 | _=>false
structure Dr where
 a:Nat
 l:Nat
 b:Nat
 t:Nat
noncomputable def Dr.d (x:Dr):D:=.tup [.int x.a,.str [x.l],.int x.b,.int x.t]
structure Mc where
 L:Nat
 R:Nat
 bg:List Nat
 en:List Nat
 ds:List Dr
noncomputable def ch5 (l:List Nat):List D:=l.map λ(k:Nat)=>D.int (k:Int)
noncomputable def Mc.ps (m:Mc):List D:=[.int m.L,.int m.R,.tup (ch5 m.bg),.tup (ch5 m.en),.tup (m.ds.map Dr.d)]
noncomputable def Mc.d (m:Mc):D:=.tup m.ps
structure Dr.Ok (m:Mc)(x:Dr):Prop where
 a:x.a<m.R
 l:97<=x.l/\x.l<97+m.L
 b:x.b<m.R
 t:x.t<4
structure Mc.Ok (m:Mc):Prop where
 L1:1<=m.L
 L3:m.L<=3
 R1:1<=m.R
 R5:m.R<=5
 bg:(∀ k∈m.bg,k<m.R)/\m.bg.Pairwise (· < ·)
 en:(∀ k∈m.en,k<m.R)/\m.en.Pairwise (· < ·)
 ds:(∀ x∈m.ds,x.Ok m)/\m.ds.length<=75
section
variable {P:Pr}
@[simp] theorem cf0 (a b:Nat) (s:Sto):zc .ne (.str [a]) (.str [b]) s=.ok (.bl (!decide (a=b))) s:=by
 show(match eqv s DEEP (.str [a]) (.str [b])with|some r=>R.ok (D.bl (!r)) s|none=>.bad)=_
 have:eqv s DEEP (.str [a]) (.str [b])=some ([a]==[b]):=rfl
 rw[this]
 have e:([a]==[b])=decide (a=b):=by rw[eM];simp
 rw[e]
@[simp] theorem cd1 (a b:Nat) (s:Sto):zc .eq (.str [a]) (.str [b]) s=.ok (.bl (decide (a=b))) s:=by
 show(match eqv s DEEP (.str [a]) (.str [b])with|some r=>R.ok (D.bl r) s|none=>.bad)=_
 have:eqv s DEEP (.str [a]) (.str [b])=some ([a]==[b]):=rfl
 rw[this]
 have e:([a]==[b])=decide (a=b):=by rw[eM];simp
 rw[e]
end
theorem good_of {L:Nat}{w:List Nat}(h:w.length<=200)(hw:Lts L w):bT1 L (.str w)=true:=by
 unfold bT1
 simp only[h,decide_true,dz,aL,decide_eq_true_eq]
 exact hw
@[simp] theorem cf4 {F:Fns} {U:Env} {s:Sto} (a h G:E):ev F (.slLU a h G) U s=(ev F a U s).bind λ x s=>(ev F h U s).bind λ y s=>match y with|.int i=>(ev F G U s).bind (λ z s=>match z with|.int j=>slM x (some i) (some j) s|_=>.bad)|_=>.bad:=rfl
noncomputable abbrev qI:List Nat:=[108,101,116,116,101,114]
theorem two {l:List D}(h:l.length=2):∃ a b,l=[a,b]:=by
 match l,h with
 | [a,b],_=>exact⟨a,b,rfl⟩
noncomputable abbrev zK:List Nat:=[110,111,116,104,105,110,103]
noncomputable abbrev zD:List Nat:=[114,101,112,101,97,116]
noncomputable abbrev zp:List Nat:=[101,105,116,104,101,114]
noncomputable abbrev zo:List Nat:=[98,101,104,105,110,100]
noncomputable def SS (s:Sto)(r q:Nat)(b:Nat×Nat)(y:Int):Sto:=(s.set r (zv b)).set q (.lst [.int y])
theorem ag3 {s:Sto}{r q:Nat}{b:Nat×Nat}{y:Int}:(SS s r q b y).length=s.length:=by unfold SS;simp
theorem bk7 {s:Sto}{r q:Nat}{b:Nat×Nat}{y:Int}(h:r<s.length)(hq:r≠q):(SS s r q b y)[r]?=some (zv b):=by
 unfold SS;rw[ao (bG hq)];exact zI h
theorem bn9 {s:Sto}{r q:Nat}{b:Nat×Nat}{y:Int}(hq:q<s.length):(SS s r q b y)[q]?=some (.lst [.int y]):=by
 unfold SS;exact zI (by rw[aS];exact hq)
theorem as3 {s:Sto}{r q:Nat}{b h:Nat×Nat}{y:Int}(hq:r≠q):(SS s r q b y).set r (zv h)=SS s r q h y:=by
 unfold SS;rw[List.set_comm _ _ (bG hq),bX]
theorem aC6 {s:Sto}{r q:Nat}{b:Nat×Nat}{y y':Int}:(SS s r q b y).set q (.lst [.int y'])=SS s r q b y':=by
 unfold SS;rw[bX]
theorem aX8 {s:Sto}{r q:Nat}{b:Nat×Nat}{y:Int}(h:s[r]?=some (zv b))(z:s[q]?=some (.lst [.int y])):SS s r q b y=s:=by
 unfold SS
 have e1:s.set r (zv b)=s:=by
  have e:s[r]'(ac.mp h).1=zv b:=(ac.mp h).2
  rw[<-e,cC]
 have e2:s.set q (.lst [.int y])=s:=by
  have e:s[q]'(ac.mp z).1=.lst [.int y]:=(ac.mp z).2
  rw[<-e,cC]
 rw[e1,e2]
theorem bP5 {s T:Sto}{r q:Nat}{b:Nat×Nat}{y:Int}(h:r<s.length)(hq:q<s.length):SS (s++T) r q b y=SS s r q b y++T:=by
 unfold SS;rw[an4 h,an4 (by rw[aS];exact hq)]
theorem aO8 {s:Sto}{r q:Nat}{b h:Nat×Nat}{y y':Int}(hq:r≠q):SS (SS s r q b y) r q h y'=SS s r q h y':=by
 show List.set (List.set (SS s r q b y) r (zv h)) q (.lst [.int y'])=_
 rw[as3 hq,aC6]
theorem aJ2 {s T:Sto}{r q:Nat}{b:Nat×Nat}{y:Int}{d:D}(h:∀ n,d.bnd n=true)(hd:∀ r,d≠.ref r):zm s d (SS s r q b y++T)=.ok d (SS s r q b y):=by
 have ho:qC s (SS s r q b y++T)=true:=by
  unfold qC
  rw[aL]
  intro i z
  rw[br]at z
  rw[au (by rw[ag3];exact z)]
  unfold SS
  by_cases e:q=i
  .subst e;rw[aX (by simpa using z),bn];exact .inr rfl
  .rw[ao e]
   by_cases e2:r=i
   .subst e2;rw[aX z,bn];exact .inr rfl
   .rw[ao e2];simp
 have e:(SS s r q b y++T).take s.length=SS s r q b y:=by rw[eD (by rw[ag3];exact ah _),dT (by rw[ag3];exact ah _)]
 unfold zm
 rw[if_pos ho]
 cases d with
 | ref r=>exact absurd rfl (hd r)
 | _=>simp only[h,if_true,e]
inductive Tr where
 | nothing|letter (c:Nat)|rep (t:Tr)|two (b:Bool) (t u:Tr)
noncomputable def cl1 (b:Bool):List Nat:=if b then zp else zo
noncomputable def cm4 (b:Bool):Nat:=if b then 124 else 46
noncomputable def Tr.d:Tr->D
 | .nothing=>.tup [.str zK]
 | .letter c=>.tup [.str qI,.str [c]]
 | .rep t=>.tup [.str zD,t.d]
 | .two b t u=>.tup [.str (cl1 b),t.d,u.d]
noncomputable def Tr.wr:Tr->List Nat
 | .nothing=>[45]
 | .letter c=>[c]
 | .rep t=>t.wr++[42]
 | .two b t u=>40::(t.wr++cm4 b::(u.wr++[41]))
noncomputable def Tr.ok:Tr->Prop
 | .nothing=>True
 | .letter c=>97<=c/\c<100
 | .rep t=>t.ok
 | .two _ t u=>t.ok/\u.ok
noncomputable def Tr.dep:Tr->Nat
 | .nothing=>1
 | .letter _=>1
 | .rep t=>t.dep+1
 | .two _ t u=>max t.dep u.dep+1
noncomputable def Tr.sz:Tr->Nat
 | .nothing=>1
 | .letter _=>1
 | .rep t=>t.sz+1
 | .two _ t u=>t.sz+u.sz+1
theorem Tr.bnd:∀(t:Tr) (n:Nat),t.d.bnd n=true
 | .nothing,n=>rfl
 | .letter c,n=>rfl
 | .rep t,n=>by unfold Tr.d D.bnd D.bndL D.bndL D.bndL;rw[Tr.bnd t n];rfl
 | .two b t u,n=>by unfold Tr.d D.bnd D.bndL D.bndL D.bndL D.bndL;rw[Tr.bnd t n,Tr.bnd u n];rfl
theorem Tr.noref (t:Tr):∀ r,t.d≠.ref r:=by cases t<;>nofun
theorem Tr.dep1 (t:Tr):1<=t.dep:=by cases t<;>simp[Tr.dep]
def bY1 (s:Sto)(r q k room:Nat)(x:R D):Prop:=∃(t:Tr) (b:Nat×Nat) (y:Int),(t.ok/\t.dep<=k/\t.sz<=room)/\x=.ok t.d (SS s r q b y)
theorem aw8 {P:Pr}[Has P ac6][Has P ad5](n:Nat){r q:Nat}(a0:r≠q)(k:Nat)(s:Sto)(room:Nat)(hs:∃ b,s[r]?=some (zv b))(hy:∃ y,s[q]?=some (.lst [.int y]))(b6:1<=room)(c3:room<=40)
  (ih:0<k->∀(s:Sto) (room:Nat),(∃ b,s[r]?=some (zv b))->(∃ y,s[q]?=some (.lst [.int y]))->1<=room->room<=40->bY1 s r q k room ((aa1 P (n+1)).call "_law_set" [.ref r,.int (k:Int),.int room,.ref q] s)) :
  bY1 s r q (k+1) room ((aa1 P (n+2)).call "_law_set" [.ref r,.int ((k:Int)+1),.int room,.ref q] s):=by
 have e0:(aa1 P (n+2)).call "_law_set" [.ref r,.int ((k:Int)+1),.int room,.ref q] s=_:=zd ad5 (n:=n+1) rfl
 rw[e0]
 have hr:=ax1 hs
 obtain⟨b0,c1⟩:=hs
 obtain⟨y0,a5⟩:=hy
 have hq:q<s.length:=(ac.mp a5).1
 have s0:=aX8 c1 a5
 have tk:∀(b:Nat×Nat) (y:Int) (T:Sto) (many:Int),0<many->many<=1000->∃(k:Nat) (Z:Nat×Nat),(k:Int)<many/\(aa1 P (n+1)).call "_law_take" [.ref r,.int many] (SS s r q b y++T)=.ok (.int k) (SS s r q Z y++T):=λ b y T many h0 h1=>by
  obtain⟨k,Z,h2,h3⟩:=zP (P:=P) n (s:=SS s r q b y++T) (r:=r) ⟨b,aa2 (bk7 hr a0)⟩ many h0 (qb h1)
  exact⟨k,Z,h2,by rw[h3,an4 (by rw[ag3];exact hr),as3 a0]⟩
 have a2:∀(b:Nat×Nat) (y:Int) (many:Int),0<many->many<=1000->∃(k:Nat) (Z:Nat×Nat),(k:Int)<many/\(aa1 P (n+1)).call "_law_take" [.ref r,.int many] (SS s r q b y)=.ok (.int k) (SS s r q Z y):=λ b y many h0 h1=>by
  have:=tk b y [] many h0 h1
  simpa using this
 have rc:0<k->∀(b:Nat×Nat) (y:Int) (T:Sto) (rm:Nat),1<=rm->rm<=40->∃(d:Tr) (Z:Nat×Nat) (y':Int),(d.ok/\d.dep<=k/\d.sz<=rm)/\(aa1 P (n+1)).call "_law_set" [.ref r,.int (k:Int),.int rm,.ref q] (SS s r q b y++T)=.ok d.d (SS s r q Z y'++T):=λ hk b y T rm h1 h2=>by
  obtain⟨d,Z,y',hd,e⟩:=ih hk (SS s r q b y++T) rm ⟨b,aa2 (bk7 hr a0)⟩ ⟨y,aa2 (bn9 hq)⟩ h1 h2
  exact⟨d,Z,y',hd,by rw[e,bP5 (by rw[ag3];exact hr) (by rw[ag3];exact hq),aO8 a0]⟩
 obtain⟨kind,b1,d2,e1⟩:=a2 b0 y0 8 (by decide) (by decide)
 have c0:(aa1 P (n+1)).call "_law_take" [.ref r,.int 8] s=.ok (.int kind) (SS s r q b1 y0):=by rw[s0]at e1;exact e1
 have G:∀(d:Tr) (b:Nat×Nat) (y:Int) (T:Sto),(d.ok/\d.dep<=k+1/\d.sz<=room)->bY1 s r q (k+1) room (zm s d.d (SS s r q b y++T)):=λ d b y T hd=>⟨d,b,y,hd,aJ2 d.bnd d.noref⟩
 have F:∀(d:Tr) (b:Nat×Nat) (y:Int),(d.ok/\d.dep<=k+1/\d.sz<=room)->bY1 s r q (k+1) room (zm s d.d (SS s r q b y)):=λ d b y hd=>by
  have:=G d b y [] hd
  rwa [aK]at this
 have hc:ev (aa1 P (n+1)) (.or (.cmp .eq (.var 1) (.cst (.int 1))) (.or (.cmp .lt (.var 2) (.cst (.int 3))) (.cmp .eq (.var 4) (.cst (.int 0))))) [some (.ref r),some (.int ((k:Int)+1)),some (.int room),some (.ref q),some (.int kind),none,none,none] (SS s r q b1 y0)=.ok (.bl (decide (k=0\/room<3\/kind=0))) (SS s r q b1 y0):=by
  by_cases h0:k=0
  .simp -implicitDefEqProofs [h0]
  .have Y:¬((k:Int)+1=1):=by lia
   by_cases h1:room<3
   .have a1:(room:Int)<3:=by lia
    simp -implicitDefEqProofs [h0,Y,h1,a1]
   .have a1:¬(room:Int)<3:=by lia
    simp -implicitDefEqProofs [h0,Y,h1,a1]
 conv=>arg 6;simp -implicitDefEqProofs only[ad5,exs_cons,aH,cR,dm,dC,ai,ex_asg,ev_call,evas_ex,evas_nil,ev_var,getV_0,getV_s,ev_cst,Cn_int,R.bind_ok,c0,bindT_one,setV_s,setV_0,gk,setC_some,nxt_next,ex_ite,hc,tru_bl]
 by_cases hleaf:k=0\/room<3\/kind=0
 .rw[decide_eq_true hleaf]
  obtain⟨z,J,d0,e2⟩:=a2 b1 y0 4 (by decide) (by decide)
  have il:ixM (.ref q) (.int 0) (SS s r q J y0)=.ok (.int y0) (SS s r q J y0):=zw (j:=0) (bn9 hq) rfl
  have c2:ev (aa1 P (n+1)) (.or (.cmp .eq (.var 5) (.cst (.int 3))) (.cmp .eq (.ix (.var 3) (.cst (.int 0))) (.cst (.int 0)))) [some (.ref r),some (.int ((k:Int)+1)),some (.int room),some (.ref q),some (.int kind),some (.int z),none,none] (SS s r q J y0)=.ok (.bl (decide (z=3\/y0=0))) (SS s r q J y0):=by
   by_cases h0:z=3
   .simp -implicitDefEqProofs [h0]
   .have Y:¬((z:Int)=3):=by lia
    simp -implicitDefEqProofs [h0,Y,il]
  conv=>arg 6;simp -implicitDefEqProofs only[if_true,exs_cons,ex_asg,ev_call,evas_ex,evas_nil,ev_var,getV_0,getV_s,ev_cst,Cn_int,R.bind_ok,e2,bindT_one,setV_s,setV_0,gk,setC_some,nxt_next,ex_ite,c2,tru_bl]
  by_cases h3:z=3\/y0=0
  .rw[decide_eq_true h3]
   conv=>arg 6;simp -implicitDefEqProofs
   exact F .nothing _ _ ⟨trivial,by show 1<=k+1;lia,b6⟩
  .rw[decide_eq_false h3]
   have a4:setIx (.ref q) (.int 0) (.int (y0 - 1)) (SS s r q J y0)=.ok () (SS s r q J (y0 - 1)):=by
    have:=at6 (j:=0) (v:=.int (y0 - 1)) (bn9 (b:=J) (y:=y0) (r:=r) hq) (by simp)
    rw[show((0:Nat):Int)=0 from rfl]at this
    rw[this]
    congr 1
    exact aC6
   have a6:=aK4 (k:=z) (by lia) (SS s r q J (y0 - 1))
   conv=>arg 6;simp -implicitDefEqProofs [il,a4,a6]
   exact F (.letter (97+z)) _ _ ⟨⟨by lia,by lia⟩,by show 1<=k+1;omega,b6⟩
 .rw[decide_eq_false hleaf]
  have a3:0<k:=by lia
  have d1:(k:Int)+1 - 1=(k:Int):=by lia
  by_cases h3:(kind:Int)<3
  .obtain⟨d,J,y2,hd,e2⟩:=rc a3 b1 y0 [] (room - 1) (by omega) (by lia)
   rw[aK,aK,show((room - 1:Nat):Int)=(room:Int) - 1 by lia]at e2
   conv=>arg 6;simp -implicitDefEqProofs [h3,e2]
   exact F (.rep d) _ _ ⟨hd.1,by show d.dep+1<=k+1;lia,by show d.sz+1<=room;lia⟩
  .obtain⟨a,J,ha,e2⟩:=a2 b1 y0 ((room:Int) - 2) (by lia) (by lia)
   obtain⟨d,b3,y3,hd,e3⟩:=rc a3 J y0 [] (a+1) (by lia) (by lia)
   rw[aK,aK,show((a+1:Nat):Int)=1+(a:Int)by lia]at e3
   obtain⟨d',b4,y4,b5,e4⟩:=rc a3 b3 y3 [.lst [.str zp,.str zo]] (room - 1 - (a+1)) (by omega) (by lia)
   rw[show((room - 1 - (a+1):Nat):Int)=(room:Int) - 1 - (1+(a:Int))by lia]at e4
   obtain⟨x,hx,ix⟩:∃ x,(x=zp\/x=zo)/\ixM (.ref s.length) (.int ((kind:Int) % 2)) (SS s r q b3 y3++[.lst [.str zp,.str zo]])=.ok (.str x) (SS s r q b3 y3++[.lst [.str zp,.str zo]]):=by
    have hl:(SS s r q b3 y3++[O.lst [.str zp,.str zo]])[s.length]?=some (.lst [.str zp,.str zo]):=by rw[aI (by rw[ag3];exact ah _),ag3];simp
    rcases(show(kind:Int) % 2=((0:Nat):Int)\/(kind:Int) % 2=((1:Nat):Int)by lia)with h|h
    .exact⟨zp,.inl rfl,by rw[h];exact zw hl rfl⟩
    .exact⟨zo,.inr rfl,by rw[h];exact zw hl rfl⟩
   conv=>arg 6;simp -implicitDefEqProofs [h3,e2,e3,ag3,ai5,ix,e4]
   rcases hx with rfl|rfl
   .exact G (.two true d d') _ _ _ ⟨⟨hd.1,b5.1⟩,by show max d.dep d'.dep+1<=k+1;lia,by show d.sz+d'.sz+1<=room;omega⟩
   .exact G (.two false d d') _ _ _ ⟨⟨hd.1,b5.1⟩,by show max d.dep d'.dep+1<=k+1;omega,by show d.sz+d'.sz+1<=room;omega⟩
theorem bG2 {P:Pr}[Has P ac6][Has P ad5](n:Nat){r q:Nat}(J:r≠q):∀(k:Nat) (s:Sto) (room:Nat),(∃ b,s[r]?=some (zv b))->(∃ y,s[q]?=some (.lst [.int y]))->1<=room->room<=40 ->
  bY1 s r q (k+1) room ((aa1 P (n+k+2)).call "_law_set" [.ref r,.int ((k:Int)+1),.int room,.ref q] s):=by
 intro k
 induction k with
 | zero=>intro s room z G h3 F;exact aw8 n J 0 s room z G h3 F (λ h=>absurd h (by decide))
 | succ k ih =>
  intro s room z G h3 F
  have:=aw8 (P:=P) (n+k+1) J (k+1) s room z G h3 F (λ _ s room z G h3 F=>by
   rw[show((k+1:Nat):Int)=(k:Int)+1 by lia]
   exact ih s room z G h3 F)
  rw[show n+(k+1)+2=n+k+1+2 by lia]
  exact this
inductive Mt' (w:List Nat):Tr->Nat->Nat->Prop where
 | nothing {k:Nat} (h:k<=w.length):Mt' w .nothing k k
 | letter {c k:Nat} (h:w[k]?=some c):Mt' w (.letter c) k (k+1)
 | rep0 {t:Tr} {k:Nat} (h:k<=w.length):Mt' w (.rep t) k k
 | repS {t:Tr} {k m j:Nat} (h:Mt' w t k m) (g:Mt' w (.rep t) m j):Mt' w (.rep t) k j
 | inl {t u:Tr} {k j:Nat} (h:Mt' w t k j):Mt' w (.two true t u) k j
 | inr {t u:Tr} {k j:Nat} (h:Mt' w u k j):Mt' w (.two true t u) k j
 | both {t u:Tr} {k m j:Nat} (h:Mt' w t k m) (g:Mt' w u m j):Mt' w (.two false t u) k j
theorem Mt'.le {w:List Nat}{t:Tr}{k j:Nat}(h:Mt' w t k j):k<=j/\j<=w.length:=by
 induction h with
 | nothing h=>exact⟨ah _,h⟩
 | letter h=>exact⟨b7 _,(ac.mp h).1⟩
 | rep0 h=>exact⟨ah _,h⟩
 | repS _ _ a b=>exact⟨aj a.1 b.1,b.2⟩
 | inl _ a=>exact a
 | inr _ a=>exact a
 | both _ _ a b=>exact⟨aj a.1 b.1,b.2⟩
noncomputable def Tr.cnt:Tr->Nat
 | .nothing=>0
 | .letter _=>1
 | .rep t=>t.cnt
 | .two _ t u=>t.cnt+u.cnt
noncomputable def Tr.nul:Tr->Bool
 | .nothing=>true
 | .letter _=>false
 | .rep _=>true
 | .two true t u=>t.nul||u.nul
 | .two false t u=>t.nul&&u.nul
noncomputable def Tr.fs:Tr->Nat->List Nat
 | .nothing,_=>[]
 | .letter _,b=>[b]
 | .rep t,b=>t.fs b
 | .two true t u,b=>t.fs b++u.fs (b+t.cnt)
 | .two false t u,b=>if t.nul then t.fs b++u.fs (b+t.cnt)else t.fs b
noncomputable def Tr.la:Tr->Nat->List Nat
 | .nothing,_=>[]
 | .letter _,b=>[b]
 | .rep t,b=>t.la b
 | .two true t u,b=>t.la b++u.la (b+t.cnt)
 | .two false t u,b=>if u.nul then t.la b++u.la (b+t.cnt)else u.la (b+t.cnt)
noncomputable def Tr.lt:Tr->List Nat
 | .nothing=>[]
 | .letter c=>[c]
 | .rep t=>t.lt
 | .two _ t u=>t.lt++u.lt
noncomputable def Tr.ed:Tr->Nat->Nat->Nat->Prop
 | .nothing,_,_,_=>False
 | .letter _,_,_,_=>False
 | .rep t,b,p,q=>t.ed b p q\/(p∈t.la b/\q∈t.fs b)
 | .two true t u,b,p,q=>t.ed b p q\/u.ed (b+t.cnt) p q
 | .two false t u,b,p,q=>(t.ed b p q\/u.ed (b+t.cnt) p q)\/(p∈t.la b/\q∈u.fs (b+t.cnt))
theorem Tr.lt_len:∀ t:Tr,t.lt.length=t.cnt
 | .nothing=>rfl
 | .letter _=>rfl
 | .rep t=>t.lt_len
 | .two _ t u=>by unfold Tr.lt Tr.cnt;rw[am,t.lt_len,u.lt_len]
theorem Tr.fs_in:∀(t:Tr) (b:Nat),∀ p∈t.fs b,b<=p/\p<b+t.cnt
 | .nothing,b,p,h=>by cases h
 | .letter c,b,p,h=>by cases aD.mp h;exact⟨ah _,bL _⟩
 | .rep t,b,p,h=>t.fs_in b p h
 | .two true t u,b,p,h=>by
  show b<=p/\p<b+(t.cnt+u.cnt)
  rcases aO.mp (show p∈t.fs b++u.fs (b+t.cnt)from h)with z|z
  .have:=t.fs_in b p z;lia
  .have:=u.fs_in _ p z;lia
 | .two false t u,b,p,h=>by
  show b<=p/\p<b+(t.cnt+u.cnt)
  have h:p∈(if t.nul then t.fs b++u.fs (b+t.cnt)else t.fs b):=h
  split at h
  .rcases aO.mp h with z|z
   .have:=t.fs_in b p z;omega
   .have:=u.fs_in _ p z;omega
  .have:=t.fs_in b p h;omega
theorem Tr.la_in:∀(t:Tr) (b:Nat),∀ p∈t.la b,b<=p/\p<b+t.cnt
 | .nothing,b,p,h=>by cases h
 | .letter c,b,p,h=>by cases aD.mp h;exact⟨ah _,bL _⟩
 | .rep t,b,p,h=>t.la_in b p h
 | .two true t u,b,p,h=>by
  show b<=p/\p<b+(t.cnt+u.cnt)
  rcases aO.mp (show p∈t.la b++u.la (b+t.cnt)from h)with z|z
  .have:=t.la_in b p z;omega
  .have:=u.la_in _ p z;omega
 | .two false t u,b,p,h=>by
  show b<=p/\p<b+(t.cnt+u.cnt)
  have h:p∈(if u.nul then t.la b++u.la (b+t.cnt)else u.la (b+t.cnt)):=h
  split at h
  .rcases aO.mp h with z|z
   .have:=t.la_in b p z;omega
   .have:=u.la_in _ p z;omega
  .have:=u.la_in _ p h;omega
theorem Tr.ed_in:∀(t:Tr) (b p q:Nat),t.ed b p q->(b<=p/\p<b+t.cnt)/\b<=q/\q<b+t.cnt
 | .nothing,b,p,q,h=>h.elim
 | .letter c,b,p,q,h=>h.elim
 | .rep t,b,p,q,h=>by
  rcases(show t.ed b p q\/(p∈t.la b/\q∈t.fs b)from h)with z|z
  .exact t.ed_in b p q z
  .exact⟨t.la_in b p z.1,t.fs_in b q z.2⟩
 | .two true t u,b,p,q,h=>by
  show(b<=p/\p<b+(t.cnt+u.cnt))/\b<=q/\q<b+(t.cnt+u.cnt)
  rcases(show t.ed b p q\/u.ed (b+t.cnt) p q from h)with z|z
  .have:=t.ed_in b p q z;lia
  .have:=u.ed_in _ p q z;omega
 | .two false t u,b,p,q,h=>by
  show(b<=p/\p<b+(t.cnt+u.cnt))/\b<=q/\q<b+(t.cnt+u.cnt)
  rcases(show(t.ed b p q\/u.ed (b+t.cnt) p q)\/(p∈t.la b/\q∈u.fs (b+t.cnt))from h)with(z|z)|z
  .have:=t.ed_in b p q z;omega
  .have:=u.ed_in _ p q z;omega
  .have:=t.la_in b p z.1;have:=u.fs_in _ q z.2;lia
inductive Rn (w:List Nat)(lt:Nat->Option Nat)(E:Nat->Nat->Prop):Nat->Nat->Nat->Nat->Prop where
 | one {k p c:Nat} (h:w[k]?=some c) (l:lt p=some c):Rn w lt E k p (k+1) p
 | step {k p c p' j q:Nat} (h:w[k]?=some c) (l:lt p=some c) (e:E p p') (r:Rn w lt E (k+1) p' j q):Rn w lt E k p j q
theorem Rn.mono {w:List Nat}{lt:Nat->Option Nat}{E z:Nat->Nat->Prop}(m:∀ p q,E p q->z p q){k p j q:Nat}(h:Rn w lt E k p j q):Rn w lt z k p j q:=by
 induction h with
 | one h l=>exact .one h l
 | step h l e _ ih=>exact .step h l (m _ _ e) ih
theorem Rn.cat {w:List Nat}{lt:Nat->Option Nat}{E:Nat->Nat->Prop}{k p m q q' j r:Nat}(h:Rn w lt E k p m q)(e:E q q')(g:Rn w lt E m q' j r):Rn w lt E k p j r:=by
 induction h with
 | one h l=>exact .step h l e g
 | step h l e' _ ih=>exact .step h l e' (ih e g)
theorem Rn.snoc {w:List Nat}{lt:Nat->Option Nat}{E:Nat->Nat->Prop}{k p j q r c:Nat}(h:Rn w lt E k p j q)(e:E q r)(hc:w[j]?=some c)(l:lt r=some c):Rn w lt E k p (j+1) r:=h.cat e (.one hc l)
theorem Rn.last {w:List Nat}{lt:Nat->Option Nat}{E:Nat->Nat->Prop}{k p j q:Nat}(h:Rn w lt E k p j q):∃ z c,j=z+1/\w[z]?=some c/\lt q=some c/\((z=k/\q=p)\/∃ q',Rn w lt E k p z q'/\E q' q):=by
 induction h with
 | one h l=>exact⟨_,_,rfl,h,l,.inl ⟨rfl,rfl⟩⟩
 | step h l e r ih =>
  obtain⟨z,c,e1,e2,G,F⟩:=ih
  refine⟨z,c,e1,e2,G,.inr ?_⟩
  rcases F with⟨rfl,rfl⟩|⟨q',r',e'⟩
  .exact⟨_,.one h l,e⟩
  .exact⟨q',.step h l e r',e'⟩
theorem Rn.lt {w:List Nat}{lt:Nat->Option Nat}{E:Nat->Nat->Prop}{k p j q:Nat}(h:Rn w lt E k p j q):k<j:=by
 induction h with
 | one=>exact bL _
 | step _ _ _ _ ih=>lia
theorem Rn.stay {w:List Nat}{lt:Nat->Option Nat}{E F:Nat->Nat->Prop}{S:Nat->Prop}(cl:∀ p q,S p->E p q->F p q/\S q){k p j q:Nat}(h:Rn w lt E k p j q)(z:S p):Rn w lt F k p j q/\S q:=by
 induction h with
 | one h l=>exact⟨.one h l,z⟩
 | step h l e _ ih =>
  obtain⟨a,b⟩:=cl _ _ z e
  obtain⟨c,d⟩:=ih b
  exact⟨.step h l a c,d⟩
def Glu (w:List Nat)(lt:Nat->Option Nat)(t:Tr)(b k j:Nat):Prop:=(k=j/\k<=w.length/\t.nul=true)\/∃ p q,p∈t.fs b/\q∈t.la b/\Rn w lt (t.ed b) k p j q
def bi3 (lt:Nat->Option Nat)(t:Tr)(b:Nat):Prop:=∀ i,i<t.cnt->lt (b+i)=t.lt[i]?
theorem bi3.l {lt:Nat->Option Nat}{t u:Tr}{x:Bool}{b:Nat}(h:bi3 lt (.two x t u) b):bi3 lt t b:=λ i z=>by
 have:=h i (by show i<t.cnt+u.cnt;lia)
 rw[this]
 show(t.lt++u.lt)[i]?=_
 rw[au (by rw[t.lt_len];exact z)]
theorem bi3.r {lt:Nat->Option Nat}{t u:Tr}{x:Bool}{b:Nat}(h:bi3 lt (.two x t u) b):bi3 lt u (b+t.cnt):=λ i z=>by
 have:=h (t.cnt+i) (by show t.cnt+i<t.cnt+u.cnt;lia)
 rw[j3,this]
 show(t.lt++u.lt)[t.cnt+i]?=_
 rw[aI (by rw[t.lt_len];lia),t.lt_len,ce]
theorem glu_of {w:List Nat}{lt:Nat->Option Nat}{t:Tr}{k j:Nat}(h:Mt' w t k j):∀ b,bi3 lt t b->Glu w lt t b k j:=by
 induction h with
 | nothing h=>exact λ b _=>.inl ⟨rfl,h,rfl⟩
 | @letter c k h=>exact λ b hl=>.inr ⟨b,b,aD.mpr rfl,aD.mpr rfl,.one h (hl 0 jv)⟩
 | rep0 h=>exact λ b _=>.inl ⟨rfl,h,rfl⟩
 | @repS t k m j h g ih1 ih2 =>
  intro b hl
  have up:∀ {p q:Nat},t.ed b p q->(Tr.rep t).ed b p q:=λ z=>.inl z
  rcases ih1 b hl with⟨rfl,_,_⟩|⟨p,q,F,hq,r⟩
  .exact ih2 b hl
  .rcases ih2 b hl with⟨rfl,_,_⟩|⟨p',q',hp',hq',r'⟩
   .exact .inr ⟨p,q,F,hq,r.mono λ _ _=>up⟩
   .exact .inr ⟨p,q',F,hq',(r.mono λ _ _=>up).cat (.inr ⟨hq,hp'⟩) r'⟩
 | @inl t u k j h ih =>
  intro b hl
  rcases ih b hl.l with⟨rfl,hk,hn⟩|⟨p,q,F,hq,r⟩
  .exact .inl ⟨rfl,hk,by show(t.nul||u.nul)=true;rw[hn];rfl⟩
  .exact .inr ⟨p,q,bZ _ F,bZ _ hq,r.mono λ _ _ z=>.inl z⟩
 | @inr t u k j h ih =>
  intro b hl
  rcases ih _ hl.r with⟨rfl,hk,hn⟩|⟨p,q,F,hq,r⟩
  .exact .inl ⟨rfl,hk,by show(t.nul||u.nul)=true;rw[hn,Bool.or_true]⟩
  .exact .inr ⟨p,q,a8 _ F,a8 _ hq,r.mono λ _ _ z=>.inr z⟩
 | @both t u k m j h g ih1 ih2 =>
  intro b hl
  have u1:∀ p q,t.ed b p q->(Tr.two false t u).ed b p q:=λ _ _ z=>.inl (.inl z)
  have u2:∀ p q,u.ed (b+t.cnt) p q->(Tr.two false t u).ed b p q:=λ _ _ z=>.inl (.inr z)
  have Z:∀ p,p∈t.fs b->p∈(Tr.two false t u).fs b:=λ p F=>by show p∈(if t.nul then _ else _);split;exact bZ _ F;exact F
  have J:∀ p,p∈u.la (b+t.cnt)->p∈(Tr.two false t u).la b:=λ p F=>by show p∈(if u.nul then _ else _);split;exact a8 _ F;exact F
  rcases ih1 b hl.l with⟨rfl,hk,hn⟩|⟨p,q,F,hq,r⟩
  .rcases ih2 _ hl.r with⟨rfl,Y,G⟩|⟨p',q',hp',hq',r'⟩
   .exact .inl ⟨rfl,hk,by show(t.nul&&u.nul)=true;rw[hn,G];rfl⟩
   .exact .inr ⟨p',q',by show p'∈(if t.nul then _ else _);rw[if_pos hn];exact a8 _ hp',J _ hq',r'.mono u2⟩
  .rcases ih2 _ hl.r with⟨rfl,Y,G⟩|⟨p',q',hp',hq',r'⟩
   .exact .inr ⟨p,q,Z _ F,by show q∈(if u.nul then _ else _);rw[if_pos G];exact bZ _ hq,r.mono u1⟩
   .exact .inr ⟨p,q',Z _ F,J _ hq',(r.mono u1).cat (.inr ⟨hq,hp'⟩) (r'.mono u2)⟩
theorem ah2 {w:List Nat}:∀(t:Tr) {k:Nat},t.nul=true->k<=w.length->Mt' w t k k
 | .nothing,k,_,h=>.nothing h
 | .letter _,k,z,h=>by cases z
 | .rep t,k,_,h=>.rep0 h
 | .two true t u,k,z,h=>by
  rcases(bn _ _).mp (show(t.nul||u.nul)=true from z)with z|z
  .exact .inl (ah2 t z h)
  .exact .inr (ah2 u z h)
 | .two false t u,k,z,h=>by
  obtain⟨z1,z2⟩:=(ak _ _).mp (show(t.nul&&u.nul)=true from z)
  exact .both (ah2 t z1 h) (ah2 u z2 h)
theorem rep_cut {w:List Nat}{lt:Nat->Option Nat}{t:Tr}{b:Nat}(F:∀ {k j:Nat},Glu w lt t b k j->Mt' w t k j){k p j q:Nat}(h:Rn w lt ((Tr.rep t).ed b) k p j q)(hq:q∈t.la b) :
  (Rn w lt (t.ed b) k p j q)\/∃ m p' ,Rn w lt (t.ed b) k p m p'/\p'∈t.la b/\Mt' w (.rep t) m j:=by
 induction h with
 | one h l=>exact .inl (.one h l)
 | @step k p c p' j q h l e r ihr =>
  rcases ihr hq with z|⟨m,G,z1,z2,z3⟩
  .rcases e with e|⟨e1,e2⟩
   .exact .inl (.step h l e z)
   .refine .inr ⟨k+1,p,.one h l,e1,?_⟩
    have g:Mt' w t (k+1) j:=F (.inr ⟨p',q,e2,hq,z⟩)
    exact .repS g (.rep0 g.le.2)
  .rcases e with e|⟨e1,e2⟩
   .exact .inr ⟨m,G,.step h l e z1,z2,z3⟩
   .exact .inr ⟨k+1,p,.one h l,e1,.repS (F (.inr ⟨p',G,e2,z2,z1⟩)) z3⟩
theorem aR2 {w:List Nat}{lt:Nat->Option Nat}:∀(t:Tr) (b:Nat),bi3 lt t b->∀ {k j:Nat},Glu w lt t b k j->Mt' w t k j
 | .nothing,b,hl,k,j,h=>by
  rcases h with⟨rfl,hk,_⟩|⟨p,q,F,_⟩
  .exact .nothing hk
  .cases F
 | .letter c,b,hl,k,j,h=>by
  rcases h with⟨rfl,hk,z⟩|⟨p,q,F,hq,r⟩
  .cases z
  .cases aD.mp F
   cases r with
   | one h l =>
    have:=hl 0 jv
    rw[dW,l]at this
    cases this
    exact .letter h
   | step h l e r=>exact e.elim
 | .rep t,b,hl,k,j,h=>by
  rcases h with⟨rfl,hk,_⟩|⟨p,q,F,hq,r⟩
  .exact .rep0 hk
  .have ih:∀ {k j:Nat},Glu w lt t b k j->Mt' w t k j:=λ g=>aR2 t b hl g
   rcases rep_cut ih r hq with z|⟨m,p',z1,z2,z3⟩
   .have g:=ih (.inr ⟨p,q,F,hq,z⟩)
    exact .repS g (.rep0 g.le.2)
   .exact .repS (ih (.inr ⟨p,p',F,z2,z1⟩)) z3
 | .two true t u,b,hl,k,j,h=>by
  rcases h with⟨rfl,hk,z⟩|⟨p,q,F,hq,r⟩
  .exact ah2 _ z hk
  .have c1:∀ p q,(b<=p/\p<b+t.cnt)->(Tr.two true t u).ed b p q->t.ed b p q/\(b<=q/\q<b+t.cnt):=λ p q F e=>by
    rcases(show t.ed b p q\/u.ed (b+t.cnt) p q from e)with z|z
    .exact⟨z,(t.ed_in b p q z).2⟩
    .have:=(u.ed_in _ p q z).1;omega
   have c2:∀ p q,(b+t.cnt<=p)->(Tr.two true t u).ed b p q->u.ed (b+t.cnt) p q/\b+t.cnt<=q:=λ p q F e=>by
    rcases(show t.ed b p q\/u.ed (b+t.cnt) p q from e)with z|z
    .have:=(t.ed_in b p q z).1;lia
    .exact⟨z,(u.ed_in _ p q z).2.1⟩
   rcases aO.mp (show p∈t.fs b++u.fs (b+t.cnt)from F)with z|z
   .obtain⟨r1,s1⟩:=r.stay c1 (t.fs_in b p z)
    rcases aO.mp (show q∈t.la b++u.la (b+t.cnt)from hq)with y|y
    .exact .inl (aR2 t b hl.l (.inr ⟨p,q,z,y,r1⟩))
    .have:=(u.la_in _ q y).1;lia
   .obtain⟨r1,s1⟩:=r.stay c2 (u.fs_in _ p z).1
    rcases aO.mp (show q∈t.la b++u.la (b+t.cnt)from hq)with y|y
    .have:=(t.la_in _ q y).2;lia
    .exact .inr (aR2 u _ hl.r (.inr ⟨p,q,z,y,r1⟩))
 | .two false t u,b,hl,k,j,h=>by
  rcases h with⟨rfl,hk,z⟩|⟨p,q,F,hq,r⟩
  .exact ah2 _ z hk
  .have i1:∀ {k j:Nat},Glu w lt t b k j->Mt' w t k j:=λ g=>aR2 t b hl.l g
   have i2:∀ {k j:Nat},Glu w lt u (b+t.cnt) k j->Mt' w u k j:=λ g=>aR2 u _ hl.r g
   have c2:∀ p q,(b+t.cnt<=p)->(Tr.two false t u).ed b p q->u.ed (b+t.cnt) p q/\b+t.cnt<=q:=λ p q F e=>by
    rcases(show(t.ed b p q\/u.ed (b+t.cnt) p q)\/(p∈t.la b/\q∈u.fs (b+t.cnt))from e)with(z|z)|z
    .have:=(t.ed_in b p q z).1;omega
    .exact⟨z,(u.ed_in _ p q z).2.1⟩
    .have:=(t.la_in b p z.1).2;omega
   have cut:∀ {k p j q:Nat},Rn w lt ((Tr.two false t u).ed b) k p j q->(b<=p/\p<b+t.cnt)->(Rn w lt (t.ed b) k p j q/\q<b+t.cnt)\/∃ m p1 G,Rn w lt (t.ed b) k p m p1/\p1∈t.la b/\G∈u.fs (b+t.cnt)/\Rn w lt (u.ed (b+t.cnt)) m G j q/\b+t.cnt<=q:=by
    intro k p j q r
    induction r with
    | one h l=>intro F;exact .inl ⟨.one h l,F.2⟩
    | @step k p c p' j q h l e r ihr =>
     intro F
     rcases e with(e|e)|⟨e1,e2⟩
     .rcases ihr (t.ed_in b _ _ e).2 with⟨z,y⟩|⟨m,p1,G,z1,z2,z3,z4,z5⟩
      .exact .inl ⟨.step h l e z,y⟩
      .exact .inr ⟨m,p1,G,.step h l e z1,z2,z3,z4,z5⟩
     .have:=(u.ed_in _ _ _ e).1;omega
     .obtain⟨r1,s1⟩:=r.stay c2 (u.fs_in _ _ e2).1
      exact .inr ⟨k+1,p,p',.one h l,e1,e2,r1,s1⟩
   have J:∀ {p},p∈u.fs (b+t.cnt)->p∈(Tr.two false t u).fs b->t.nul=true:=λ {p} hu F=>by
    have F:p∈(if t.nul then t.fs b++u.fs (b+t.cnt)else t.fs b):=F
    split at F
    .assumption
    .have:=(t.fs_in b p F).2;have:=(u.fs_in _ p hu).1;lia
   have Z:∀ {q},q<b+t.cnt->q∈(Tr.two false t u).la b->u.nul=true/\q∈t.la b:=λ {q} hq1 hq=>by
    have hq:q∈(if u.nul then t.la b++u.la (b+t.cnt)else u.la (b+t.cnt)):=hq
    split at hq
    .rcases aO.mp hq with z|z
     .exact⟨‹_›,z⟩
     .have:=(u.la_in _ q z).1;omega
    .have:=(u.la_in _ q hq).1;omega
   have Y:∀ {q},b+t.cnt<=q->q∈(Tr.two false t u).la b->q∈u.la (b+t.cnt):=λ {q} hq1 hq=>by
    have hq:q∈(if u.nul then t.la b++u.la (b+t.cnt)else u.la (b+t.cnt)):=hq
    split at hq
    .rcases aO.mp hq with z|z
     .have:=(t.la_in _ q z).2;omega
     .exact z
    .exact hq
   have a0:p∈t.fs b\/p∈u.fs (b+t.cnt):=by
    have F:p∈(if t.nul then t.fs b++u.fs (b+t.cnt)else t.fs b):=F
    split at F
    .exact aO.mp F
    .exact .inl F
   rcases a0 with z|z
   .rcases cut r (t.fs_in b p z)with⟨r1,y⟩|⟨m,p1,G,z1,z2,z3,z4,z5⟩
    .obtain⟨n1,n2⟩:=Z y hq
     have g:=i1 (.inr ⟨p,q,z,n2,r1⟩)
     exact .both g (ah2 u n1 g.le.2)
    .exact .both (i1 (.inr ⟨p,p1,z,z2,z1⟩)) (i2 (.inr ⟨G,q,z3,Y z5 hq,z4⟩))
   .obtain⟨r1,s1⟩:=r.stay c2 (u.fs_in _ p z).1
    have g:=i2 (.inr ⟨p,q,z,Y s1 hq,r1⟩)
    exact .both (ah2 t (J z F) (aj g.le.1 g.le.2)) g
noncomputable def row (m:Nat)(f:Nat->Int):List D:=(aP m).map λ j=>.int (f j)
@[simp] theorem ca8 {m:Nat} {f:Nat->Int}:(row m f).length=m:=by unfold row;simp
noncomputable def bT4 (m:Nat)(f:Nat->Nat->Int):Sto:=(aP m).map λ i=>.lst (row m (f i))
@[simp] theorem bP2 {m:Nat} {f:Nat->Nat->Int}:(bT4 m f).length=m:=by unfold bT4;simp
noncomputable def cn0 (p m:Nat):List D:=(aP m).map λ i=>.ref (p+i)
theorem ix_str {l:List Nat}{j c:Nat}{s:Sto}(hj:l[j]?=some c):ixM (.str l) (.int (j:Int)) s=.ok (.str [c]) s:=by
 have hl:j<l.length:=(ac.mp hj).1
 have e:l[j]=c:=(ac.mp hj).2
 simp[ixM,ixn,hl,e]
noncomputable def shN (f:Nat->Nat->Int)(i j:Nat):Nat->Int
 | 0=>3
 | k+1=>let b:=max (max (f i k) (if f k k=1 then 2 else f k k)) (f k j);if b<shN f i j k then b else shN f i j k
noncomputable def sh (m:Nat)(f:Nat->Nat->Int)(i j:Nat):Int:=shN f i j m
inductive Stp where
 | let_ (c:Nat)|pair (i j:Nat)|sharp (i:Nat)
noncomputable def Stp.d:Stp->D
 | .let_ c=>.tup [.str [108,101,116,116,101,114],.str [c]]
 | .pair i j=>.tup [.str [112,97,105,114],.int i,.int j]
 | .sharp i=>.tup [.str [115,104,97,114,112],.int i]
section
variable {s:Sto} {r:Nat} {b:Int} {A B Cc:List D} {T:Sto}
end
section
variable {m:Nat} {f:Nat->Nat->Int} {x:Int}
end
noncomputable def cd3 (a c:Int)(vs:List Int):Stp->Int
 | .let_ _=>a
 | .pair i j=>vs.getD i 0+vs.getD j 0
 | .sharp i=>vs.getD i 0*c
noncomputable def vl (a c:Int)(l:List Stp):List Int:=l.foldl (λ vs x=>vs++[cd3 a c vs x]) []
section
variable {F:Fns} {U:Env} {s:Sto}
end
noncomputable def Stp.t (c:Int):Stp->D
 | .sharp i=>.tup [.str [116,105,109,101,115],.int i,.int c]
 | x=>x.d
section
variable {P:Pr} [Has P bS6] [Has P ap1] [HasL P ai4]
end
theorem ci7 {s:Sto}{a b:Nat}{l m:List D}(z:s[a]?=some (.lst l))(F:s[b]?=some (.lst m))(h:l.length+m.length<=LIM):z0 .add (.ref a) (.ref b) s=.ok (.ref s.length) (s++[.lst (l++m)]):=by
 show(match s[a]?,s[b]? with|some (.lst l),some (.lst m)=>(if l.length+m.length<=LIM then ac5 (.lst (l++m)) s else .bad)|_,_=>.bad:R D)=_
 rw[z,F]
 exact if_pos h
theorem zW {s:Sto}{o:O}:(s++[o])[s.length]?=some o:=by rw[aI (ah _)];simp
end DV
end
local macro_rules | `(tactic| tbr_iter [$xs,*]) => `(tactic| simp -implicitDefEqProofs only [DV.exs_cons, DV.exs_nil, DV.ex_asg, DV.ex_ite, DV.ex_ret, DV.ex_ex, DV.ex_for, DV.ex_whl, DV.ex_setIx, DV.ev_var, DV.ev_cst, DV.ev_bin, DV.ev_not, DV.ev_cmp, DV.ev_and, DV.ev_or, DV.ev_ite, DV.ev_tup, DV.ev_lst, DV.ev_ix, DV.ev_call, DV.ev_bi, DV.ev_mk, DV.ev_meth, DV.ev_isN, DV.ev_notN, DV.evs_nil, DV.evs_cons, DV.evas_nil, DV.evas_ex, DV.evI_seq, DV.evI_rng1, DV.evL_seq, DV.Cn_bl, DV.Cn_int, DV.Cn_non, DV.Cn_str, DV.R.bind_ok, DV.bindT_one, DV.bindT_tup, DV.setVs_nil, DV.setVs_cons, DV.setV_s, DV.setV_0, DV.unsetV_s, DV.unsetV_0, DV.getV_0, DV.getV_s, Option.map_some, Option.bind_some, DV.setC_some, DV.nxt_next, DV.nxt_ret, DV.nxt_cont, DV.fin_ret, DV.fin_next, DV.add_int, DV.sub_int, DV.lt_int, DV.le_int, DV.gt_int, DV.ge_int, DV.eq_int, DV.ne_int, DV.alloc_eq, DV.tru_bl, if_true, if_false, Bool.false_eq_true, decide_true, decide_false, Bool.not_true, Bool.not_false, $[$xs:term],*])
noncomputable section
namespace DV
section
variable {F:Fns} {U:Env} {s:Sto}
theorem ai2 (o:E)(f:List Nat):ev F (.attr o f) U s=(ev F o U s).bind λ x s=>ah6 f x s:=rfl
theorem bj3 (e:E):ev F (.keysL e) U s=(ev F e U s).bind λ x s=>ag0 x s:=rfl
theorem bS2 (e:E):ev F (.srt e) U s=(ev F e U s).bind λ x s=>(aP4 x s).bind λ q s=>bd7 q s:=rfl
theorem bU2 (c:String)(h:As):ev F (.new c h) U s=(aj5 F h U s).bind λ l s=>(F.new c (.ref s.length::l) (s++[.ins c []])).bind λ d s'=>if d=.non then .ok (.ref s.length) s' else .bad:=rfl
theorem af6 (o:E)(m:String)(h:As):ev F (.mcall o m h) U s=(ev F o U s).bind λ x s=>(bp7 x s).bind λ c s=>(aj5 F h U s).bind λ l s=>F.mcall c m (x::l) s:=rfl
theorem aV3 (o:E)(f:List Nat)(e:E):ex F (.setA o f e) U s=(ev F e U s).bind λ d s=>(ev F o U s).bind λ x s=>(am4 (λ c=>F.att c f) f x d s).bind λ _ s=>.ok (.next U) s:=rfl
theorem by4 (tg:Tg)(e:E)(b:Ss):ex F (.forK tg e b) U s=((ev F e U s).bind λ d s=>as6 d s).bind λ q s0=>if aR4 s q.src then(aD0 (λ s=>chk s0 s q.src) (turn F tg b) q.its U s0).bind (λ c s=>au8 q.src c s)else .bad:=rfl
end
noncomputable def ak0:List Nat:=[108,101,116,116,101,114,115]
noncomputable def an2:List Nat:=[102,111,108,108,111,119,115]
noncomputable def aj1:List Nat:=[101,110,100,115]
noncomputable def flds (a b e:Nat):List (D×D):=[(.str ak0,.ref a),(.str an2,.ref b),(.str aj1,.ref e)]
theorem by6 (a b e:Nat):look (.str ak0) (flds a b e)=some (.ref a):=by simp[look,flds,ak0,an2,aj1]
theorem bv7 (a b e:Nat):look (.str an2) (flds a b e)=some (.ref b):=by simp[look,flds,ak0,an2,aj1]
theorem bE6 (a b e:Nat):look (.str aj1) (flds a b e)=some (.ref e):=by simp[look,flds,ak0,an2,aj1]
theorem aW1 {s:Sto}{o a b e:Nat}(h:s[o]?=some (.ins "Rooms" (flds a b e))):ah6 ak0 (.ref o) s=.ok (.ref a) s:=by unfold ah6;simp only[h,by6]
theorem aC9 {s:Sto}{o a b e:Nat}(h:s[o]?=some (.ins "Rooms" (flds a b e))):ah6 an2 (.ref o) s=.ok (.ref b) s:=by unfold ah6;simp only[h,bv7]
theorem bH4 {s:Sto}{o a b e:Nat}(h:s[o]?=some (.ins "Rooms" (flds a b e))):ah6 aj1 (.ref o) s=.ok (.ref e) s:=by unfold ah6;simp only[h,bE6]
theorem qD {s:Sto}{o a b e:Nat}(h:s[o]?=some (.ins "Rooms" (flds a b e))):bp7 (.ref o) s=.ok "Rooms" s:=by unfold bp7;simp only[h]
theorem aP8 {s t:Sto}(ho:qC s t=true)(hl:t.length=s.length):zm s .non t=.ok .non t:=by
 unfold zm
 rw[if_pos ho]
 have:D.bnd s.length .non=true:=rfl
 simp only[this,if_true]
 rw[<-hl,cr]
noncomputable def dk (l:List Nat):List (D×D):=l.map λ(q:Nat)=>(D.int (q:Int),D.bl true)
noncomputable def za (l:List Nat):List D:=l.map λ(q:Nat)=>D.int (q:Int)
noncomputable def av3 (q:Nat)(l:List Nat):List Nat:=if q∈l then l else l++[q]
theorem ae9 {q x:Nat}{l:List Nat}:x∈av3 q l↔x∈l\/x=q:=by
 unfold av3
 split
 .constructor
  .exact .inl
  .rintro(h|rfl)
   .exact h
   .assumption
 .simp
theorem aD1 {q:Nat}{l:List Nat}(h:l.Nodup):(av3 q l).Nodup:=by
 unfold av3
 split
 .exact h
 .rename_i hq
  rw[jb]
  exact⟨h,by simp,λ a ha b hb z=>hq (by rw[aD.mp hb]at z;rw[<-z];exact ha)⟩
theorem aA5:∀(n:Nat) (l:List Nat),l.Nodup->(∀ x∈l,x<n)->l.length<=n
 | 0,[],_,_=>ah _
 | 0,x::l,_,h=>absurd (h x (aB ..)) (by lia)
 | n+1,l,nd,h=>by
  have g:=aA5 n (l.filter λ x=>decide (x≠n)) (nd.filter _) λ x hx=>by
   have:=gf.mp hx
   have G:=h x this.1
   have J:=of_decide_eq_true this.2
   lia
  have k:∀ m:List Nat,m.Nodup->m.length<=(m.filter λ x=>decide (x≠n)).length+1:=by
   intro m
   induction m with
   | nil=>intro _;simp
   | cons a m ih =>
    intro F
    rw[dA]at F
    by_cases ha:a=n
    .have e:m.filter (λ x=>decide (x≠n))=m:=List.filter_eq_self.mpr λ x hx=>decide_eq_true λ z=>F.1 (by rw[ha,<-z];exact hx)
     rw[List.filter_cons_of_neg (by simp[ha]),e]
     simp
    .rw[List.filter_cons_of_pos (by simp[ha])]
     have:=ih F.2
     simp only[aR]
     omega
  have:=k l nd
  lia
theorem bc5 {q:Nat}:∀ {l:List Nat},(look (.int (q:Int)) (dk l)).isSome=decide (q∈l)
 | []=>rfl
 | x::l=>by
  show(if D.int (x:Int)=D.int (q:Int)then some (D.bl true)else look _ (dk l)).isSome=_
  by_cases h:x=q
  .subst h;simp
  .have:¬ D.int (x:Int)=D.int (q:Int):=λ z=>h (by injection z with z;lia)
   rw[if_neg this,bc5]
   simp[bG h]
theorem aU1 {q:Nat}{l:List Nat}:ap7 (.int (q:Int)) (.bl true) (dk l)=dk (av3 q l):=by
 unfold ap7 av3
 rw[bc5]
 by_cases h:q∈l
 .rw[if_pos h,if_pos (by simpa using h)]
  unfold dk
  rw[cU]
  refine cK λ x _=>?_
  show(if D.int (x:Int)=D.int (q:Int)then(D.int (x:Int),D.bl true)else(D.int (x:Int),D.bl true))=_
  split<;>rfl
 .rw[if_neg h,if_neg (by simpa using h)]
  unfold dk
  rw[bw];rfl
theorem bV3 (l:List Nat)(n:Nat):(O.dic (dk l)).bnd n=true:=by
 unfold O.bnd
 rw[ak]
 refine⟨?_,?_⟩<;>(induction l with
  | nil=>rfl
  | cons x l ih=>exact ih)
theorem aj7 (l:List Nat)(n:Nat):D.bndL n (za l)=true:=by
 induction l with
 | nil=>rfl
 | cons x l ih=>exact ih
theorem bl5 {s t:Sto}(h:∀ i,i<s.length->t[i]?=s[i]?\/∃ o,t[i]?=some o/\o.bnd s.length=true):qC s t=true:=by
 unfold qC
 rw[aL]
 intro i F
 rcases h i (br.mp F)with z|⟨o,z1,z2⟩
 .rw[z];simp
 .rw[z1];simp[z2]
structure RoomsS (s:Sto)(o a b e:Nat)(L:List (List Nat))(rs:List Nat)(Fo:Nat->List Nat):Prop where
 ins:s[o]?=some (.ins "Rooms" (flds a b e))
 let_:s[a]?=some (.lst (L.map D.str))
 fol:s[b]?=some (.lst (rs.map D.ref))
 len:rs.length=L.length
 dic:∀(i r:Nat),rs[i]?=some r->s[r]?=some (.dic (dk (Fo i)))
 nd:rs.Nodup
 pos:0<L.length
 big:L.length<=60
 nf:∀ i,(Fo i).Nodup
 lt:∀ i q,q∈Fo i->q<L.length
theorem RoomsS.notIn {s:Sto}{o a b e:Nat}{L:List (List Nat)}{F:List Nat}{G:Nat->List Nat}(h:RoomsS s o a b e L F G){i:Nat}{x:O}(J:s[i]?=some x)(hx:∀ l,x≠.dic l):i ∉ F:=λ z=>by
 obtain⟨j,hj⟩:=c6.mp z
 have:=h.dic j i hj
 rw[J]at this
 exact hx _ (aw this)
section
variable {P:Pr} [HasM P "Rooms" "link" aa7]
noncomputable def lkB:Ss:=.cons (.setIx (.ix (.attr (.var 0) an2) (.var 3)) (.var 4) (.cst (.bl true))) .nil
theorem aW5:aa7.body=.cons (.for_ (.one 3) (.seq (.var 1)) (.cons (.for_ (.one 4) (.seq (.var 2)) lkB) .nil)) .nil:=rfl
theorem bA6 (n:Nat){s:Sto}{o a b e f g:Nat}{L:List (List Nat)}{G:List Nat}{F:Nat->List Nat}(h:RoomsS s o a b e L G F){p q:Nat}(hp:p<L.length)(hq:q<L.length)(x4:Option D) :
  ∃ s' Z,turn (aa1 P n) (.one 4) lkB (.int (q:Int)) [some (.ref o),some (.ref f),some (.ref g),some (.int (p:Int)),x4] s=.ok (.next [some (.ref o),some (.ref f),some (.ref g),some (.int (p:Int)),some (.int (q:Int))]) s' /\
   RoomsS s' o a b e L G Z/\(∀ p' q',q'∈Z p'↔q'∈F p'\/(p'=p/\q'=q))/\s'.length=s.length/\∀ i,i ∉ G->s'[i]?=s[i]?:=by
 have hr:p<G.length:=by rw[h.len];exact hp
 have er:G[p]?=some G[p]:=af hr
 have hd:=h.dic p _ er
 have e1:=aC9 h.ins
 have e2:ixM (.ref b) (.int (p:Int)) s=.ok (.ref G[p]) s:=zw h.fol (by rw[aF,er];rfl)
 have hl:(F p).length<=60:=aj (aA5 _ _ (h.nf p) (h.lt p)) h.big
 have e3:setIx (.ref G[p]) (.int (q:Int)) (.bl true) s=.ok () (s.set G[p] (.dic (dk (av3 q (F p))))):=by
  unfold setIx
  simp only[hd]
  rw[if_pos (by
   have:(dk (F p)).length=(F p).length:=by unfold dk;simp
   rw[ak]
   exact⟨rfl,decide_eq_true (by rw[this];unfold LIM;lia)⟩),aU1]
 have hlt:G[p]<s.length:=(ac.mp hd).1
 have J:∀ i,i ∉ G->(s.set G[p] (.dic (dk (av3 q (F p)))))[i]?=s[i]?:=λ i Y=>ao λ z=>Y (by rw[<-z];exact d6 hr)
 refine⟨s.set G[p] (.dic (dk (av3 q (F p)))),λ i=>if i=p then av3 q (F p)else F i,?_,⟨?_,?_,?_,h.len,λ i r Y=>?_,h.nd,h.pos,h.big,λ i=>?_,λ i x hx=>?_⟩,λ p' q'=>?_,by simp,J⟩
 .unfold turn lkB
  tbr_iter [ai2,e1,e2,e3]
 .rw[J _ (h.notIn h.ins (by nofun))];exact h.ins
 .rw[J _ (h.notIn h.let_ (by nofun))];exact h.let_
 .rw[J _ (h.notIn h.fol (by nofun))];exact h.fol
 .by_cases z:i=p
  .subst z
   rw[er]at Y;cases Y
   rw[zI hlt,if_pos rfl]
  .rw[if_neg z]
   rw[ao λ y=>z ((List.getElem?_inj (ac.mp Y).1 h.nd).mp (by rw[Y,<-y,er]))]
   exact h.dic i r Y
 .show(if i=p then _ else _:List Nat).Nodup
  split
  .exact aD1 (h.nf p)
  .exact h.nf i
 .have hx:x∈(if i=p then av3 q (F p)else F i):=hx
  split at hx
  .rcases ae9.mp hx with z|z
   .exact h.lt p x z
   .rw[z];exact hq
  .exact h.lt i x hx
 .show q'∈(if p'=p then av3 q (F p)else F p')↔_
  split
  .rename_i z
   subst z
   rw[ae9]
   simp
  .rename_i z
   simp[z]
theorem ak3 {l:List Nat}{i:Nat}{d:D}(h:(za l)[i]?=some d):∃ q,l[i]?=some q/\d=.int (q:Int):=by
 unfold za at h
 rw[aF]at h
 cases e:l[i]? with
 | none=>rw[e]at h;cases h
 | some q=>rw[e]at h;cases h;exact⟨q,rfl,rfl⟩
theorem zn (l:List Nat):(za l).length=l.length:=by unfold za;simp
theorem qk {α:Type}{l:List α}{i:Nat}{x:α}(h:l[i]?=some x)(y:α):y∈l.take (i+1)↔y∈l.take i\/y=x:=by
 rw[i8,h];simp
theorem aF7 (n:Nat){s:Sto}{o a b e f g:Nat}{L:List (List Nat)}{J:List Nat}{Fo:Nat->List Nat}(h:RoomsS s o a b e L J Fo){A B:List Nat}(hA:∀ p∈A,p<L.length)(hB:∀ q∈B,q<L.length)(hf:s[f]?=some (.lst (za A)))(hg:s[g]?=some (.lst (za B))) :
  ∃ s' F,(aa1 P (n+1)).mcall "Rooms" "link" [.ref o,.ref f,.ref g] s=.ok .non s'/\RoomsS s' o a b e L J F/\(∀ p q,q∈F p↔q∈Fo p\/(p∈A/\q∈B))/\s'.length=s.length/\∀ i,i ∉ J->s'[i]?=s[i]?:=by
 have nf:=h.notIn hf (by nofun)
 have ng:=h.notIn hg (by nofun)
 have q1:∀ {t:Sto},t[f]?=some (.lst (za A))->ao6 (.ref f) t=.ok ⟨za A,[f]⟩ t:=λ {t} ht=>by unfold ao6;simp only[ht]
 have q2:∀ {t:Sto},t[g]?=some (.lst (za B))->ao6 (.ref g) t=.ok ⟨za B,[g]⟩ t:=λ {t} ht=>by unfold ao6;simp only[ht]
 have key:=z6 (ok:=λ t=>chk s t [f]) (g:=turn (aa1 P n) (.one 3) (.cons (.for_ (.one 4) (.seq (.var 2)) lkB) .nil)) (λ j U t=>∃ x3 Z F,U=[some (.ref o),some (.ref f),some (.ref g),x3,Z]/\RoomsS t o a b e L J F/\(∀ p q,q∈F p↔q∈Fo p\/(p∈A.take j/\q∈B))/\t.length=s.length/\∀ i,i ∉ J->t[i]?=s[i]?)
  (za A) 0 [some (.ref o),some (.ref f),some (.ref g),none,none] s ⟨none,none,Fo,rfl,h,λ p q=>by simp,rfl,λ _ _=>rfl⟩ (λ j U t _ ⟨_,_,_,_,_,_,_,a0⟩=>by
   unfold chk
   rw[bN,a0 f nf];simp) ?_
 .obtain⟨U',s',e1,x3,Z,F,rfl,R',m',l',a4⟩:=key
  rw[aU,zn,cr]at m'
  refine⟨s',F,?_,R',m',l',a4⟩
  rw[zM aa7 rfl,aW5,show(bj some [D.ref o,D.ref f,D.ref g]++ai aa7.vs none)=[some (.ref o),some (.ref f),some (.ref g),none,none]from rfl]
  tbr_iter [q1 hf]
  rw[e1]
  tbr_iter []
  have ho:qC s s'=true:=bl5 λ i hi=>by
   by_cases z:i∈J
   .obtain⟨j,hj⟩:=c6.mp z
    exact .inr ⟨_,R'.dic j i hj,bV3 _ _⟩
   .exact .inl (a4 i z)
  exact aP8 ho l'
 .rintro j d U t hj ⟨x3,Z,a3,rfl,R1,m1,l1,a2⟩
  obtain⟨p,hp,rfl⟩:=ak3 hj
  rw[aU]at m1
  have a6:p∈A:=be hp
  have b2:t[g]?=some (.lst (za B)):=by rw[a2 g ng];exact hg
  have a1:=z6 (ok:=λ u=>chk t u [g]) (g:=turn (aa1 P n) (.one 4) lkB) (λ k U u=>∃ Z G,U=[some (.ref o),some (.ref f),some (.ref g),some (.int (p:Int)),Z]/\RoomsS u o a b e L J G/\(∀ p' q,q∈G p'↔q∈a3 p'\/(p'=p/\q∈B.take k))/\u.length=t.length/\∀ i,i ∉ J->u[i]?=t[i]?)
   (za B) 0 [some (.ref o),some (.ref f),some (.ref g),some (.int (p:Int)),Z] t ⟨Z,a3,rfl,R1,λ p' q=>by simp,rfl,λ _ _=>rfl⟩ (λ k U u _ ⟨_,_,_,_,_,_,a0⟩=>by
    unfold chk
    rw[bN,a0 g ng];simp) ?_
  .obtain⟨U',t',e2,a5,G,rfl,R2,m2,l2,Y⟩:=a1
   rw[aU,zn,cr]at m2
   refine⟨[some (.ref o),some (.ref f),some (.ref g),some (.int (p:Int)),a5],t',.inl ?_,_,_,G,rfl,R2,λ p' q=>?_,by rw[l2,l1],λ i hi=>by rw[Y i hi,a2 i hi]⟩
   .unfold turn
    tbr_iter [q2 b2]
    rw[e2]
    tbr_iter []
   .rw[m2,m1,aU,qk hp]
    constructor
    .rintro((z|z)|⟨rfl,z⟩)
     .exact .inl z
     .exact .inr ⟨.inl z.1,z.2⟩
     .exact .inr ⟨.inr rfl,z⟩
    .rintro(z|⟨z|z,y⟩)
     .exact .inl (.inl z)
     .exact .inl (.inr ⟨z,y⟩)
     .exact .inr ⟨z,y⟩
  .rintro k d U u hk ⟨x5,G,rfl,R2,m2,l2,Y⟩
   obtain⟨q,hq,rfl⟩:=ak3 hk
   rw[aU]at m2
   obtain⟨u',b0,e3,R3,m3,l3,b1⟩:=bA6 (P:=P) n (f:=f) (g:=g) R2 (hA p a6) (hB q (be hq)) x5
   refine⟨_,u',.inl e3,_,b0,rfl,R3,λ p' q'=>?_,by rw[l3,l2],λ i hi=>by rw[b1 i hi,Y i hi]⟩
   rw[m3,m2,aU,qk hq]
   constructor
   .rintro((z|z)|⟨rfl,rfl⟩)
    .exact .inl z
    .exact .inr ⟨z.1,.inl z.2⟩
    .exact .inr ⟨rfl,.inr rfl⟩
   .rintro(z|⟨rfl,z|rfl⟩)
    .exact .inl (.inl z)
    .exact .inl (.inr ⟨rfl,z⟩)
    .exact .inr ⟨rfl,rfl⟩
end
section
variable {P:Pr} [HasM P "Rooms" "link" aa7] [HasM P "Rooms" "lay_letter" aa3] [HasM P "Rooms" "lay" aa4]
theorem zS {s t:Sto}{d:D}(hb:d.bnd s.length=false)(h:∀ r,d≠.ref r):zm s d t=.ok d t:=by
 unfold zm
 split
 .cases d with
  | ref r=>exact absurd rfl (h r)
  | _=>simp only[hb,cz,if_false]
 .rfl
structure Laid (s s':Sto)(o a b e:Nat)(L:List (List Nat))(rs:List Nat)(Fo:Nat->List Nat)(t:Tr)(rs':List Nat)(Fo':Nat->List Nat)(f l:Nat):Prop where
 st:RoomsS s' o a b e (L++t.lt.map λ c=>[c]) (rs++rs') Fo'
 ed:∀ p q,q∈Fo' p↔q∈Fo p\/t.ed L.length p q
 fs:s'[f]?=some (.lst (za (t.fs L.length)))
 la:s'[l]?=some (.lst (za (t.la L.length)))
 nf:s.length<=f
 nl:s.length<=l
 le:s.length<=s'.length
 nr:∀ r∈rs',s.length<=r
 fr:∀ i,i<s.length->i≠a->i≠b->i ∉ rs->s'[i]?=s[i]?
theorem aE4 {L:List (List Nat)}(h:0<L.length){A:List Nat}:za A≠L.map D.str:=λ z=>by
 cases L with
 | nil=>cases h
 | cons x L=>cases A with
  | nil=>cases z
  | cons y A=>cases z
theorem aF6 {L:List Nat}(h:0<L.length){A:List Nat}:za A≠L.map D.ref:=λ z=>by
 cases L with
 | nil=>cases h
 | cons x L=>cases A with
  | nil=>cases z
  | cons y A=>cases z
theorem RoomsS.apart {s:Sto}{o a b e:Nat}{L:List (List Nat)}{G:List Nat}{J:Nat->List Nat}(h:RoomsS s o a b e L G J){i:Nat}{A:List Nat}(F:s[i]?=some (.lst (za A))):i≠a/\i≠b/\i ∉ G:=by
 refine⟨λ z=>?_,λ z=>?_,h.notIn F (by nofun)⟩
 .subst z;rw[h.let_]at F;injection F with F;injection F with F;exact aE4 h.pos F.symm
 .subst z;rw[h.fol]at F;injection F with F;injection F with F;exact aF6 (by rw[h.len];exact h.pos) F.symm
theorem bp2:aa3.body=.cons (.asg (.one 2) (.bi .len (.cons (.attr (.var 0) ak0) .nil))) (.cons (.ex (.meth .append (.attr (.var 0) ak0) (.cons (.var 1) .nil))) (.cons (.ex (.meth .append (.attr (.var 0) an2) (.cons (.dic .nil .nil) .nil))) (.cons (.ret (.tup (.cons (.cst (.bl false)) (.cons (.lst (.cons (.var 2) .nil)) (.cons (.lst (.cons (.var 2) .nil)) .nil))))) .nil))):=rfl
theorem aD8 {F:Fns}{U:Env}{s:Sto}:ev F (.dic .nil .nil) U s=.ok (.ref s.length) (s++[.dic []]):=rfl
theorem qy {b:Bool}{f l n:Nat}(h:n<=f):(D.tup [.bl b,.ref f,.ref l]).bnd n=false:=by
 unfold D.bnd D.bndL D.bndL D.bndL D.bnd
 simp
 lia
theorem aF3 (n:Nat){s:Sto}{o a b e:Nat}{L:List (List Nat)}{Y:List Nat}{Z:Nat->List Nat}(h:RoomsS s o a b e L Y Z)(hab:a≠b)(ho:o≠a/\o≠b)(c:Nat)(hL:L.length<60)(hF:∀ p,L.length<=p->Z p=[]) :
  ∃ s' a4 f l,(aa1 P (n+1)).mcall "Rooms" "lay_letter" [.ref o,.str [c]] s=.ok (.tup [.bl false,.ref f,.ref l]) s'/\Laid s s' o a b e L Y Z (.letter c) a4 Z f l:=by
 have ha:a<s.length:=(ac.mp h.let_).1
 have hb:b<s.length:=(ac.mp h.fol).1
 have a0:o<s.length:=(ac.mp h.ins).1
 have e1:=aW1 h.ins
 have e2:bi .len [.ref a] s=.ok (.int L.length) s:=by rw[ah7 h.let_,az]
 have e3:=qe (v:=.str [c]) h.let_ (by rw[az];unfold LIM;lia)
 generalize G:s.set a (.lst (L.map D.str++[.str [c]]))=s1 at e3
 have l1:s1.length=s.length:=by rw[<-G];simp
 have i1:s1[o]?=some (.ins "Rooms" (flds a b e)):=by rw[<-G,ao (bG ho.1)];exact h.ins
 have b1:s1[b]?=some (.lst (Y.map D.ref)):=by rw[<-G,ao hab];exact h.fol
 have a1:s1[a]?=some (.lst (L.map D.str++[.str [c]])):=by rw[<-G];exact zI ha
 have e4:=aC9 i1
 have e5:=qe (s:=s1++[.dic []]) (v:=.ref s1.length) (aa2 b1) (by rw[az,h.len];unfold LIM;lia)
 generalize F:(s1++[O.dic []]).set b (.lst (Y.map D.ref++[.ref s1.length]))=s2 at e5
 have l2:s2.length=s.length+1:=by rw[<-F];simp[l1]
 have g2:∀ i,i<s.length->i≠a->i≠b->s2[i]?=s[i]?:=λ i J ia ib=>by
  rw[<-F,ao (bG ib),au (by lia),<-G,ao (bG ia)]
 have d2:s2[s.length]?=some (.dic []):=by rw[<-F,ao (by lia),<-l1];exact zW
 have b2:s2[b]?=some (.lst (Y.map D.ref++[.ref s1.length])):=by rw[<-F];exact zI (by simp;lia)
 have a2:s2[a]?=some (.lst (L.map D.str++[.str [c]])):=by rw[<-F,ao (bG hab)];exact aa2 a1
 refine⟨s2++[.lst [.int L.length]]++[.lst [.int L.length]],[s.length],s2.length,s2.length+1,?_,⟨⟨?_,?_,?_,?_,λ i r J=>?_,?_,?_,?_,h.nf,λ i q hq=>?_⟩,λ p q=>?_,?_,?_,by lia,by lia,by simp;lia,λ r hr=>?_,λ i J ia ib ir=>?_⟩⟩
 .rw[zM aa3 rfl,bp2,show(bj some [D.ref o,D.str [c]]++ai aa3.vs none)=[some (.ref o),some (.str [c]),none]from rfl]
  tbr_iter [ai2,e1,e2,e3,e4,aD8,e5]
  rw[show(s2++[O.lst [D.int L.length]]).length=s2.length+1 by simp]
  exact zS (qy (by omega)) (by nofun)
 .exact aa2 (aa2 (by rw[g2 o a0 ho.1 ho.2];exact h.ins))
 .exact aa2 (aa2 (by rw[a2,bw];rfl))
 .exact aa2 (aa2 (by rw[b2,bw,l1];rfl))
 .rw[am,am,h.len];rfl
 .refine aa2 (aa2 ?_)
  by_cases z:i<Y.length
  .rw[au z]at J
   have hd:=h.dic i r J
   rw[g2 r (ac.mp hd).1 (λ y=>?_) (λ y=>?_)]
   .exact hd
   .subst y;rw[h.let_]at hd;cases hd
   .subst y;rw[h.fol]at hd;cases hd
  .rw[aI (by lia)]at J
   have a3:i - Y.length=0:=by
    have:=(ac.mp J).1
    simp at this;omega
   rw[a3]at J
   cases J
   rw[hF i (by rw[<-h.len];omega)]
   exact d2
 .rw[jb]
  refine⟨h.nd,by simp,λ x hx y hy z=>?_⟩
  obtain⟨j,hj⟩:=c6.mp hx
  have:=(ac.mp (h.dic j x hj)).1
  rw[aD.mp hy]at z
  lia
 .rw[am];have:=h.pos;lia
 .simp[Tr.lt];lia
 .have:=h.lt i q hq
  rw[am];lia
 .constructor
  .exact .inl
  .rintro(z|z)
   .exact z
   .exact z.elim
 .exact aa2 zW
 .rw[show s2.length+1=(s2++[O.lst [D.int L.length]]).length by simp];exact zW
 .rw[aD.mp hr];exact ah _
 .rw[aQ,au (by lia)];exact g2 i J ia ib
end
theorem Tr.fs_len:∀(t:Tr) (b:Nat),(t.fs b).length<=t.cnt
 | .nothing,b=>ah _
 | .letter c,b=>ah _
 | .rep t,b=>t.fs_len b
 | .two true t u,b=>by show(t.fs b++u.fs (b+t.cnt)).length<=t.cnt+u.cnt;have:=t.fs_len b;have:=u.fs_len (b+t.cnt);rw[am];lia
 | .two false t u,b=>by
  show(if t.nul then t.fs b++u.fs (b+t.cnt)else t.fs b).length<=t.cnt+u.cnt
  have:=t.fs_len b
  have:=u.fs_len (b+t.cnt)
  split
  .rw[am];omega
  .lia
theorem Tr.la_len:∀(t:Tr) (b:Nat),(t.la b).length<=t.cnt
 | .nothing,b=>ah _
 | .letter c,b=>ah _
 | .rep t,b=>t.la_len b
 | .two true t u,b=>by show(t.la b++u.la (b+t.cnt)).length<=t.cnt+u.cnt;have:=t.la_len b;have:=u.la_len (b+t.cnt);rw[am];lia
 | .two false t u,b=>by
  show(if u.nul then t.la b++u.la (b+t.cnt)else u.la (b+t.cnt)).length<=t.cnt+u.cnt
  have:=t.la_len b
  have:=u.la_len (b+t.cnt)
  split
  .rw[am];omega
  .lia
theorem RoomsS.app {s:Sto}{o a b e:Nat}{L:List (List Nat)}{z:List Nat}{F:Nat->List Nat}(h:RoomsS s o a b e L z F)(X:Sto):RoomsS (s++X) o a b e L z F :=
 ⟨aa2 h.ins,aa2 h.let_,aa2 h.fol,h.len,λ i r G=>aa2 (h.dic i r G),h.nd,h.pos,h.big,h.nf,h.lt⟩
theorem ae5 {S:Sto}{f g:Nat}{A B:List Nat}(h:S[f]?=some (.lst (za A)))(hg:S[g]?=some (.lst (za B)))(hl:A.length+B.length<=1000):z0 .add (.ref f) (.ref g) S=.ok (.ref S.length) (S++[.lst (za (A++B))]):=by
 unfold z0
 simp only[h,hg]
 rw[if_pos (by rw[zn,zn];unfold LIM;lia)]
 unfold za
 rw[bw];rfl
theorem Laid.nil {s s':Sto}{o a b e:Nat}{L:List (List Nat)}{Z:List Nat}{G:Nat->List Nat}{t:Tr}{F:List Nat}{h:Nat->List Nat}{f l:Nat}(H:Laid s s' o a b e L Z G t F h f l)(Y:∀ p,L.length<=p->G p=[]):∀ p,(L++t.lt.map λ c=>[c]).length<=p->h p=[]:=λ p J=>by
 rw[am,az,t.lt_len]at J
 refine List.eq_nil_iff_forall_not_mem.mpr λ q hq=>?_
 rcases(H.ed p q).mp hq with z|z
 .rw[Y p (by lia)]at z;cases z
 .have:=(t.ed_in _ p q z).1;lia
section
variable {P:Pr} [HasM P "Rooms" "link" aa7] [HasM P "Rooms" "lay_letter" aa3] [HasM P "Rooms" "lay" aa4]
theorem ag8:aa4.body=(.cons (.ite (.cmp .eq (.ix (.var 1) (.cst (.int 0))) (.cst (.str [108,101,116,116,101,114]))) (.cons (.ret (.mcall (.var 0) "lay_letter" (.ex (.ix (.var 1) (.cst (.int 1))) .nil))) .nil) .nil) (.cons (.ite (.cmp .eq (.ix (.var 1) (.cst (.int 0))) (.cst (.str [110,111,116,104,105,110,103]))) (.cons (.ret (.tup (.cons (.cst (.bl true)) (.cons (.lst .nil) (.cons (.lst .nil) .nil))))) .nil) .nil) (.cons (.asg (.one 2) (.mcall (.var 0) "lay" (.ex (.ix (.var 1) (.cst (.int 1))) .nil))) (.cons (.ite (.cmp .eq (.ix (.var 1) (.cst (.int 0))) (.cst (.str [114,101,112,101,97,116]))) (.cons (.ex (.mcall (.var 0) "link" (.ex (.ix (.var 2) (.cst (.int 2))) (.ex (.ix (.var 2) (.cst (.int 1))) .nil)))) (.cons (.ret (.tup (.cons (.cst (.bl true)) (.cons (.ix (.var 2) (.cst (.int 1))) (.cons (.ix (.var 2) (.cst (.int 2))) .nil))))) .nil)) .nil) (.cons (.asg (.one 3) (.mcall (.var 0) "lay" (.ex (.ix (.var 1) (.cst (.int 2))) .nil))) (.cons (.ite (.cmp .eq (.ix (.var 1) (.cst (.int 0))) (.cst (.str [101,105,116,104,101,114]))) (.cons (.ret (.tup (.cons (.or (.ix (.var 2) (.cst (.int 0))) (.ix (.var 3) (.cst (.int 0)))) (.cons (.bin .add (.ix (.var 2) (.cst (.int 1))) (.ix (.var 3) (.cst (.int 1)))) (.cons (.bin .add (.ix (.var 2) (.cst (.int 2))) (.ix (.var 3) (.cst (.int 2)))) .nil))))) .nil) .nil) (.cons (.ex (.mcall (.var 0) "link" (.ex (.ix (.var 2) (.cst (.int 2))) (.ex (.ix (.var 3) (.cst (.int 1))) .nil)))) (.cons (.asg (.one 4) (.ite (.ix (.var 2) (.cst (.int 0))) (.bin .add (.ix (.var 2) (.cst (.int 1))) (.ix (.var 3) (.cst (.int 1)))) (.ix (.var 2) (.cst (.int 1))))) (.cons (.asg (.one 5) (.ite (.ix (.var 3) (.cst (.int 0))) (.bin .add (.ix (.var 2) (.cst (.int 2))) (.ix (.var 3) (.cst (.int 2)))) (.ix (.var 3) (.cst (.int 2))))) (.cons (.ret (.tup (.cons (.and (.ix (.var 2) (.cst (.int 0))) (.ix (.var 3) (.cst (.int 0)))) (.cons (.var 4) (.cons (.var 5) .nil))))) .nil)))))))))):=rfl
theorem z7 {a b:List Nat}{v:Bool}(h:(a==b)=v)(s:Sto):zc .eq (.str a) (.str b) s=.ok (.bl v) s:=by rw[<-h];rfl
theorem aq4:∀(t:Tr) (n:Nat) {s:Sto} {o a b e:Nat} {L:List (List Nat)} {rs:List Nat} {Fo:Nat->List Nat},RoomsS s o a b e L rs Fo->a≠b->(o≠a/\o≠b)->L.length+t.cnt<=60->(∀ p,L.length<=p->Fo p=[]) ->
  ∃ s' a6 d0 f l,(aa1 P (n+t.dep+1)).mcall "Rooms" "lay" [.ref o,t.d] s=.ok (.tup [.bl t.nul,.ref f,.ref l]) s'/\Laid s s' o a b e L rs Fo t a6 d0 f l
 | .nothing,n,s,o,a,b,e,L,rs,Fo,h,hab,ho,hL,hF=>by
  refine⟨s++[.lst []]++[.lst []],[],Fo,s.length,s.length+1,?_,⟨?_,λ p q=>⟨.inl,λ z=>z.elim id bP⟩,aa2 zW,?_,ah _,b7 _,by simp,(λ r hr=>by cases hr),λ i hi _ _ _=>?_⟩⟩
  .rw[zM aa4 rfl,ag8,show(bj some [D.ref o,Tr.nothing.d]++ai aa4.vs none)=[some (.ref o),some Tr.nothing.d,none,none,none,none]from rfl]
   have I0:∀ S,ixM Tr.nothing.d (.int 0) S=.ok (.str zK) S:=λ S=>rfl
   have E1:∀ S,zc .eq (.str zK) (.str [108,101,116,116,101,114]) S=.ok (.bl false) S:=λ S=>z7 (by decide) S
   have E2:∀ S,zc .eq (.str zK) (.str [110,111,116,104,105,110,103]) S=.ok (.bl true) S:=λ S=>z7 (by decide) S
   tbr_iter [I0,E1,E2]
   rw[show(s++[O.lst []]).length=s.length+1 by simp]
   exact zS (qy (ah _)) (by nofun)
  .rw[show L++Tr.nothing.lt.map (λ c=>[c])=L from aK _,aK]
   exact(h.app _).app _
  .rw[show s.length+1=(s++[O.lst []]).length by simp];exact zW
  .rw[aQ,au hi]
 | .letter c,n,s,o,a,b,e,L,rs,Fo,h,hab,ho,hL,hF=>by
  obtain⟨s',a6,f,l,e1,H⟩:=aF3 (P:=P) n h hab ho c (by have:(Tr.letter c).cnt=1:=rfl;lia) hF
  refine⟨s',a6,Fo,f,l,?_,H⟩
  rw[show n+(Tr.letter c).dep+1=(n+1)+1 from rfl,zM aa4 rfl,ag8,show(bj some [D.ref o,(Tr.letter c).d]++ai aa4.vs none)=[some (.ref o),some (Tr.letter c).d,none,none,none,none]from rfl]
  have I0:∀ S,ixM (Tr.letter c).d (.int 0) S=.ok (.str qI) S:=λ S=>rfl
  have I1:∀ S,ixM (Tr.letter c).d (.int 1) S=.ok (.str [c]) S:=λ S=>rfl
  have E1:∀ S,zc .eq (.str qI) (.str [108,101,116,116,101,114]) S=.ok (.bl true) S:=λ S=>z7 (by decide) S
  tbr_iter [I0,I1,E1,af6,qD h.ins,e1]
  exact zS (qy H.nf) (by nofun)
 | .rep t,n,s,o,a,b,e,L,rs,Fo,h,hab,ho,hL,hF=>by
  obtain⟨s1,a0,c0,f,l,e1,H⟩:=aq4 t n h hab ho hL hF
  have G:(L++t.lt.map λ c=>[c]).length=L.length+t.cnt:=by rw[am,az,t.lt_len]
  obtain⟨s2,a5,e2,R2,m2,l2,b0⟩:=aF7 (P:=P) (n+t.dep) H.st (A:=t.la L.length) (B:=t.fs L.length) (λ p hp=>by rw[G];exact(t.la_in _ p hp).2) (λ p hp=>by rw[G];exact(t.fs_in _ p hp).2) H.la H.fs
  refine⟨s2,a0,a5,f,l,?_,⟨R2,λ p q=>?_,?_,?_,H.nf,H.nl,by rw[l2];exact H.le,H.nr,λ i hi ia ib ir=>?_⟩⟩
  .rw[show n+(Tr.rep t).dep+1=(n+t.dep+1)+1 from rfl,zM aa4 rfl,ag8,show(bj some [D.ref o,(Tr.rep t).d]++ai aa4.vs none)=[some (.ref o),some (Tr.rep t).d,none,none,none,none]from rfl]
   have I0:∀ S,ixM (Tr.rep t).d (.int 0) S=.ok (.str zD) S:=λ S=>rfl
   have I1:∀ S,ixM (Tr.rep t).d (.int 1) S=.ok t.d S:=λ S=>rfl
   have E1:∀ S,zc .eq (.str zD) (.str [108,101,116,116,101,114]) S=.ok (.bl false) S:=λ S=>z7 (by decide) S
   have E2:∀ S,zc .eq (.str zD) (.str [110,111,116,104,105,110,103]) S=.ok (.bl false) S:=λ S=>z7 (by decide) S
   have E3:∀ S,zc .eq (.str zD) (.str [114,101,112,101,97,116]) S=.ok (.bl true) S:=λ S=>z7 (by decide) S
   have J1:∀ S,ixM (.tup [.bl t.nul,.ref f,.ref l]) (.int 1) S=.ok (.ref f) S:=λ S=>rfl
   have J2:∀ S,ixM (.tup [.bl t.nul,.ref f,.ref l]) (.int 2) S=.ok (.ref l) S:=λ S=>rfl
   tbr_iter [I0,I1,E1,E2,E3,af6,qD h.ins,e1,J1,J2,qD H.st.ins,e2]
   exact zS (qy H.nf) (by nofun)
  .rw[m2,H.ed]
   exact or_assoc
  .rw[b0 f (H.st.apart H.fs).2.2];exact H.fs
  .rw[b0 l (H.st.apart H.la).2.2];exact H.la
  .rw[b0 i λ z=>?_]
   .exact H.fr i hi ia ib ir
   .rcases aO.mp z with z|z
    .exact ir z
    .have:=H.nr i z;lia
 | .two true t u,n,s,o,a,b,e,L,rs,Fo,h,hab,ho,hL,hF=>by
  have hL:L.length+(t.cnt+u.cnt)<=60:=hL
  have G:(L++t.lt.map λ c=>[c]).length=L.length+t.cnt:=by rw[am,az,t.lt_len]
  obtain⟨s1,a0,c0,Z,l1,e1,F⟩:=aq4 t (n+max t.dep u.dep - t.dep) h hab ho (by lia) hF
  rw[show n+max t.dep u.dep - t.dep+t.dep+1=n+max t.dep u.dep+1 by lia]at e1
  obtain⟨s2,b5,a5,f2,l2,e2,J⟩:=aq4 u (n+max t.dep u.dep - u.dep) F.st hab ho (by rw[G];lia) (F.nil hF)
  rw[show n+max t.dep u.dep - u.dep+u.dep+1=n+max t.dep u.dep+1 by lia]at e2
  have a1:=F.st.apart F.fs
  have a2:=F.st.apart F.la
  have g1:s2[Z]?=some (.lst (za (t.fs L.length))):=by rw[J.fr Z (ac.mp F.fs).1 a1.1 a1.2.1 a1.2.2];exact F.fs
  have g2:s2[l1]?=some (.lst (za (t.la L.length))):=by rw[J.fr l1 (ac.mp F.la).1 a2.1 a2.2.1 a2.2.2];exact F.la
  have g3:=J.fs
  have g4:=J.la
  rw[G]at g3 g4
  have b1:=t.fs_len L.length
  have b2:=u.fs_len (L.length+t.cnt)
  have b3:=t.la_len L.length
  have b4:=u.la_len (L.length+t.cnt)
  have p1:=ae5 g1 g3 (by lia)
  have p2:=ae5 (aa2 (t:=[.lst (za (t.fs L.length++u.fs (L.length+t.cnt)))]) g2) (aa2 g4) (by lia)
  have b6:s.length<=s2.length:=aj F.le J.le
  refine⟨s2++[.lst (za (t.fs L.length++u.fs (L.length+t.cnt)))]++[.lst (za (t.la L.length++u.la (L.length+t.cnt)))],a0++b5,a5,s2.length,s2.length+1,?_,⟨?_,λ p q=>?_,aa2 zW,?_,b6,by lia,?_,λ r hr=>?_,λ i hi ia ib ir=>?_⟩⟩
  rotate_left
  .have:=(J.st.app [.lst (za (t.fs L.length++u.fs (L.length+t.cnt)))]).app [.lst (za (t.la L.length++u.la (L.length+t.cnt)))]
   rw[show(Tr.two true t u).lt=t.lt++u.lt from rfl,bw,<-aQ,<-aQ]
   exact this
  .rw[J.ed,F.ed,G]
   exact or_assoc
  .rw[show s2.length+1=(s2++[O.lst (za (t.fs L.length++u.fs (L.length+t.cnt)))]).length by simp];exact zW
  .simp;lia
  .rcases aO.mp hr with z|z
   .exact F.nr r z
   .have:=J.nr r z;have:=F.le;lia
  .rw[aQ,au (by lia),J.fr i (by have:=F.le;lia) ia ib λ z=>?_]
   .exact F.fr i hi ia ib ir
   .rcases aO.mp z with z|z
    .exact ir z
    .have:=F.nr i z;lia
  .rw[show n+(Tr.two true t u).dep+1=(n+max t.dep u.dep+1)+1 from rfl,zM aa4 rfl,ag8,show(bj some [D.ref o,(Tr.two true t u).d]++ai aa4.vs none)=[some (.ref o),some (Tr.two true t u).d,none,none,none,none]from rfl]
   have I0:∀ S,ixM (Tr.two true t u).d (.int 0) S=.ok (.str zp) S:=λ S=>rfl
   have I1:∀ S,ixM (Tr.two true t u).d (.int 1) S=.ok t.d S:=λ S=>rfl
   have I2:∀ S,ixM (Tr.two true t u).d (.int 2) S=.ok u.d S:=λ S=>rfl
   have E1:∀ S,zc .eq (.str zp) (.str [108,101,116,116,101,114]) S=.ok (.bl false) S:=λ S=>z7 (by decide) S
   have E2:∀ S,zc .eq (.str zp) (.str [110,111,116,104,105,110,103]) S=.ok (.bl false) S:=λ S=>z7 (by decide) S
   have E3:∀ S,zc .eq (.str zp) (.str [114,101,112,101,97,116]) S=.ok (.bl false) S:=λ S=>z7 (by decide) S
   have E4:∀ S,zc .eq (.str zp) (.str [101,105,116,104,101,114]) S=.ok (.bl true) S:=λ S=>z7 (by decide) S
   have J0:∀ S,ixM (.tup [.bl t.nul,.ref Z,.ref l1]) (.int 0) S=.ok (.bl t.nul) S:=λ S=>rfl
   have J1:∀ S,ixM (.tup [.bl t.nul,.ref Z,.ref l1]) (.int 1) S=.ok (.ref Z) S:=λ S=>rfl
   have J2:∀ S,ixM (.tup [.bl t.nul,.ref Z,.ref l1]) (.int 2) S=.ok (.ref l1) S:=λ S=>rfl
   have K0:∀ S,ixM (.tup [.bl u.nul,.ref f2,.ref l2]) (.int 0) S=.ok (.bl u.nul) S:=λ S=>rfl
   have K1:∀ S,ixM (.tup [.bl u.nul,.ref f2,.ref l2]) (.int 1) S=.ok (.ref f2) S:=λ S=>rfl
   have K2:∀ S,ixM (.tup [.bl u.nul,.ref f2,.ref l2]) (.int 2) S=.ok (.ref l2) S:=λ S=>rfl
   have d1:∀ S:Sto,(if t.nul=true then R.ok (D.bl true) S else R.ok (D.bl u.nul) S)=.ok (.bl (t.nul||u.nul)) S:=λ S=>by cases t.nul<;>rfl
   tbr_iter [I0,I1,I2,E1,E2,E3,E4,af6,qD h.ins,e1,qD F.st.ins,e2,J0,K0,d1,J1,K1,p1,J2,K2,p2]
   rw[show(s2++[O.lst (za (t.fs L.length++u.fs (L.length+t.cnt)))]).length=s2.length+1 by simp]
   exact zS (qy b6) (by nofun)
 | .two false t u,n,s,o,a,b,e,L,rs,Fo,h,hab,ho,hL,hF=>by
  have hL:L.length+(t.cnt+u.cnt)<=60:=hL
  have G:(L++t.lt.map λ c=>[c]).length=L.length+t.cnt:=by rw[am,az,t.lt_len]
  obtain⟨s1,a0,c0,Z,l1,e1,F⟩:=aq4 t (n+max t.dep u.dep - t.dep) h hab ho (by omega) hF
  rw[show n+max t.dep u.dep - t.dep+t.dep+1=n+max t.dep u.dep+1 by omega]at e1
  obtain⟨s2,b5,a5,f2,l2,e2,J⟩:=aq4 u (n+max t.dep u.dep - u.dep) F.st hab ho (by rw[G];omega) (F.nil hF)
  rw[show n+max t.dep u.dep - u.dep+u.dep+1=n+max t.dep u.dep+1 by omega]at e2
  have a1:=F.st.apart F.fs
  have a2:=F.st.apart F.la
  have g1:s2[Z]?=some (.lst (za (t.fs L.length))):=by rw[J.fr Z (ac.mp F.fs).1 a1.1 a1.2.1 a1.2.2];exact F.fs
  have g2:s2[l1]?=some (.lst (za (t.la L.length))):=by rw[J.fr l1 (ac.mp F.la).1 a2.1 a2.2.1 a2.2.2];exact F.la
  have g3:=J.fs
  have g4:=J.la
  rw[G]at g3 g4
  have a3:(L++(t.lt.map λ c=>[c])++u.lt.map λ c=>[c]).length=L.length+(t.cnt+u.cnt):=by rw[am,G,az,u.lt_len];lia
  obtain⟨s3,c2,e3,R3,m3,l3,a4⟩:=aF7 (P:=P) (n+max t.dep u.dep) J.st (A:=t.la L.length) (B:=u.fs (L.length+t.cnt)) (λ p hp=>by rw[a3];have:=(t.la_in _ p hp).2;lia) (λ p hp=>by rw[a3];have:=(u.fs_in _ p hp).2;lia) g2 g3
  have k1:s3[Z]?=_:=(a4 Z (J.st.apart g1).2.2).trans g1
  have k2:s3[l1]?=_:=(a4 l1 (J.st.apart g2).2.2).trans g2
  have k3:s3[f2]?=_:=(a4 f2 (J.st.apart g3).2.2).trans g3
  have k4:s3[l2]?=_:=(a4 l2 (J.st.apart g4).2.2).trans g4
  have b1:=t.fs_len L.length
  have b2:=u.fs_len (L.length+t.cnt)
  have b3:=t.la_len L.length
  have b4:=u.la_len (L.length+t.cnt)
  have c3:s.length<=s3.length:=by rw[l3];exact aj F.le J.le
  obtain⟨X,r,x1,x2,x3⟩:∃ X r,(if t.nul=true then z0 .add (.ref Z) (.ref f2) s3 else .ok (.ref Z) s3)=.ok (.ref r) (s3++X)/\(s3++X)[r]?=some (.lst (za ((Tr.two false t u).fs L.length)))/\s.length<=r:=by
   by_cases c:t.nul=true
   .refine⟨[.lst (za (t.fs L.length++u.fs (L.length+t.cnt)))],s3.length,?_,?_,c3⟩
    .rw[if_pos c];exact ae5 k1 k3 (by lia)
    .rw[zW,show(Tr.two false t u).fs L.length=(if t.nul then t.fs L.length++u.fs (L.length+t.cnt)else t.fs L.length)from rfl,if_pos c]
   .refine⟨[],Z,?_,?_,F.nf⟩
    .rw[if_neg c,aK]
    .rw[aK,k1,show(Tr.two false t u).fs L.length=(if t.nul then t.fs L.length++u.fs (L.length+t.cnt)else t.fs L.length)from rfl,if_neg c]
  obtain⟨Y,r',y1,y2,y3⟩:∃ Y r',(if u.nul=true then z0 .add (.ref l1) (.ref l2) (s3++X)else .ok (.ref l2) (s3++X))=.ok (.ref r') (s3++X++Y)/\(s3++X++Y)[r']?=some (.lst (za ((Tr.two false t u).la L.length)))/\s.length<=r':=by
   by_cases c:u.nul=true
   .refine⟨[.lst (za (t.la L.length++u.la (L.length+t.cnt)))],(s3++X).length,?_,?_,by rw[am];lia⟩
    .rw[if_pos c];exact ae5 (aa2 k2) (aa2 k4) (by lia)
    .rw[zW,show(Tr.two false t u).la L.length=(if u.nul then t.la L.length++u.la (L.length+t.cnt)else u.la (L.length+t.cnt))from rfl,if_pos c]
   .refine⟨[],l2,?_,?_,aj F.le J.nl⟩
    .rw[if_neg c,aK]
    .rw[aK,aa2 k4,show(Tr.two false t u).la L.length=(if u.nul then t.la L.length++u.la (L.length+t.cnt)else u.la (L.length+t.cnt))from rfl,if_neg c]
  refine⟨s3++X++Y,a0++b5,c2,r,r',?_,⟨?_,λ p q=>?_,aa2 x2,y2,x3,y3,?_,λ r hr=>?_,λ i hi ia ib ir=>?_⟩⟩
  .rw[show n+(Tr.two false t u).dep+1=(n+max t.dep u.dep+1)+1 from rfl,zM aa4 rfl,ag8,show(bj some [D.ref o,(Tr.two false t u).d]++ai aa4.vs none)=[some (.ref o),some (Tr.two false t u).d,none,none,none,none]from rfl]
   have I0:∀ S,ixM (Tr.two false t u).d (.int 0) S=.ok (.str zo) S:=λ S=>rfl
   have I1:∀ S,ixM (Tr.two false t u).d (.int 1) S=.ok t.d S:=λ S=>rfl
   have I2:∀ S,ixM (Tr.two false t u).d (.int 2) S=.ok u.d S:=λ S=>rfl
   have E1:∀ S,zc .eq (.str zo) (.str [108,101,116,116,101,114]) S=.ok (.bl false) S:=λ S=>z7 (by decide) S
   have E2:∀ S,zc .eq (.str zo) (.str [110,111,116,104,105,110,103]) S=.ok (.bl false) S:=λ S=>z7 (by decide) S
   have E3:∀ S,zc .eq (.str zo) (.str [114,101,112,101,97,116]) S=.ok (.bl false) S:=λ S=>z7 (by decide) S
   have E4:∀ S,zc .eq (.str zo) (.str [101,105,116,104,101,114]) S=.ok (.bl false) S:=λ S=>z7 (by decide) S
   have J0:∀ S,ixM (.tup [.bl t.nul,.ref Z,.ref l1]) (.int 0) S=.ok (.bl t.nul) S:=λ S=>rfl
   have J1:∀ S,ixM (.tup [.bl t.nul,.ref Z,.ref l1]) (.int 1) S=.ok (.ref Z) S:=λ S=>rfl
   have J2:∀ S,ixM (.tup [.bl t.nul,.ref Z,.ref l1]) (.int 2) S=.ok (.ref l1) S:=λ S=>rfl
   have K0:∀ S,ixM (.tup [.bl u.nul,.ref f2,.ref l2]) (.int 0) S=.ok (.bl u.nul) S:=λ S=>rfl
   have K1:∀ S,ixM (.tup [.bl u.nul,.ref f2,.ref l2]) (.int 1) S=.ok (.ref f2) S:=λ S=>rfl
   have K2:∀ S,ixM (.tup [.bl u.nul,.ref f2,.ref l2]) (.int 2) S=.ok (.ref l2) S:=λ S=>rfl
   have c1:∀ S:Sto,(if t.nul=true then R.ok (D.bl u.nul) S else R.ok (D.bl false) S)=.ok (.bl (t.nul&&u.nul)) S:=λ S=>by cases t.nul<;>rfl
   tbr_iter [I0,I1,I2,E1,E2,E3,E4,af6,qD h.ins,e1,qD F.st.ins,e2,qD J.st.ins,J2,K1,e3,J0,J1,x1,K0,K2,y1,c1]
   exact zS (qy x3) (by nofun)
  .have:=(R3.app X).app Y
   rw[show(Tr.two false t u).lt=t.lt++u.lt from rfl,bw,<-aQ,<-aQ]
   exact this
  .rw[m3,J.ed,F.ed,G]
   show _↔q∈Fo p\/((t.ed L.length p q\/u.ed (L.length+t.cnt) p q)\/(p∈t.la L.length/\q∈u.fs (L.length+t.cnt)))
   constructor
   .rintro(((z|z)|z)|z)
    .exact .inl z
    .exact .inr (.inl (.inl z))
    .exact .inr (.inl (.inr z))
    .exact .inr (.inr z)
   .rintro(z|(z|z)|z)
    .exact .inl (.inl (.inl z))
    .exact .inl (.inl (.inr z))
    .exact .inl (.inr z)
    .exact .inr z
  .simp;lia
  .rcases aO.mp hr with z|z
   .exact F.nr r z
   .have:=J.nr r z;have:=F.le;lia
  .have q1:=F.le
   have q2:=J.le
   have n1:i ∉ rs++a0:=λ z=>by
    rcases aO.mp z with z|z
    .exact ir z
    .have:=F.nr i z;lia
   rw[aQ,au (by lia),a4 i λ z=>?_,J.fr i (by lia) ia ib n1,F.fr i hi ia ib ir]
   rcases aO.mp z with z|z
   .exact n1 z
   .have:=J.nr i z;lia
end
theorem qa {s:Sto}{x y:O}{X:Sto}:(s++x::X).set s.length y=s++y::X:=by
 rw[gA _ _ (ah _),eV];rfl
theorem aG1 {ok:String->Bool}(hk:ok "Rooms"=true){s X:Sto}{fs:List (D×D)}(h:fs.length<1000){f:List Nat}{v:D}:am4 ok f (.ref s.length) v (s++.ins "Rooms" fs::X)=.ok () (s++.ins "Rooms" (an9 (.str f) v fs)::X):=by
 unfold am4
 have:(s++O.ins "Rooms" fs::X)[s.length]?=some (.ins "Rooms" fs):=by rw[aI (ah _)];simp
 simp only[this,hk,dz,decide_eq_true h,if_true,qa]
theorem aA9 {s t:Sto}{d:D}(i:Nat)(F:i<s.length){x:O}(h:t[i]?=some x)(G:s[i]?≠some x)(h3:x.bnd s.length=false):zm s d t=.ok d t:=by
 have:qC s t=false:=by
  rw[<-fM]
  intro z
  unfold qC at z
  have:=aL.mp z i (br.mpr F)
  rw[h]at this
  simp only[h3,jZ,decide_eq_true_eq]at this
  exact G this.symm
 unfold zm
 rw[this];rfl
theorem aE3 {s t:Sto}{r:Nat}{x:O}(h:s.length<=r)(z:t[r]?=some x)(h3:x.bnd s.length=false):zm s (.ref r) t=.ok (.ref r) t:=by
 unfold zm
 split
 .simp only[jR.mpr h,if_false,z,h3,cz]
 .rfl
theorem aK6 {a b e n:Nat}(h:n<=a):(O.ins "Rooms" (flds a b e)).bnd n=false:=by
 unfold O.bnd flds
 simp only[aH,cR,D.bndL,D.bnd]
 rw[decide_eq_false (by omega:¬ a<n)]
 simp
theorem aT1 {s t:Sto}(hl:s.length<=t.length)(h:∀ i,i<s.length->t[i]?=s[i]?):∃ G,t=s++G:=by
 refine⟨t.drop s.length,?_⟩
 have:t.take s.length=s:=by
  apply fv
  intro i
  rw[fe]
  split
  .exact h i ‹_›
  .rw[bJ (by omega)]
 conv=>lhs;rw[<-List.take_append_drop s.length t,this]
theorem aY7 {a x:Int}:∀ {l:List Int},x∈ins a l↔x=a\/x∈l
 | []=>by simp[ins]
 | b::l=>by
  unfold ins
  split
  .simp
  .rw[aG,aY7,aG]
   constructor
   .rintro(h|h|h)
    .exact .inr (.inl h)
    .exact .inl h
    .exact .inr (.inr h)
   .rintro(h|h|h)
    .exact .inr (.inl h)
    .exact .inl h
    .exact .inr (.inr h)
theorem af8 {x:Int}:∀ {l:List Int},x∈at8 l↔x∈l
 | []=>Iff.rfl
 | a::l=>by unfold at8;rw[aY7,af8,aG]
theorem ao3:∀ l:List Nat,ql (za l)=some (l.map λ(q:Nat)=>(q:Int))
 | []=>rfl
 | x::l=>by
  show(ql (za l)).map _=_
  rw[ao3 l];rfl
theorem aM2 {l:List Nat}(hl:l.length<64)(S:Sto):∃ F,bd7 (za l) S=.ok (.ref S.length) (S++[.lst (za F)])/\∀ q,q∈F↔q∈l:=by
 refine⟨(at8 (l.map λ(q:Nat)=>(q:Int))).map Int.toNat,?_,λ q=>?_⟩
 .unfold bd7
  rw[ao3]
  simp only[az,hl,if_true]
  unfold za
  rw[cU]
  refine congrArg (λ z=>R.ok (D.ref S.length) (S++[O.lst z])) (cK λ x hx=>?_)
  obtain⟨y,_,rfl⟩:=aZ.mp (af8.mp hx)
  rfl
 .rw[aZ]
  constructor
  .rintro⟨x,hx,rfl⟩
   obtain⟨y,hy,rfl⟩:=aZ.mp (af8.mp hx)
   exact hy
  .exact λ h=>⟨(q:Int),af8.mpr (aZ.mpr ⟨q,h,rfl⟩),rfl⟩
section
variable {P:Pr} [HasM P "Rooms" "link" aa7] [HasM P "Rooms" "lay_letter" aa3] [HasM P "Rooms" "lay" aa4] [HasM P "Rooms" "__init__" aa5] [HasA P "Rooms" ak0] [HasA P "Rooms" an2] [HasA P "Rooms" aj1]
theorem aT3:aa5.body=.cons (.setA (.var 0) ak0 (.lst (.cons (.cst (.str [])) .nil))) (.cons (.setA (.var 0) an2 (.lst (.cons (.dic .nil .nil) .nil))) (.cons (.setA (.var 0) aj1 (.lst .nil)) .nil)):=rfl
noncomputable def S0 (s:Sto):Sto:=s++[.ins "Rooms" (flds (s.length+1) (s.length+3) (s.length+4)),.lst [.str []],.dic [],.lst [.ref (s.length+2)],.lst []]
theorem by2 (n:Nat)(s:Sto):(aa1 P (n+1)).mcall "Rooms" "__init__" [.ref s.length] (s++[.ins "Rooms" []])=.ok .non (S0 s):=by
 have k1:(λ c=>(aa1 P n).att c ak0) "Rooms"=true:=au3
 have k2:(λ c=>(aa1 P n).att c an2) "Rooms"=true:=au3
 have J:(λ c=>(aa1 P n).att c aj1) "Rooms"=true:=au3
 have e1:=aG1 (ok:=λ c=>(aa1 P n).att c ak0) k1 (s:=s) (X:=[.lst [.str []]]) (fs:=[]) (by decide) (f:=ak0) (v:=.ref (s.length+1))
 have e2:=aG1 (ok:=λ c=>(aa1 P n).att c an2) k2 (s:=s) (X:=[.lst [.str []],.dic [],.lst [.ref (s.length+2)]]) (fs:=an9 (.str ak0) (.ref (s.length+1)) []) (by simp[an9]) (f:=an2) (v:=.ref (s.length+3))
 have h:=aG1 (ok:=λ c=>(aa1 P n).att c aj1) J (s:=s) (X:=[.lst [.str []],.dic [],.lst [.ref (s.length+2)],.lst []]) (fs:=an9 (.str an2) (.ref (s.length+3)) (an9 (.str ak0) (.ref (s.length+1)) [])) (by simp[an9,ak0,an2]) (f:=aj1) (v:=.ref (s.length+4))
 have G:an9 (.str aj1) (.ref (s.length+4)) (an9 (.str an2) (.ref (s.length+3)) (an9 (.str ak0) (.ref (s.length+1)) []))=flds (s.length+1) (s.length+3) (s.length+4):=by simp[an9,flds,ak0,an2,aj1]
 rw[G]at h
 rw[zM aa5 rfl,aT3,show(bj some [D.ref s.length]++ai aa5.vs none)=[some (.ref s.length)]from rfl]
 have l1:(s++[O.ins "Rooms" []]).length=s.length+1:=by simp
 have Y:∀ x y:O,(s++[x,y]).length=s.length+2:=λ _ _=>by simp
 have Z:∀ x y z:O,(s++[x,y,z]).length=s.length+3:=λ _ _ _=>by simp
 have F:∀ x y z v:O,(s++[x,y,z,v]).length=s.length+4:=λ _ _ _ _=>by simp
 tbr_iter [aV3,aD8,aQ,dm,dC,l1,Y,Z,F,e1,e2,h]
 refine aA9 s.length (by simp) (x:=.ins "Rooms" (flds (s.length+1) (s.length+3) (s.length+4))) ?_ ?_ ?_
 .rw[aI (ah _)];simp
 .rw[zW]
  intro z
  injection z with z
  injection z with _ z
  cases z
 .rw[l1];exact aK6 (ah _)
theorem br7 (s:Sto):RoomsS (S0 s) s.length (s.length+1) (s.length+3) (s.length+4) [[]] [s.length+2] (λ _=>[]):=by
 have g:∀ i,s.length<=i->(S0 s)[i]?=([.ins "Rooms" (flds (s.length+1) (s.length+3) (s.length+4)),.lst [.str []],.dic [],.lst [.ref (s.length+2)],.lst []]:Sto)[i - s.length]?:=λ i h=>aI h
 refine⟨?_,?_,?_,rfl,λ i r h=>?_,by simp,by simp,by simp,λ i=>jS,λ i q hq=>by cases hq⟩
 .rw[g _ (ah _),eV];rfl
 .rw[g _ (by lia),ce];rfl
 .rw[g _ (by lia),ce];rfl
 .have z:i=0:=by
   have:=(ac.mp h).1
   simp at this;omega
  subst z
  cases h
  rw[g _ (by lia),ce];rfl
theorem bi4:ab0.body=(.cons (.asg (.one 1) (.new "Rooms" .nil)) (.cons (.asg (.one 2) (.mcall (.var 1) "lay" (.ex (.var 0) .nil))) (.cons (.ex (.mcall (.var 1) "link" (.ex (.lst (.cons (.cst (.int 0)) .nil)) (.ex (.ix (.var 2) (.cst (.int 1))) .nil)))) (.cons (.setA (.var 1) aj1 (.ite (.ix (.var 2) (.cst (.int 0))) (.srt (.bin .add (.lst (.cons (.cst (.int 0)) .nil)) (.ix (.var 2) (.cst (.int 2))))) (.srt (.ix (.var 2) (.cst (.int 2)))))) (.cons (.ret (.var 1)) .nil))))):=rfl
theorem bH8 {k:Nat}{c:String}{l:List D}{s:Sto}:(aa1 P (k+2)).new c l s=(aa1 P (k+1)).mcall c "__init__" l s:=rfl
theorem bH5 (a b e r:Nat):an9 (.str aj1) (.ref r) (flds a b e)=flds a b r:=by simp[an9,flds,ak0,an2,aj1]
theorem aw3 [Has P ab0](t:Tr)(ht:t.cnt<=40)(n:Nat)(s:Sto):∃ G o a b e rs Fo h,(aa1 P (n+t.dep+2)).call "rooms_for" [t.d] s=.ok (.ref o) (s++G)/\RoomsS (s++G) o a b e ([]::t.lt.map λ c=>[c]) rs Fo /\
  (∀ p q,q∈Fo p↔(p=0/\q∈t.fs 1)\/t.ed 1 p q)/\(s++G)[e]?=some (.lst (za h))/\∀ q,q∈h↔(q=0/\t.nul=true)\/q∈t.la 1:=by
 have hd:=t.dep1
 obtain⟨k,hk⟩:∃ k,n+t.dep=k+1:=⟨n+t.dep - 1,by lia⟩
 obtain⟨s2,a6,b2,f,l,e1,H⟩:=aq4 (P:=P) t n (br7 s) (by lia) ⟨by lia,by lia⟩ (by simp;lia) (λ _ _=>rfl)
 have e0:=by2 (P:=P) k s
 have R1:=H.st.app [.lst (za [0])]
 have b0:([]::t.lt.map λ c=>[c]:List (List Nat)).length=t.cnt+1:=by rw[aR,az,t.lt_len]
 obtain⟨s3,a2,e2,R3,m3,l3,a3⟩:=aF7 (P:=P) (n+t.dep) R1 (f:=s2.length) (g:=f) (A:=[0]) (B:=t.fs 1) (λ p hp=>by rw[aD.mp hp];exact R1.pos) (λ q hq=>by have:=(t.fs_in 1 q hq).2;show q<([]::t.lt.map λ c=>[c]:List (List Nat)).length;rw[b0];lia) zW (aa2 H.fs)
 have a5:s3[l]?=some (.lst (za (t.la 1))):=(a3 l (R1.apart (aa2 H.la)).2.2).trans (aa2 H.la)
 have b1:=t.la_len 1
 obtain⟨X,r,h,x1,x2,x3⟩:∃ X r h,(if t.nul=true then((z0 .add (.ref s3.length) (.ref l) (s3++[.lst (za [0])])).bind λ x s=>(aP4 x s).bind λ q s=>bd7 q s)else(aP4 (.ref l) s3).bind λ q s=>bd7 q s)=.ok (.ref r) (s3++X)/\(s3++X)[r]?=some (.lst (za h))/\∀ q,q∈h↔(q=0/\t.nul=true)\/q∈t.la 1:=by
  by_cases c:t.nul=true
  .rw[if_pos c,ae5 (A:=[0]) zW (aa2 a5) (by simp;lia)]
   simp only[R.bind_ok]
   have:aP4 (.ref (s3++[O.lst (za [0])]).length) (s3++[O.lst (za [0])]++[O.lst (za ([0]++t.la 1))])=.ok (za ([0]++t.la 1)) (s3++[O.lst (za [0])]++[O.lst (za ([0]++t.la 1))]):=by unfold aP4;simp only[zW]
   rw[this]
   simp only[R.bind_ok]
   obtain⟨h,Z,q2⟩:=aM2 (l:=[0]++t.la 1) (by simp;lia) (s3++[O.lst (za [0])]++[O.lst (za ([0]++t.la 1))])
   refine⟨[O.lst (za [0]),O.lst (za ([0]++t.la 1)),.lst (za h)],(s3++[O.lst (za [0])]++[O.lst (za ([0]++t.la 1))]).length,h,?_,?_,λ q=>?_⟩
   .rw[Z];simp
   .rw[show s3++[O.lst (za [0]),O.lst (za ([0]++t.la 1)),O.lst (za h)]=(s3++[O.lst (za [0])]++[O.lst (za ([0]++t.la 1))])++[O.lst (za h)]by simp];exact zW
   .rw[q2,aO,aD];simp[c]
  .rw[if_neg c]
   have:aP4 (.ref l) s3=.ok (za (t.la 1)) s3:=by unfold aP4;simp only[a5]
   rw[this]
   simp only[R.bind_ok]
   obtain⟨h,Z,q2⟩:=aM2 (l:=t.la 1) (by lia) s3
   refine⟨[.lst (za h)],_,h,Z,zW,λ q=>?_⟩
   rw[q2];simp[c]
 have F:=R3.app X
 have a1:s.length<(s3++X).length:=(ac.mp F.ins).1
 have e5:am4 (λ c=>(aa1 P (n+t.dep+1)).att c aj1) aj1 (.ref s.length) (.ref r) (s3++X)=.ok () ((s3++X).set s.length (.ins "Rooms" (flds (s.length+1) (s.length+3) r))):=by
  have k3:(aa1 P (n+t.dep+1)).att "Rooms" aj1=true:=au3
  unfold am4
  simp only[F.ins,k3,bH5]
  rfl
 generalize hT:(s3++X).set s.length (.ins "Rooms" (flds (s.length+1) (s.length+3) r))=T at e5
 have J:∀ i,i≠s.length->T[i]?=(s3++X)[i]?:=λ i Y=>by rw[<-hT];exact ao (bG Y)
 have RT:RoomsS T s.length (s.length+1) (s.length+3) r ([]::t.lt.map λ c=>[c]) ([s.length+2]++a6) a2:=by
  refine⟨?_,?_,?_,F.len,λ i r' Y=>?_,F.nd,F.pos,F.big,F.nf,F.lt⟩
  .rw[<-hT];exact zI a1
  .rw[J _ (by lia)];exact F.let_
  .rw[J _ (by lia)];exact F.fol
  .have:=F.dic i r' Y
   rw[J r' λ z=>by subst z;rw[F.ins]at this;cases this]
   exact this
 have hr:T[r]?=some (.lst (za h)):=by
  rw[J r λ z=>by subst z;rw[F.ins]at x2;cases x2]
  exact x2
 have a4:∀ i,i<s.length->T[i]?=s[i]?:=λ i Y=>by
  have Z:i<s2.length:=by have:=H.le;unfold S0 at this;simp at this;lia
  have nr:i ∉ [s.length+2]++a6:=λ z=>by
   rcases aO.mp z with z|z
   .rw[aD.mp z]at Y;lia
   .have:=H.nr i z;unfold S0 at this;simp at this;lia
  have q2:i<s3.length:=by rw[l3,am];lia
  rw[J i (by lia),au q2,a3 i nr,au Z,H.fr i (by unfold S0;simp;lia) (by lia) (by lia) (by simp;lia)]
  unfold S0
  rw[au Y]
 obtain⟨G,hG⟩:=aT1 (s:=s) (t:=T) (by rw[<-hT,aS];lia) a4
 refine⟨G,s.length,s.length+1,s.length+3,r,_,a2,h,?_,hG▸RT,λ p q=>?_,hG▸hr,x3⟩
 .rw[<-hG]
  have c0:(aa1 P (n+t.dep+2)).call "rooms_for" [t.d] s=_:=zd ab0 (n:=n+t.dep+1) rfl
  rw[c0,bi4,show(bj some [t.d]++ai ab0.vs none)=[some t.d,none,none]from rfl]
  have nw:(aa1 P (n+t.dep+1)).new "Rooms" [.ref s.length] (s++[.ins "Rooms" []])=.ok .non (S0 s):=by rw[hk,bH8];exact e0
  have J0:∀ S,ixM (.tup [.bl t.nul,.ref f,.ref l]) (.int 0) S=.ok (.bl t.nul) S:=λ S=>rfl
  have J1:∀ S,ixM (.tup [.bl t.nul,.ref f,.ref l]) (.int 1) S=.ok (.ref f) S:=λ S=>rfl
  have J2:∀ S,ixM (.tup [.bl t.nul,.ref f,.ref l]) (.int 2) S=.ok (.ref l) S:=λ S=>rfl
  have a0:∀ S:Sto,S++[O.lst [D.int 0]]=S++[O.lst (za [0])]:=λ S=>rfl
  tbr_iter [bU2,nw,af6,qD (br7 s).ins,e1,qD H.st.ins,J1,a0,e2,aV3,J0,bS2,J2]
  rw[x1]
  tbr_iter [e5]
  exact aE3 (ah _) (by rw[<-hT];exact zI a1) (aK6 (b7 _))
 .rw[m3,H.ed]
  constructor
  .rintro((z|z)|⟨z1,z2⟩)
   .cases z
   .exact .inr z
   .exact .inl ⟨aD.mp z1,z2⟩
  .rintro(⟨z1,z2⟩|z)
   .exact .inr ⟨aD.mpr z1,z2⟩
   .exact .inl (.inr z)
end
section
variable {P:Pr} [Has P ab8]
noncomputable def ldB:Ss:=.cons (.ite (.cmp .eq (.ix (.attr (.var 0) ak0) (.var 5)) (.var 2)) (.cons (.setIx (.var 3) (.var 5) (.cst (.bl true))) .nil) .nil) .nil
noncomputable def ldA:Ss:=.cons (.forK (.one 5) (.ix (.attr (.var 0) an2) (.var 4)) ldB) .nil
theorem bn2:ab8.body=.cons (.asg (.one 3) (.dic .nil .nil)) (.cons (.for_ (.one 4) (.seq (.var 1)) ldA) (.cons (.ret (.keysL (.var 3))) .nil)):=rfl
theorem bb3 (l:List Nat):(dk l).map (·.1)=za l:=by unfold dk za;rw[cU];rfl
theorem ba8 (l:List Nat):(dk l).all (λ p=>p.1.keyF)=true:=by
 rw[aL]
 intro p h
 obtain⟨x,_,rfl⟩:=aZ.mp h
 rfl
theorem bD0 {S:Sto}{X:List Nat}(hl:X.length<1000)(q:Nat):setIx (.ref S.length) (.int (q:Int)) (.bl true) (S++[.dic (dk X)])=.ok () (S++[.dic (dk (av3 q X))]):=by
 unfold setIx
 simp only[zW]
 rw[if_pos (by
  have:(dk X).length=X.length:=by unfold dk;simp
  rw[ak]
  exact⟨rfl,decide_eq_true (by rw[this];unfold LIM;lia)⟩),aU1,qa]
theorem bf2 {S:Sto}{r:Nat}{x y z:O}(h:S[r]?=some x):(S.set r y++[z]).set r x=S++[z]:=by
 have F:r<S.length:=(ac.mp h).1
 rw[gL _ _ (by rw[aS];exact F),bX]
 congr 1
 apply fv
 intro i
 by_cases z:i=r
 .subst z;rw[zI F,h]
 .rw[ao (bG z)]
theorem bE2 (n:Nat){S:Sto}{o a b e f:Nat}{L:List (List Nat)}{J:List Nat}{G:Nat->List Nat}(h:RoomsS S o a b e L J G)(c:List Nat){p:Nat}(hp:p<L.length){X:List Nat}(hX:X.Nodup)(a2:∀ x∈X,x<L.length)(x4 x5:Option D) :
  ∃ X' y5,turn (aa1 P n) (.one 4) ldA (.int (p:Int)) [some (.ref o),some (.ref f),some (.str c),some (.ref S.length),x4,x5] (S++[.dic (dk X)])=.ok (.next [some (.ref o),some (.ref f),some (.str c),some (.ref S.length),some (.int (p:Int)),y5]) (S++[.dic (dk X')]) /\
   X'.Nodup/\(∀ x∈X',x<L.length)/\∀ q,q∈X'↔q∈X\/(q∈G p/\L[q]?=some c):=by
 have hr:p<J.length:=by rw[h.len];exact hp
 have er:J[p]?=some J[p]:=af hr
 have hd:=h.dic p _ er
 have a0:J[p]<S.length:=(ac.mp hd).1
 have no:J[p]≠o:=λ z=>by rw[z,h.ins]at hd;cases hd
 have na:J[p]≠a:=λ z=>by rw[z,h.let_]at hd;cases hd
 generalize a4:J[p]=r at *
 have e1:=aC9 (aa2 (t:=[.dic (dk X)]) h.ins)
 have e2:ixM (.ref b) (.int (p:Int)) (S++[.dic (dk X)])=.ok (.ref r) (S++[.dic (dk X)]):=zw (aa2 h.fol) (by rw[aF,er];rfl)
 have e3:as6 (.ref r) (S++[.dic (dk X)])=.ok ⟨za (G p),[r]⟩ (S.set r (.dicF (dk (G p)))++[.dic (dk X)]):=by
  unfold as6
  simp only[aa2 hd,ba8,if_true,bb3]
  rw[gL _ _ a0]
 have e4:aR4 (S++[.dic (dk X)]) [r]=true:=by unfold aR4;simp only[bN,i9,fG,aa2 hd]
 generalize F:S.set r (.dicF (dk (G p)))=S' at *
 have l':S'.length=S.length:=by rw[<-F];simp
 have r':S'[r]?=some (.dicF (dk (G p))):=by rw[<-F];exact zI a0
 have o':S'[o]?=some (.ins "Rooms" (flds a b e)):=by rw[<-F,ao no];exact h.ins
 have a':S'[a]?=some (.lst (L.map D.str)):=by rw[<-F,ao na];exact h.let_
 have key:=z6 (ok:=λ u=>chk (S'++[.dic (dk X)]) u [r]) (g:=turn (aa1 P n) (.one 5) ldB) (λ j U u=>∃ x5 X',U=[some (.ref o),some (.ref f),some (.str c),some (.ref S.length),some (.int (p:Int)),x5]/\u=S'++[.dic (dk X')]/\X'.Nodup/\(∀ x∈X',x<L.length)/\∀ q,q∈X'↔q∈X\/(q∈(G p).take j/\L[q]?=some c))
  (za (G p)) 0 [some (.ref o),some (.ref f),some (.str c),some (.ref S.length),some (.int (p:Int)),x5] (S'++[.dic (dk X)]) ⟨x5,X,rfl,rfl,hX,a2,λ q=>by simp⟩ (λ j U u _ ⟨_,_,_,hu,_⟩=>by
   unfold chk
   subst hu
   rw[bN,aa2 r',aa2 r'];simp) ?_
 .obtain⟨U',s',k1,y5,X',rfl,rfl,m1,m2,Z⟩:=key
  rw[aU,zn,cr]at Z
  refine⟨X',y5,?_,m1,m2,Z⟩
  have th:au8 [r] (Ct.next [some (.ref o),some (.ref f),some (.str c),some (.ref S.length),some (.int (p:Int)),y5]) (S'++[.dic (dk X')])=.ok (.next [some (.ref o),some (.ref f),some (.str c),some (.ref S.length),some (.int (p:Int)),y5]) (S++[.dic (dk X')]):=by
   unfold au8
   simp only[aa2 r']
   rw[<-F,bf2 hd]
  unfold turn ldA
  tbr_iter [by4,ai2,e1,e2,e3,e4]
  rw[k1]
  tbr_iter [th]
 .rintro j d U u hj ⟨z5,X',rfl,rfl,m1,m2,Z⟩
  obtain⟨q,hq,rfl⟩:=ak3 hj
  rw[aU]at Z
  have Y:q<L.length:=h.lt p q (be hq)
  have f1:=aW1 (aa2 (t:=[.dic (dk X')]) o')
  have f2:ixM (.ref a) (.int (q:Int)) (S'++[.dic (dk X')])=.ok (.str L[q]) (S'++[.dic (dk X')]):=zw (aa2 a') (by rw[aF,af Y];rfl)
  have a3:X'.length<=60:=aj (aA5 _ _ m1 m2) h.big
  have f3:=bD0 (S:=S') (X:=X') (by lia) q
  rw[l']at f3
  have a1:L[q]?=some L[q]:=af Y
  by_cases hc:L[q]=c
  .have f4:zc .eq (.str L[q]) (.str c) (S'++[.dic (dk X')])=.ok (.bl true) (S'++[.dic (dk X')]):=z7 (by rw[hc];simp) _
   refine⟨[some (.ref o),some (.ref f),some (.str c),some (.ref S.length),some (.int (p:Int)),some (.int (q:Int))],S'++[.dic (dk (av3 q X'))],.inl ?_,_,av3 q X',rfl,rfl,aD1 m1,λ x hx=>?_,λ x=>?_⟩
   .unfold turn ldB
    tbr_iter [ai2,f1,f2,f4,f3]
   .rcases ae9.mp hx with z|z
    .exact m2 x z
    .rw[z];exact Y
   .rw[ae9,Z,aU,qk hq]
    constructor
    .rintro((z|z)|rfl)
     .exact .inl z
     .exact .inr ⟨.inl z.1,z.2⟩
     .exact .inr ⟨.inr rfl,by rw[a1,hc]⟩
    .rintro(z|⟨z|z,y⟩)
     .exact .inl (.inl z)
     .exact .inl (.inr ⟨z,y⟩)
     .exact .inr z
  .have f4:zc .eq (.str L[q]) (.str c) (S'++[.dic (dk X')])=.ok (.bl false) (S'++[.dic (dk X')]):=z7 (by simpa using hc) _
   refine⟨[some (.ref o),some (.ref f),some (.str c),some (.ref S.length),some (.int (p:Int)),some (.int (q:Int))],S'++[.dic (dk X')],.inl ?_,_,X',rfl,rfl,m1,m2,λ x=>?_⟩
   .unfold turn ldB
    tbr_iter [ai2,f1,f2,f4]
   .rw[Z,aU,qk hq]
    constructor
    .rintro(z|z)
     .exact .inl z
     .exact .inr ⟨.inl z.1,z.2⟩
    .rintro(z|⟨z|rfl,y⟩)
     .exact .inl z
     .exact .inr ⟨z,y⟩
     .rw[a1]at y;exact absurd (aw y) hc
theorem bz8 (n:Nat){S:Sto}{o a b e f:Nat}{L:List (List Nat)}{rs:List Nat}{Fo:Nat->List Nat}(h:RoomsS S o a b e L rs Fo)(c:List Nat){A:List Nat}(hf:S[f]?=some (.lst (za A)))(hA:∀ p∈A,p<L.length) :
  ∃ X,(aa1 P (n+1)).call "led_by" [.ref o,.ref f,.str c] S=.ok (.ref S.length) (S++[.lst (za X)])/\((∀ x∈X,x<L.length)/\X.length<=60)/\∀ q,q∈X↔∃ p∈A,q∈Fo p/\L[q]?=some c:=by
 have q1:ao6 (.ref f) (S++[.dic (dk [])])=.ok ⟨za A,[f]⟩ (S++[.dic (dk [])]):=by unfold ao6;simp only[aa2 hf]
 have key:=z6 (ok:=λ u=>chk (S++[.dic (dk [])]) u [f]) (g:=turn (aa1 P n) (.one 4) ldA) (λ j U u=>∃ J Z X,U=[some (.ref o),some (.ref f),some (.str c),some (.ref S.length),J,Z]/\u=S++[.dic (dk X)]/\X.Nodup/\(∀ x∈X,x<L.length)/\∀ q,q∈X↔∃ p∈A.take j,q∈Fo p/\L[q]?=some c)
  (za A) 0 [some (.ref o),some (.ref f),some (.str c),some (.ref S.length),none,none] (S++[.dic (dk [])]) ⟨none,none,[],rfl,rfl,jS,(λ x hx=>by cases hx),λ q=>by simp⟩ (λ j U u _ ⟨_,_,_,_,hu,_⟩=>by
   unfold chk
   subst hu
   rw[bN,aa2 hf,aa2 hf];simp) ?_
 .obtain⟨U',s',k1,J,Z,X,rfl,rfl,m1,G,F⟩:=key
  rw[aU,zn,cr]at F
  refine⟨X,?_,⟨G,aj (aA5 _ _ m1 G) h.big⟩,F⟩
  have c0:(aa1 P (n+1)).call "led_by" [.ref o,.ref f,.str c] S=_:=zd ab8 (n:=n) rfl
  rw[c0,bn2,show(bj some [D.ref o,D.ref f,D.str c]++ai ab8.vs none)=[some (.ref o),some (.ref f),some (.str c),none,none,none]from rfl]
  have a0:S++[O.dic []]=S++[.dic (dk [])]:=rfl
  have e5:ag0 (.ref S.length) (S++[.dic (dk X)])=.ok (.ref (S.length+1)) (S++[.dic (dk X)]++[.lst (za X)]):=by
   unfold ag0
   simp only[zW,ba8,if_true,bb3]
   unfold ac5
   simp
  tbr_iter [aD8,a0,q1]
  rw[k1]
  tbr_iter [bj3,e5]
  have cn:=zL (s:=S) (t:=[.dic (dk X)]) (u:=[]) (o:=.lst (za X)) (by unfold O.bnd;exact aj7 _ _)
  rw[aQ]
  exact cn
 .rintro j d U u hj ⟨J,Z,X,rfl,rfl,m1,G,F⟩
  obtain⟨p,Y,rfl⟩:=ak3 hj
  rw[aU]at F
  obtain⟨X',y5,e1,n1,n2,n3⟩:=bE2 (P:=P) n (f:=f) h c (hA p (be Y)) m1 G J Z
  refine⟨_,_,.inl e1,_,_,X',rfl,rfl,n1,n2,λ q=>?_⟩
  rw[n3,F,aU]
  constructor
  .rintro(⟨p',z,y⟩|z)
   .exact⟨p',(qk Y p').mpr (.inl z),y⟩
   .exact⟨p,(qk Y p).mpr (.inr rfl),z⟩
  .rintro⟨p',z,y⟩
   rcases(qk Y p').mp z with z|rfl
   .exact .inl ⟨p',z,y⟩
   .exact .inr y
end
noncomputable def RS (w:List Nat)(k:Nat)(L:List (List Nat))(Fo:Nat->List Nat):Nat->Nat->Prop
 | 0,q=>q=0
 | j+1,q=>∃ p,RS w k L Fo j p/\q∈Fo p/\L[q]?=some ((w.drop (k+j)).take 1)
noncomputable def ltR (t:Tr)(p:Nat):Option Nat:=if p=0 then none else t.lt[p - 1]?
theorem aY3 (t:Tr):bi3 (ltR t) t 1:=λ i h=>by
 unfold ltR
 rw[if_neg (by lia),ce]
theorem av2 {t:Tr}{q c:Nat}:([]::t.lt.map λ c=>[c]:List (List Nat))[q]?=some [c]↔ltR t q=some c:=by
 unfold ltR
 cases q with
 | zero=>simp
 | succ q =>
  rw[fL,if_neg (by lia),Nat.add_sub_cancel,aF]
  cases t.lt[q]?<;>simp
theorem aR6 {w:List Nat}{k:Nat}(h:k<w.length):(w.drop k).take 1=[w[k]]:=by
 rw[dr h];rfl
section
variable {w:List Nat} {t:Tr} {Fo:Nat->List Nat} (hFo:∀ p q,q∈Fo p↔(p=0/\q∈t.fs 1)\/t.ed 1 p q)
include hFo
theorem aY6 {q:Nat}:q∈Fo 0↔q∈t.fs 1:=by
 rw[hFo]
 constructor
 .rintro(z|z)
  .exact z.2
  .have:=(t.ed_in 1 0 q z).1.1;omega
 .exact λ z=>.inl ⟨rfl,z⟩
theorem bt8 {p q:Nat}(h:p≠0):q∈Fo p↔t.ed 1 p q:=by
 rw[hFo]
 constructor
 .rintro(z|z)
  .exact absurd z.1 h
  .exact z
 .exact .inr
theorem aM1 {k:Nat}:∀(j q:Nat),k+j<w.length->(RS w k ([]::t.lt.map λ c=>[c]) Fo (j+1) q↔∃ p∈t.fs 1,Rn w (ltR t) (t.ed 1) k p (k+j+1) q)
 | 0,q,hj=>by
  rw[dW]at hj ⊢
  have hw:w[k]?=some w[k]:=af hj
  constructor
  .rintro⟨p,z1,z2,z3⟩
   have z1:p=0:=z1
   subst z1
   rw[dW,aR6 hj]at z3
   exact⟨q,(aY6 hFo).mp z2,.one hw (av2.mp z3)⟩
  .rintro⟨p,Z,r⟩
   cases r with
   | one h l =>
    rw[hw]at h;cases h
    exact⟨0,rfl,(aY6 hFo).mpr Z,by rw[dW,aR6 hj];exact av2.mpr l⟩
   | step h l e r=>have:=r.lt;lia
 | j+1,q,hj=>by
  have hw:w[k+(j+1)]?=some w[k+(j+1)]:=af hj
  constructor
  .rintro⟨p,z1,z2,z3⟩
   obtain⟨J,F,r⟩:=(aM1 j p (by lia)).mp z1
   rw[aR6 hj]at z3
   have pn:p≠0:=λ z=>by
    obtain⟨_,c,_,_,l,_⟩:=r.last
    rw[z]at l;cases l
   exact⟨J,F,r.snoc ((bt8 hFo pn).mp z2) hw (av2.mp z3)⟩
  .rintro⟨J,F,r⟩
   obtain⟨j',c,e1,e2,e3,Y⟩:=r.last
   have ej:j'=k+j+1:=by lia
   subst ej
   rcases Y with⟨z,_⟩|⟨p,r',e⟩
   .lia
   .have pn:p≠0:=λ z=>by have:=(t.ed_in 1 p q e).1.1;lia
    refine⟨p,(aM1 j p (by omega)).mpr ⟨J,F,r'⟩,(bt8 hFo pn).mpr e,?_⟩
    rw[aR6 hj]
    have G:w[k+(j+1)]?=some c:=e2
    rw[hw]at G;cases G
    exact av2.mpr e3
theorem bA3 {J:List Nat}(F:∀ q,q∈J↔(q=0/\t.nul=true)\/q∈t.la 1){k:Nat}:∀(j:Nat),k+j<=w.length->((∃ q,RS w k ([]::t.lt.map λ c=>[c]) Fo j q/\q∈J)↔Mt' w t k (k+j))
 | 0,hj=>by
  constructor
  .rintro⟨q,z,y⟩
   have z:q=0:=z
   subst z
   rcases(F 0).mp y with z|z
   .exact ah2 t z.2 hj
   .have:=(t.la_in 1 0 z).1;lia
  .intro h
   rcases glu_of h 1 (aY3 t)with⟨_,_,z⟩|⟨p,q,_,_,r⟩
   .exact⟨0,rfl,(F 0).mpr (.inl ⟨rfl,z⟩)⟩
   .have:=r.lt;lia
 | j+1,hj=>by
  constructor
  .rintro⟨q,z,y⟩
   obtain⟨p,G,r⟩:=(aM1 hFo j q (by omega)).mp z
   have Y:q≠0:=λ z=>by
    obtain⟨_,c,_,_,l,_⟩:=r.last
    rw[z]at l;cases l
   rcases(F q).mp y with z|z
   .exact absurd z.1 Y
   .exact aR2 t 1 (aY3 t) (.inr ⟨p,q,G,z,r⟩)
  .intro h
   rcases glu_of h 1 (aY3 t)with⟨z,_,_⟩|⟨p,q,G,hq,r⟩
   .lia
   .exact⟨q,(aM1 hFo j q (by omega)).mpr ⟨p,G,r⟩,(F q).mpr (.inr hq)⟩
end
theorem bw6 (s:Sto)(a b:Int):eqv s DEEP (.int a) (.int b)=some (a==b):=rfl
theorem aJ5 (s:Sto)(q:Nat):∀ l:List Nat,inL s (.int (q:Int)) (za l)=some (decide (q∈l))
 | []=>rfl
 | x::l=>by
  show(match eqv s DEEP (.int (x:Int)) (.int (q:Int)),inL s (.int (q:Int)) (za l)with|some a,some b=>some (a||b)|_,_=>none)=_
  rw[bw6,aJ5 s q l]
  show some _=some _
  congr 1
  by_cases h:q=x
  .subst h;simp
  .have:((x:Int)==(q:Int))=false:=beq_eq_false_iff_ne.mpr λ z=>h (by lia)
   rw[this];simp[h]
theorem bw3 {s:Sto}{e:Nat}{z:List Nat}(h:s[e]?=some (.lst (za z)))(q:Nat):zc .isin (.int (q:Int)) (.ref e) s=.ok (.bl (decide (q∈z))) s:=by
 show(inM (.int (q:Int)) (.ref e) s).bind _=_
 unfold inM
 simp only[h,aJ5]
 rfl
noncomputable def bO6 (x y:D):M Sq:=λ s=>match x,y with|.int i,.int j=>if(-Ww62<=i/\i<Ww62)/\-Ww62<=j/\j<Ww62 then .ok ⟨ae1 i j,[]⟩ s else .bad|_,_=>.bad
theorem ak8 {F:Fns}{U:Env}{s:Sto}(a b:E):evI F (.rng2 a b) U s=(ev F a U s).bind λ x s=>(ev F b U s).bind λ y s=>bO6 x y s:=rfl
theorem aE5 {i j:Int}(h:-1000<=i/\i<=1000)(hj:-1000<=j/\j<=1000)(s:Sto):bO6 (.int i) (.int j) s=.ok ⟨ae1 i j,[]⟩ s:=by
 show(if(-Ww62<=i/\i<Ww62)/\-Ww62<=j/\j<Ww62 then _ else _)=_
 rw[if_pos (by unfold Ww62;lia)]
theorem ag1 {F:Fns}{U:Env}{s:Sto}(a h G:E):ev F (.slLU a h G) U s=(ev F a U s).bind λ x s=>(ev F h U s).bind λ y s=>match y with|.int i=>(ev F G U s).bind (λ z s=>match z with|.int j=>slM x (some i) (some j) s|_=>.bad)|_=>.bad:=rfl
theorem ba2 {w:List Nat}{k:Nat}(hk:k<=w.length)(s:Sto):slM (.str w) (some (k:Int)) (some ((k:Int)+1)) s=.ok (.str ((w.drop k).take 1)) s:=by
 unfold slM aj3
 simp only[loB,hiB,sbd]
 rw[if_pos (by lia),if_pos (by lia)]
 have e1:min (k:Int).toNat w.length=k:=by lia
 rw[e1]
 congr 2
 by_cases h:k<w.length
 .have e2:min ((k:Int)+1).toNat w.length - k=1:=by lia
  rw[e2]
 .have hd:w.drop k=[]:=cT (by lia)
  rw[hd];simp
theorem by8 (l:List Nat)(p:Nat->Bool)(s:Sto):mk .any (l.map λ q=>D.bl (p q)) s=.ok (.bl (l.any p)) s:=by
 have:∀ l:List Nat,ae0 (l.map λ q=>D.bl (p q))=some (l.map p):=by
  intro l
  induction l with
  | nil=>rfl
  | cons x l ih=>show(ae0 (l.map λ q=>D.bl (p q))).map _=_;rw[ih];rfl
 unfold mk
 simp only[this]
 congr 2
 induction l with
 | nil=>rfl
 | cons x l ih=>simp
section
variable {P:Pr} [Has P ab8] [Has P ab1]
noncomputable def efB:Ss:=.cons (.ite (.mk .any (.comp (.one 0) (.seq (.var 4)) (.cmp .isin (.var 0) (.attr (.var 1) aj1)) [none,some 0])) (.cons (.ex (.meth .append (.var 3) (.cons (.var 5) .nil))) .nil) .nil) (.cons (.asg (.one 4) (.call "led_by" (.ex (.var 0) (.ex (.var 4) (.ex (.slLU (.var 1) (.var 5) (.bin .add (.var 5) (.cst (.int 1)))) .nil))))) .nil)
theorem aS6:ab1.body=.cons (.asg (.one 3) (.lst .nil)) (.cons (.asg (.one 4) (.lst (.cons (.cst (.int 0)) .nil))) (.cons (.for_ (.one 5) (.rng2 (.var 2) (.bin .add (.bi .len (.cons (.var 1) .nil)) (.cst (.int 1)))) efB) (.cons (.ret (.var 3)) .nil))):=rfl
theorem aI2 (F:Fns){ok:Sto->Bool}{u:Sto}{o a b e:Nat}{h:List Nat}(hok:ok u=true)(ho:u[o]?=some (.ins "Rooms" (flds a b e)))(z:u[e]?=some (.lst (za h))):∀(X:List Nat) (x0:Option D),
  qH ok (qm F (.one 0) (.cmp .isin (.var 0) (.attr (.var 1) aj1))) (za X) [x0,some (.ref o)] u=.ok (X.map λ q=>D.bl (decide (q∈h))) u
 | [],x0=>by show(if ok u=true then _ else _)=_;rw[if_pos hok];rfl
 | q::X,x0=>by
  have J:=aI2 F hok ho z X (some (.int (q:Int)))
  have G:qm F (.one 0) (.cmp .isin (.var 0) (.attr (.var 1) aj1)) (.int (q:Int)) [x0,some (.ref o)] u=.ok (some (.bl (decide (q∈h))),[some (.int (q:Int)),some (.ref o)]) u:=by
   unfold qm
   tbr_iter [ai2,bH4 ho,bw3 z]
  show qH ok _ (D.int (q:Int)::za X) _ u=_
  unfold qH
  rw[if_pos hok,G]
  simp only[R.bind_ok]
  rw[J]
  rfl
theorem bq9 {S G:Sto}{y:O}{i:Nat}:(S++y::G)[S.length+1+i]?=G[i]?:=by
 rw[aI (by lia),show S.length+1+i - S.length=i+1 by lia];rfl
theorem bw7 (n:Nat){S:Sto}{o a b e:Nat}{t:Tr}{rs:List Nat}{Fo:Nat->List Nat}{En:List Nat}(h:RoomsS S o a b e ([]::t.lt.map λ c=>[c]) rs Fo)(a3:∀ p q,q∈Fo p↔(p=0/\q∈t.fs 1)\/t.ed 1 p q)(he:S[e]?=some (.lst (za En)))(a4:∀ q,q∈En↔(q=0/\t.nul=true)\/q∈t.la 1)
  {w:List Nat} (hw:w.length<=40) {k:Nat} (hk:k<=w.length) :
  ∃ X,(aa1 P (n+2)).call "ends_from" [.ref o,.str w,.int (k:Int)] S=.ok (.ref S.length) (S++[.lst (za X)])/\∀ j,j∈X↔(k<=j/\j<=w.length)/\Mt' w t k j:=by
 have c0:(aa1 P (n+2)).call "ends_from" [.ref o,.str w,.int (k:Int)] S=_:=zd ab1 (n:=n+1) rfl
 have a0:∀ u,bi .len [.str w] u=.ok (.int w.length) u:=λ u=>rfl
 have hs:S++[O.lst []]++[O.lst [D.int 0]]=S++.lst (za [])::[.lst (za [0])]:=by simp[za]
 have a6:(S++[O.lst []]).length=S.length+1+0:=by simp
 have key:=z6 (ok:=λ u=>chk (S++.lst (za [])::[.lst (za [0])]) u []) (g:=turn (aa1 P (n+1)) (.one 5) efB) (λ j U u=>∃ F G X i x5,U=[some (.ref o),some (.str w),some (.int (k:Int)),some (.ref S.length),some (.ref (S.length+1+i)),x5]/\u=S++.lst (za F)::G/\G[i]?=some (.lst (za X))/\((∀ x∈X,x<([]::t.lt.map λ c=>[c]:List (List Nat)).length)/\X.length<=60)/\(∀ q,q∈X↔RS w k ([]::t.lt.map λ c=>[c]) Fo j q)/\(∀ i,i∈F↔∃ J,J<j/\i=k+J/\Mt' w t k (k+J))/\F.length<=j)
  (ae1 (k:Int) ((w.length:Int)+1)) 0 [some (.ref o),some (.str w),some (.int (k:Int)),some (.ref S.length),some (.ref (S.length+1+0)),none] (S++.lst (za [])::[.lst (za [0])]) ⟨[],[.lst (za [0])],[0],0,none,rfl,rfl,rfl,⟨λ x hx=>by rw[aD.mp hx];exact h.pos,by simp⟩,λ q=>aD,λ i=>by simp,ah _⟩ (λ _ _ _ _ _=>rfl) ?_
 .have a5:(ae1 (k:Int) ((w.length:Int)+1)).length=w.length+1 - k:=by simp[ae1]
  obtain⟨U',s',k1,F,G,X,i,x5,rfl,rfl,m1,m2,m3,m4,m5⟩:=key
  refine⟨F,?_,λ j=>?_⟩
  .rw[c0,aS6,show(bj some [D.ref o,D.str w,D.int (k:Int)]++ai ab1.vs none)=[some (.ref o),some (.str w),some (.int (k:Int)),none,none,none]from rfl]
   tbr_iter [a6,hs,ak8,a0,aE5 (i:=(k:Int)) (j:=(w.length:Int)+1) (by lia) (by lia)]
   rw[k1]
   tbr_iter []
   have cn:=zL (s:=S) (t:=[]) (u:=G) (o:=.lst (za F)) (by unfold O.bnd;exact aj7 _ _)
   exact cn
  .rw[m4,aU,a5]
   constructor
   .rintro⟨J,h1,rfl,h3⟩
    exact⟨⟨by lia,by lia⟩,h3⟩
   .rintro⟨⟨h1,h2⟩,h3⟩
    exact⟨j - k,by lia,by lia,by rw[show k+(j - k)=j by lia];exact h3⟩
 .rintro j d U u hj ⟨F,G,X,i,x5,rfl,rfl,m1,m2,m3,m4,m5⟩
  obtain⟨b2,rfl⟩:=zQ hj
  rw[aU]at m3 m4 m5
  have a2:k+j<=w.length:=by lia
  have hat:(k:Int)+(j:Int)=((k+j:Nat):Int):=by lia
  rw[hat]
  have Ru:=h.app (.lst (za F)::G)
  have q1:ao6 (.ref (S.length+1+i)) (S++.lst (za F)::G)=.ok ⟨za X,[S.length+1+i]⟩ (S++.lst (za F)::G):=by unfold ao6;simp only[bq9,m1]
  have a1:(za X).length<=LIM:=by rw[zn];have:=m2.2;unfold LIM;lia
  have cm:=aI2 (aa1 P (n+1)) (ok:=λ v=>chk (S++.lst (za F)::G) v [S.length+1+i]) (by unfold chk;simp) Ru.ins (aa2 (t:=.lst (za F)::G) he) X none
  have an:=by8 X (λ q=>decide (q∈En)) (S++.lst (za F)::G)
  have b0:=bA3 a3 a4 j a2
  have Z:(X.any λ q=>decide (q∈En))=true↔Mt' w t k (k+j):=by
   rw[<-b0,dn]
   constructor
   .rintro⟨q,z,y⟩;exact⟨q,(m3 q).mp z,of_decide_eq_true y⟩
   .rintro⟨q,z,y⟩;exact⟨q,(m3 q).mpr z,decide_eq_true y⟩
  have sl:=ba2 (w:=w) (k:=k+j) a2
  have ap:meth .append (.ref S.length) [.int ((k+j:Nat):Int)] (S++.lst (za F)::G)=.ok .non (S++.lst (za (F++[k+j]))::G):=by
   have g:(S++O.lst (za F)::G)[S.length]?=some (.lst (za F)):=by rw[aI (ah _)];simp
   rw[qe g (by rw[zn];unfold LIM;lia),qa]
   unfold za
   rw[bw];rfl
  have fin:∀ Y:List Nat,∃ X':List Nat,(aa1 P (n+1)).call "led_by" [.ref o,.ref (S.length+1+i),.str ((w.drop (k+j)).take 1)] (S++.lst (za Y)::G)=.ok (.ref (S.length+1+G.length)) (S++.lst (za Y)::(G++[.lst (za X')]))/\((∀ x∈X',x<([]::t.lt.map λ c=>[c]:List (List Nat)).length)/\X'.length<=60)/\∀ q,q∈X'↔RS w k ([]::t.lt.map λ c=>[c]) Fo (j+1) q:=by
   intro Y
   obtain⟨X',e1,e2,e3⟩:=bz8 (P:=P) n (h.app (.lst (za Y)::G)) ((w.drop (k+j)).take 1) (f:=S.length+1+i) (A:=X) (by rw[bq9];exact m1) m2.1
   refine⟨X',?_,e2,λ q=>?_⟩
   .rw[e1,show(S++O.lst (za Y)::G).length=S.length+1+G.length by simp;lia]
    simp
   .rw[e3]
    constructor
    .rintro⟨p,z,y1,y2⟩;exact⟨p,(m3 p).mp z,y1,y2⟩
    .rintro⟨p,z,y1,y2⟩;exact⟨p,(m3 p).mpr z,y1,y2⟩
  have cap:qd [some (.ref o),some (.str w),some (.int (k:Int)),some (.ref S.length),some (.ref (S.length+1+i)),some (.int ((k+j:Nat):Int))] [none,some 0]=[none,some (.ref o)]:=rfl
  by_cases hc:Mt' w t k (k+j)
  .have b1:(X.any λ q=>decide (q∈En))=true:=Z.mpr hc
   rw[b1]at an
   obtain⟨X',e1,e2,e3⟩:=fin (F++[k+j])
   refine⟨[some (.ref o),some (.str w),some (.int (k:Int)),some (.ref S.length),some (.ref (S.length+1+G.length)),some (.int ((k+j:Nat):Int))],_,.inl ?_,F++[k+j],G++[.lst (za X')],X',G.length,some (.int ((k+j:Nat):Int)),rfl,rfl,zW,e2,λ q=>by rw[aU];exact e3 q,λ x=>?_,by simp;omega⟩
   .unfold turn efB
    tbr_iter [zR,q1,if_pos a1,cap,cm,an,ap,ag1,sl,e1]
   .rw[aO,m4,aD,aU]
    constructor
    .rintro(⟨J,z1,z2,z3⟩|z)
     .exact⟨J,by lia,z2,z3⟩
     .exact⟨j,by lia,z,hc⟩
    .rintro⟨J,z1,z2,z3⟩
     by_cases y:J=j
     .subst y;exact .inr z2
     .exact .inl ⟨J,by lia,z2,z3⟩
  .have b1:(X.any λ q=>decide (q∈En))=false:=by rw[<-fM];exact λ z=>hc (Z.mp z)
   rw[b1]at an
   obtain⟨X',e1,e2,e3⟩:=fin F
   refine⟨[some (.ref o),some (.str w),some (.int (k:Int)),some (.ref S.length),some (.ref (S.length+1+G.length)),some (.int ((k+j:Nat):Int))],_,.inl ?_,F,G++[.lst (za X')],X',G.length,some (.int ((k+j:Nat):Int)),rfl,rfl,zW,e2,λ q=>by rw[aU];exact e3 q,λ x=>?_,by lia⟩
   .unfold turn efB
    tbr_iter [zR,q1,if_pos a1,cap,cm,an,ag1,sl,e1]
   .rw[m4,aU]
    constructor
    .rintro⟨J,z1,z2,z3⟩;exact⟨J,by omega,z2,z3⟩
    .rintro⟨J,z1,z2,z3⟩
     by_cases y:J=j
     .subst y;exact absurd z3 hc
     .exact⟨J,by omega,z2,z3⟩
end
theorem bu6 (a b:Nat)(s:Sto):z0 .bor (.int (a:Int)) (.int (b:Int)) s=.ok (.int ((a ||| b:Nat):Int)) s:=by
 show(if 0<=(a:Int)/\0<=(b:Int)then pur (.int ((((a:Int).toNat ||| (b:Int).toNat:Nat)):Int))else bad:M D) s=_
 rw[if_pos ⟨cw _,cw _⟩];rfl
theorem bh5 {a k:Nat}(ha:a<2^64)(hk:k<=1000)(s:Sto):z0 .shl (.int (a:Int)) (.int (k:Int)) s=.ok (.int ((a*2^k:Nat):Int)) s:=by
 show(if 0<=(k:Int)/\(k:Int)<=1000000/\(a:Int).natAbs<2^64 then pur (.int ((a:Int)*2^(k:Int).toNat))else bad:M D) s=_
 rw[if_pos ⟨cw _,by lia,by simpa using ha⟩]
 show R.ok _ _=_
 rw[cH];push_cast;rfl
theorem bu7 (a k:Nat)(s:Sto):z0 .shr (.int (a:Int)) (.int (k:Int)) s=.ok (.int ((a / 2^k:Nat):Int)) s:=by
 show(if 0<=(k:Int)then pur (.int ((a:Int) / 2^(k:Int).toNat))else bad:M D) s=_
 rw[if_pos (cw _)]
 show R.ok _ _=_
 rw[cH];push_cast;rfl
theorem bs4 (a:Nat)(s:Sto):z0 .band (.int (a:Int)) (.int 1) s=.ok (.int ((a % 2:Nat):Int)) s:=by
 show(if 0<=(a:Int)/\(1:Int)=1 then pur (.int ((a:Int) % 2))else bad:M D) s=_
 rw[if_pos ⟨cw _,rfl⟩]
 show R.ok _ _=_
 push_cast;rfl
theorem aD2 {x:Nat}(h:x≠0):2^x.log2<=x/\x<2^(x.log2+1):=⟨Nat.log2_self_le h,Nat.lt_log2_self⟩
theorem bH2 {x:Nat}(h:x≠0):x - 2^x.log2=x % 2^x.log2:=by
 obtain⟨F,z⟩:=aD2 h
 rw[ja]at z
 rw[Nat.mod_eq_sub_mod F,Nat.mod_eq_of_lt (by omega)]
theorem an5 {x j:Nat}(h:x≠0):x.testBit j=true↔(x - 2^x.log2).testBit j=true\/j=x.log2:=by
 obtain⟨G,F⟩:=aD2 h
 rw[bH2 h,Nat.testBit_mod_two_pow]
 rcases c9 j x.log2 with z|z|z
 .simp[z,aC z]
 .subst z
  simp only[bA,decide_false,jD,cz,false_or,iff_true]
  rw[cI]
  have:x / 2^x.log2=1:=by
   rw[Nat.div_eq_iff (jw _)]
   rw[ja]at F
   omega
  rw[this];rfl
 .have e:x.testBit j=false:=Nat.testBit_lt_two_pow (aA F (Nat.pow_le_pow_right (by decide) (by lia)))
  rw[e]
  simp[jR.mpr (fO z),iM z]
section
variable {P:Pr} [Has P ab4]
noncomputable def owC:E:=.cmp .gt (.var 0) (.cst (.int 0))
noncomputable def owB:Ss:=.cons (.asg (.one 3) (.bin .sub (.bitl (.var 0)) (.cst (.int 1)))) (.cons (.asg (.one 2) (.bin .bor (.var 2) (.ix (.var 1) (.var 3)))) (.cons (.asg (.one 0) (.bin .sub (.var 0) (.bin .shl (.cst (.int 1)) (.var 3)))) .nil))
theorem bl7:ab4.body=.cons (.asg (.one 2) (.cst (.int 0))) (.cons (.whl owC owB) (.cons (.ret (.var 2)) .nil)):=rfl
theorem ev_bitl' {F:Fns}{U:Env}{s:Sto}(a:E):ev F (.bitl a) U s=(ev F a U s).bind λ x s=>aO0 x s:=rfl
theorem bn8 (n:Nat){S:Sto}{r:Nat}{h:List Nat}(hr:S[r]?=some (.lst (za h)))(hR:h.length<=64):∀(x f:Nat) (x3:Option D),(∀ k,x.testBit k=true->k<h.length) ->
  ∃(F:Nat) (y3:Option D),whl (ev (aa1 P n) owC) (exs (aa1 P n) owB) [some (.int (x:Int)),some (.ref r),some (.int (f:Int)),x3] S=.ok (.next [some (.int 0),some (.ref r),some (.int (F:Int)),y3]) S/\∀ j,F.testBit j=true↔f.testBit j=true\/∃ k,x.testBit k=true/\(h.getD k 0).testBit j=true:=by
 intro x
 induction x using ju with
 | _ x ih =>
  intro f x3 hx
  by_cases h0:x=0
  .subst h0
   refine⟨f,x3,?_,λ j=>by simp⟩
   refine aV4 ?_
   unfold owC
   tbr_iter []
   simp
  .have hk:=hx x.log2 ((an5 h0).mpr (.inr rfl))
   have h1:=(aD2 h0).1
   have hlt:x - 2^x.log2<x:=by have:=jw x.log2;omega
   obtain⟨F,y3,e1,e2⟩:=ih (x - 2^x.log2) hlt (f ||| h.getD x.log2 0) (some (.int (x.log2:Int))) λ k hk=>hx k ((an5 h0).mpr (.inl hk))
   refine⟨F,y3,?_,λ j=>?_⟩
   .rw[<-e1]
    refine aL4 (s1:=S) ?_ ?_
    .unfold owC
     tbr_iter []
     simp
     lia
    .have Y:aO0 (.int (x:Int)) S=.ok (.int ((x.log2:Int)+1)) S:=by
      unfold aO0 bitsN
      simp only[Int.natCast_eq_zero,h0,if_false,Int.natAbs_natCast]
      rfl
     have b2:(x.log2:Int)+1 - 1=(x.log2:Int):=by lia
     have Z:ixM (.ref r) (.int (x.log2:Int)) S=.ok (.int ((h.getD x.log2 0:Nat):Int)) S:=zw hr (by unfold za;rw[aF,ay,af hk];rfl)
     have J:=bh5 (a:=1) (k:=x.log2) (by decide) (by lia) S
     rw[jp]at J
     have b5:(x:Int) - ((2^x.log2:Nat):Int)=((x - 2^x.log2:Nat):Int):=by omega
     have G:z0 .shl (.int 1) (.int (x.log2:Int)) S=.ok (.int ((2^x.log2:Nat):Int)) S:=J
     unfold owB
     tbr_iter [ev_bitl',Y,b2,Z,bu6,G,b5]
   .rw[e2,gM,bn]
    constructor
    .rintro((z|z)|⟨k,z1,z2⟩)
     .exact .inl z
     .exact .inr ⟨x.log2,(an5 h0).mpr (.inr rfl),z⟩
     .exact .inr ⟨k,(an5 h0).mpr (.inl z1),z2⟩
    .rintro(z|⟨k,z1,z2⟩)
     .exact .inl (.inl z)
     .rcases(an5 h0).mp z1 with y|y
      .exact .inr ⟨k,y,z2⟩
      .rw[y]at z2;exact .inl (.inr z2)
theorem ax3 (n:Nat){S:Sto}{r:Nat}{h:List Nat}(F:S[r]?=some (.lst (za h)))(J:h.length<=64)(x:Nat)(hx:∀ k,x.testBit k=true->k<h.length) :
  ∃ f:Nat,(aa1 P (n+1)).call "_law_onward" [.int (x:Int),.ref r] S=.ok (.int (f:Int)) S/\∀ j,f.testBit j=true↔∃ k,x.testBit k=true/\(h.getD k 0).testBit j=true:=by
 obtain⟨f,y3,e1,e2⟩:=bn8 (P:=P) n F J x 0 none hx
 refine⟨f,?_,λ j=>by rw[e2];simp⟩
 have G:(aa1 P (n+1)).call "_law_onward" [.int (x:Int),.ref r] S=_:=zd ab4 (n:=n) rfl
 rw[G,bl7,show(bj some [D.int (x:Int),D.ref r]++ai ab4.vs none)=[some (.int (x:Int)),some (.ref r),none,none]from rfl]
 have z:whl (ev (aa1 P n) owC) (exs (aa1 P n) owB) [some (.int (x:Int)),some (.ref r),some (.int 0),none] S=_:=e1
 tbr_iter [z]
 exact zH (by intro n;rfl) (by nofun)
end
structure Bt (w:List Nat)(t:Tr)(Ro:List Nat):Prop where
 len:Ro.length=w.length+1
 bit:∀ k,k<=w.length->∀ j,(Ro.getD k 0).testBit j=true↔Mt' w t k j
theorem Bt.lt {w:List Nat}{t:Tr}{F:List Nat}(h:Bt w t F)(hw:w.length<=40){k:Nat}(hk:k<=w.length):F.getD k 0<2^64:=by
 refine aA (Nat.lt_pow_two_of_testBit (n:=41) _ λ i G=>?_) (by decide)
 rw[<-fM]
 intro z
 have:=((h.bit k hk i).mp z).le.2
 lia
theorem qr {ok:Sto->Bool}{g:D->Env->Sto->R (Option D×Env)}{u:Sto}(hok:ok u=true)(E:Env->Prop)(f:D->D):∀(l:List D) (U:Env),E U->(∀ d∈l,∀ U,E U->∃ U',g d U u=.ok (some (f d),U') u/\E U')->qH ok g l U u=.ok (l.map f) u
 | [],U,_,_=>by show(if ok u=true then _ else _)=_;rw[if_pos hok];rfl
 | d::l,U,hE,h=>by
  obtain⟨U',e1,F⟩:=h d (aB ..) U hE
  have G:=qr hok E f l U' F λ d' z=>h d' (ax _ z)
  unfold qH
  rw[if_pos hok,e1]
  simp only[R.bind_ok]
  rw[G]
  rfl
theorem ag7 (n:Nat):ae1 0 (n:Int)=za (aP n):=by
 unfold ae1 za
 rw[ki,cH]
 refine cK λ k _=>?_
 rw[jc]
theorem bh9 (l:List Nat)(f:Nat->Nat)(g:D->D)(h:∀ q∈l,g (.int (q:Int))=.int ((f q:Nat):Int)):(za l).map g=za (l.map f):=by
 unfold za
 rw[cU,cU]
 exact cK λ q hq=>h q hq
theorem qE {n k:Nat}(f:Nat->Nat)(h:k<n):((aP n).map f).getD k 0=f k:=by
 rw[ay,aF,bR h];rfl
theorem bd9 (a m j:Nat):(a / 2^m*2^m).testBit j=true↔m<=j/\a.testBit j=true:=by
 rw[<-Nat.shiftRight_eq_div_pow,<-Nat.shiftLeft_eq,Nat.testBit_shiftLeft,Nat.testBit_shiftRight,ak,decide_eq_true_eq]
 constructor
 .rintro⟨z,h⟩
  exact⟨z,by rw[show m+(j - m)=j by lia]at h;exact h⟩
 .rintro⟨z,h⟩
  exact⟨z,by rw[show m+(j - m)=j by lia];exact h⟩
theorem bx7 {w:List Nat}{t:Tr}{k j:Nat}:Mt' w (.rep t) k j↔(j=k/\k<=w.length)\/∃ m,k<m/\Mt' w t k m/\Mt' w (.rep t) m j:=by
 constructor
 .intro h
  generalize F:Tr.rep t=r at h
  induction h with
  | rep0 h=>exact .inl ⟨rfl,h⟩
  | @repS t' k m j h g ih1 ih2 =>
   cases F
   by_cases z:k=m
   .subst z;exact ih2 rfl
   .exact .inr ⟨m,by have:=h.le.1;lia,h,g⟩
  | _=>cases F
 .rintro(⟨rfl,h⟩|⟨m,_,h,g⟩)
  .exact .rep0 h
  .exact .repS h g
section
variable {P:Pr} [Has P ab4] [Has P ac3]
noncomputable def agB:Ss:=.cons (.setIx (.var 1) (.var 2) (.bin .bor (.ix (.var 1) (.var 2)) (.call "_law_onward" (.ex (.bin .shl (.bin .shr (.ix (.var 0) (.var 2)) (.bin .add (.var 2) (.cst (.int 1)))) (.bin .add (.var 2) (.cst (.int 1)))) (.ex (.var 1) .nil))))) .nil
theorem aQ2:ac3.body=.cons (.asg (.one 1) (.mk .list (.comp (.one 0) (.rng1 (.bi .len (.cons (.var 0) .nil))) (.bin .shl (.cst (.int 1)) (.var 0)) [none]))) (.cons (.for_ (.one 2) (.rngD (.bin .sub (.bi .len (.cons (.var 0) .nil)) (.cst (.int 1)))) agB) (.cons (.ret (.var 1)) .nil)):=rfl
theorem aH4 (F:Fns){S:Sto}(n:Nat)(hn:n<=100){ok:Sto->Bool}(hok:ok S=true):qH ok (qm F (.one 0) (.bin .shl (.cst (.int 1)) (.var 0))) (za (aP n)) [none] S=.ok (za ((aP n).map λ k=>2^k)) S:=by
 have key:=qr (g:=qm F (.one 0) (.bin .shl (.cst (.int 1)) (.var 0))) hok (λ U=>∃ x,U=[x]) (λ d=>match d with|.int i=>.int ((2^i.toNat:Nat):Int)|_=>.non) (za (aP n)) [none] ⟨none,rfl⟩ ?_
 .rw[key]
  congr 1
  exact bh9 _ _ _ λ q _=>rfl
 .rintro d hd U ⟨x,rfl⟩
  obtain⟨q,hq,rfl⟩:=aZ.mp hd
  have hq:=br.mp hq
  have z:=bh5 (a:=1) (k:=q) (by decide) (by lia) S
  rw[jp]at z
  have h:z0 .shl (.int 1) (.int (q:Int)) S=.ok (.int ((2^q:Nat):Int)) S:=z
  refine⟨[some (.int (q:Int))],?_,_,rfl⟩
  unfold qm
  tbr_iter [h]
  rfl
noncomputable def aZ2 (x:D):M Sq:=λ s=>match x with|.int i=>if -1<=i/\i<1048576 then .ok ⟨ad0 i,[]⟩ s else .bad|_=>.bad
theorem aB2 {F:Fns}{U:Env}{s:Sto}(a:E):evI F (.rngD a) U s=(ev F a U s).bind λ x s=>aZ2 x s:=rfl
theorem qi {l:List Nat}{k:Nat}(h:k<l.length):(za l)[k]?=some (.int ((l.getD k 0:Nat):Int)):=by
 unfold za
 rw[aF,ay,af h];rfl
theorem bj7 (l:List Nat)(k x:Nat):(za l).set k (.int (x:Int))=za (l.set k x):=by
 unfold za
 rw[km]
theorem aL0 {l:List Nat}{k i x:Nat}(h:k<l.length):(l.set k x).getD i 0=if i=k then x else l.getD i 0:=by
 rw[ay,ay]
 by_cases z:i=k
 .subst z;rw[aX h,if_pos rfl];rfl
 .rw[ao (bG z),if_neg z]
theorem bk9 (n:Nat){S:Sto}{r:Nat}{w:List Nat}(hw:w.length<=40){t:Tr}{J:List Nat}(hB:Bt w t J)(hr:S[r]?=some (.lst (za J))) :
  ∃ F,(aa1 P (n+2)).call "_law_again" [.ref r] S=.ok (.ref S.length) (S++[.lst (za F)])/\Bt w (.rep t) F:=by
 have hl:∀ {X:Sto},bi .len [.ref r] (S++X)=.ok (.int ((w.length+1:Nat):Int)) (S++X):=λ {X}=>by rw[ah7 (aa2 hr),zn,hB.len]
 have a1:bi .len [.ref r] S=.ok (.int ((w.length+1:Nat):Int)) S:=by rw[ah7 hr,zn,hB.len]
 have key:=z6 (ok:=λ u=>chk (S++[.lst (za ((aP (w.length+1)).map λ k=>2^k))]) u []) (g:=turn (aa1 P (n+1)) (.one 2) agB) (λ i U u=>∃ F x2,U=[some (.ref r),some (.ref S.length),x2]/\u=S++[.lst (za F)]/\F.length=w.length+1/\(∀ k,k<=w.length->w.length+1<=k+i->∀ j,(F.getD k 0).testBit j=true↔Mt' w (.rep t) k j)/\∀ k,k+i<=w.length->F.getD k 0=2^k)
  (ad0 (w.length:Int)) 0 [some (.ref r),some (.ref S.length),none] (S++[.lst (za ((aP (w.length+1)).map λ k=>2^k))]) ⟨_,none,rfl,rfl,by simp,λ k h1 h2=>by lia,λ k hk=>qE _ (by lia)⟩ (λ _ _ _ _ _=>rfl) ?_
 .have a3:(ad0 (w.length:Int)).length=w.length+1:=by unfold ad0;simp
  obtain⟨U',s',k1,F,x2,rfl,rfl,m1,G,m3⟩:=key
  rw[aU,a3]at G
  refine⟨F,?_,m1,λ k hk j=>G k hk (by lia) j⟩
  have c0:(aa1 P (n+2)).call "_law_again" [.ref r] S=_:=zd ac3 (n:=n+1) rfl
  rw[c0,aQ2,show(bj some [D.ref r]++ai ac3.vs none)=[some (.ref r),none,none]from rfl]
  have pc:=aH4 (aa1 P (n+1)) (S:=S) (w.length+1) (by lia) (ok:=λ a2=>chk S a2 []) rfl
  have e1:az8 (.int ((w.length+1:Nat):Int)) S=.ok ⟨za (aP (w.length+1)),[]⟩ S:=by rw[zO (by unfold Ww62;lia) (by unfold Ww62;lia),ag7]
  have hL:(za (aP (w.length+1))).length<=LIM:=by rw[zn,bI];unfold LIM;lia
  have e2:((w.length+1:Nat):Int) - 1=(w.length:Int):=by lia
  have e3:∀ u,aZ2 (.int (w.length:Int)) u=.ok ⟨ad0 (w.length:Int),[]⟩ u:=λ u=>by
   unfold aZ2
   exact if_pos ⟨by lia,by lia⟩
  have a4:∀(l:List D) (u:Sto),mk .list l u=.ok (.ref u.length) (u++[.lst l]):=λ _ _=>rfl
  have cap:qd [some (D.ref r),none,none] [none]=[none]:=rfl
  tbr_iter [zR,evI_rng1,a1,e1,if_pos hL,cap,pc,a4,aB2,hl,e2,e3]
  rw[k1]
  tbr_iter []
  have cn:=zL (s:=S) (t:=[]) (u:=[]) (o:=.lst (za F)) (by unfold O.bnd;exact aj7 _ _)
  exact cn
 .rintro i d U u Y ⟨F,x2,rfl,rfl,m1,G,m3⟩
  rw[aU]at G m3
  have a5:i<w.length+1:=by
   have:=(ac.mp Y).1
   unfold ad0 at this;simp at this;omega
  have hd:d=.int ((w.length - i:Nat):Int):=by
   unfold ad0 at Y
   rw[aF,bR (by lia)]at Y
   have Y:=aw Y
   rw[<-Y]
   show D.int ((w.length:Int)+(i:Int)*(-1))=_
   rw[show(w.length:Int)+(i:Int)*(-1)=((w.length - i:Nat):Int)by lia]
  subst hd
  generalize hk:w.length - i=k at *
  have a0:k<=w.length:=by lia
  have f0:=m3 k (by lia)
  have i1:ixM (.ref S.length) (.int (k:Int)) (S++[.lst (za F)])=.ok (.int ((2^k:Nat):Int)) (S++[.lst (za F)]):=by
   rw[<-f0];exact zw zW (qi (by lia))
  have i2:ixM (.ref r) (.int (k:Int)) (S++[.lst (za F)])=.ok (.int ((J.getD k 0:Nat):Int)) (S++[.lst (za F)]):=zw (aa2 hr) (qi (by rw[hB.len];lia))
  have hlt:=hB.lt hw a0
  have i3:=bu7 (J.getD k 0) (k+1) (S++[.lst (za F)])
  have i4:=bh5 (a:=J.getD k 0 / 2^(k+1)) (k:=k+1) (iG (Nat.div_le_self _ _) hlt) (by lia) (S++[.lst (za F)])
  have ek:(k:Int)+1=((k+1:Nat):Int):=by lia
  have h:∀ m,(J.getD k 0 / 2^(k+1)*2^(k+1)).testBit m=true↔k<m/\Mt' w t k m:=λ m=>by rw[bd9,hB.bit k a0];exact Iff.rfl
  obtain⟨x,o1,o2⟩:=ax3 (P:=P) n (S:=S++[.lst (za F)]) zW (by lia) (J.getD k 0 / 2^(k+1)*2^(k+1)) λ m hm=>by
   have:=((h m).mp hm).2.le.2;lia
  have i5:=bu6 (2^k) x (S++[.lst (za F)])
  have i6:setIx (.ref S.length) (.int (k:Int)) (.int ((2^k ||| x:Nat):Int)) (S++[.lst (za F)])=.ok () (S++[.lst (za (F.set k (2^k ||| x)))]):=by
   rw[at6 zW (by rw[zn];lia),qa,bj7]
  have Z:k<F.length:=by omega
  refine⟨[some (.ref r),some (.ref S.length),some (.int (k:Int))],_,.inl ?_,F.set k (2^k ||| x),_,rfl,rfl,by rw[aS];exact m1,λ k' h1 h2 j=>?_,λ k' h1=>?_⟩
  .unfold turn agB
   tbr_iter [i1,i2,ek,i3,i4,o1,i5,i6]
  .rw[aL0 Z]
   by_cases z:k'=k
   .subst z
    rw[if_pos rfl,gM,bn,eS,decide_eq_true_eq,o2,bx7]
    constructor
    .rintro(z|⟨m,z1,z2⟩)
     .exact .inl ⟨z.symm,h1⟩
     .obtain⟨y1,y2⟩:=(h m).mp z1
      have:=y2.le.2
      exact .inr ⟨m,y1,y2,(G m this (by lia) j).mp z2⟩
    .rintro(⟨z,_⟩|⟨m,z1,z2,z3⟩)
     .exact .inl z.symm
     .have:=z2.le.2
      exact .inr ⟨m,(h m).mpr ⟨z1,z2⟩,(G m this (by omega) j).mpr z3⟩
   .rw[if_neg z]
    exact G k' h1 (by lia) j
  .rw[aL0 Z,if_neg (by lia)]
   exact m3 k' (by lia)
end
section
variable {P:Pr} [Has P ab4] [Has P ac3] [Has P ac2] [Has P ad6]
theorem qh:ac2.body=(.cons (.asg (.one 2) (.bi .len (.cons (.var 1) .nil))) (.cons (.ite (.cmp .eq (.ix (.var 0) (.cst (.int 0))) (.cst (.str [108,101,116,116,101,114]))) (.cons (.ret (.mk .list (.comp (.one 0) (.rng1 (.bin .add (.var 2) (.cst (.int 1)))) (.bin .shl (.bi .int (.cons (.cmp .eq (.slLU (.var 1) (.var 0) (.bin .add (.var 0) (.cst (.int 1)))) (.ix (.var 2) (.cst (.int 1)))) .nil)) (.bin .add (.var 0) (.cst (.int 1)))) [none,some 1,some 0]))) .nil) .nil) (.cons (.ite (.cmp .eq (.ix (.var 0) (.cst (.int 0))) (.cst (.str [110,111,116,104,105,110,103]))) (.cons (.ret (.mk .list (.comp (.one 0) (.rng1 (.bin .add (.var 2) (.cst (.int 1)))) (.bin .shl (.cst (.int 1)) (.var 0)) [none]))) .nil) .nil) (.cons (.asg (.one 3) (.call "_law_ends" (.ex (.ix (.var 0) (.cst (.int 1))) (.ex (.var 1) .nil)))) (.cons (.ite (.cmp .eq (.ix (.var 0) (.cst (.int 0))) (.cst (.str [114,101,112,101,97,116]))) (.cons (.ret (.call "_law_again" (.ex (.var 3) .nil))) .nil) .nil) (.cons (.asg (.one 4) (.call "_law_ends" (.ex (.ix (.var 0) (.cst (.int 2))) (.ex (.var 1) .nil)))) (.cons (.ite (.cmp .eq (.ix (.var 0) (.cst (.int 0))) (.cst (.str [101,105,116,104,101,114]))) (.cons (.ret (.mk .list (.comp (.one 0) (.rng1 (.bin .add (.var 2) (.cst (.int 1)))) (.bin .bor (.ix (.var 1) (.var 0)) (.ix (.var 2) (.var 0))) [none,some 3,some 4]))) .nil) .nil) (.cons (.ret (.mk .list (.comp (.one 0) (.seq (.var 3)) (.call "_law_onward" (.ex (.var 0) (.ex (.var 1) .nil))) [none,some 4]))) .nil)))))))):=rfl
theorem as1 {ok:Sto->Bool}{g:D->Env->Sto->R (Option D×Env)}{u:Sto}(hok:ok u=true)(E:Env->Prop)(Q:Nat->Nat->Prop):∀(l:List Nat) (U:Env),E U->(∀ q∈l,∀ U,E U->∃(U':Env) (f:Nat),g (.int (q:Int)) U u=.ok (some (.int (f:Int)),U') u/\E U'/\Q q f)->∃ z:List Nat,qH ok g (za l) U u=.ok (za z) u/\z.length=l.length/\∀ i,i<l.length->Q (l.getD i 0) (z.getD i 0)
 | [],U,_,_=>⟨[],by show(if ok u=true then _ else _)=_;rw[if_pos hok];rfl,rfl,λ i J=>absurd J (by simp)⟩
 | q::l,U,hE,h=>by
  obtain⟨U',f,e1,G,hq⟩:=h q (aB ..) U hE
  obtain⟨z,e2,Z,Y⟩:=as1 hok E Q l U' G λ d' F=>h d' (ax _ F)
  refine⟨f::z,?_,by simp[Z],λ i J=>?_⟩
  .show qH ok g (D.int (q:Int)::za l) U u=_
   unfold qH
   rw[if_pos hok,e1]
   simp only[R.bind_ok]
   rw[e2]
   rfl
  .cases i with
   | zero=>exact hq
   | succ i=>exact Y i (by simpa using J)
theorem aq1 {n i:Nat}(h:i<n):(aP n).getD i 0=i:=by rw[ay,bR h];rfl
theorem bE3 {w:List Nat}{t u:Tr}{k j:Nat}:Mt' w (.two true t u) k j↔Mt' w t k j\/Mt' w u k j:=by
 constructor
 .intro h
  cases h with
  | inl h=>exact .inl h
  | inr h=>exact .inr h
 .rintro(h|h)
  .exact .inl h
  .exact .inr h
theorem bk5 {w:List Nat}{t u:Tr}{k j:Nat}:Mt' w (.two false t u) k j↔∃ m,Mt' w t k m/\Mt' w u m j:=by
 constructor
 .intro h
  cases h with
  | both h g=>exact⟨_,h,g⟩
 .rintro⟨m,h,g⟩
  exact .both h g
theorem be1 (b:Bool)(s:Sto):bi .int [.bl b] s=.ok (.int ((b.toNat:Nat):Int)) s:=by cases b<;>rfl
theorem bG1 (b:Bool)(m j:Nat):(b.toNat*2^m).testBit j=true↔b=true/\j=m:=by
 cases b with
 | false=>simp
 | true =>
  rw[Bool.toNat_true,jp,eS,decide_eq_true_eq]
  simp[eq_comm]
theorem af9 (l:List Nat)(n:Nat):(O.lst (za l)).bnd n=true:=by unfold O.bnd;exact aj7 _ _
theorem ah3:∀(t:Tr) (n:Nat) {w:List Nat},w.length<=40->∀(S:Sto),∃ G,(aa1 P (n+t.dep+2)).call "_law_ends" [t.d,.str w] S=.ok (.ref S.length) (S++[.lst (za G)])/\Bt w t G
 | .letter c,n,w,hw,S=>by
  have I0:∀ S,ixM (Tr.letter c).d (.int 0) S=.ok (.str qI) S:=λ S=>rfl
  have I1:∀ S,ixM (Tr.letter c).d (.int 1) S=.ok (.str [c]) S:=λ S=>rfl
  obtain⟨l',cm,l1,l2⟩:=as1 (g:=qm (aa1 P (n+2)) (.one 0) (.bin .shl (.bi .int (.cons (.cmp .eq (.slLU (.var 1) (.var 0) (.bin .add (.var 0) (.cst (.int 1)))) (.ix (.var 2) (.cst (.int 1)))) .nil)) (.bin .add (.var 0) (.cst (.int 1))))) (ok:=λ J=>chk S J []) (u:=S) rfl (λ U=>∃ x,U=[x,some (.str w),some (Tr.letter c).d]) (λ q f=>∀ j,f.testBit j=true↔Mt' w (.letter c) q j) (aP (w.length+1)) [none,some (.str w),some (Tr.letter c).d] ⟨none,rfl⟩ (by
   rintro q hq U ⟨x,rfl⟩
   have hq:=br.mp hq
   have a1:(q:Int)+1=((q+1:Nat):Int):=by lia
   have sl:=ba2 (w:=w) (k:=q) (by lia) S
   rw[a1]at sl
   have E2:zc .eq (.str ((w.drop q).take 1)) (.str [c]) S=.ok (.bl ((w.drop q).take 1==[c])) S:=z7 rfl S
   have sh:=bh5 (a:=(((w.drop q).take 1==[c]):Bool).toNat) (k:=q+1) (by cases((w.drop q).take 1==[c])<;>decide) (by lia) S
   refine⟨[some (.int (q:Int)),some (.str w),some (Tr.letter c).d],(((w.drop q).take 1==[c]):Bool).toNat*2^(q+1),?_,⟨_,rfl⟩,λ j=>?_⟩
   .unfold qm
    tbr_iter [ag1,a1,sl,I1,E2,be1,sh]
   .rw[bG1,beq_iff_eq]
    constructor
    .rintro⟨z1,rfl⟩
     by_cases h:q<w.length
     .rw[aR6 h]at z1
      injection z1 with z1 _
      exact .letter (by rw[af h,z1])
     .rw[cT (by lia)]at z1;cases z1
    .intro h
     cases h with
     | letter h =>
      have hlt:=(ac.mp h).1
      rw[af hlt]at h
      rw[aR6 hlt,aw h]
      exact⟨rfl,rfl⟩)
  rw[bI]at l1 l2
  refine⟨l',?_,l1,λ k hk j=>by have:=l2 k (by lia);rw[aq1 (by omega)]at this;exact this j⟩
  have c0:(aa1 P (n+(Tr.letter c).dep+2)).call "_law_ends" [(Tr.letter c).d,.str w] S=_:=zd ac2 (n:=n+2) rfl
  rw[c0,qh,show(bj some [(Tr.letter c).d,D.str w]++ai ac2.vs none)=[some (Tr.letter c).d,some (.str w),none,none,none]from rfl]
  have E1:∀ S,zc .eq (.str qI) (.str [108,101,116,116,101,114]) S=.ok (.bl true) S:=λ S=>z7 (by decide) S
  have z:∀ u,bi .len [.str w] u=.ok (.int w.length) u:=λ u=>rfl
  have ek:(w.length:Int)+1=((w.length+1:Nat):Int):=by lia
  have e1:az8 (.int ((w.length+1:Nat):Int)) S=.ok ⟨za (aP (w.length+1)),[]⟩ S:=by rw[zO (by unfold Ww62;lia) (by unfold Ww62;lia),ag7]
  have hL:(za (aP (w.length+1))).length<=LIM:=by rw[zn,bI];unfold LIM;lia
  have cap:qd [some (Tr.letter c).d,some (D.str w),some (D.int w.length),none,none] [none,some 1,some 0]=[none,some (.str w),some (Tr.letter c).d]:=rfl
  have Y:∀(l:List D) (u:Sto),mk .list l u=.ok (.ref u.length) (u++[.lst l]):=λ _ _=>rfl
  tbr_iter [z,I0,E1,ek,zR,evI_rng1,e1,if_pos hL,cap,cm,Y]
  exact zL (s:=S) (t:=[]) (u:=[]) (af9 _ _)
 | .nothing,n,w,hw,S=>by
  refine⟨(aP (w.length+1)).map λ k=>2^k,?_,by simp,λ k hk j=>?_⟩
  .have c0:(aa1 P (n+Tr.nothing.dep+2)).call "_law_ends" [Tr.nothing.d,.str w] S=_:=zd ac2 (n:=n+2) rfl
   rw[c0,qh,show(bj some [Tr.nothing.d,D.str w]++ai ac2.vs none)=[some Tr.nothing.d,some (.str w),none,none,none]from rfl]
   have I0:∀ S,ixM Tr.nothing.d (.int 0) S=.ok (.str zK) S:=λ S=>rfl
   have E1:∀ S,zc .eq (.str zK) (.str [108,101,116,116,101,114]) S=.ok (.bl false) S:=λ S=>z7 (by decide) S
   have E2:∀ S,zc .eq (.str zK) (.str [110,111,116,104,105,110,103]) S=.ok (.bl true) S:=λ S=>z7 (by decide) S
   have z:∀ u,bi .len [.str w] u=.ok (.int w.length) u:=λ u=>rfl
   have ek:(w.length:Int)+1=((w.length+1:Nat):Int):=by lia
   have e1:az8 (.int ((w.length+1:Nat):Int)) S=.ok ⟨za (aP (w.length+1)),[]⟩ S:=by rw[zO (by unfold Ww62;lia) (by unfold Ww62;lia),ag7]
   have hL:(za (aP (w.length+1))).length<=LIM:=by rw[zn,bI];unfold LIM;lia
   have pc:=aH4 (aa1 P (n+2)) (S:=S) (w.length+1) (by lia) (ok:=λ J=>chk S J []) rfl
   have cap:qd [some Tr.nothing.d,some (D.str w),some (D.int w.length),none,none] [none]=[none]:=rfl
   have Y:∀(l:List D) (u:Sto),mk .list l u=.ok (.ref u.length) (u++[.lst l]):=λ _ _=>rfl
   tbr_iter [z,I0,E1,E2,ek,zR,evI_rng1,e1,if_pos hL,cap,pc,Y]
   exact zL (s:=S) (t:=[]) (u:=[]) (af9 _ _)
  .rw[qE _ (by lia),eS,decide_eq_true_eq]
   constructor
   .rintro rfl;exact .nothing hk
   .intro h;cases h;rfl
 | .rep t,n,w,hw,S=>by
  obtain⟨G,e1,Z⟩:=ah3 t n hw S
  obtain⟨F,e2,hF⟩:=bk9 (P:=P) (n+t.dep) hw Z (S:=S++[.lst (za G)]) zW
  refine⟨F,?_,hF⟩
  have c0:(aa1 P (n+(Tr.rep t).dep+2)).call "_law_ends" [(Tr.rep t).d,.str w] S=_:=zd ac2 (n:=n+t.dep+2) rfl
  rw[c0,qh,show(bj some [(Tr.rep t).d,D.str w]++ai ac2.vs none)=[some (Tr.rep t).d,some (.str w),none,none,none]from rfl]
  have I0:∀ S,ixM (Tr.rep t).d (.int 0) S=.ok (.str zD) S:=λ S=>rfl
  have I1:∀ S,ixM (Tr.rep t).d (.int 1) S=.ok t.d S:=λ S=>rfl
  have E1:∀ S,zc .eq (.str zD) (.str [108,101,116,116,101,114]) S=.ok (.bl false) S:=λ S=>z7 (by decide) S
  have E2:∀ S,zc .eq (.str zD) (.str [110,111,116,104,105,110,103]) S=.ok (.bl false) S:=λ S=>z7 (by decide) S
  have E3:∀ S,zc .eq (.str zD) (.str [114,101,112,101,97,116]) S=.ok (.bl true) S:=λ S=>z7 (by decide) S
  have z:∀ u,bi .len [.str w] u=.ok (.int w.length) u:=λ u=>rfl
  tbr_iter [z,I0,I1,E1,E2,E3,e1,e2]
  have cn:=zL (s:=S) (t:=[.lst (za G)]) (u:=[]) (o:=.lst (za F)) (af9 _ _)
  rw[aQ,am]
  exact cn
 | .two x t u,n,w,hw,S=>by
  obtain⟨G,e1,Z⟩:=ah3 t (n+max t.dep u.dep - t.dep) hw S
  rw[show n+max t.dep u.dep - t.dep+t.dep+2=n+max t.dep u.dep+2 by lia]at e1
  obtain⟨Ru,e2,hU⟩:=ah3 u (n+max t.dep u.dep - u.dep) hw (S++[.lst (za G)])
  rw[show n+max t.dep u.dep - u.dep+u.dep+2=n+max t.dep u.dep+2 by lia]at e2
  have c0:(aa1 P (n+(Tr.two x t u).dep+2)).call "_law_ends" [(Tr.two x t u).d,.str w] S=_:=zd ac2 (n:=n+max t.dep u.dep+2) rfl
  have z:∀ u,bi .len [.str w] u=.ok (.int w.length) u:=λ u=>rfl
  have ek:(w.length:Int)+1=((w.length+1:Nat):Int):=by omega
  generalize hT:S++[O.lst (za G)]++[O.lst (za Ru)]=T at *
  have gR:T[S.length]?=some (.lst (za G)):=by rw[<-hT];exact aa2 zW
  have gU:T[S.length+1]?=some (.lst (za Ru)):=by rw[<-hT,show S.length+1=(S++[O.lst (za G)]).length by simp];exact zW
  have a0:(S++[O.lst (za G)]).length=S.length+1:=by simp
  have Y:∀(l:List D) (u:Sto),mk .list l u=.ok (.ref u.length) (u++[.lst l]):=λ _ _=>rfl
  have fin:∀ F:List Nat,zm S (.ref T.length) (T++[.lst (za F)])=.ok (.ref S.length) (S++[.lst (za F)]):=λ F=>by
   have cn:=zL (s:=S) (t:=[.lst (za G),.lst (za Ru)]) (u:=[]) (o:=.lst (za F)) (af9 _ _)
   rw[<-hT]
   have e:S++[O.lst (za G)]++[O.lst (za Ru)]++[O.lst (za F)]=S++([O.lst (za G),O.lst (za Ru)]++[O.lst (za F)]):=by simp
   rw[e,show(S++[O.lst (za G)]++[O.lst (za Ru)]).length=S.length+[O.lst (za G),O.lst (za Ru)].length by simp]
   exact cn
  cases x with
  | true =>
   obtain⟨l',cm,l1,l2⟩:=as1 (g:=qm (aa1 P (n+max t.dep u.dep+2)) (.one 0) (.bin .bor (.ix (.var 1) (.var 0)) (.ix (.var 2) (.var 0)))) (ok:=λ J=>chk T J []) (u:=T) rfl (λ U=>∃ x,U=[x,some (.ref S.length),some (.ref (S.length+1))]) (λ q f=>∀ j,f.testBit j=true↔Mt' w (.two true t u) q j) (aP (w.length+1)) [none,some (.ref S.length),some (.ref (S.length+1))] ⟨none,rfl⟩ (by
    rintro q hq U ⟨x,rfl⟩
    have hq:=br.mp hq
    have i1:=zw gR (qi (k:=q) (by rw[Z.len];omega))
    have i2:=zw gU (qi (k:=q) (by rw[hU.len];omega))
    refine⟨[some (.int (q:Int)),some (.ref S.length),some (.ref (S.length+1))],G.getD q 0 ||| Ru.getD q 0,?_,⟨_,rfl⟩,λ j=>?_⟩
    .unfold qm
     tbr_iter [i1,i2,bu6]
    .rw[gM,bn,Z.bit q (by lia),hU.bit q (by omega),bE3])
   rw[bI]at l1 l2
   refine⟨l',?_,l1,λ k hk j=>by have:=l2 k (by lia);rw[aq1 (by omega)]at this;exact this j⟩
   rw[c0,qh,show(bj some [(Tr.two true t u).d,D.str w]++ai ac2.vs none)=[some (Tr.two true t u).d,some (.str w),none,none,none]from rfl]
   have I0:∀ S,ixM (Tr.two true t u).d (.int 0) S=.ok (.str zp) S:=λ S=>rfl
   have I1:∀ S,ixM (Tr.two true t u).d (.int 1) S=.ok t.d S:=λ S=>rfl
   have I2:∀ S,ixM (Tr.two true t u).d (.int 2) S=.ok u.d S:=λ S=>rfl
   have E1:∀ S,zc .eq (.str zp) (.str [108,101,116,116,101,114]) S=.ok (.bl false) S:=λ S=>z7 (by decide) S
   have E2:∀ S,zc .eq (.str zp) (.str [110,111,116,104,105,110,103]) S=.ok (.bl false) S:=λ S=>z7 (by decide) S
   have E3:∀ S,zc .eq (.str zp) (.str [114,101,112,101,97,116]) S=.ok (.bl false) S:=λ S=>z7 (by decide) S
   have E4:∀ S,zc .eq (.str zp) (.str [101,105,116,104,101,114]) S=.ok (.bl true) S:=λ S=>z7 (by decide) S
   have r1:az8 (.int ((w.length+1:Nat):Int)) T=.ok ⟨za (aP (w.length+1)),[]⟩ T:=by rw[zO (by unfold Ww62;lia) (by unfold Ww62;lia),ag7]
   have hL:(za (aP (w.length+1))).length<=LIM:=by rw[zn,bI];unfold LIM;lia
   have cap:qd [some (Tr.two true t u).d,some (D.str w),some (D.int w.length),some (D.ref S.length),some (D.ref (S.length+1))] [none,some 3,some 4]=[none,some (.ref S.length),some (.ref (S.length+1))]:=rfl
   tbr_iter [z,I0,I1,I2,E1,E2,E3,E4,e1,e2,a0,ek,zR,evI_rng1,r1,if_pos hL,cap,cm,Y]
   exact fin _
  | false =>
   obtain⟨l',cm,l1,l2⟩:=as1 (g:=qm (aa1 P (n+max t.dep u.dep+2)) (.one 0) (.call "_law_onward" (.ex (.var 0) (.ex (.var 1) .nil)))) (ok:=λ J=>chk T J [S.length]) (u:=T) (by unfold chk;simp) (λ U=>∃ x,U=[x,some (.ref (S.length+1))]) (λ v f=>∀ j,f.testBit j=true↔∃ k,v.testBit k=true/\(Ru.getD k 0).testBit j=true) G [none,some (.ref (S.length+1))] ⟨none,rfl⟩ (by
    rintro q hq U ⟨x,rfl⟩
    obtain⟨i,hi,rfl⟩:=cb.mp hq
    have a2:i<=w.length:=by rw[Z.len]at hi;omega
    have hd:G.getD i 0=G[i]:=by rw[ay,af hi];rfl
    obtain⟨f,o1,o2⟩:=ax3 (P:=P) (n+max t.dep u.dep+1) gU (by rw[hU.len];lia) G[i] λ k hk=>by rw[hU.len];have:=((Z.bit i a2 k).mp (by rw[hd];exact hk)).le.2;lia
    refine⟨[some (.int (G[i]:Int)),some (.ref (S.length+1))],f,?_,⟨_,rfl⟩,o2⟩
    unfold qm
    tbr_iter [o1])
   refine⟨l',?_,l1.trans Z.len,λ k hk j=>?_⟩
   .rw[c0,qh,show(bj some [(Tr.two false t u).d,D.str w]++ai ac2.vs none)=[some (Tr.two false t u).d,some (.str w),none,none,none]from rfl]
    have I0:∀ S,ixM (Tr.two false t u).d (.int 0) S=.ok (.str zo) S:=λ S=>rfl
    have I1:∀ S,ixM (Tr.two false t u).d (.int 1) S=.ok t.d S:=λ S=>rfl
    have I2:∀ S,ixM (Tr.two false t u).d (.int 2) S=.ok u.d S:=λ S=>rfl
    have E1:∀ S,zc .eq (.str zo) (.str [108,101,116,116,101,114]) S=.ok (.bl false) S:=λ S=>z7 (by decide) S
    have E2:∀ S,zc .eq (.str zo) (.str [110,111,116,104,105,110,103]) S=.ok (.bl false) S:=λ S=>z7 (by decide) S
    have E3:∀ S,zc .eq (.str zo) (.str [114,101,112,101,97,116]) S=.ok (.bl false) S:=λ S=>z7 (by decide) S
    have E4:∀ S,zc .eq (.str zo) (.str [101,105,116,104,101,114]) S=.ok (.bl false) S:=λ S=>z7 (by decide) S
    have q1:ao6 (.ref S.length) T=.ok ⟨za G,[S.length]⟩ T:=by unfold ao6;simp only[gR]
    have hL:(za G).length<=LIM:=by rw[zn,Z.len];unfold LIM;lia
    have cap:qd [some (Tr.two false t u).d,some (D.str w),some (D.int w.length),some (D.ref S.length),some (D.ref (S.length+1))] [none,some 4]=[none,some (.ref (S.length+1))]:=rfl
    tbr_iter [z,I0,I1,I2,E1,E2,E3,E4,e1,e2,a0,zR,q1,if_pos hL,cap,cm,Y]
    exact fin _
   .rw[l2 k (by rw[Z.len];lia),bk5]
    constructor
    .rintro⟨m,z1,z2⟩
     have y:=(Z.bit k hk m).mp z1
     exact⟨m,y,(hU.bit m y.le.2 j).mp z2⟩
    .rintro⟨m,z1,z2⟩
     exact⟨m,(Z.bit k hk m).mpr z1,(hU.bit m z1.le.2 j).mpr z2⟩
open Classical in
theorem bv9 (t:Tr)(n:Nat){w:List Nat}(hw:w.length<=40)(S:Sto):(aa1 P (n+t.dep+3)).call "_law_held" [t.d,.str w] S=.ok (.bl (decide (Mt' w t 0 w.length))) S:=by
 obtain⟨h,e1,G⟩:=ah3 (P:=P) t n hw S
 have Y:(aa1 P (n+t.dep+3)).call "_law_held" [t.d,.str w] S=_:=zd ad6 (n:=n+t.dep+2) rfl
 rw[Y,show ad6.body=(.cons (.ret (.cmp .eq (.bin .band (.bin .shr (.ix (.call "_law_ends" (.ex (.var 0) (.ex (.var 1) .nil))) (.cst (.int 0))) (.bi .len (.cons (.var 1) .nil))) (.cst (.int 1))) (.cst (.int 1)))) .nil)from rfl,show(bj some [t.d,D.str w]++ai ad6.vs none)=[some t.d,some (.str w)]from rfl]
 have F:∀ u,bi .len [.str w] u=.ok (.int w.length) u:=λ u=>rfl
 have Z:ixM (.ref S.length) (.int 0) (S++[.lst (za h)])=.ok (.int ((h.getD 0 0:Nat):Int)) (S++[.lst (za h)]):=zw (j:=0) zW (qi (by rw[G.len];lia))
 have J:=bu7 (h.getD 0 0) w.length (S++[.lst (za h)])
 have i3:=bs4 (h.getD 0 0 / 2^w.length) (S++[.lst (za h)])
 have i4:zc .eq (.int ((h.getD 0 0 / 2^w.length % 2:Nat):Int)) (.int 1) (S++[.lst (za h)])=.ok (.bl (decide (Mt' w t 0 w.length))) (S++[.lst (za h)]):=by
  show R.ok (D.bl ((((h.getD 0 0 / 2^w.length % 2:Nat):Int))==1)) _=_
  congr 2
  have hb:=G.bit 0 (bS _) w.length
  rw[cI,decide_eq_true_eq]at hb
  by_cases z:Mt' w t 0 w.length
  .rw[hb.mpr z,decide_eq_true z];rfl
  .rw[decide_eq_false z]
   have:h.getD 0 0 / 2^w.length % 2≠1:=λ y=>z (hb.mp y)
   exact beq_eq_false_iff_ne.mpr λ y=>this (by omega)
 tbr_iter [e1,Z,F,J,i3,i4]
 exact qq (by intro n;rfl) (by nofun)
end
noncomputable def bZ7:Ss:=.cons (.ite (.cmp .gt (.ix (.var 2) (.cst (.int 0))) (.cst (.int 0))) (.cons (.asg (.one 4) (.bin .add (.var 4) (.call "_law_member" (.ex (.var 0) (.ex (.ix (.var 1) (.cst (.int 1))) (.ex (.var 2) .nil)))))) .nil) .nil) .nil
theorem zX:ab2.body=(.cons (.setIx (.var 2) (.cst (.int 0)) (.bin .sub (.ix (.var 2) (.cst (.int 0))) (.cst (.int 1)))) (.cons (.ite (.cmp .eq (.ix (.var 1) (.cst (.int 0))) (.cst (.str [108,101,116,116,101,114]))) (.cons (.ret (.ix (.var 1) (.cst (.int 1)))) .nil) .nil) (.cons (.ite (.cmp .eq (.ix (.var 1) (.cst (.int 0))) (.cst (.str [110,111,116,104,105,110,103]))) (.cons (.ret (.cst (.str []))) .nil) .nil) (.cons (.ite (.cmp .eq (.ix (.var 1) (.cst (.int 0))) (.cst (.str [101,105,116,104,101,114]))) (.cons (.ret (.call "_law_member" (.ex (.var 0) (.ex (.ix (.var 1) (.bin .add (.cst (.int 1)) (.call "_law_take" (.ex (.var 0) (.ex (.cst (.int 2)) .nil))))) (.ex (.var 2) .nil))))) .nil) .nil) (.cons (.ite (.cmp .eq (.ix (.var 1) (.cst (.int 0))) (.cst (.str [98,101,104,105,110,100]))) (.cons (.asg (.one 3) (.call "_law_member" (.ex (.var 0) (.ex (.ix (.var 1) (.cst (.int 1))) (.ex (.var 2) .nil))))) (.cons (.ret (.bin .add (.var 3) (.call "_law_member" (.ex (.var 0) (.ex (.ix (.var 1) (.cst (.int 2))) (.ex (.var 2) .nil)))))) .nil)) .nil) (.cons (.asg (.one 4) (.cst (.str []))) (.cons (.for_ (.one 5) (.rng1 (.call "_law_take" (.ex (.var 0) (.ex (.cst (.int 5)) .nil)))) bZ7) (.cons (.ret (.var 4)) .nil)))))))):=rfl
def cf6 (s:Sto)(r q B:Nat)(x:R D):Prop:=∃(m:List Nat) (b:Nat×Nat) (y':Int),m.length+40*y'.toNat<=B/\x=.ok (.str m) (SS s r q b y')
theorem ah8 {s:Sto}{r q B:Nat}{m:List Nat}{b:Nat×Nat}{y':Int}(h:m.length+40*y'.toNat<=B):cf6 s r q B (zm s (.str m) (SS s r q b y')):=by
 have z:=aJ2 (s:=s) (T:=[]) (r:=r) (q:=q) (b:=b) (y:=y') (d:=.str m) (λ _=>rfl) (by nofun)
 rw[aK]at z
 exact⟨m,b,y',h,z⟩
section
variable {P:Pr} [Has P ac6] [Has P ab2]
theorem qf {r q:Nat}(h:r≠q):∀(t:Tr) (n:Nat),t.sz<=40->∀(s:Sto) (y:Int),(∃ b,s[r]?=some (zv b))->s[q]?=some (.lst [.int y])->y<=20->cf6 s r q (t.sz+40*(y - 1).toNat) ((aa1 P (n+t.dep+1)).call "_law_member" [.ref r,t.d,.ref q] s)
 | t,n,ht,s,y,⟨b0,hb⟩,hq,hy=>by
  have hr:r<s.length:=(ac.mp hb).1
  have F:q<s.length:=(ac.mp hq).1
  have il:∀(b:Nat×Nat) (y:Int),ixM (.ref q) (.int 0) (SS s r q b y)=.ok (.int y) (SS s r q b y):=λ b y=>zw (j:=0) (bn9 F) rfl
  have i0:ixM (.ref q) (.int 0) s=.ok (.int y) s:=zw (j:=0) hq rfl
  have z:setIx (.ref q) (.int 0) (.int (y - 1)) s=.ok () (SS s r q b0 (y - 1)):=by
   have:=at6 (j:=0) (v:=.int (y - 1)) hq (by simp)
   rw[show((0:Nat):Int)=0 from rfl]at this
   rw[this]
   congr 1
   have e:=aC6 (s:=s) (r:=r) (q:=q) (b:=b0) (y:=y) (y':=y - 1)
   rw[aX8 hb hq]at e
   exact e
  match t,ht with
  | .letter c,ht =>
   have Y:(aa1 P (n+(Tr.letter c).dep+1)).call "_law_member" [.ref r,(Tr.letter c).d,.ref q] s=_:=zd ab2 (n:=n+1) rfl
   rw[Y,zX,show(bj some [D.ref r,(Tr.letter c).d,.ref q]++ai ab2.vs none)=[some (.ref r),some (Tr.letter c).d,some (.ref q),none,none,none]from rfl]
   have G:∀ S,ixM (Tr.letter c).d (.int 0) S=.ok (.str qI) S:=λ S=>rfl
   have Z:∀ S,ixM (Tr.letter c).d (.int 1) S=.ok (.str [c]) S:=λ S=>rfl
   have J:∀ S,zc .eq (.str qI) (.str [108,101,116,116,101,114]) S=.ok (.bl true) S:=λ S=>z7 (by decide) S
   tbr_iter [i0,z,G,Z,J]
   exact ah8 (by show 1+_<=1+_;lia)
  | .nothing,ht =>
   have Y:(aa1 P (n+Tr.nothing.dep+1)).call "_law_member" [.ref r,Tr.nothing.d,.ref q] s=_:=zd ab2 (n:=n+1) rfl
   rw[Y,zX,show(bj some [D.ref r,Tr.nothing.d,.ref q]++ai ab2.vs none)=[some (.ref r),some Tr.nothing.d,some (.ref q),none,none,none]from rfl]
   have G:∀ S,ixM Tr.nothing.d (.int 0) S=.ok (.str zK) S:=λ S=>rfl
   have J:∀ S,zc .eq (.str zK) (.str [108,101,116,116,101,114]) S=.ok (.bl false) S:=λ S=>z7 (by decide) S
   have E2:∀ S,zc .eq (.str zK) (.str [110,111,116,104,105,110,103]) S=.ok (.bl true) S:=λ S=>z7 (by decide) S
   tbr_iter [i0,z,G,J,E2]
   exact ah8 (by show 0+_<=1+_;lia)
  | .rep t,ht =>
   have a1:t.sz+1<=40:=ht
   have Y:(aa1 P (n+(Tr.rep t).dep+1)).call "_law_member" [.ref r,(Tr.rep t).d,.ref q] s=_:=zd ab2 (n:=n+t.dep+1) rfl
   rw[Y,zX,show(bj some [D.ref r,(Tr.rep t).d,.ref q]++ai ab2.vs none)=[some (.ref r),some (Tr.rep t).d,some (.ref q),none,none,none]from rfl]
   have G:∀ S,ixM (Tr.rep t).d (.int 0) S=.ok (.str zD) S:=λ S=>rfl
   have Z:∀ S,ixM (Tr.rep t).d (.int 1) S=.ok t.d S:=λ S=>rfl
   have J:∀ S,zc .eq (.str zD) (.str [108,101,116,116,101,114]) S=.ok (.bl false) S:=λ S=>z7 (by decide) S
   have E2:∀ S,zc .eq (.str zD) (.str [110,111,116,104,105,110,103]) S=.ok (.bl false) S:=λ S=>z7 (by decide) S
   have E3:∀ S,zc .eq (.str zD) (.str [101,105,116,104,101,114]) S=.ok (.bl false) S:=λ S=>z7 (by decide) S
   have E4:∀ S,zc .eq (.str zD) (.str [98,101,104,105,110,100]) S=.ok (.bl false) S:=λ S=>z7 (by decide) S
   obtain⟨k,b1,hk,et⟩:=zP (P:=P) (n+t.dep) (s:=SS s r q b0 (y - 1)) ⟨b0,bk7 hr h⟩ 5 (by decide) (qb (by decide))
   rw[as3 h]at et
   tbr_iter [i0,z,G,J,E2,E3,E4,et]
   rw[zO (by unfold Ww62;lia) (by unfold Ww62;lia)]
   simp only[R.bind_ok]
   rw[R.bind_assoc]
   refine z9 (Ww:=cf6 s r q ((Tr.rep t).sz+40*(y - 1).toNat)) (λ j U u=>∃(m:List Nat) (b:Nat×Nat) (y':Int) (x:Option D),m.length+40*y'.toNat<=40*(y - 1).toNat/\U=[some (.ref r),some (Tr.rep t).d,some (.ref q),none,some (.str m),x]/\u=SS s r q b y') ⟨[],b1,y - 1,_,by simp,rfl,rfl⟩ (λ _ _ _ _ _=>rfl) ?_ ?_
   .rintro j d U u hj ⟨m,b,y',x,hm,rfl,rfl⟩
    obtain⟨a3,rfl⟩:=zQ hj
    have gy:zc .gt (.int y') (.int 0) (SS s r q b y')=.ok (.bl (decide (y' > 0))) (SS s r q b y'):=gt_int ..
    by_cases h0:y' > 0
    .rw[decide_eq_true h0]at gy
     obtain⟨m2,b2,y2,a0,e2⟩:=qf h t n (by lia) (SS s r q b y') y' ⟨b,bk7 hr h⟩ (bn9 F) (by lia)
     rw[aO8 h]at e2
     have ad:=ae3 (a:=m) (b:=m2) (s:=SS s r q b2 y2) (by unfold LIM;omega)
     refine ah9 (U:=[some (.ref r),some (Tr.rep t).d,some (.ref q),none,some (.str (m++m2)),some (.int (0+j))]) (s:=SS s r q b2 y2) ?_ ⟨m++m2,b2,y2,_,?_,rfl,rfl⟩
     .unfold turn bZ7
      tbr_iter [il,gy,Z,e2,ad]
     .rw[am];lia
    .rw[decide_eq_false h0]at gy
     refine ah9 (U:=[some (.ref r),some (Tr.rep t).d,some (.ref q),none,some (.str m),some (.int (0+j))]) (s:=SS s r q b y') ?_ ⟨m,b,y',_,hm,rfl,rfl⟩
     unfold turn bZ7
     tbr_iter [il,gy]
   .rintro U u ⟨m,b,y',x,hm,rfl,rfl⟩
    tbr_iter []
    exact ah8 (by lia)
  | .two true t u,ht =>
   have a1:t.sz+u.sz+1<=40:=ht
   have Y:(aa1 P (n+(Tr.two true t u).dep+1)).call "_law_member" [.ref r,(Tr.two true t u).d,.ref q] s=_:=zd ab2 (n:=n+max t.dep u.dep+1) rfl
   rw[Y,zX,show(bj some [D.ref r,(Tr.two true t u).d,.ref q]++ai ab2.vs none)=[some (.ref r),some (Tr.two true t u).d,some (.ref q),none,none,none]from rfl]
   have G:∀ S,ixM (Tr.two true t u).d (.int 0) S=.ok (.str zp) S:=λ S=>rfl
   have J:∀ S,zc .eq (.str zp) (.str [108,101,116,116,101,114]) S=.ok (.bl false) S:=λ S=>z7 (by decide) S
   have E2:∀ S,zc .eq (.str zp) (.str [110,111,116,104,105,110,103]) S=.ok (.bl false) S:=λ S=>z7 (by decide) S
   have E3:∀ S,zc .eq (.str zp) (.str [101,105,116,104,101,114]) S=.ok (.bl true) S:=λ S=>z7 (by decide) S
   obtain⟨k,b1,hk,et⟩:=zP (P:=P) (n+max t.dep u.dep) (s:=SS s r q b0 (y - 1)) ⟨b0,bk7 hr h⟩ 2 (by decide) (qb (by decide))
   rw[as3 h]at et
   obtain⟨m1,b2,y2,a2,e1⟩:=qf h t (n+max t.dep u.dep - t.dep) (by lia) (SS s r q b1 (y - 1)) (y - 1) ⟨b1,bk7 hr h⟩ (bn9 F) (by lia)
   rw[aO8 h,show n+max t.dep u.dep - t.dep+t.dep+1=n+max t.dep u.dep+1 by lia]at e1
   obtain⟨m2,b3,y3,a0,e2⟩:=qf h u (n+max t.dep u.dep - u.dep) (by lia) (SS s r q b1 (y - 1)) (y - 1) ⟨b1,bk7 hr h⟩ (bn9 F) (by lia)
   rw[aO8 h,show n+max t.dep u.dep - u.dep+u.dep+1=n+max t.dep u.dep+1 by lia]at e2
   have hs:(Tr.two true t u).sz=t.sz+u.sz+1:=rfl
   rcases(by lia:k=0\/k=1)with rfl|rfl
   .have Z:∀ S,ixM (Tr.two true t u).d (.int (1+((0:Nat):Int))) S=.ok t.d S:=λ S=>rfl
    tbr_iter [i0,z,G,J,E2,E3,et,Z,e1]
    exact ah8 (by lia)
   .have Z:∀ S,ixM (Tr.two true t u).d (.int (1+((1:Nat):Int))) S=.ok u.d S:=λ S=>rfl
    tbr_iter [i0,z,G,J,E2,E3,et,Z,e2]
    exact ah8 (by omega)
  | .two false t u,ht =>
   have a1:t.sz+u.sz+1<=40:=ht
   have Y:(aa1 P (n+(Tr.two false t u).dep+1)).call "_law_member" [.ref r,(Tr.two false t u).d,.ref q] s=_:=zd ab2 (n:=n+max t.dep u.dep+1) rfl
   rw[Y,zX,show(bj some [D.ref r,(Tr.two false t u).d,.ref q]++ai ab2.vs none)=[some (.ref r),some (Tr.two false t u).d,some (.ref q),none,none,none]from rfl]
   have G:∀ S,ixM (Tr.two false t u).d (.int 0) S=.ok (.str zo) S:=λ S=>rfl
   have Z:∀ S,ixM (Tr.two false t u).d (.int 1) S=.ok t.d S:=λ S=>rfl
   have I2:∀ S,ixM (Tr.two false t u).d (.int 2) S=.ok u.d S:=λ S=>rfl
   have J:∀ S,zc .eq (.str zo) (.str [108,101,116,116,101,114]) S=.ok (.bl false) S:=λ S=>z7 (by decide) S
   have E2:∀ S,zc .eq (.str zo) (.str [110,111,116,104,105,110,103]) S=.ok (.bl false) S:=λ S=>z7 (by decide) S
   have E3:∀ S,zc .eq (.str zo) (.str [101,105,116,104,101,114]) S=.ok (.bl false) S:=λ S=>z7 (by decide) S
   have E4:∀ S,zc .eq (.str zo) (.str [98,101,104,105,110,100]) S=.ok (.bl true) S:=λ S=>z7 (by decide) S
   obtain⟨m1,b2,y2,a2,e1⟩:=qf h t (n+max t.dep u.dep - t.dep) (by lia) (SS s r q b0 (y - 1)) (y - 1) ⟨b0,bk7 hr h⟩ (bn9 F) (by lia)
   rw[aO8 h,show n+max t.dep u.dep - t.dep+t.dep+1=n+max t.dep u.dep+1 by lia]at e1
   obtain⟨m2,b3,y3,a0,e2⟩:=qf h u (n+max t.dep u.dep - u.dep) (by lia) (SS s r q b2 y2) y2 ⟨b2,bk7 hr h⟩ (bn9 F) (by lia)
   rw[aO8 h,show n+max t.dep u.dep - u.dep+u.dep+1=n+max t.dep u.dep+1 by lia]at e2
   have hs:(Tr.two false t u).sz=t.sz+u.sz+1:=rfl
   have ad:=ae3 (a:=m1) (b:=m2) (s:=SS s r q b3 y3) (by unfold LIM;omega)
   tbr_iter [i0,z,G,J,E2,E3,E4,Z,I2,e1,e2,ad]
   exact ah8 (by rw[am];omega)
def SpR (s:Sto)(r B:Nat)(x:R D):Prop:=∃(m:List Nat) (b:Nat×Nat),m.length<=B/\x=.ok (.str m) (s.set r (zv b))
theorem aS2 [Has P ai7](n:Nat){s:Sto}{r:Nat}(hs:∃ b,s[r]?=some (zv b)):SpR s r 40 ((aa1 P (n+2)).call "_law_word" [.ref r,.int 3,.int 40] s):=by
 have G:(aa1 P (n+2)).call "_law_word" [.ref r,.int 3,.int 40] s=_:=zd ai7 (n:=n+1) rfl
 have z:=ax1 hs
 obtain⟨a,h,ha,e1⟩:=zP (P:=P) n hs 41 (by decide) (by decide)
 rw[G]
 simp -implicitDefEqProofs [ai7,e1]
 rw[zO (by unfold Ww62;lia) (by unfold Ww62;lia)]
 simp only[R.bind_ok]
 refine z9 (Ww:=SpR s r 40) (λ j U u=>∃(b:Nat×Nat) (w:List Nat) (x:Option D),w.length=j/\U=[some (.ref r),some (.int 3),some (.int 40),some (.str w),x]/\u=s.set r (zv b)) ⟨h,[],none,rfl,rfl,rfl⟩ (λ _ _ _ _ _=>rfl) ?_ ?_
 .rintro j d U u hj ⟨b,w,x,hl,rfl,rfl⟩
  obtain⟨F,rfl⟩:=zQ hj
  obtain⟨k,c,hk,f⟩:=zP (P:=P) n (qt (b:=b) z) 3 (by lia) (qb (by lia))
  rw[bX]at f
  refine ah9 (U:=[some (.ref r),some (.int 3),some (.int 40),some (.str (w++[97+k])),some (.int j)]) (s:=s.set r (zv c)) ?_ ⟨c,_,_,by simp[hl],rfl,rfl⟩
  simp -implicitDefEqProofs [turn,f,aK4 (show k<3 by lia)]
  rw[ae3 (by unfold LIM;simp;lia)]
  rfl
 .rintro U u ⟨b,w,x,hl,rfl,rfl⟩
  simp -implicitDefEqProofs
  refine⟨w,b,?_,ai3 (λ _=>rfl) (by nofun) rfl⟩
  rw[hl];simp[ae1];lia
end
theorem aJ7 {α:Type}(l:List α)(h z:Option Int):(aj3 l h z).length<=l.length:=by
 unfold aj3
 rw[bB,cq]
 omega
theorem cg0 {α:Type}(l:List α):(aj3 l none (some 40)).length<=40:=by
 unfold aj3
 rw[bB,cq]
 have:hiB l.length (some 40)<=40:=by show sbd l.length 40<=40;unfold sbd;simp;lia
 lia
theorem slS (l:List Nat)(z h:Option Int)(s:Sto):slM (.str l) z h s=.ok (.str (aj3 l z h)) s:=rfl
theorem av6:∀ t:Tr,t.cnt<=t.sz
 | .nothing=>bS _
 | .letter _=>ah _
 | .rep t=>Nat.le_succ_of_le (av6 t)
 | .two _ t u=>by have:=av6 t;have:=av6 u;show t.cnt+u.cnt<=t.sz+u.sz+1;lia
section
variable {P:Pr} [Has P ac6] [Has P ac7]
theorem aZ1 (n:Nat){s:Sto}{r:Nat}(hs:∃ b,s[r]?=some (zv b)){w:List Nat}(hw:w.length<=40):SpR s r 100 ((aa1 P (n+2)).call "_law_spoilt" [.ref r,.str w] s):=by
 have e0:(aa1 P (n+2)).call "_law_spoilt" [.ref r,.str w] s=_:=zd ac7 (n:=n+1) rfl
 have Z:=ax1 hs
 obtain⟨a,b1,ha,e1⟩:=zP (P:=P) n hs ((w.length:Int)+1) (by lia) (qb (by lia))
 obtain⟨k,b2,hk,e2⟩:=zP (P:=P) n (qt (b:=b1) Z) 3 (by lia) (qb (by lia))
 rw[bX]at e2
 obtain⟨z,b3,a0,e3⟩:=zP (P:=P) n (qt (b:=b2) Z) 3 (by lia) (qb (by lia))
 rw[bX]at e3
 obtain⟨G,h,a3,e4⟩:=zP (P:=P) n (qt (b:=b3) Z) 3 (by lia) (qb (by lia))
 rw[bX]at e4
 have a1:=aK4 (k:=z) (by lia) (s.set r (zv b3))
 have a2:=aK4 (k:=G) (by lia) (s.set r (zv h))
 have F:∀ u,bi .len [.str w] u=.ok (.int w.length) u:=λ u=>rfl
 obtain⟨x,hx,ix⟩:∃ x:List Nat,x.length<=1/\ixM (.ref (s.set r (zv h)).length) (.int (k:Int)) (s.set r (zv h)++[.lst [.str [],.str [97+z],.str [97+G]]])=.ok (.str x) (s.set r (zv h)++[.lst [.str [],.str [97+z],.str [97+G]]]):=by
  rcases(by lia:k=0\/k=1\/k=2)with rfl|rfl|rfl
  .exact⟨[],by decide,zw (j:=0) zW rfl⟩
  .exact⟨[97+z],ah 1,zw (j:=1) zW rfl⟩
  .exact⟨[97+G],ah 1,zw (j:=2) zW rfl⟩
 generalize hT:s.set r (zv h)++[O.lst [.str [],.str [97+z],.str [97+G]]]=T at ix
 have h1:=aJ7 w none (some (a:Int))
 have Y:=ae3 (a:=aj3 w none (some (a:Int))) (b:=x) (s:=T) (by unfold LIM;lia)
 have cl:zc .lt (.int (k:Int)) (.int 2) T=.ok (.bl (decide ((k:Int)<2))) T:=lt_int ..
 have h2:=aJ7 w (some ((a:Int)+((decide ((k:Int)<2)).toNat:Nat))) none
 have J:=ae3 (a:=aj3 w none (some (a:Int))++x) (b:=aj3 w (some ((a:Int)+((decide ((k:Int)<2)).toNat:Nat))) none) (s:=T) (by unfold LIM;rw[am];lia)
 rw[e0,show ac7.body=(.cons (.asg (.one 2) (.call "_law_take" (.ex (.var 0) (.ex (.bin .add (.bi .len (.cons (.var 1) .nil)) (.cst (.int 1))) .nil)))) (.cons (.asg (.one 3) (.call "_law_take" (.ex (.var 0) (.ex (.cst (.int 3)) .nil)))) (.cons (.ret (.bin .add (.bin .add (.slU (.var 1) (.var 2)) (.ix (.lst (.cons (.cst (.str [])) (.cons (.ix (.cst (.str [97,98,99])) (.call "_law_take" (.ex (.var 0) (.ex (.cst (.int 3)) .nil)))) (.cons (.ix (.cst (.str [97,98,99])) (.call "_law_take" (.ex (.var 0) (.ex (.cst (.int 3)) .nil)))) .nil)))) (.var 3))) (.slL (.var 1) (.bin .add (.var 2) (.bi .int (.cons (.cmp .lt (.var 3) (.cst (.int 2))) .nil)))))) .nil)))from rfl,show(bj some [D.ref r,D.str w]++ai ac7.vs none)=[some (.ref r),some (.str w),none,none]from rfl]
 tbr_iter [F,e1,e2,e3,e4,a1,a2,bs2,bJ8,slS,hT,ix,cl,be1,Y,J]
 rw[<-hT]
 refine⟨_,h,?_,an8 (λ _=>rfl) (by nofun) rfl⟩
 rw[am,am]
 lia
end
inductive Pcs (w:List Nat)(t:Tr):Nat->Nat->Nat->Prop
 | nil {k:Nat}:Pcs w t k k 0
 | cons {k m j n:Nat}:k<m->Mt' w t k m->Pcs w t m j n->Pcs w t k j (n+1)
theorem Pcs.snoc {w:List Nat}{t:Tr}{k m j n:Nat}(h:Pcs w t k m n)(z:m<j)(g:Mt' w t m j):Pcs w t k j (n+1):=by
 induction h with
 | nil=>exact .cons z g .nil
 | cons a b c ih=>exact .cons a b (ih z g)
theorem Pcs.last {w:List Nat}{t:Tr}:∀ {n k j:Nat},Pcs w t k j (n+1)->∃ m,Pcs w t k m n/\m<j/\Mt' w t m j
 | 0,k,j,h=>by
  cases h with
  | cons a b c=>cases c;exact⟨k,.nil,a,b⟩
 | n+1,k,j,h=>by
  cases h with
  | cons a b c =>
   obtain⟨m,z,F,h3⟩:=Pcs.last c
   exact⟨m,.cons a b z,F,h3⟩
theorem Pcs.le {w:List Nat}{t:Tr}{k j n:Nat}(h:Pcs w t k j n):k<=j/\n<=j - k:=by
 induction h with
 | nil=>lia
 | cons a b c ih=>omega
noncomputable def zF:Option Nat->D
 | none=>.non
 | some n=>.int (n:Int)
theorem bi0 (o:Option Nat)(n:Nat):(zF o).bnd n=true:=by cases o<;>rfl
theorem bm9 (o:Option Nat)(r:Nat):zF o≠.ref r:=by cases o<;>nofun
def LeU (w:List Nat)(t:Tr)(k l:Nat)(v:Option Nat):Prop:=(∀ n,v=some n->Pcs w t k w.length n)/\∀ m n,k<m->m<=l->Mt' w t k m->Pcs w t m w.length n->∃ x,v=some x/\x<=n+1
def Lea (w:List Nat)(t:Tr)(k:Nat)(v:Option Nat):Prop:=(∀ n,v=some n->Pcs w t k w.length n)/\∀ n,Pcs w t k w.length n->∃ x,v=some x/\x<=n
theorem LeU.lea {w:List Nat}{t:Tr}{k:Nat}{v:Option Nat}(hk:k<w.length)(h:LeU w t k w.length v):Lea w t k v:=⟨h.1,λ n hn=>by
 cases hn with
 | nil=>lia
 | cons a b c=>exact h.2 _ _ a c.le.1 b c⟩
noncomputable def sub (w:List Nat)(a b:Nat):List Nat:=(w.drop a).take (b - a)
theorem bx6 {w:List Nat}{a b i:Nat}(h:a<=i)(z:i<b):(sub w a b)[i - a]?=w[i]?:=by
 unfold sub
 rw[fB (by lia),fg,show a+(i - a)=i by lia]
theorem aF4 {w:List Nat}{a b:Nat}(h:b<=w.length):(sub w a b).length=b - a:=by
 unfold sub
 rw[bB,cq]
 lia
theorem Mt'.sub {w:List Nat}{t:Tr}{k j:Nat}(h:Mt' w t k j):∀(a b:Nat),a<=k->j<=b->b<=w.length->Mt' (sub w a b) t (k - a) (j - a):=by
 induction h with
 | nothing h=>intro a b z F h3;exact .nothing (by rw[aF4 h3];lia)
 | @letter c k h =>
  intro a b z F h3
  have:=Mt'.letter (w:=DV.sub w a b) (c:=c) (k:=k - a) (by rw[bx6 z (by lia)];exact h)
  rw[show k+1 - a=k - a+1 by lia]
  exact this
 | inl h ih=>intro a b z F h3;exact .inl (ih a b z F h3)
 | inr h ih=>intro a b z F h3;exact .inr (ih a b z F h3)
 | both h g ih1 ih2 =>
  intro a b z F h3
  have:=h.le;have:=g.le
  exact .both (ih1 a b z (by lia) h3) (ih2 a b (by lia) F h3)
 | rep0 h=>intro a b z F h3;exact .rep0 (by rw[aF4 h3];omega)
 | repS h g ih1 ih2 =>
  intro a b z F h3
  have:=h.le;have:=g.le
  exact .repS (ih1 a b z (by omega) h3) (ih2 a b (by omega) F h3)
noncomputable def fwB:Ss:=.cons (.ite (.and (.cmp .eq (.bin .band (.bin .shr (.ix (.var 2) (.var 4)) (.var 5)) (.cst (.int 1))) (.cst (.int 1))) (.and (.notN (.ix (.var 3) (.var 5))) (.or (.isN (.ix (.var 3) (.var 4))) (.cmp .lt (.bin .add (.ix (.var 3) (.var 5)) (.cst (.int 1))) (.ix (.var 3) (.var 4)))))) (.cons (.setIx (.var 3) (.var 4) (.bin .add (.ix (.var 3) (.var 5)) (.cst (.int 1)))) .nil) .nil) .nil
noncomputable def fwA:Ss:=.cons (.for_ (.one 5) (.rng2 (.bin .add (.var 4) (.cst (.int 1))) (.bin .add (.bi .len (.cons (.var 1) .nil)) (.cst (.int 1)))) fwB) .nil
theorem aF9:ab3.body=(.cons (.asg (.one 2) (.call "_law_ends" (.ex (.var 0) (.ex (.var 1) .nil)))) (.cons (.asg (.one 3) (.bin .add (.mk .list (.comp (.one 0) (.rng1 (.bi .len (.cons (.var 1) .nil))) (.cst .non) [none])) (.lst (.cons (.cst (.int 0)) .nil)))) (.cons (.for_ (.one 4) (.rngD (.bin .sub (.bi .len (.cons (.var 1) .nil)) (.cst (.int 1)))) fwA) (.cons (.ret (.ix (.var 3) (.cst (.int 0)))) .nil)))):=rfl
theorem as4 {B:yD}{k:Nat}(h:k<B.length):(B.map zF)[k]?=some (zF (B.getD k none)):=by
 rw[aF,ay,af h];rfl
theorem af3 {l:yD}{k i:Nat}{x:Option Nat}(h:k<l.length):(l.set k x).getD i none=if i=k then x else l.getD i none:=by
 rw[ay,ay]
 by_cases z:i=k
 .subst z;rw[aX h,if_pos rfl];rfl
 .rw[ao (bG z),if_neg z]
theorem cf7 (x:Nat):decide (D.int (x:Int)=D.non)=false:=rfl
theorem bG6 (F:Fns){V:Sto}{r:Nat}{w:List Nat}{t:Tr}{Ro:List Nat}(hB:Bt w t Ro)(hr:V[r]?=some (.lst (za Ro))){k j:Nat}(hk:k<j)(hj:j<=w.length){B:yD}(hl:B.length=w.length+1)(J:Lea w t j (B.getD j none))(a0:LeU w t k (j - 1) (B.getD k none))(x0 x5:Option D) :
  ∃ v,turn F (.one 5) fwB (.int (j:Int)) [x0,some (.str w),some (.ref r),some (.ref V.length),some (.int (k:Int)),x5] (V++[.lst (B.map zF)])=.ok (.next [x0,some (.str w),some (.ref r),some (.ref V.length),some (.int (k:Int)),some (.int (j:Int))]) (V++[.lst ((B.set k v).map zF)])/\LeU w t k j v:=by
 have i1:ixM (.ref r) (.int (k:Int)) (V++[.lst (B.map zF)])=.ok (.int ((Ro.getD k 0:Nat):Int)) (V++[.lst (B.map zF)]):=zw (aa2 hr) (qi (by rw[hB.len];lia))
 have i2:=bu7 (Ro.getD k 0) j (V++[.lst (B.map zF)])
 have i3:=bs4 (Ro.getD k 0 / 2^j) (V++[.lst (B.map zF)])
 have hb:=hB.bit k (by lia) j
 rw[cI,decide_eq_true_eq]at hb
 have Z:ixM (.ref V.length) (.int (k:Int)) (V++[.lst (B.map zF)])=.ok (zF (B.getD k none)) (V++[.lst (B.map zF)]):=zw zW (as4 (by lia))
 have Y:ixM (.ref V.length) (.int (j:Int)) (V++[.lst (B.map zF)])=.ok (zF (B.getD j none)) (V++[.lst (B.map zF)]):=zw zW (as4 (by lia))
 have same:B.set k (B.getD k none)=B:=by
  have h:k<B.length:=by omega
  rw[ay,af h]
  exact cC h
 have st:∀ x:Nat,setIx (.ref V.length) (.int (k:Int)) (.int ((x:Int)+1)) (V++[.lst (B.map zF)])=.ok () (V++[.lst ((B.set k (some (x+1))).map zF)]):=λ x=>by
  rw[at6 (j:=k) zW (by rw[az];omega),km]
  congr 1
  rw[gA _ _ (ah _),eV]
  rfl
 have keep:(Mt' w t k j->∀ n,Pcs w t j w.length n->∃ x,B.getD k none=some x/\x<=n+1)->LeU w t k j (B.getD k none):=λ h=>⟨a0.1,λ m n h1 h2 h3 h4=>by
  by_cases z:m=j
  .subst z;exact h h3 n h4
  .exact a0.2 m n h1 (by lia) h3 h4⟩
 by_cases hM:Mt' w t k j
 .have c1:zc .eq (.int ((Ro.getD k 0 / 2^j % 2:Nat):Int)) (.int 1) (V++[.lst (B.map zF)])=.ok (.bl true) (V++[.lst (B.map zF)]):=by
   rw[hb.mpr hM];rfl
  cases ej:B.getD j none with
  | none =>
   refine⟨B.getD k none,?_,keep λ _ n hn=>?_⟩
   .rw[same]
    rw[ej]at Y
    have Y:ixM (.ref V.length) (.int (j:Int)) (V++[.lst (B.map zF)])=.ok .non (V++[.lst (B.map zF)]):=Y
    unfold turn fwB
    tbr_iter [i1,i2,i3,c1,Y]
   .obtain⟨x,z,_⟩:=J.2 n hn
    rw[ej]at z;cases z
  | some x =>
   rw[ej]at Y J
   have Y:ixM (.ref V.length) (.int (j:Int)) (V++[.lst (B.map zF)])=.ok (.int (x:Int)) (V++[.lst (B.map zF)]):=Y
   have G:(∀ y,B.getD k none=some y->x+1<=y)->LeU w t k j (some (x+1)):=λ h=>⟨λ n e=>by cases e;exact .cons hk hM (J.1 x rfl),λ m n h1 h2 h3 h4=>⟨x+1,rfl,by
    by_cases z:m=j
    .subst z
     obtain⟨x',e,h⟩:=J.2 n h4
     cases e
     lia
    .obtain⟨y,e,hy⟩:=a0.2 m n h1 (by omega) h3 h4
     have:=h y e
     lia⟩⟩
   cases ek:B.getD k none with
   | none =>
    rw[ek]at Z
    have Z:ixM (.ref V.length) (.int (k:Int)) (V++[.lst (B.map zF)])=.ok .non (V++[.lst (B.map zF)]):=Z
    refine⟨some (x+1),?_,G λ y e=>by rw[ek]at e;cases e⟩
    unfold turn fwB
    tbr_iter [i1,i2,i3,c1,Y,Z,cf7,st]
   | some y =>
    rw[ek]at Z
    have Z:ixM (.ref V.length) (.int (k:Int)) (V++[.lst (B.map zF)])=.ok (.int (y:Int)) (V++[.lst (B.map zF)]):=Z
    by_cases hlt:(x:Int)+1<(y:Int)
    .refine⟨some (x+1),?_,G λ y' e=>by rw[ek]at e;cases e;lia⟩
     unfold turn fwB
     tbr_iter [i1,i2,i3,c1,Y,Z,cf7,st,decide_eq_true hlt]
    .refine⟨B.getD k none,?_,keep λ _ n hn=>?_⟩
     .rw[same]
      unfold turn fwB
      tbr_iter [i1,i2,i3,c1,Y,Z,cf7,st,decide_eq_false hlt]
     .obtain⟨x',e,h⟩:=J.2 n hn
      cases e
      exact⟨y,ek,by lia⟩
 .have c1:zc .eq (.int ((Ro.getD k 0 / 2^j % 2:Nat):Int)) (.int 1) (V++[.lst (B.map zF)])=.ok (.bl false) (V++[.lst (B.map zF)]):=by
   have:Ro.getD k 0 / 2^j % 2≠1:=λ y=>hM (hb.mp y)
   show R.ok (D.bl ((((Ro.getD k 0 / 2^j % 2:Nat):Int))==1)) _=_
   rw[beq_eq_false_iff_ne.mpr λ y=>this (by lia)]
  refine⟨B.getD k none,?_,keep λ h=>absurd h hM⟩
  rw[same]
  unfold turn fwB
  tbr_iter [i1,i2,i3,c1]
section
variable {P:Pr} [Has P ab4] [Has P ac3] [Has P ac2] [Has P ad6] [Has P ab3]
theorem bl3 (F:Fns){V:Sto}{r:Nat}{w:List Nat}(hw:w.length<=40){t:Tr}{Ro:List Nat}(hB:Bt w t Ro)(hr:V[r]?=some (.lst (za Ro))){k:Nat}(hk:k<w.length){B:yD}(hl:B.length=w.length+1)(h1:∀ j,k<j->j<=w.length->Lea w t j (B.getD j none))(Y:B.getD k none=none)(x0 x4 z:Option D) :
  ∃ v G,turn F (.one 4) fwA (.int (k:Int)) [x0,some (.str w),some (.ref r),some (.ref V.length),x4,z] (V++[.lst (B.map zF)])=.ok (.next [x0,some (.str w),some (.ref r),some (.ref V.length),some (.int (k:Int)),G]) (V++[.lst ((B.set k v).map zF)])/\Lea w t k v:=by
 have J:∀ u,bi .len [.str w] u=.ok (.int w.length) u:=λ u=>rfl
 have r2:=aE5 (i:=(k:Int)+1) (j:=(w.length:Int)+1) (by lia) (by lia) (V++[.lst (B.map zF)])
 have key:=z6 (ok:=λ u=>chk (V++[.lst (B.map zF)]) u []) (g:=turn F (.one 5) fwB) (λ i U u=>∃ v z,U=[x0,some (.str w),some (.ref r),some (.ref V.length),some (.int (k:Int)),z]/\u=V++[.lst ((B.set k v).map zF)]/\LeU w t k (k+i) v)
  (ae1 ((k:Int)+1) ((w.length:Int)+1)) 0 [x0,some (.str w),some (.ref r),some (.ref V.length),some (.int (k:Int)),z] (V++[.lst (B.map zF)]) ⟨none,z,rfl,?_,⟨nofun,λ m n h1 Y _ _=>by lia⟩⟩ (λ _ _ _ _ _=>rfl) ?_
 .obtain⟨U',s',k1,v,G,rfl,rfl,h⟩:=key
  have a1:(ae1 ((k:Int)+1) ((w.length:Int)+1)).length=w.length - k:=by simp[ae1];lia
  rw[aU,a1,show k+(w.length - k)=w.length by lia]at h
  refine⟨v,G,?_,h.lea hk⟩
  unfold turn fwA
  tbr_iter [J,ak8,r2]
  rw[k1]
  tbr_iter []
 .have h:k<B.length:=by lia
  have e:B.set k none=B:=by
   have:=cC h
   rw[ay,af h]at Y
   have Y:B[k]=none:=Y
   rw[Y]at this
   exact this
  rw[e]
 .rintro i d U u hi ⟨v,z,rfl,rfl,hv⟩
  obtain⟨a2,rfl⟩:=zQ hi
  rw[aU]at hv
  rw[show(k:Int)+1+(i:Int)=((k+1+i:Nat):Int)by lia]
  have hj:k+1+i<=w.length:=by lia
  have a0:(B.set k v).length=w.length+1:=by rw[aS];exact hl
  have e1:=af3 (l:=B) (k:=k) (i:=k+1+i) (x:=v) (by lia)
  rw[if_neg (by lia)]at e1
  have e2:=af3 (l:=B) (k:=k) (i:=k) (x:=v) (by omega)
  rw[if_pos rfl]at e2
  obtain⟨v',et,Z⟩:=bG6 F hB hr (k:=k) (j:=k+1+i) (by lia) hj a0 (by rw[e1];exact h1 _ (by omega) hj) (by rw[e2,show k+1+i - 1=k+i by lia];exact hv) x0 z
  rw[bX]at et
  exact⟨_,_,.inl et,v',_,rfl,rfl,by rw[show k+(0+i+1)=k+1+i by lia];exact Z⟩
theorem aU8 (t:Tr)(n:Nat){w:List Nat}(hw:w.length<=40)(S:Sto):∃ v,(aa1 P (n+t.dep+3)).call "_law_fewest" [t.d,.str w] S=.ok (zF v) S/\Lea w t 0 v:=by
 obtain⟨F,e1,hB⟩:=ah3 (P:=P) t n hw S
 have c0:(aa1 P (n+t.dep+3)).call "_law_fewest" [t.d,.str w] S=_:=zd ab3 (n:=n+t.dep+2) rfl
 have Z:∀ u,bi .len [.str w] u=.ok (.int w.length) u:=λ u=>rfl
 have e2:az8 (.int (w.length:Int)) (S++[.lst (za F)])=.ok ⟨za (aP w.length),[]⟩ (S++[.lst (za F)]):=by rw[zO (by unfold Ww62;lia) (by unfold Ww62;lia),ag7]
 have hL:(za (aP w.length)).length<=LIM:=by rw[zn,bI];unfold LIM;lia
 have cm:=qr (ok:=λ u=>chk (S++[.lst (za F)]) u []) (u:=S++[.lst (za F)]) (g:=qm (aa1 P (n+t.dep+2)) (.one 0) (.cst .non)) rfl (λ U=>∃ x,U=[x]) (λ _=>.non) (za (aP w.length)) [none] ⟨none,rfl⟩ (by
  rintro d hd U ⟨x,rfl⟩
  exact⟨[some d],rfl,_,rfl⟩)
 have cap:qd [some t.d,some (D.str w),some (D.ref S.length),none,none,none] [none]=[none]:=rfl
 have a3:∀(l:List D) (u:Sto),mk .list l u=.ok (.ref u.length) (u++[.lst l]):=λ _ _=>rfl
 have hn:∀ l:List Nat,(za l).map (λ _=>D.non)=(ai l.length (none:Option Nat)).map zF:=λ l=>by
  unfold za
  rw[cU,List.map_replicate]
  induction l with
  | nil=>rfl
  | cons a l ih=>rw[aH,ih];rfl
 rw[hn,bI]at cm
 generalize hV:S++[O.lst (za F)]=V0 at *
 have Y:=ci7 (s:=V0++[O.lst ((ai w.length (none:Option Nat)).map zF)]++[O.lst [D.int 0]]) (a:=V0.length) (b:=V0.length+1) (l:=(ai w.length (none:Option Nat)).map zF) (m:=[.int 0]) (aa2 zW) (by rw[show V0.length+1=(V0++[O.lst ((ai w.length (none:Option Nat)).map zF)]).length by simp];exact zW) (by rw[az,gp];unfold LIM;simp;lia)
 have a5:(ai w.length (none:Option Nat)).map zF++[D.int 0]=(ai w.length none++[some 0]).map zF:=by rw[bw];rfl
 rw[a5]at Y
 have a6:(ai w.length (none:Option Nat)++[some 0]).length=w.length+1:=by simp
 have gB:∀ j,(ai w.length (none:Option Nat)++[some 0]).getD j none=if j=w.length then some 0 else none:=λ j=>by
  rw[ay]
  rcases c9 j w.length with h|h|h
  .rw[au (by simp;exact h),dG,if_pos h,if_neg (by lia)];rfl
  .subst h;rw[aI (by simp),if_pos rfl];simp
  .rw[bJ (by simp;lia),if_neg (by lia)];rfl
 have b0:(V0++[O.lst ((ai w.length (none:Option Nat)).map zF)]++[O.lst [D.int 0]])[S.length]?=some (.lst (za F)):=by rw[<-hV];exact aa2 (aa2 zW)
 have a1:(V0++[O.lst ((ai w.length (none:Option Nat)).map zF)]).length=V0.length+1:=by simp
 have a4:∃ T,V0++[O.lst ((ai w.length (none:Option Nat)).map zF)]++[O.lst [D.int 0]]=S++T:=⟨[O.lst (za F)]++[O.lst ((ai w.length (none:Option Nat)).map zF)]++[O.lst [D.int 0]],by rw[<-hV];simp only[aQ]⟩
 generalize a0:V0++[O.lst ((ai w.length (none:Option Nat)).map zF)]++[O.lst [D.int 0]]=V at *
 obtain⟨T,hT⟩:=a4
 generalize b2:ai w.length (none:Option Nat)++[some 0]=B at *
 have key:=z6 (ok:=λ u=>chk (V++[.lst (B.map zF)]) u []) (g:=turn (aa1 P (n+t.dep+2)) (.one 4) fwA) (λ i U u=>∃ Cc x4 x5,U=[some t.d,some (.str w),some (.ref S.length),some (.ref V.length),x4,x5]/\u=V++[.lst (Cc.map zF)]/\Cc.length=w.length+1/\(∀ j,j<=w.length->w.length<=j+i->Lea w t j (Cc.getD j none))/\∀ j,j+i<w.length->Cc.getD j none=none)
  (ad0 ((w.length:Int) - 1)) 0 [some t.d,some (.str w),some (.ref S.length),some (.ref V.length),none,none] (V++[.lst (B.map zF)]) ⟨B,none,none,rfl,rfl,a6,λ j h1 h2=>?_,λ j hj=>by rw[gB,if_neg (by lia)]⟩ (λ _ _ _ _ _=>rfl) ?_
 .obtain⟨U',s',k1,Cc,x4,x5,rfl,rfl,m1,G,m3⟩:=key
  have a2:(ad0 ((w.length:Int) - 1)).length=w.length:=by unfold ad0;simp
  rw[aU,a2]at G
  refine⟨Cc.getD 0 none,?_,G 0 (by lia) (by lia)⟩
  rw[c0,aF9,show(bj some [t.d,D.str w]++ai ab3.vs none)=[some t.d,some (.str w),none,none,none,none]from rfl]
  have e3:∀ u,aZ2 (.int ((w.length:Int) - 1)) u=.ok ⟨ad0 ((w.length:Int) - 1),[]⟩ u:=λ u=>by
   unfold aZ2
   exact if_pos ⟨by lia,by lia⟩
  have i0:ixM (.ref V.length) (.int 0) (V++[.lst (Cc.map zF)])=.ok (zF (Cc.getD 0 none)) (V++[.lst (Cc.map zF)]):=zw (j:=0) zW (as4 (by lia))
  tbr_iter [e1,hV,Z,zR,evI_rng1,e2,if_pos hL,cap,cm,a3,a1,a0,Y,aB2,e3]
  rw[k1]
  tbr_iter [i0]
  rw[hT,aQ]
  exact qq (bi0 _) (bm9 _)
 .have:j=w.length:=by lia
  subst this
  rw[gB,if_pos rfl]
  exact⟨λ n e=>by cases e;exact .nil,λ n _=>⟨0,rfl,bS _⟩⟩
 .rintro i d U u J ⟨Cc,x4,x5,rfl,rfl,m1,G,m3⟩
  rw[aU]at G m3
  have b1:i<w.length:=by
   have:=(ac.mp J).1
   unfold ad0 at this;simp at this;omega
  have hd:d=.int ((w.length - 1 - i:Nat):Int):=by
   unfold ad0 at J
   rw[aF,bR (by lia)]at J
   have J:=aw J
   rw[<-J]
   show D.int ((w.length:Int) - 1+(i:Int)*(-1))=_
   rw[show(w.length:Int) - 1+(i:Int)*(-1)=((w.length - 1 - i:Nat):Int)by lia]
  subst hd
  obtain⟨v,b3,et,hv⟩:=bl3 (aa1 P (n+t.dep+2)) hw hB b0 (k:=w.length - 1 - i) (by omega) m1 (λ j h1 h2=>G j h2 (by lia)) (m3 _ (by lia)) (some t.d) x4 x5
  refine⟨_,_,.inl et,Cc.set (w.length - 1 - i) v,_,_,rfl,rfl,by rw[aS];exact m1,λ j h1 h2=>?_,λ j hj=>?_⟩
  .rw[af3 (by lia)]
   split
   .rename_i z;subst z;exact hv
   .exact G j h1 (by lia)
  .rw[af3 (by omega),if_neg (by lia)]
   exact m3 j (by lia)
end
theorem aw0 (k j v:D):∀ l:List (D×D),look j (l.map λ p=>if p.1=k then(p.1,v)else p)=if k=j then(look j l).map λ _=>v else look j l
 | []=>by simp[look]
 | (a,x)::l=>by
  have h:=aw0 k j v l
  rw[aH]
  by_cases h1:a=k
  .rw[if_pos h1]
   unfold look
   by_cases h2:a=j
   .rw[if_pos h2,if_pos h2,if_pos (h1.symm.trans h2)];rfl
   .rw[if_neg h2,if_neg h2,h]
  .rw[if_neg h1]
   unfold look
   by_cases h2:a=j
   .rw[if_pos h2,if_pos h2,if_neg (λ z=>h1 (h2.trans z.symm))]
   .rw[if_neg h2,if_neg h2,h]
theorem aK0 (k a v:D):∀ l:List (D×D),look k (l++[(a,v)])=(look k l).or (if a=k then some v else none)
 | []=>by simp[look]
 | (b,x)::l=>by
  rw[dm]
  unfold look
  by_cases h:b=k
  .rw[if_pos h,if_pos h];rfl
  .rw[if_neg h,if_neg h];exact aK0 k a v l
theorem am8 (k j v:D)(l:List (D×D)):look j (ap7 k v l)=if k=j then some v else look j l:=by
 unfold ap7
 split
 .rename_i h
  rw[aw0]
  split
  .rename_i e;subst e
   cases z:look k l with
   | none=>rw[z]at h;cases h
   | some x=>rfl
  .rfl
 .rename_i h
  rw[aK0]
  by_cases e:k=j
  .subst e
   cases z:look k l with
   | none=>rw[if_pos rfl];rfl
   | some x=>rw[z]at h;exact absurd rfl h
  .rw[if_neg e,if_neg e];cases look j l<;>rfl
theorem aB0 {q:Nat}:∀ {l:List (D×D)} {F:List Nat},l.map (·.1)=za F->(look (.int (q:Int)) l).isSome=decide (q∈F)
 | [],[],_=>rfl
 | [],k::F,h=>by cases h
 | (a,x)::l,[],h=>by cases h
 | (a,x)::l,k::F,h=>by
  have G:a=.int (k:Int):=(j4 h).1
  have J:l.map (·.1)=za F:=(j4 h).2
  unfold look
  by_cases z:k=q
  .subst z;rw[if_pos G];simp
  .have z2:¬ a=.int (q:Int):=λ y=>by rw[G]at y;injection y with y;exact z (by omega)
   rw[if_neg z2,aB0 J]
   simp[bG z]
theorem bj5 {q:Nat}{v:D}{l:List (D×D)}{F:List Nat}(h:l.map (·.1)=za F):(ap7 (.int (q:Int)) v l).map (·.1)=za (av3 q F):=by
 unfold ap7
 rw[aB0 h]
 unfold av3
 by_cases z:q∈F
 .rw[decide_eq_true z,if_pos rfl,if_pos z,cU,<-h]
  apply cK
  intro p _
  show(if p.1=_ then _ else _:D×D).1=p.1
  split<;>rfl
 .rw[decide_eq_false z,if_neg (by decide),if_neg z,bw,h]
  unfold za
  rw[bw]
  rfl
structure FW (u:Sto)(d N:Nat)(M:Nat->Option (List (List Nat)))(kvs:List (D×D))(ks:List Nat):Prop where
 at_:u[d]?=some (.dic kvs)
 keys:kvs.map (·.1)=za ks
 nd:ks.Nodup
 le:∀ e∈ks,e<=N
 no:∀ e:Nat,M e=none->look (.int (e:Int)) kvs=none
 so:∀(e:Nat) l,M e=some l->∃ p,look (.int (e:Int)) kvs=some (.ref p)/\d<p/\u[p]?=some (.lst (l.map D.str))
theorem FW.len {u:Sto}{d N:Nat}{M:Nat->Option (List (List Nat))}{kvs:List (D×D)}{z:List Nat}(h:FW u d N M kvs z):kvs.length<=N+1:=by
 have e:kvs.length=z.length:=by
  have:=congrArg fq h.keys
  rw[az,zn]at this
  exact this
 rw[e]
 exact aA5 (N+1) z h.nd λ x hx=>by have:=h.le x hx;lia
theorem FW.ok {u:Sto}{d N:Nat}{M:Nat->Option (List (List Nat))}{kvs:List (D×D)}{G:List Nat}(h:FW u d N M kvs G)(e:Nat):inM (.int (e:Int)) (.ref d) u=.ok (M e).isSome u:=by
 have k:(D.int (e:Int)).key=true:=rfl
 unfold inM
 simp only[h.at_,k,if_true]
 cases z:M e with
 | none=>rw[h.no e z];rfl
 | some l =>
  obtain⟨p,F,_⟩:=h.so e l z
  rw[F];rfl
theorem FW.get {u:Sto}{d N:Nat}{M:Nat->Option (List (List Nat))}{kvs:List (D×D)}{G:List Nat}(h:FW u d N M kvs G){e:Nat}{l:List (List Nat)}(z:M e=some l):∃ p,look (.int (e:Int)) kvs=some (.ref p)/\ixM (.ref d) (.int (e:Int)) u=.ok (.ref p) u/\u[p]?=some (.lst (l.map D.str))/\d<p:=by
 obtain⟨p,F,J,h3⟩:=h.so e l z
 refine⟨p,F,?_,h3,J⟩
 have k:(D.int (e:Int)).key=true:=rfl
 unfold ixM
 simp only[h.at_,k,if_true,F]
theorem FW.put {u:Sto}{d N:Nat}{M:Nat->Option (List (List Nat))}{kvs:List (D×D)}{G:List Nat}(h:FW u d N M kvs G){e:Nat}(Y:e<=N)(x:O)(l:List (List Nat)) :
  FW ((u++[x]++[O.lst (l.map D.str)]).set d (.dic (ap7 (.int (e:Int)) (.ref (u.length+1)) kvs))) d N (λ j=>if j=e then some l else M j) (ap7 (.int (e:Int)) (.ref (u.length+1)) kvs) (av3 e G):=by
 have hd:d<u.length:=(ac.mp h.at_).1
 have F:d<(u++[x]++[O.lst (l.map D.str)]).length:=by simp;lia
 have inj:∀ j:Nat,D.int (e:Int)=D.int (j:Int)↔e=j:=λ j=>⟨λ z=>by injection z with z;lia,λ z=>by rw[z]⟩
 refine⟨zI F,bj5 h.keys,aD1 h.nd,λ j hj=>?_,λ j hj=>?_,λ j Z hj=>?_⟩
 .rcases ae9.mp hj with z|z
  .exact h.le j z
  .rw[z];exact Y
 .rw[am8]
  by_cases z:j=e
  .rw[if_pos z]at hj;cases hj
  .rw[if_neg z]at hj
   rw[if_neg (λ y=>z ((inj j).mp y).symm)]
   exact h.no j hj
 .rw[am8]
  by_cases z:j=e
  .rw[if_pos z]at hj
   cases hj
   refine⟨u.length+1,by rw[if_pos ((inj j).mpr z.symm)],by lia,?_⟩
   rw[ao (by lia),show u.length+1=(u++[x]).length by simp]
   exact zW
  .rw[if_neg z]at hj
   obtain⟨p,J,h2,h3⟩:=h.so j Z hj
   refine⟨p,by rw[if_neg (λ y=>z ((inj j).mp y).symm)];exact J,h2,?_⟩
   rw[ao (by lia)]
   exact aa2 (aa2 h3)
theorem FW.app {u:Sto}{d N:Nat}{M:Nat->Option (List (List Nat))}{kvs:List (D×D)}{F:List Nat}(h:FW u d N M kvs F)(T:Sto):FW (u++T) d N M kvs F :=
 ⟨aa2 h.at_,h.keys,h.nd,h.le,h.no,λ e l z=>by
  obtain⟨p,G,J,h3⟩:=h.so e l z
  exact⟨p,G,J,aa2 h3⟩⟩
theorem bk8 {w:List Nat}{a b:Nat}(h:a<=w.length)(z:b<=w.length)(s:Sto):slM (.str w) (some (a:Int)) (some (b:Int)) s=.ok (.str (sub w a b)) s:=by
 unfold slM aj3
 simp only[loB,hiB,sbd]
 rw[if_pos (by lia),if_pos (by lia)]
 have e1:min (a:Int).toNat w.length=a:=by lia
 have e2:min (b:Int).toNat w.length=b:=by lia
 rw[e1,e2]
 rfl
structure Pth (w:List Nat)(t:Tr)(e:Nat)(l:List (List Nat)):Prop where
 cut:Pcs w t 0 e l.length
 join:l.flatten=w.take e
 all:∀ p∈l,p≠[]/\Mt' p t 0 p.length
theorem Pth.snoc {w:List Nat}{t:Tr}{a e:Nat}{l:List (List Nat)}(h:Pth w t a l)(ha:a<e)(F:e<=w.length)(m:Mt' w t a e):Pth w t e (l++[sub w a e]):=by
 have hl:=aF4 (a:=a) F
 refine⟨by rw[am];exact h.cut.snoc ha m,?_,λ p G=>?_⟩
 .rw[List.flatten_append,h.join]
  show w.take a++(sub w a e++[])=_
  rw[aK]
  unfold sub
  have:=List.take_add (l:=w) (i:=a) (j:=e - a)
  rw[show a+(e - a)=e by lia]at this
  exact this.symm
 .rcases aO.mp G with z|z
  .exact h.all p z
  .rw[aD.mp z]
   refine⟨λ y=>by rw[y]at hl;simp at hl;lia,?_⟩
   have:=m.sub a e (ah _) (ah _) F
   rw[eV]at this
   rw[hl]
   exact this
noncomputable def tpB:Ss:=.cons (.ite (.and (.cmp .gt (.var 4) (.var 2)) (.or (.cmp .notin (.var 4) (.var 0)) (.cmp .lt (.bin .add (.bi .len (.cons (.ix (.var 0) (.var 2)) .nil)) (.cst (.int 1))) (.bi .len (.cons (.ix (.var 0) (.var 4)) .nil))))) (.cons (.setIx (.var 0) (.var 4) (.bin .add (.ix (.var 0) (.var 2)) (.lst (.cons (.slLU (.var 1) (.var 2) (.var 4)) .nil)))) .nil) .nil) .nil
theorem aT8:aa8.body=.cons (.for_ (.one 4) (.seq (.var 3)) tpB) .nil:=rfl
theorem tp_turn (F:Fns){u:Sto}{d:Nat}{w:List Nat}(hw:w.length<=40){M:Nat->Option (List (List Nat))}{kvs:List (D×D)}{ks:List Nat}(h:FW u d w.length M kvs ks){a e:Nat}(ha:a<=w.length)(he:e<=w.length){la:List (List Nat)}(a1:M a=some la)(hsz:la.length<=1000)(x3 x4:Option D) :
  (turn F (.one 4) tpB (.int (e:Int)) [some (.ref d),some (.str w),some (.int (a:Int)),x3,x4] u=.ok (.next [some (.ref d),some (.str w),some (.int (a:Int)),x3,some (.int (e:Int))]) u/\(a<e->∃ le,M e=some le/\le.length<=la.length+1)) \/
  (turn F (.one 4) tpB (.int (e:Int)) [some (.ref d),some (.str w),some (.int (a:Int)),x3,x4] u=.ok (.next [some (.ref d),some (.str w),some (.int (a:Int)),x3,some (.int (e:Int))]) ((u++[O.lst [.str (sub w a e)]]++[O.lst ((la++[sub w a e]).map D.str)]).set d (.dic (ap7 (.int (e:Int)) (.ref (u.length+1)) kvs)))/\a<e/\∀ le,M e=some le->la.length+1<le.length):=by
 by_cases hae:a<e
 .have g1:zc .gt (.int (e:Int)) (.int (a:Int)) u=.ok (.bl true) u:=by rw[gt_int,decide_eq_true (by lia)]
  obtain⟨pa,l1,ia,ga,nd⟩:=h.get a1
  have Y:=ah7 ga
  rw[az]at Y
  have hd:d<u.length:=(ac.mp h.at_).1
  have sl:=bk8 (w:=w) ha he u
  have Z:=ci7 (s:=u++[.lst [.str (sub w a e)]]) (a:=pa) (b:=u.length) (aa2 ga) zW (by rw[az];unfold LIM;simp;lia)
  have a0:la.map D.str++[.str (sub w a e)]=(la++[sub w a e]).map D.str:=by rw[bw];rfl
  have a2:(u++[O.lst [D.str (sub w a e)]]).length=u.length+1:=by simp
  rw[a0,a2]at Z
  have a3:(u++[O.lst [D.str (sub w a e)]]++[O.lst ((la++[sub w a e]).map D.str)])[d]?=some (.dic kvs):=aa2 (aa2 h.at_)
  have st:setIx (.ref d) (.int (e:Int)) (.ref (u.length+1)) (u++[.lst [.str (sub w a e)]]++[.lst ((la++[sub w a e]).map D.str)])=.ok () ((u++[O.lst [.str (sub w a e)]]++[O.lst ((la++[sub w a e]).map D.str)]).set d (.dic (ap7 (.int (e:Int)) (.ref (u.length+1)) kvs))):=by
   have k:(D.int (e:Int)).key=true:=rfl
   unfold setIx
   have hk:=h.len
   simp only[a3,k,dz]
   rw[if_pos (decide_eq_true (by unfold LIM;lia))]
  have G:zc .notin (.int (e:Int)) (.ref d) u=.ok (.bl (!(M e).isSome)) u:=by
   show(inM (.int (e:Int)) (.ref d) u).bind _=_
   rw[h.ok e];rfl
  cases z:M e with
  | none =>
   rw[z]at G
   have G:zc .notin (.int (e:Int)) (.ref d) u=.ok (.bl true) u:=G
   refine .inr ⟨?_,hae,λ le y=>by cases y⟩
   unfold turn tpB
   tbr_iter [g1,G,ia,ag1,sl,Z,st]
  | some le =>
   rw[z]at G
   have G:zc .notin (.int (e:Int)) (.ref d) u=.ok (.bl false) u:=G
   obtain⟨pe,l2,ie,ge,_⟩:=h.get z
   have J:=ah7 ge
   rw[az]at J
   by_cases hlt:(la.length:Int)+1<(le.length:Int)
   .refine .inr ⟨?_,hae,λ a4 y=>by cases y;lia⟩
    unfold turn tpB
    tbr_iter [g1,G,ia,ie,Y,J,decide_eq_true hlt,ag1,sl,Z,st]
   .refine .inl ⟨?_,λ _=>⟨le,rfl,by lia⟩⟩
    unfold turn tpB
    tbr_iter [g1,G,ia,ie,Y,J,decide_eq_false hlt]
 .have g1:zc .gt (.int (e:Int)) (.int (a:Int)) u=.ok (.bl false) u:=by rw[gt_int,decide_eq_false (by lia)]
  refine .inl ⟨?_,λ y=>absurd y hae⟩
  unfold turn tpB
  tbr_iter [g1]
structure TP (w:List Nat)(t:Tr)(Uu:Sto)(d a:Nat)(M:Nat->Option (List (List Nat)))(la:List (List Nat))(u:Sto)(M':Nat->Option (List (List Nat)))(kvs':List (D×D))(ks':List Nat):Prop where
 fw:FW u d w.length M' kvs' ks'
 snd:∀ e l,M' e=some l->Pth w t e l
 keep:∀ e l,M e=some l->∃ l',M' e=some l'/\l'.length<=l.length
 here:M' a=some la
 len:Uu.length<=u.length
 old:∀ i,i<Uu.length->i≠d->u[i]?=Uu[i]?
 new:u=Uu\/∃(e p:Nat),look (.int (e:Int)) kvs'=some (.ref p)/\Uu.length<=p
theorem aH5 {k:D}{p n:Nat}(z:n<=p):∀ {l:List (D×D)},look k l=some (.ref p)->D.bndL n (l.map (·.2))=false
 | [],h=>by cases h
 | (a,x)::l,h=>by
  unfold look at h
  rw[aH]
  unfold D.bndL
  split at h
  .cases h
   show(D.bnd n (.ref p)&&_)=false
   have:D.bnd n (.ref p)=false:=by unfold D.bnd;exact decide_eq_false (by omega)
   rw[this];rfl
  .rw[aH5 z h,jT]
section
variable {P:Pr} [Has P aa8]
theorem ao7 (n:Nat){w:List Nat}(hw:w.length<=40){t:Tr}{Uu:Sto}{d a Z:Nat}{M:Nat->Option (List (List Nat))}{kvs:List (D×D)}{ks:List Nat}(h:FW Uu d w.length M kvs ks)(hs:∀ e l,M e=some l->Pth w t e l)(ha:a<=w.length){la:List (List Nat)}(a2:M a=some la){X:List Nat}(hx:Uu[Z]?=some (.lst (za X)))(hX:∀ j∈X,j<=w.length/\Mt' w t a j) :
  ∃ u M' F G,(aa1 P (n+1)).call "take_pieces" [.ref d,.str w,.int (a:Int),.ref Z] Uu=.ok .non u/\TP w t Uu d a M la u M' F G/\∀ e∈X,a<e->∃ l,M' e=some l/\l.length<=la.length+1:=by
 have a3:Z≠d:=λ z=>by rw[z,h.at_]at hx;cases hx
 have a4:Z<Uu.length:=(ac.mp hx).1
 have hsz:la.length<=40:=by have:=(hs a la a2).cut.le;lia
 have q1:ao6 (.ref Z) Uu=.ok ⟨za X,[Z]⟩ Uu:=by simp only[ao6,hx]
 have key:=z6 (ok:=λ u=>chk Uu u [Z]) (g:=turn (aa1 P n) (.one 4) tpB) (λ i U u=>∃ M' F G x4,U=[some (.ref d),some (.str w),some (.int (a:Int)),some (.ref Z),x4]/\TP w t Uu d a M la u M' F G/\∀ j,j<i->∀ e,X[j]?=some e->a<e->∃ l,M' e=some l/\l.length<=la.length+1)
  (za X) 0 [some (.ref d),some (.str w),some (.int (a:Int)),some (.ref Z),none] Uu ⟨M,kvs,ks,none,rfl,⟨h,hs,λ e l z=>⟨l,z,ah _⟩,a2,ah _,λ _ _ _=>rfl,.inl rfl⟩,λ j hj=>absurd hj (by lia)⟩ ?_ ?_
 .obtain⟨U',u,k1,M',F,G,x4,rfl,T,hT⟩:=key
  rw[aU,zn]at hT
  refine⟨u,M',F,G,?_,T,λ e he hae=>?_⟩
  .have c0:(aa1 P (n+1)).call "take_pieces" [.ref d,.str w,.int (a:Int),.ref Z] Uu=_:=zd aa8 (n:=n) rfl
   rw[c0,aT8,show(bj some [D.ref d,.str w,.int (a:Int),.ref Z]++ai aa8.vs none)=[some (.ref d),some (.str w),some (.int (a:Int)),some (.ref Z),none]from rfl]
   tbr_iter [q1]
   rw[k1]
   tbr_iter []
   rcases T.new with rfl|⟨e,p,h1,h2⟩
   .exact zH (λ _=>rfl) (by nofun)
   .have hd:d<Uu.length:=(ac.mp h.at_).1
    refine aA9 d hd T.fw.at_ (λ z=>?_) ?_
    .rw[h.at_]at z
     injection z with z
     injection z with z
     subst z
     cases y:M e with
     | none=>rw[h.no e y]at h1;cases h1
     | some l =>
      obtain⟨p',z1,_,z3⟩:=h.so e l y
      rw[h1]at z1
      cases z1
      have:=(ac.mp z3).1
      lia
    .show(D.bndL Uu.length (F.map (·.1))&&D.bndL Uu.length (F.map (·.2)))=false
     rw[aH5 h2 h1,jT]
  .obtain⟨j,hj⟩:=c6.mp he
   exact hT j (ac.mp hj).1 e hj hae
 .rintro j U u hj ⟨M',F,G,x4,rfl,T,hT⟩
  unfold chk
  simp only[bN,i9,fG,decide_eq_true_eq]
  exact T.old Z a4 a3
 .rintro i dd U u hi ⟨M',F,G,x4,rfl,T,hT⟩
  rw[aU]at hT
  obtain⟨e,he,rfl⟩:∃ e,X[i]?=some e/\dd=.int (e:Int):=by
   unfold za at hi
   rw[aF]at hi
   cases z:X[i]? with
   | none=>rw[z]at hi;cases hi
   | some e=>rw[z]at hi;cases hi;exact⟨e,rfl,rfl⟩
  obtain⟨a0,hM⟩:=hX e (be he)
  rcases tp_turn (aa1 P n) hw T.fw ha a0 T.here (by lia) (some (.ref Z)) x4 with⟨et,hl⟩|⟨et,hae,hl⟩
  .refine⟨_,_,.inl et,M',F,G,_,rfl,T,λ j hj e' J Y=>?_⟩
   by_cases z:j=i
   .subst z
    rw[he]at J
    cases J
    exact hl Y
   .exact hT j (by lia) e' J Y
  .have hd:d<Uu.length:=(ac.mp h.at_).1
   have a5:=T.len
   refine⟨_,_,.inl et,(λ j=>if j=e then some (la++[sub w a e])else M' j),_,_,_,rfl,⟨T.fw.put a0 _ _,λ e' l z=>?_,λ e' l z=>?_,?_,?_,λ i hi a1=>?_,.inr ⟨e,u.length+1,by rw[am8,if_pos rfl],by lia⟩⟩,λ j hj e' J Y=>?_⟩
   .by_cases y:e'=e
    .rw[if_pos y]at z;cases z;rw[y];exact(T.snd a la T.here).snoc hae a0 hM
    .rw[if_neg y]at z;exact T.snd e' l z
   .obtain⟨l',z1,z2⟩:=T.keep e' l z
    by_cases y:e'=e
    .subst y
     have:=hl l' z1
     exact⟨_,if_pos rfl,by rw[am];simp;lia⟩
    .exact⟨l',by rw[if_neg y];exact z1,z2⟩
   .rw[if_neg (by lia)];exact T.here
   .rw[aS];simp;lia
   .rw[ao (bG a1),aQ,au (by lia)]
    exact T.old i hi a1
   .by_cases y:e'=e
    .exact⟨_,if_pos y,by rw[am];simp⟩
    .show ∃ l,(if e'=e then some (la++[sub w a e])else M' e')=some l/\l.length<=la.length+1
     rw[if_neg y]
     by_cases z:j=i
     .subst z;rw[he]at J;cases J;exact absurd rfl y
     .exact hT j (by lia) e' J Y
end
theorem RoomsS.frame {s u:Sto}{o a b e:Nat}{L:List (List Nat)}{F:List Nat}{G:Nat->List Nat}(h:RoomsS s o a b e L F G)(f:∀ j,j<s.length->u[j]?=s[j]?):RoomsS u o a b e L F G:=by
 have g:∀ {j:Nat} {x:O},s[j]?=some x->u[j]?=some x:=λ {j x} z=>by rw[f j (ac.mp z).1];exact z
 exact⟨g h.ins,g h.let_,g h.fol,h.len,λ i r z=>g (h.dic i r z),h.nd,h.pos,h.big,h.nf,h.lt⟩
theorem bZ6 {F:Fns}{U:Env}{s:Sto}:ev F (.dic (.cons (.cst (.int 0)) .nil) (.cons (.lst .nil) .nil)) U s=.ok (.ref s.length) (s++[.dic [(.int 0,.ref (s.length+1))]]++[.lst []]):=by
 show(ev F (.cst (.int 0)) U (s++[.dic []])).bind _=_
 have e1:ev F (.cst (.int 0)) U (s++[.dic []])=.ok (.int 0) (s++[.dic []]):=rfl
 rw[e1]
 simp only[R.bind_ok]
 have e2:ev F (.lst .nil) U (s++[.dic []])=.ok (.ref (s.length+1)) (s++[.dic []]++[.lst []]):=by
  show ac5 (.lst []) (s++[.dic []])=_
  rw[alloc_eq,show(s++[O.dic []]).length=s.length+1 by simp]
 rw[e2]
 simp only[R.bind_ok]
 have h:(s++[O.dic []]++[O.lst []])[s.length]?=some (.dic []):=aa2 zW
 have k:(D.int 0).key=true:=rfl
 rw[if_pos ⟨k,h⟩,aQ,aQ]
 congr 1
 exact qa
theorem bu9 (s:Sto)(x y:O):(s++[x]++[y])[s.length+1]?=some y:=by
 rw[show s.length+1=(s++[x]).length by simp]
 exact zW
theorem split_at {s u:Sto}(f:∀ j,j<s.length->u[j]?=s[j]?)(hl:s.length<=u.length):∃ T,u=s++T:=by
 refine⟨u.drop s.length,?_⟩
 apply fv
 intro j
 by_cases z:j<s.length
 .rw[au z];exact f j z
 .rw[aI (by omega),fg,show s.length+(j - s.length)=j by lia]
theorem aT2 {s T:Sto}{q:Nat}{o:O}(h:(s++T)[q]?=some o)(hq:s.length<=q)(hb:o.bnd s.length=true):zm s (.ref q) (s++T)=.ok (.ref s.length) (s++[o]):=by
 have ho:qC s (s++T)=true:=by
  unfold qC
  rw[aL]
  intro i z
  rw[au (br.mp z)]
  simp
 unfold zm
 rw[if_pos ho]
 simp only[jR.mpr hq,if_false,h,hb,if_true,List.take_left]
theorem ba6 {F:Fns}{U:Env}{s:Sto}(o k:E):ev F (.get1 o k) U s=(ev F o U s).bind λ x s=>(ev F k U s).bind λ y s=>ap0 x y s:=rfl
noncomputable def cuB:Ss:=.cons (.ite (.cmp .isin (.var 4) (.var 3)) (.cons (.ex (.call "take_pieces" (.ex (.var 3) (.ex (.var 1) (.ex (.var 4) (.ex (.call "ends_from" (.ex (.var 2) (.ex (.var 1) (.ex (.var 4) .nil)))) .nil)))))) .nil) .nil) .nil
theorem bh1:ac4.body=(.cons (.asg (.one 2) (.call "rooms_for" (.ex (.var 0) .nil))) (.cons (.asg (.one 3) (.dic (.cons (.cst (.int 0)) .nil) (.cons (.lst .nil) .nil))) (.cons (.for_ (.one 4) (.rng1 (.bi .len (.cons (.var 1) .nil))) cuB) (.cons (.ret (.get1 (.var 3) (.bi .len (.cons (.var 1) .nil)))) .nil)))):=rfl
def Cmp (w:List Nat)(t:Tr)(M:Nat->Option (List (List Nat)))(a:Nat):Prop:=M 0=some []/\∀ k e n,k<a->Pcs w t 0 k n->k<e->Mt' w t k e->∃ l,M e=some l/\l.length<=n+1
theorem Cmp.at_ {w:List Nat}{t:Tr}{M:Nat->Option (List (List Nat))}{a n:Nat}(h:Cmp w t M a)(p:Pcs w t 0 a n):∃ l,M a=some l/\l.length<=n:=by
 cases n with
 | zero=>cases p;exact⟨[],h.1,ah _⟩
 | succ n =>
  obtain⟨m,F,z,h3⟩:=p.last
  exact h.2 m a n z F z h3
def Few (w:List Nat)(t:Tr)(v:Option (List (List Nat))):Prop:=(∀ l,v=some l->Pth w t w.length l)/\∀ n,Pcs w t 0 w.length n->∃ l,v=some l/\l.length<=n
noncomputable def ci9 (S:Sto):Option (List (List Nat))->R D
 | none=>.ok .non S
 | some l=>.ok (.ref S.length) (S++[.lst (l.map D.str)])
theorem bo4 (l:List (List Nat))(n:Nat):(O.lst (l.map D.str)).bnd n=true:=by
 show D.bndL n (l.map D.str)=true
 induction l with
 | nil=>rfl
 | cons a l ih=>rw[aH];unfold D.bndL;rw[ih];rfl
section
variable {P:Pr} [Has P ab8] [Has P ab1] [HasM P "Rooms" "link" aa7] [HasM P "Rooms" "lay_letter" aa3] [HasM P "Rooms" "lay" aa4] [HasM P "Rooms" "__init__" aa5] [HasA P "Rooms" ak0] [HasA P "Rooms" an2] [HasA P "Rooms" aj1] [Has P ab0] [Has P aa8] [Has P ac4]
theorem be3 {t:Tr}(ht:t.cnt<=40){w:List Nat}(hw:w.length<=40)(n:Nat)(S:Sto):∃ v,(aa1 P (n+t.dep+3)).call "cut_up" [t.d,.str w] S=ci9 S v/\Few w t v:=by
 obtain⟨G,o,a,b,e,rs,Fo,En,e1,h,a4,he,a5⟩:=aw3 (P:=P) t ht n S
 have c0:(aa1 P (n+t.dep+3)).call "cut_up" [t.d,.str w] S=_:=zd ac4 (n:=n+t.dep+2) rfl
 rw[c0,bh1,show(bj some [t.d,D.str w]++ai ac4.vs none)=[some t.d,some (.str w),none,none,none]from rfl]
 have F:∀ u,bi .len [.str w] u=.ok (.int w.length) u:=λ u=>rfl
 have b2:S.length<=(S++G).length:=by simp
 have a3:∀ j,j<S.length->(S++G)[j]?=S[j]?:=λ j hj=>au hj
 generalize S++G=s0 at *
 tbr_iter [e1,bZ6,F]
 rw[zO (by unfold Ww62;lia) (by unfold Ww62;lia)]
 simp only[R.bind_ok]
 rw[R.bind_assoc]
 refine z9 (Ww:=λ r=>∃ v,r=ci9 S v/\Few w t v) (λ i U u=>∃ M kvs ks x4,U=[some t.d,some (.str w),some (.ref o),some (.ref s0.length),x4]/\FW u s0.length w.length M kvs ks/\(∀ e l,M e=some l->Pth w t e l)/\Cmp w t M i/\s0.length<=u.length/\∀ j,j<s0.length->u[j]?=s0[j]?) ?_ (λ _ _ _ _ _=>rfl) ?_ ?_
 .refine⟨λ e=>if e=0 then some []else none,_,[0],_,rfl,⟨aa2 zW,rfl,by simp,λ e he=>by rw[aD.mp he];exact bS _,λ e z=>?_,λ e l z=>?_⟩,λ e l z=>?_,⟨rfl,λ k e n hk=>absurd hk (by lia)⟩,by simp,λ j hj=>by rw[aQ,au hj]⟩
  .by_cases y:e=0
   .subst y;cases z
   .unfold look
    rw[if_neg (λ q=>by injection q with q;exact y (by lia))]
    rfl
  .by_cases y:e=0
   .subst y
    cases z
    exact⟨s0.length+1,by unfold look;exact if_pos rfl,by lia,bu9 _ _ _⟩
   .simp only[if_neg y]at z;cases z
  .by_cases y:e=0
   .subst y
    cases z
    exact⟨.nil,rfl,λ p hp=>by cases hp⟩
   .simp only[if_neg y]at z;cases z
 .rintro i d U u hi ⟨M,kvs,ks,x4,rfl,Z,hs,Y,hl,hf⟩
  obtain⟨b1,rfl⟩:=zQ hi
  rw[jc]
  have a0:i<=w.length:=by lia
  have isin:zc .isin (.int (i:Int)) (.ref s0.length) u=.ok (.bl (M i).isSome) u:=by
   show(inM (.int (i:Int)) (.ref s0.length) u).bind _=_
   rw[Z.ok i];rfl
  cases z:M i with
  | none =>
   rw[z]at isin
   have isin:zc .isin (.int (i:Int)) (.ref s0.length) u=.ok (.bl false) u:=isin
   refine ah9 (U:=[some t.d,some (.str w),some (.ref o),some (.ref s0.length),some (.int (i:Int))]) (s:=u) ?_ ⟨M,kvs,ks,_,rfl,Z,hs,⟨Y.1,λ k e n hk hp J hm=>?_⟩,hl,hf⟩
   .unfold turn cuB
    tbr_iter [isin]
   .by_cases y:k=i
    .subst y
     obtain⟨l,z1,_⟩:=Y.at_ hp
     rw[z]at z1;cases z1
    .exact Y.2 k e n (by lia) hp J hm
  | some la =>
   rw[z]at isin
   have isin:zc .isin (.int (i:Int)) (.ref s0.length) u=.ok (.bl true) u:=isin
   have a2:e<s0.length:=(ac.mp he).1
   obtain⟨X,e2,hX⟩:=bw7 (P:=P) (n+t.dep) (h.frame hf) a4 (by rw[hf e a2];exact he) a5 hw a0
   obtain⟨u',M',a1,b0,e3,T,hT⟩:=ao7 (P:=P) (n+t.dep+1) hw (Z.app [.lst (za X)]) hs a0 z zW λ j hj=>⟨((hX j).mp hj).1.2,((hX j).mp hj).2⟩
   refine ah9 (U:=[some t.d,some (.str w),some (.ref o),some (.ref s0.length),some (.int (i:Int))]) (s:=u') ?_ ⟨M',a1,b0,_,rfl,T.fw,T.snd,⟨?_,λ k e n hk hp J hm=>?_⟩,?_,λ j hj=>?_⟩
   .unfold turn cuB
    tbr_iter [isin,e2,e3]
   .obtain⟨l',z1,z2⟩:=T.keep 0 [] Y.1
    rw[z1]
    have:l'=[]:=List.eq_nil_of_length_eq_zero (by simpa using z2)
    rw[this]
   .by_cases y:k=i
    .subst y
     obtain⟨l,z1,z2⟩:=Y.at_ hp
     rw[z]at z1
     cases z1
     obtain⟨l',y1,y2⟩:=hT e ((hX e).mpr ⟨⟨by lia,hm.le.2⟩,hm⟩) J
     exact⟨l',y1,by lia⟩
    .obtain⟨l,z1,z2⟩:=Y.2 k e n (by lia) hp J hm
     obtain⟨l',y1,y2⟩:=T.keep e l z1
     exact⟨l',y1,by lia⟩
   .have:=T.len
    rw[am]at this
    lia
   .rw[T.old j (by rw[am];lia) (by lia),au (by lia)]
    exact hf j hj
 .rintro U u ⟨M,kvs,ks,x4,rfl,Z,hs,Y,hl,hf⟩
  have a6:(ae1 0 (w.length:Int)).length=w.length:=by simp[ae1]
  rw[a6]at Y
  obtain⟨T,rfl⟩:=split_at (s:=S) (u:=u) (λ j hj=>(hf j (by lia)).trans (a3 j hj)) (by lia)
  refine⟨M w.length,?_,λ l z=>hs _ l z,λ n hn=>Y.at_ hn⟩
  have k:(D.int (w.length:Int)).key=true:=rfl
  cases z:M w.length with
  | none =>
   have g:ap0 (.ref s0.length) (.int (w.length:Int)) (S++T)=.ok .non (S++T):=by
    unfold ap0
    simp only[Z.at_,k,if_true,Z.no _ z]
    rfl
   tbr_iter [ba6,F,g]
   exact qq (λ _=>rfl) (by nofun)
  | some l =>
   obtain⟨p,h1,h2,h3⟩:=Z.so _ l z
   have g:ap0 (.ref s0.length) (.int (w.length:Int)) (S++T)=.ok (.ref p) (S++T):=by
    unfold ap0
    simp only[Z.at_,k,if_true,h1]
    rfl
   tbr_iter [ba6,F,g]
   exact aT2 h3 (by lia) (bo4 _ _)
end
theorem bf8 {F:Fns}{U:Env}{s:Sto}(o e:E):ev F (.join o e) U s=(ev F o U s).bind λ x s=>(ev F e U s).bind λ y s=>aA0 x y s:=rfl
theorem ap3:∀ l:List (List Nat),ac8 (l.map D.str)=some l
 | []=>rfl
 | a::l=>by rw[aH];unfold ac8;rw[ap3 l];rfl
theorem aG9:∀ l:List D,ae0 (l.map λ _=>D.bl true)=some (l.map λ _=>true)
 | []=>rfl
 | a::l=>by rw[aH];unfold ae0;rw[aG9 l];rfl
theorem all_true (l:List D)(s:Sto):mk .all (l.map λ _=>D.bl true) s=.ok (.bl true) s:=by
 show(match ae0 (l.map λ _=>D.bl true)with|some bs=>R.ok (D.bl (bs.all id)) s|none=>.bad)=_
 rw[aG9]
 show R.ok (D.bl ((l.map λ _=>true).all id)) s=_
 congr 2
 rw[aL]
 intro x hx
 obtain⟨_,_,rfl⟩:=aZ.mp hx
 rfl
theorem aI0:ab9.body=(.cons (.ite (.or (.isN (.var 3)) (.isN (.var 2))) (.cons (.ret (.and (.isN (.var 3)) (.isN (.var 2)))) .nil) .nil) (.cons (.ite (.or (.not (.bi .isList (.cons (.var 2) .nil))) (.cmp .ne (.bi .len (.cons (.var 2) .nil)) (.var 3))) (.cons (.ret (.cst (.bl false))) .nil) .nil) (.cons (.ite (.or (.not (.mk .all (.comp (.one 0) (.seq (.var 2)) (.and (.bi .isStr (.cons (.var 0) .nil)) (.cmp .ne (.var 0) (.cst (.str [])))) [none]))) (.cmp .ne (.join (.cst (.str [])) (.var 2)) (.var 1))) (.cons (.ret (.cst (.bl false))) .nil) .nil) (.cons (.ret (.mk .all (.comp (.one 0) (.seq (.var 2)) (.call "_law_held" (.ex (.var 1) (.ex (.var 0) .nil))) [none,some 0]))) .nil)))):=rfl
theorem bD1 {w:List Nat}{t:Tr}{v:Option Nat}{c:Option (List (List Nat))}(h:Lea w t 0 v)(g:Few w t c):v=c.map fq:=by
 cases c with
 | none =>
  cases v with
  | none=>rfl
  | some x =>
   obtain⟨l,z,_⟩:=g.2 x (h.1 x rfl)
   cases z
 | some l =>
  obtain⟨x,e,hx⟩:=h.2 l.length (g.1 l rfl).cut
  subst e
  obtain⟨F,z,hl⟩:=g.2 x (h.1 x rfl)
  cases z
  show some x=some l.length
  rw[show x=l.length by lia]
theorem bc9 {x:Nat}:∀ {l:List Nat},x∈l->x<=l.sum
 | [],h=>by cases h
 | a::l,h=>by
  rw[ig]
  rcases aG.mp h with z|z
  .lia
  .have:=bc9 z;lia
section
variable {P:Pr} [Has P ab4] [Has P ac3] [Has P ac2] [Has P ad6] [Has P ab9]
open Classical in
theorem aU0 (t:Tr)(n:Nat){w:List Nat}(hw:w.length<=40){l:List (List Nat)}(h:Pth w t w.length l){Uu:Sto}{p:Nat}(G:Uu[p]?=some (.lst (l.map D.str))) :
  (aa1 P (n+t.dep+4)).call "_law_is_cut" [t.d,.str w,.ref p,.int (l.length:Int)] Uu=.ok (.bl true) Uu:=by
 have c0:(aa1 P (n+t.dep+4)).call "_law_is_cut" [t.d,.str w,.ref p,.int (l.length:Int)] Uu=_:=zd ab9 (n:=n+t.dep+3) rfl
 rw[c0,aI0,show(bj some [t.d,D.str w,.ref p,.int (l.length:Int)]++ai ab9.vs none)=[some t.d,some (.str w),some (.ref p),some (.int (l.length:Int))]from rfl]
 have a2:l.length<=40:=by have:=h.cut.le;lia
 have b1:decide (D.int (l.length:Int)=D.non)=false:=rfl
 have b2:decide (D.ref p=D.non)=false:=rfl
 have i1:bi .isList [.ref p] Uu=.ok (.bl true) Uu:=by simp only[bi,bi1,isK,G];rfl
 have i2:=ah7 G
 rw[az]at i2
 have n1:zc .ne (.int (l.length:Int)) (.int (l.length:Int)) Uu=.ok (.bl false) Uu:=by rw[ne_int,decide_eq_true rfl];rfl
 have q1:ao6 (.ref p) Uu=.ok ⟨l.map D.str,[p]⟩ Uu:=by simp only[ao6,G]
 have hL:(l.map D.str).length<=LIM:=by rw[az];unfold LIM;lia
 have ck:chk Uu Uu [p]=true:=by simp[chk]
 have Z:=qr (ok:=λ u=>chk Uu u [p]) (u:=Uu) (g:=qm (aa1 P (n+t.dep+3)) (.one 0) (.and (.bi .isStr (.cons (.var 0) .nil)) (.cmp .ne (.var 0) (.cst (.str []))))) ck (λ U=>∃ x,U=[x]) (λ _=>.bl true) (l.map D.str) [none] ⟨none,rfl⟩ (by
  rintro d hd U ⟨x,rfl⟩
  obtain⟨q,hq,rfl⟩:=aZ.mp hd
  have J:bi .isStr [.str q] Uu=.ok (.bl true) Uu:=rfl
  have j2:zc .ne (.str q) (.str []) Uu=.ok (.bl true) Uu:=by
   cases q with
   | nil=>exact absurd rfl (h.all [] hq).1
   | cons a q=>rfl
  refine⟨[some (.str q)],?_,_,rfl⟩
  unfold qm
  tbr_iter [J,j2])
 have Y:=qr (ok:=λ u=>chk Uu u [p]) (u:=Uu) (g:=qm (aa1 P (n+t.dep+3)) (.one 0) (.call "_law_held" (.ex (.var 1) (.ex (.var 0) .nil)))) ck (λ U=>∃ x,U=[x,some t.d]) (λ _=>.bl true) (l.map D.str) [none,some t.d] ⟨none,rfl⟩ (by
  rintro d hd U ⟨x,rfl⟩
  obtain⟨q,hq,rfl⟩:=aZ.mp hd
  have a0:q.length<=40:=by
   have e:=congrArg fq h.join
   rw[cr,hJ]at e
   have:=bc9 (aZ.mpr ⟨q,hq,rfl⟩:q.length∈l.map fq)
   lia
  have J:=bv9 (P:=P) t n a0 Uu
  rw[decide_eq_true (h.all q hq).2]at J
  refine⟨[some (.str q),some t.d],?_,_,rfl⟩
  unfold qm
  tbr_iter [J])
 have a1:=all_true (l.map D.str) Uu
 have jn:aA0 (.str []) (.ref p) Uu=.ok (.str w) Uu:=by
  unfold aA0
  simp only[G,ap3,h.join,cr]
  rw[if_pos (by unfold LIM;lia)]
 have n2:zc .ne (.str w) (.str w) Uu=.ok (.bl false) Uu:=by
  show R.ok (D.bl (!(w==w))) Uu=_
  simp
 have F:qd [some t.d,some (D.str w),some (D.ref p),some (D.int (l.length:Int))] [none]=[none]:=rfl
 have z:qd [some t.d,some (D.str w),some (D.ref p),some (D.int (l.length:Int))] [none,some 0]=[none,some t.d]:=rfl
 tbr_iter [b1,b2,i1,i2,n1,zR,q1,if_pos hL,F,z,Z,Y,a1,bf8,jn,n2]
 exact aI1
theorem ba0 (t:Tr)(n:Nat){w:List Nat}(Uu:Sto):(aa1 P (n+1)).call "_law_is_cut" [t.d,.str w,.non,.non] Uu=.ok (.bl true) Uu:=by
 have z:(aa1 P (n+1)).call "_law_is_cut" [t.d,.str w,.non,.non] Uu=_:=zd ab9 (n:=n) rfl
 rw[z,aI0,show(bj some [t.d,D.str w,.non,.non]++ai ab9.vs none)=[some t.d,some (.str w),some .non,some .non]from rfl]
 have h:decide (D.non=D.non)=true:=rfl
 tbr_iter [h]
 exact aI1
end
noncomputable def rtB:Ss:=(.cons (.asg (.one 4) (.call "cut_up" (.ex (.var 0) (.ex (.var 1) .nil)))) (.cons (.ite (.not (.call "_law_is_cut" (.ex (.var 0) (.ex (.var 1) (.ex (.var 4) (.ex (.var 2) .nil)))))) (.cons (.ret (.cst (.bl false))) .nil) .nil) (.cons (.ite (.notN (.var 4)) (.cons (.ex (.meth .append (.var 4) (.cons (.cst (.str [97])) .nil))) (.cons (.ex (.meth .reverse (.var 4) .nil)) .nil)) .nil) .nil)))
theorem aM5:ac1.body=(.cons (.asg (.one 2) (.call "_law_fewest" (.ex (.var 0) (.ex (.var 1) .nil)))) (.cons (.for_ (.one 3) (.rng1 (.cst (.int 2))) rtB) (.cons (.ret (.cst (.bl true))) .nil))):=rfl
theorem bw8 {s:Sto}{r:Nat}{l:List D}(h:s[r]?=some (.lst l)):meth .reverse (.ref r) [] s=.ok .non (s.set r (.lst l.reverse)):=by
 show(match s[r]? with|some (.lst l)=>R.ok D.non (s.set r (.lst l.reverse))|_=>.bad)=_
 rw[h]
section
variable {P:Pr} [Has P ab4] [Has P ac3] [Has P ac2] [Has P ad6] [Has P ab9] [Has P ab3] [Has P ac1]
 [Has P ab8] [Has P ab1] [HasM P "Rooms" "link" aa7] [HasM P "Rooms" "lay_letter" aa3] [HasM P "Rooms" "lay" aa4] [HasM P "Rooms" "__init__" aa5] [HasA P "Rooms" ak0] [HasA P "Rooms" an2] [HasA P "Rooms" aj1] [Has P ab0] [Has P aa8] [Has P ac4]
theorem aQ5 {t:Tr}(ht:t.cnt<=40)(n:Nat){w:List Nat}(hw:w.length<=40){v:Option Nat}(hv:Lea w t 0 v)(k:Int)(S T:Sto)(x3 x4:Option D) :
  ∃ T' G,turn (aa1 P (n+t.dep+4)) (.one 3) rtB (.int k) [some t.d,some (.str w),some (zF v),x3,x4] (S++T)=.ok (.next [some t.d,some (.str w),some (zF v),some (.int k),G]) (S++T'):=by
 obtain⟨c,e1,hc⟩:=be3 (P:=P) ht hw (n+1) (S++T)
 rw[show n+1+t.dep+3=n+t.dep+4 by lia]at e1
 have h:=bD1 hv hc
 cases c with
 | none =>
  have h:v=none:=h
  subst h
  have e1:(aa1 P (n+t.dep+4)).call "cut_up" [t.d,.str w] (S++T)=.ok .non (S++T):=e1
  have e2:=ba0 (P:=P) t (n+t.dep+3) (w:=w) (S++T)
  have z:decide (D.non=D.non)=true:=rfl
  refine⟨T,some .non,?_⟩
  unfold turn rtB
  tbr_iter [e1,show zF none=D.non from rfl,e2,z]
 | some l =>
  have h:v=some l.length:=h
  subst h
  have e1:(aa1 P (n+t.dep+4)).call "cut_up" [t.d,.str w] (S++T)=.ok (.ref (S++T).length) (S++T++[.lst (l.map D.str)]):=e1
  have Y:=hc.1 l rfl
  have a0:l.length<=40:=by have:=Y.cut.le;lia
  have e2:=aU0 (P:=P) t n hw Y (Uu:=S++T++[.lst (l.map D.str)]) (p:=(S++T).length) zW
  have Z:=qe (v:=.str [97]) (s:=S++T++[.lst (l.map D.str)]) (r:=(S++T).length) (l:=l.map D.str) zW (by rw[az];unfold LIM;lia)
  have hs:(S++T++[O.lst (l.map D.str)]).set (S++T).length (.lst (l.map D.str++[.str [97]]))=S++T++[O.lst (l.map D.str++[.str [97]])]:=qa
  rw[hs]at Z
  have J:=bw8 (s:=S++T++[O.lst (l.map D.str++[.str [97]])]) (r:=(S++T).length) (l:=l.map D.str++[.str [97]]) zW
  have F:(S++T++[O.lst (l.map D.str++[.str [97]])]).set (S++T).length (.lst (l.map D.str++[D.str [97]]).reverse)=S++T++[O.lst (l.map D.str++[D.str [97]]).reverse]:=qa
  rw[F]at J
  have z:decide (D.ref (S++T).length=D.non)=false:=rfl
  refine⟨T++[O.lst (l.map D.str++[D.str [97]]).reverse],some (.ref (S++T).length),?_⟩
  rw[<-aQ]
  unfold turn rtB
  tbr_iter [e1,show zF (some l.length)=D.int (l.length:Int)from rfl,e2,z,Z,J]
theorem aL9 {t:Tr}(ht:t.cnt<=40)(n:Nat){w:List Nat}(hw:w.length<=40)(S:Sto):(aa1 P (n+t.dep+5)).call "_law_right" [t.d,.str w] S=.ok (.bl true) S:=by
 obtain⟨v,e1,hv⟩:=aU8 (P:=P) t (n+1) hw S
 rw[show n+1+t.dep+3=n+t.dep+4 by omega]at e1
 have G:(aa1 P (n+t.dep+5)).call "_law_right" [t.d,.str w] S=_:=zd ac1 (n:=n+t.dep+4) rfl
 rw[G,aM5,show(bj some [t.d,D.str w]++ai ac1.vs none)=[some t.d,some (.str w),none,none,none]from rfl]
 tbr_iter [e1]
 rw[zO (by unfold Ww62;lia) (by unfold Ww62;lia)]
 simp only[R.bind_ok]
 rw[R.bind_assoc]
 refine aK7 (λ j U u=>∃ T x3 h,U=[some t.d,some (.str w),some (zF v),x3,h]/\u=S++T) ⟨[],_,_,rfl,by rw[aK]⟩ (λ _ _ _ _ _=>rfl) ?_ ?_
 .rintro j d U u hj ⟨T,x3,h,rfl,rfl⟩
  obtain⟨F,rfl⟩:=zQ hj
  obtain⟨z,Y,J⟩:=aQ5 (P:=P) ht n hw hv (0+(j:Int)) S T x3 h
  exact ah9 J ⟨z,_,_,rfl,rfl⟩
 .rintro U u ⟨T,x3,h,rfl,rfl⟩
  tbr_iter []
  exact qq (λ _=>rfl) (by nofun)
end
noncomputable def pcB:Ss:=(.cons (.asg (.one 4) (.call "_law_member" (.ex (.var 0) (.ex (.var 1) (.ex (.lst (.cons (.cst (.int 12)) .nil)) .nil))))) (.cons (.ite (.cmp .lt (.bi .len (.cons (.bin .add (.var 2) (.var 4)) .nil)) (.cst (.int 41))) (.cons (.asg (.one 2) (.bin .add (.var 2) (.var 4))) .nil) .nil) .nil))
theorem aE1:ab6.body=(.cons (.asg (.one 2) (.cst (.str []))) (.cons (.for_ (.one 3) (.rng1 (.call "_law_take" (.ex (.var 0) (.ex (.cst (.int 13)) .nil)))) pcB) (.cons (.ret (.var 2)) .nil))):=rfl
section
variable {P:Pr} [Has P ac6] [Has P ab2] [Has P ab6]
theorem aZ8 (t:Tr)(n:Nat)(ht:t.sz<=40){s:Sto}{r:Nat}(hs:∃ b,s[r]?=some (zv b)):SpR s r 40 ((aa1 P (n+t.dep+2)).call "_law_pieced" [.ref r,t.d] s):=by
 have hr:=ax1 hs
 obtain⟨k,b1,hk,e1⟩:=zP (P:=P) (n+t.dep) hs 13 (by decide) (by decide)
 have c0:(aa1 P (n+t.dep+2)).call "_law_pieced" [.ref r,t.d] s=_:=zd ab6 (n:=n+t.dep+1) rfl
 rw[c0,aE1,show(bj some [D.ref r,t.d]++ai ab6.vs none)=[some (.ref r),some t.d,none,none,none]from rfl]
 tbr_iter [e1]
 rw[zO (by unfold Ww62;lia) (by unfold Ww62;lia)]
 simp only[R.bind_ok]
 rw[R.bind_assoc]
 refine z9 (Ww:=SpR s r 40) (λ j U u=>∃(m:List Nat) (b:Nat×Nat) (T:Sto) (x3 J:Option D),m.length<=40/\U=[some (.ref r),some t.d,some (.str m),x3,J]/\u=s.set r (zv b)++T) ⟨[],b1,[],_,_,by simp,rfl,by rw[aK]⟩ (λ _ _ _ _ _=>rfl) ?_ ?_
 .rintro j d U u hj ⟨m,b,T,x3,J,Y,rfl,rfl⟩
  obtain⟨a1,rfl⟩:=zQ hj
  generalize hu:s.set r (zv b)++T=u at *
  have G:r<u.length:=by rw[<-hu];simp;lia
  have Z:∃ b,u[r]?=some (zv b):=⟨b,by rw[<-hu];exact aa2 (zI hr)⟩
  obtain⟨F,z,y2,a0,e2⟩:=qf (P:=P) (r:=r) (q:=u.length) (by lia) t n ht (u++[.lst [.int 12]]) 12 (ba9 Z) zW (by decide)
  have hS:SS (u++[O.lst [D.int 12]]) r u.length z y2=s.set r (zv z)++(T++[.lst [.int y2]]):=by
   unfold SS
   rw[an4 G]
   have hl:(u.set r (zv z)).length=u.length:=by simp
   rw[<-hl,qa,<-hu,an4 (by simp;exact hr),bX,aQ]
  rw[hS]at e2
  have ad:=ae3 (a:=m) (b:=F) (s:=s.set r (zv z)++(T++[.lst [.int y2]])) (by unfold LIM;lia)
  have h:∀(x:List Nat) u,bi .len [.str x] u=.ok (.int x.length) u:=λ x u=>rfl
  by_cases hlt:((m++F).length:Int)<41
  .refine ah9 (U:=[some (.ref r),some t.d,some (.str (m++F)),some (.int (0+j)),some (.str F)]) (s:=s.set r (zv z)++(T++[.lst [.int y2]])) ?_ ⟨m++F,z,_,_,_,by lia,rfl,rfl⟩
   unfold turn pcB
   tbr_iter [e2,ad,h,decide_eq_true hlt]
  .refine ah9 (U:=[some (.ref r),some t.d,some (.str m),some (.int (0+j)),some (.str F)]) (s:=s.set r (zv z)++(T++[.lst [.int y2]])) ?_ ⟨m,z,_,_,_,Y,rfl,rfl⟩
   unfold turn pcB
   tbr_iter [e2,ad,h,decide_eq_false hlt]
 .rintro U u ⟨m,b,T,x3,J,Y,rfl,rfl⟩
  tbr_iter []
  exact⟨m,b,Y,an8 (λ _=>rfl) (by nofun) rfl⟩
end
noncomputable def ci1:Ss:=(.cons (.asg (.one 3) (.call "_law_bag" (.ex (.var 0) (.ex (.var 2) .nil)))) (.cons (.ex (.meth .append (.var 1) (.cons (.call "_law_set" (.ex (.var 3) (.ex (.bin .add (.cst (.int 1)) (.call "_law_take" (.ex (.var 3) (.ex (.cst (.int 12)) .nil)))) (.ex (.bin .add (.cst (.int 1)) (.call "_law_take" (.ex (.var 3) (.ex (.cst (.int 40)) .nil)))) (.ex (.lst (.cons (.cst (.int 40)) .nil)) .nil))))) .nil))) .nil))
def TrP (t:Tr):Prop:=t.ok/\t.dep<=12/\t.sz<=40
noncomputable def cg4:Ss:=(.cons (.ite (.or (.not (.call "_law_right" (.ex (.ix (.var 1) (.cst (.int 0))) (.ex (.var 5) .nil)))) (.not (.call "_law_right" (.ex (.ix (.var 1) (.cst (.int 1))) (.ex (.var 5) .nil))))) (.cons (.ret (.cst (.bl false))) .nil) .nil) .nil)
noncomputable def ca9:Ss:=(.cons (.asg (.one 3) (.call "_law_bag" (.ex (.var 0) (.ex (.var 2) .nil)))) (.cons (.asg (.one 4) (.call "_law_pieced" (.ex (.var 3) (.ex (.ix (.var 1) (.bin .mod (.var 2) (.cst (.int 2)))) .nil)))) (.cons (.for_ (.one 5) (.seq (.lst (.cons (.cst (.str [])) (.cons (.var 4) (.cons (.slU (.call "_law_spoilt" (.ex (.var 3) (.ex (.var 4) .nil))) (.cst (.int 40))) (.cons (.call "_law_word" (.ex (.var 3) (.ex (.cst (.int 3)) (.ex (.cst (.int 40)) .nil)))) .nil)))))) cg4) .nil)))
theorem bO1:ab5.body=(.cons (.asg (.one 1) (.lst .nil)) (.cons (.for_ (.one 2) (.rng1 (.cst (.int 2))) ci1) (.cons (.for_ (.one 2) (.rng2 (.cst (.int 2)) (.bi .max2 (.cons (.cst (.int 4)) (.cons (.bi .min2 (.cons (.bi .len (.cons (.var 0) .nil)) (.cons (.cst (.int 5)) .nil))) .nil)))) ca9) (.cons (.ret (.cst (.bl true))) .nil)))):=rfl
section
variable {P:Pr} [Has P ab5] [Has P av1] [Has P ac6] [Has P ad5] [Has P ai7] [Has P ab4] [Has P ac3] [Has P ac2] [Has P ab2] [Has P ac7] [Has P ad6] [Has P ab9] [Has P ab3] [Has P ac1] [Has P ab6]
 [Has P ab0] [Has P ab8] [Has P ab1] [Has P aa8] [Has P ac4] [HasM P "Rooms" "link" aa7] [HasM P "Rooms" "lay_letter" aa3] [HasM P "Rooms" "lay" aa4] [HasM P "Rooms" "__init__" aa5] [HasA P "Rooms" ak0] [HasA P "Rooms" an2] [HasA P "Rooms" aj1]
theorem bG5 (n:Nat){z h:Tr}(J:TrP z)(h2:TrP h){w:List Nat}(hw:w.length<=40)(v:Sto)(hv:v[1]?=some (.lst ([z,h].map Tr.d)))(x0 x2 x3 F Z:Option D) :
  turn (aa1 P (n+17)) (.one 5) cg4 (.str w) [x0,some (.ref 1),x2,x3,F,Z] v=.ok (.next [x0,some (.ref 1),x2,x3,F,some (.str w)]) v:=by
 obtain⟨p1,p2,p3⟩:=J
 obtain⟨q1,q2,q3⟩:=h2
 have e1:=aL9 (P:=P) (t:=z) (by have:=av6 z;lia) (n+12 - z.dep) hw v
 rw[show n+12 - z.dep+z.dep+5=n+17 by lia]at e1
 have e2:=aL9 (P:=P) (t:=h) (by have:=av6 h;lia) (n+12 - h.dep) hw v
 rw[show n+12 - h.dep+h.dep+5=n+17 by lia]at e2
 have G:ixM (.ref 1) (.int 0) v=.ok z.d v:=zw (j:=0) hv rfl
 have Y:ixM (.ref 1) (.int 1) v=.ok h.d v:=zw (j:=1) hv rfl
 unfold turn cg4
 tbr_iter [G,e1,Y,e2]
theorem bE7 (n:Nat){ns:List Int}(hl:ns.length<=63){F J:Tr}(b5:TrP F)(b6:TrP J)(k:Nat)(t:Sto)(ht:t[0]?=some (.ro (ns.map D.int)))(h1:t[1]?=some (.lst ([F,J].map Tr.d)))(x2 x3 x4 G:Option D) :
  Nx (λ U u=>u[0]?=some (.ro (ns.map D.int))/\u[1]?=some (.lst ([F,J].map Tr.d))/\∃ x2 x3 x4 G,U=[some (.ref 0),some (.ref 1),x2,x3,x4,G]) (turn (aa1 P (n+17)) (.one 2) ca9 (.int (k:Int)) [some (.ref 0),some (.ref 1),x2,x3,x4,G] t):=by
 have e0:1<t.length:=(ac.mp h1).1
 have Y:=bs0 (P:=P) (n+16) ns k t 0 ht hl
 generalize bx8 ns k=b0 at Y
 have d0:∃ b,(t++[zv b0])[t.length]?=some (zv b):=⟨b0,by simp⟩
 have e1:(t++[zv b0]).length=t.length+1:=by simp
 have c1:(t++[zv b0])[0]?=some (.ro (ns.map D.int)):=aa2 ht
 have a0:(t++[zv b0])[1]?=some (.lst ([F,J].map Tr.d)):=aa2 h1
 generalize e4:t++[zv b0]=S at *
 generalize hr:t.length=r at *
 have c3:r<S.length:=by lia
 obtain⟨tr,htr,ix⟩:∃ tr,TrP tr/\ixM (.ref 1) (.int ((k:Int) % 2)) S=.ok tr.d S:=by
  rw[show(k:Int) % 2=((k % 2:Nat):Int)by lia]
  rcases(by lia:k % 2=0\/k % 2=1)with z|z
  .rw[z];exact⟨F,b5,zw (j:=0) a0 rfl⟩
  .rw[z];exact⟨J,b6,zw (j:=1) a0 rfl⟩
 obtain⟨p1,p2,p3⟩:=htr
 have md:z0 .mod (.int (k:Int)) (.int 2) S=.ok (.int ((k:Int) % 2)) S:=ai5 (by decide)
 obtain⟨w1,b1,a5,em⟩:=aZ8 (P:=P) tr (n+15 - tr.dep) p3 d0
 rw[show n+15 - tr.dep+tr.dep+2=n+17 by lia]at em
 have a3:(S.set r (zv b1))[0]?=some (.ro (ns.map D.int)):=by rw[ao (by lia)];exact c1
 have a4:(S.set r (zv b1))[1]?=some (.lst ([F,J].map Tr.d)):=by rw[ao (by lia)];exact a0
 have Z:=qt (s:=S) (r:=r) (b:=b1) c3
 generalize S.set r (zv b1)=Uu at em a3 a4 Z
 have d2:=ax1 Z
 obtain⟨m2,b2,d3,e2⟩:=aZ1 (P:=P) (n+15) Z a5
 have c0:=cg0 m2
 generalize a6:aj3 m2 none (some 40)=w2 at c0
 obtain⟨w3,b3,d1,e3⟩:=aS2 (P:=P) (n+15) (qt (b:=b2) d2)
 rw[bX]at e3
 have a1:(Uu.set r (zv b3))[0]?=some (.ro (ns.map D.int)):=by rw[ao (by lia)];exact a3
 have a2:(Uu.set r (zv b3))[1]?=some (.lst ([F,J].map Tr.d)):=by rw[ao (by lia)];exact a4
 generalize Uu.set r (zv b3)=V at e3 a1 a2
 have hq:ao6 (.ref V.length) (V++[.lst [.str [],.str w1,.str w2,.str w3]])=.ok ⟨[.str [],.str w1,.str w2,.str w3],[V.length]⟩ (V++[.lst [.str [],.str w1,.str w2,.str w3]]):=by simp only[ao6,zW]
 have c2:(V++[O.lst [.str [],.str w1,.str w2,.str w3]])[0]?=some (.ro (ns.map D.int)):=aa2 a1
 have b4:(V++[O.lst [.str [],.str w1,.str w2,.str w3]])[1]?=some (.lst ([F,J].map Tr.d)):=aa2 a2
 unfold turn ca9
 tbr_iter [Y,md,ix,em,bs2,slS,e2,a6,e3,hq]
 generalize V++[O.lst [.str [],.str w1,.str w2,.str w3]]=X at *
 try rw[R.bind_assoc]
 refine z9 (Ww:=Nx (λ U u=>u[0]?=some (.ro (ns.map D.int))/\u[1]?=some (.lst ([F,J].map Tr.d))/\∃ x2 x3 x4 G,U=[some (.ref 0),some (.ref 1),x2,x3,x4,G])) (λ j U u=>u=X/\∃ G,U=[some (.ref 0),some (.ref 1),some (.int (k:Int)),some (.ref r),some (.str w1),G]) ⟨rfl,_,rfl⟩ ?_ ?_ ?_
 .intro j U u hj h
  rw[h.1];simp[chk]
 .rintro j d U u hj ⟨rfl,G,rfl⟩
  obtain⟨w,hw,rfl⟩:∃ w:List Nat,w.length<=40/\d=.str w:=by
   have hd:=be hj
   simp only[aG,bV,or_false]at hd
   rcases hd with rfl|rfl|rfl|rfl
   .exact⟨[],by simp,rfl⟩
   .exact⟨_,a5,rfl⟩
   .exact⟨_,c0,rfl⟩
   .exact⟨_,d1,rfl⟩
  exact ah9 (bG5 (P:=P) n b5 b6 hw u b4 _ _ _ _ _) ⟨rfl,_,rfl⟩
 .rintro U u ⟨rfl,G,rfl⟩
  exact ah9 rfl ⟨c2,b4,_,_,_,_,rfl⟩
theorem bP3 (n:Nat):bY0 P (n+18):=by
 intro ns hl
 have e0:(aa1 P (n+18)).call "law" [.ref 0] [.ro (ns.map D.int)]=_:=zd ab5 (n:=n+17) rfl
 rw[e0,bO1,show(bj some [D.ref 0]++ai ab5.vs none)=[some (.ref 0),none,none,none,none,none]from rfl]
 have ha:([.ro (ns.map D.int)]:Sto)++[.lst []]=[.ro (ns.map D.int),.lst []]:=rfl
 have c1:(D.ref ([.ro (ns.map D.int)]:Sto).length)=.ref 1:=rfl
 tbr_iter [ha,c1]
 rw[zO (by unfold Ww62;lia) (by unfold Ww62;lia)]
 simp only[R.bind_ok]
 rw[R.bind_assoc]
 refine z9 (Ww:=Yes) (λ j U t=>t[0]?=some (.ro (ns.map D.int))/\∃(z:List Tr) (x2 x3:Option D),t[1]?=some (.lst (z.map Tr.d))/\z.length=j/\(∀ d∈z,TrP d)/\U=[some (.ref 0),some (.ref 1),x2,x3,none,none]) ⟨rfl,[],_,_,rfl,rfl,λ d hd=>(by cases hd),rfl⟩ (λ _ _ _ _ _=>rfl) ?_ ?_
 .rintro j d U t hj ⟨ht,z,x2,x3,h1,G,J,rfl⟩
  obtain⟨c0,rfl⟩:=zQ hj
  rw[jc]
  have d1:1<t.length:=(ac.mp h1).1
  have Y:=bs0 (P:=P) (n+16) ns j t 0 ht hl
  generalize bx8 ns j=b0 at Y
  have c3:∃ b,(t++[zv b0])[t.length]?=some (zv b):=⟨b0,by simp⟩
  have d2:(t++[zv b0]).length=t.length+1:=by simp
  have b4:(t++[zv b0])[0]?=some (.ro (ns.map D.int)):=aa2 ht
  have c2:(t++[zv b0])[1]?=some (.lst (z.map Tr.d)):=aa2 h1
  generalize d3:t++[zv b0]=S at *
  generalize hr:t.length=r at *
  have a1:r<S.length:=by lia
  obtain⟨k1,b1,e2,b5⟩:=zP (P:=P) (n+16) c3 12 (by decide) (qb (by decide))
  obtain⟨k2,b2,e1,a6⟩:=zP (P:=P) (n+16) (qt (b:=b1) a1) 40 (by decide) (qb (by decide))
  rw[bX]at a6
  have F:(S.set r (zv b2)).length=S.length:=by simp
  obtain⟨tr,b3,y3,htr,es⟩:=bG2 (P:=P) (n+17 - k1 - 2) (r:=r) (q:=S.length) (by lia) k1 (S.set r (zv b2)++[.lst [.int 40]]) (k2+1) (ba9 (qt a1)) ⟨40,by rw[<-F];simp⟩ (by lia) (by lia)
  rw[show n+17 - k1 - 2+k1+2=n+17 by lia]at es
  have eA:(1:Int)+(k1:Int)=(k1:Int)+1:=by lia
  have eB:(1:Int)+(k2:Int)=((k2+1:Nat):Int):=by lia
  have a2:(SS (S.set r (zv b2)++[O.lst [D.int 40]]) r S.length b3 y3)[0]?=some (.ro (ns.map D.int)):=by
   unfold SS
   rw[ao (by lia),ao (by lia)]
   exact aa2 (by rw[ao (by omega)];exact b4)
  have Z:(SS (S.set r (zv b2)++[O.lst [D.int 40]]) r S.length b3 y3)[1]?=some (.lst (z.map Tr.d)):=by
   unfold SS
   rw[ao (by lia),ao (by lia)]
   exact aa2 (by rw[ao (by omega)];exact c2)
  generalize SS (S.set r (zv b2)++[O.lst [D.int 40]]) r S.length b3 y3=Uu at es a2 Z
  have a5:1<Uu.length:=(ac.mp Z).1
  have d0:(ae1 0 (2:Int)).length=2:=rfl
  have ea:=qe (v:=tr.d) Z (by rw[az];unfold LIM;lia)
  have b6:D.ref (S.set r (zv b2)).length=.ref S.length:=by rw[F]
  refine ah9 (U:=[some (.ref 0),some (.ref 1),some (.int j),some (.ref r),none,none]) (s:=Uu.set 1 (.lst (z.map Tr.d++[tr.d]))) ?_ ⟨by rw[ao (by lia)];exact a2,z++[tr],_,_,by rw[zI a5,bw];rfl,by rw[am,G];rfl,λ d hd=>?_,rfl⟩
  .unfold turn ci1
   tbr_iter [Y,b5,eA,a6,eB,b6,es,ea]
  .rcases aO.mp hd with h|h
   .exact J d h
   .rw[aD.mp h];exact⟨htr.1,by lia,by lia⟩
 rintro U v ⟨hv,z,x2,x3,h1,G,J,rfl⟩
 have G:z.length=2:=G
 obtain⟨t1,t2,rfl⟩:∃ t1 t2,z=[t1,t2]:=by
  match z,G with
  | [t1,t2],_=>exact⟨t1,t2,rfl⟩
 have a3:bi .len [.ref 0] v=.ok (.int ns.length) v:=by rw[bp8 hv,az]
 obtain⟨k,hk12,hk⟩:∃ k:Nat,k<=7/\(if(if 5<(ns.length:Int)then 5 else(ns.length:Int)) > 4 then(if 5<(ns.length:Int)then 5 else(ns.length:Int))else 4)=(k:Int):=by
  by_cases h:(5:Int)<(ns.length:Int)
  .exact⟨5,by lia,by rw[if_pos h];rfl⟩
  .rw[if_neg h]
   by_cases h2:(ns.length:Int) > 4
   .exact⟨ns.length,by lia,by rw[if_pos h2]⟩
   .exact⟨4,by lia,by rw[if_neg h2];rfl⟩
 have r2:=aE5 (i:=2) (j:=(k:Int)) (by lia) (by lia) v
 tbr_iter [a3,bk0,bo2,hk,ak8,r2]
 try rw[R.bind_assoc]
 refine z9 (Ww:=Yes) (λ j U u=>u[0]?=some (.ro (ns.map D.int))/\u[1]?=some (.lst ([t1,t2].map Tr.d))/\∃ x2 x3 x4 x5,U=[some (.ref 0),some (.ref 1),x2,x3,x4,x5]) ⟨hv,h1,_,_,_,_,rfl⟩ (λ _ _ _ _ _=>rfl) ?_ ?_
 .rintro j d U u hj ⟨a4,a0,x2,x3,x4,x5,rfl⟩
  obtain⟨c0,rfl⟩:=zQ hj
  rw[show(2:Int)+(j:Int)=((2+j:Nat):Int)by lia]
  exact bE7 n hl (J t1 (by simp)) (J t2 (by simp)) (2+j) u a4 a0 _ _ _ _
 .rintro U u ⟨a4,a0,x2,x3,x4,x5,rfl⟩
  tbr_iter []
  exact bc8 _ _
end
theorem cc9 {P:Pr}[Has P ab5][Has P av1][Has P ac6][Has P ad5][Has P ai7][Has P ab4][Has P ac3][Has P ac2][Has P ab2][Has P ac7][Has P ad6][Has P ab9][Has P ab3][Has P ac1][Has P ab6]
 [Has P ab0] [Has P ab8] [Has P ab1] [Has P aa8] [Has P ac4] [HasM P "Rooms" "link" aa7] [HasM P "Rooms" "lay_letter" aa3] [HasM P "Rooms" "lay" aa4] [HasM P "Rooms" "__init__" aa5] [h1:HasA P "Rooms" [108,101,116,116,101,114,115]] [h2:HasA P "Rooms" [102,111,108,108,111,119,115]] [h3:HasA P "Rooms" [101,110,100,115]] (n:Nat):bY0 P (n+18):=by
 haveI a1:HasA P "Rooms" ak0:=h1
 haveI a2:HasA P "Rooms" an2:=h2
 haveI a3:HasA P "Rooms" aj1:=h3
 exact bP3 n
end DV
end
local macro_rules | `(tactic| walk_at "sc") => `(tactic| exact ⟨rfl, rfl, rfl, by decide +kernel, rfl, by decide +kernel, by decide +kernel⟩)
local macro_rules | `(tactic| walk_at "mf") => `(tactic| (dsimp only; exact ⟨_, _, _, _, _, _, _, _, _, _, _, by k_is, by k_is, by k_is, by k_is, by k_is, by k_is⟩))
local macro_rules | `(tactic| walk_at "df") => `(tactic| (dsimp only; exact ⟨_, _, _, _, _, _, _, _, _, _, by k_is, by k_is, by k_is, by k_is⟩))
noncomputable section
namespace My
open PySem L2
noncomputable def top (i:Nat):Stmt:=PySem.Challenge.pw_leasttolls_k65_words_cut_up.main.body.getD i (.Pass ⟨0,0,0,0⟩)
noncomputable def ae4:List Str:=[]
noncomputable abbrev al1:Stmt:=top 2
noncomputable abbrev aL5:Stmt:=top 3
noncomputable abbrev ao4:Stmt:=top 4
noncomputable abbrev aM3:Stmt:=top 6
noncomputable abbrev af5:Stmt:=top 7
noncomputable abbrev ap9:Stmt:=top 9
noncomputable abbrev an7:Stmt:=top 10
noncomputable abbrev am3:Stmt:=top 11
noncomputable abbrev aq0:Stmt:=top 12
noncomputable abbrev ah0:Stmt:=top 13
noncomputable abbrev aj2:Stmt:=top 14
noncomputable abbrev al2:Stmt:=top 15
noncomputable abbrev ae8:Stmt:=top 16
noncomputable abbrev ah4:Stmt:=top 17
noncomputable abbrev ag2:Stmt:=top 18
noncomputable abbrev af0:Stmt:=top 19
noncomputable abbrev al7:Stmt:=top 20
noncomputable abbrev af2:Stmt:=top 21
noncomputable abbrev ai6:Stmt:=top 22
noncomputable abbrev aw2:Stmt:=top 23
noncomputable def bg1:Stmt->List Stmt|.ClassDef _ _ _ b _ _ _ _ _ _ _=>b|_=>[]
noncomputable abbrev ad7:Stmt:=(bg1 (top 1)).getD 0 (.Pass ⟨0,0,0,0⟩)
noncomputable abbrev an3:Stmt:=(bg1 (top 1)).getD 1 (.Pass ⟨0,0,0,0⟩)
noncomputable abbrev s_Rooms_lay_letter:Stmt:=(bg1 (top 1)).getD 2 (.Pass ⟨0,0,0,0⟩)
noncomputable abbrev ai9:Stmt:=(bg1 (top 1)).getD 3 (.Pass ⟨0,0,0,0⟩)
noncomputable def mtb:List ((String×String)×k8×Stmt):=[(("Rooms", "__init__"),DV.aa5,ad7),(("Rooms", "lay"),DV.aa4,an3),(("Rooms", "lay_letter"),DV.aa3,s_Rooms_lay_letter),(("Rooms", "link"),DV.aa7,ai9)]
noncomputable def obt:List (String×List (List Nat)):=[("Rooms",[[101,110,100,115],[108,101,116,116,101,114,115],[102,111,108,108,111,119,115]])]
noncomputable def tb:List (String×k8×Stmt):=[("rooms_for",DV.ab0,al1),("led_by",DV.ab8,aL5),("ends_from",DV.ab1,ao4),("cut_up",DV.ac4,aM3),("take_pieces",DV.aa8,af5),("_law_bag",DV.av1,ap9),("_law_take",DV.ac6,an7),("_law_word",DV.ai7,am3),("_law_set",DV.ad5,aq0),("_law_onward",DV.ab4,ah0),("_law_again",DV.ac3,aj2),("_law_ends",DV.ac2,al2),("_law_member",DV.ab2,ae8),("_law_spoilt",DV.ac7,ah4),("_law_fewest",DV.ab3,ag2),("_law_pieced",DV.ab6,af0),("_law_held",DV.ad6,al7),("_law_is_cut",DV.ab9,af2),("_law_right",DV.ac1,ai6),("law",DV.ab5,aw2)]
noncomputable def cc8:List (String×kC):=[]
noncomputable def ck3:List (String×DV.Lm):=[]
noncomputable def tbl:List (String×k8):=tb.map λ p=>(p.1,p.2.1)
noncomputable def P:kQ:=⟨λ f=>tbl.lookup f,λ f=>ck3.lookup f,λ x=>cc8.lookup x,λ _=>none,λ _=>none,λ _=>false,λ _=>false,λ _=>none,λ c m=>(mtb.lookup (c,m)).map (·.1),λ c f=>(obt.lookup c).any λ l=>l.contains f⟩
instance:DV.Has P DV.ab0:=⟨rfl⟩
instance:DV.Has P DV.ab8:=⟨rfl⟩
instance:DV.Has P DV.ab1:=⟨rfl⟩
instance:DV.Has P DV.ac4:=⟨rfl⟩
instance:DV.Has P DV.aa8:=⟨rfl⟩
instance:DV.Has P DV.av1:=⟨rfl⟩
instance:DV.Has P DV.ac6:=⟨rfl⟩
instance:DV.Has P DV.ai7:=⟨rfl⟩
instance:DV.Has P DV.ad5:=⟨rfl⟩
instance:DV.Has P DV.ab4:=⟨rfl⟩
instance:DV.Has P DV.ac3:=⟨rfl⟩
instance:DV.Has P DV.ac2:=⟨rfl⟩
instance:DV.Has P DV.ab2:=⟨rfl⟩
instance:DV.Has P DV.ac7:=⟨rfl⟩
instance:DV.Has P DV.ab3:=⟨rfl⟩
instance:DV.Has P DV.ab6:=⟨rfl⟩
instance:DV.Has P DV.ad6:=⟨rfl⟩
instance:DV.Has P DV.ab9:=⟨rfl⟩
instance:DV.Has P DV.ac1:=⟨rfl⟩
instance:DV.Has P DV.ab5:=⟨rfl⟩
instance:DV.HasM P "Rooms" "__init__" DV.aa5:=⟨rfl⟩
instance:DV.HasM P "Rooms" "lay" DV.aa4:=⟨rfl⟩
instance:DV.HasM P "Rooms" "lay_letter" DV.aa3:=⟨rfl⟩
instance:DV.HasM P "Rooms" "link" DV.aa7:=⟨rfl⟩
instance:DV.HasA P "Rooms" [101,110,100,115]:=⟨by decide⟩
instance:DV.HasA P "Rooms" [108,101,116,116,101,114,115]:=⟨by decide⟩
instance:DV.HasA P "Rooms" [102,111,108,108,111,119,115]:=⟨by decide⟩
theorem aj6:DTM "Rooms" "__init__" DV.aa5 ad7:=⟨["self"],["self"],by walk_at "sc",rfl,rfl,λ _ _ _ _ _ _=>bd1 (λ _=>rfl),by decide +kernel⟩
theorem aC0:DTM "Rooms" "lay" DV.aa4 an3:=⟨["self", "words", "one", "other", "firsts", "lasts"],["self", "words"],by walk_at "sc",rfl,rfl,λ _ _ _ _ _ _=>bd2 (λ _ _=>rfl),by decide +kernel⟩
theorem ae6:DTM "Rooms" "lay_letter" DV.aa3 s_Rooms_lay_letter:=⟨["self", "letter", "room"],["self", "letter"],by walk_at "sc",rfl,rfl,λ _ _ _ _ _ _=>bd2 (λ _ _=>rfl),by decide +kernel⟩
theorem ax5:DTM "Rooms" "link" DV.aa7 ai9:=⟨["self", "rooms", "goals", "room", "goal"],["self", "rooms", "goals"],by walk_at "sc",rfl,rfl,λ _ _ _ _ _ _=>bd3 (λ _ _ _=>rfl),by decide +kernel⟩
theorem ce3:∀ p∈mtb,DTM p.1.1 p.1.2 p.2.1 p.2.2:=by
 intro p h
 unfold mtb at h
 simp only[aG,bV,or_false]at h
 rcases h with rfl|rfl|rfl|rfl
 .exact aj6
 .exact aC0
 .exact ae6
 .exact ax5
theorem aD5:DT ae4 P "rooms_for" DV.ab0 al1:=⟨["words", "laid", "whole"],["words"],by walk_at "sc",rfl,rfl,λ _ _ _ _ _ _=>bd1 (λ _=>rfl),.inl (by decide +kernel)⟩
theorem bl1:DT ae4 P "led_by" DV.ab8 aL5:=⟨["laid", "rooms", "letter", "found", "room", "goal"],["laid", "rooms", "letter"],by walk_at "sc",rfl,rfl,λ _ _ _ _ _ _=>bd3 (λ _ _ _=>rfl),.inl (by decide +kernel)⟩
theorem aC7:DT ae4 P "ends_from" DV.ab1 ao4:=⟨["laid", "word", "start", "found", "rooms", "at"],["laid", "word", "start"],by walk_at "sc",rfl,rfl,λ _ _ _ _ _ _=>bd3 (λ _ _ _=>rfl),.inl (by decide +kernel)⟩
theorem bp1:DT ae4 P "cut_up" DV.ac4 aM3:=⟨["words", "word", "laid", "fewest", "at"],["words", "word"],by walk_at "sc",rfl,rfl,λ _ _ _ _ _ _=>bd2 (λ _ _=>rfl),.inl (by decide +kernel)⟩
theorem as7:DT ae4 P "take_pieces" DV.aa8 af5:=⟨["fewest", "word", "at", "ends", "end"],["fewest", "word", "at", "ends"],by walk_at "sc",rfl,rfl,λ _ _ _ _ _ _=>bd4 (λ _ _ _ _=>rfl),.inl (by decide +kernel)⟩
theorem aP3:DT ae4 P "_law_bag" DV.av1 ap9:=⟨["_law_script", "_law_at", "_law_cell", "_law_mix", "_law_k"],["_law_script", "_law_at"],by walk_at "sc",rfl,rfl,λ _ _ _ _ _ _=>bd2 (λ _ _=>rfl),.inl (by decide +kernel)⟩
theorem aD4:DT ae4 P "_law_take" DV.ac6 an7:=⟨["_law_bag_here", "_law_many", "_law_digit", "_law_number", "_law_room"],["_law_bag_here", "_law_many"],by walk_at "sc",rfl,rfl,λ _ _ _ _ _ _=>bd2 (λ _ _=>rfl),.inl (by decide +kernel)⟩
theorem aD9:DT ae4 P "_law_word" DV.ai7 am3:=⟨["_law_bag_here", "_law_letters", "_law_most", "_law_word_here", "_law_k"],["_law_bag_here", "_law_letters", "_law_most"],by walk_at "sc",rfl,rfl,λ _ _ _ _ _ _=>bd3 (λ _ _ _=>rfl),.inl (by decide +kernel)⟩
theorem aQ3:DT ae4 P "_law_set" DV.ad5 aq0:=⟨["_law_bag_here", "_law_deep", "_law_room", "_law_left", "_law_kind", "_law_sign", "_law_some", "_law_first"],["_law_bag_here", "_law_deep", "_law_room", "_law_left"],by walk_at "sc",rfl,rfl,λ _ _ _ _ _ _=>bd4 (λ _ _ _ _=>rfl),.inl (by decide +kernel)⟩
theorem as9:DT ae4 P "_law_onward" DV.ab4 ah0:=⟨["_law_bits", "_law_rows", "_law_found", "_law_k"],["_law_bits", "_law_rows"],by walk_at "sc",rfl,rfl,λ _ _ _ _ _ _=>bd2 (λ _ _=>rfl),.inl (by decide +kernel)⟩
theorem aA7:DT ae4 P "_law_again" DV.ac3 aj2:=⟨["_law_rows", "_law_found", "_law_k"],["_law_rows"],by walk_at "sc",rfl,rfl,λ _ _ _ _ _ _=>bd1 (λ _=>rfl),.inl (by decide +kernel)⟩
theorem aD6:DT ae4 P "_law_ends" DV.ac2 al2:=⟨["_law_words", "_law_word_here", "_law_size", "_law_first", "_law_second"],["_law_words", "_law_word_here"],by walk_at "sc",rfl,rfl,λ _ _ _ _ _ _=>bd2 (λ _ _=>rfl),.inl (by decide +kernel)⟩
theorem au5:DT ae4 P "_law_member" DV.ab2 ae8:=⟨["_law_bag_here", "_law_words", "_law_room", "_law_first", "_law_found", "_law_k"],["_law_bag_here", "_law_words", "_law_room"],by walk_at "sc",rfl,rfl,λ _ _ _ _ _ _=>bd3 (λ _ _ _=>rfl),.inl (by decide +kernel)⟩
theorem au1:DT ae4 P "_law_spoilt" DV.ac7 ah4:=⟨["_law_bag_here", "_law_word_here", "_law_at", "_law_way"],["_law_bag_here", "_law_word_here"],by walk_at "sc",rfl,rfl,λ _ _ _ _ _ _=>bd2 (λ _ _=>rfl),.inl (by decide +kernel)⟩
theorem at7:DT ae4 P "_law_fewest" DV.ab3 ag2:=⟨["_law_words", "_law_word_here", "_law_ends_here", "_law_best", "_law_k", "_law_j"],["_law_words", "_law_word_here"],by walk_at "sc",rfl,rfl,λ _ _ _ _ _ _=>bd2 (λ _ _=>rfl),.inl (by decide +kernel)⟩
theorem au6:DT ae4 P "_law_pieced" DV.ab6 af0:=⟨["_law_bag_here", "_law_words", "_law_word_here", "_law_k", "_law_more"],["_law_bag_here", "_law_words"],by walk_at "sc",rfl,rfl,λ _ _ _ _ _ _=>bd2 (λ _ _=>rfl),.inl (by decide +kernel)⟩
theorem aB5:DT ae4 P "_law_held" DV.ad6 al7:=⟨["_law_words", "_law_word_here"],["_law_words", "_law_word_here"],by walk_at "sc",rfl,rfl,λ _ _ _ _ _ _=>bd2 (λ _ _=>rfl),.inl (by decide +kernel)⟩
theorem au9:DT ae4 P "_law_is_cut" DV.ab9 af2:=⟨["_law_words", "_law_word_here", "_law_found", "_law_due"],["_law_words", "_law_word_here", "_law_found", "_law_due"],by walk_at "sc",rfl,rfl,λ _ _ _ _ _ _=>bd4 (λ _ _ _ _=>rfl),.inl (by decide +kernel)⟩
theorem aA6:DT ae4 P "_law_right" DV.ac1 ai6:=⟨["_law_words", "_law_word_here", "_law_due", "_law_turn", "_law_found"],["_law_words", "_law_word_here"],by walk_at "sc",rfl,rfl,λ _ _ _ _ _ _=>bd2 (λ _ _=>rfl),.inl (by decide +kernel)⟩
theorem bu0:FnScope ["_law_script", "_law_sets", "_law_k", "_law_bag_here", "_law_own", "_law_word_here"] ["_law_script"] (defScope aw2):=by walk_at "sc"
theorem bR3:mSs ⟨["_law_script", "_law_sets", "_law_k", "_law_bag_here", "_law_own", "_law_word_here"],defScope aw2,λ _ _ _=>false⟩ DV.ab5.body (defBody aw2)=true:=by decide +kernel
theorem bU4:ch7 "law" aw2 ["_law_script"]:=λ _ _ _ _ _ _=>bd1 λ _=>rfl
theorem ca4:DT ae4 P "law" DV.ab5 aw2:=⟨_,_,bu0,rfl,rfl,bU4,.inl bR3⟩
theorem ce4:∀ p∈tb,DT ae4 P p.1 p.2.1 p.2.2:=by
 intro p h
 unfold tb at h
 simp only[aG,bV,or_false]at h
 rcases h with rfl|rfl|rfl|rfl|rfl|rfl|rfl|rfl|rfl|rfl|rfl|rfl|rfl|rfl|rfl|rfl|rfl|rfl|rfl|rfl
 .exact aD5
 .exact bl1
 .exact aC7
 .exact bp1
 .exact as7
 .exact aP3
 .exact aD4
 .exact aD9
 .exact aQ3
 .exact as9
 .exact aA7
 .exact aD6
 .exact au5
 .exact au1
 .exact at7
 .exact au6
 .exact aB5
 .exact au9
 .exact aA6
 .exact ca4
theorem bU5 {l:cV}{w:World}{K:ae}{h:Heap}{z:yC}{fa:Addr}(X:K.In h)(G:h.Ns bf z)(Y:z "law"=some (.ref fa))(hD:∀ p∈tb,ca5 K p.1 p.2.2)(hz:∀ x∈bNames,cj K bf x=some none)
  (hT:∀ x∈ae4,(bq K x).isSome=true) (tnd:decide (((bE0 ae4 K).map (·.1)).Nodup)=true) (hO:(obt.all λ p=>bW2 K p.1 p.2)=true) (hM:∀ p∈mtb,cj7 K p.1.1 p.1.2 p.2.2)
  : ∃ fd:bM,(∀(s:ag) (v:Value),jx s fd ⟨[v],[]⟩ [("_law_script",v)])/\∀ base:Heap,K.In base->base.Ns bf z->BM z base->bu1 K ae4 base->FnOk l.prog w K z base CX0 56 fa fd ["_law_script"] (spB ae4 K):=by
 have Z:=bQ9 (names:=ae4) (P:=P) (mtb:=mtb) (obt:=obt) X G (λ _ _=>rfl) (λ _ _=>rfl) hO (by decide) hM ce3
 have hP:PrOk (aX1 ae4 P K) (bL0 ae4 K) P z w:=by
  refine⟨λ f d h=>aI7 (tbl:=tbl) (λ p J=>?_) f d h,λ x d h=>aS3 (tbl:=cc8) ?_ x d h,λ x hx=>PySem.W.mg_none_of X G (hz x hx),ce6 X G,trivial,of_decide_eq_true tnd,λ _ _ h=>(by cases h),λ _ _ h=>(by cases h),λ _ h=>(by cases h),λ _ h=>(by cases h),λ _ _ _ _ h=>(by cases h),λ _ _ _ _ h=>(by cases h),λ _ _ h=>(by cases h),λ _ h=>(by cases h),λ _ _ h=>(by cases h),λ _ _ h=>(by cases h),Z.1,Z.2.1,Z.2.2⟩
  .obtain⟨r,hr,rfl⟩:=aZ.mp J
   exact good_of X G hT (hD r hr) (ce4 r hr)
  .intro p J
   unfold cc8 at J
   simp only[aG,bV,or_false]at J
 obtain⟨f,od,an,sl,oc,kV,dc,pm,cd,ct,a,l0,c,k⟩:=hD ("law",DV.ab5,aw2) (by unfold tb;simp)
 have e:=Y.symm.trans (ee X G a)
 cases e
 have F:=aU3 (st:=aw2) l0 c k
 refine⟨_,λ s v=>.of_eq rfl,λ base _ _ bm hk=>(bV0 hP (bs8 hT bm hk) 24 (aL3 hP (bs8 hT bm hk) (λ _=>rfl) 24) (d:=DV.ab5) (f := "law") rfl ⟨F,ee X G a,F.binds bU4⟩ bu0 rfl rfl bR3 aR9).imp (λ vs H Q E q=>bN9 (λ ns h=>DV.cc9 (P:=P) 7 ns h) vs H Q E (bf6 hT q))⟩
end My
end
open PySem PySem.W PyProof.Rows
set_option maxRecDepth 100000 in
set_option maxHeartbeats 0 in
theorem PySem.Challenge.cw_leasttolls_k65_words_cut_up_holds : PySem.Challenge.rw_leasttolls_k65_words_cut_up.Holds := by
 refine My.GT.2 ?_
 delta My.GT
 dsimp only
 k_fill
 refine L2.aY0 (l:=PySem.Challenge.rw_leasttolls_k65_words_cut_up) (n:=63) (k:=56) (x := "_law_script") (sp:=L2.spB My.ae4) My.ae4 rfl (by decide) rfl ⟨rfl,by decide,by decide⟩ (ts:=[]) (λ w h Y=>⟨PySem.W.kIn_of Y,λ _ hP=>absurd hP (bV)⟩) (λ w=>?R) (λ w=>?NT) ?F (λ K H a ns hl hB hS hF=>L2.bJ6 hl hB hS hF)
 case R=>kernel_rfl
 case NT=>kernel_rfl
 case F =>
  intro w mg fa h KX G hmg
  refine' My.bU5 KX G hmg ?hD ?hz  ?hT ?tnd ?hO ?hM
  case hD =>
   intro p hp
   unfold My.tb at hp
   simp only[aG,bV,or_false]at hp
   rcases hp with rfl|rfl|rfl|rfl|rfl|rfl|rfl|rfl|rfl|rfl|rfl|rfl|rfl|rfl|rfl|rfl|rfl|rfl|rfl|rfl
   all_goals walk_at "df"
  case hz =>
   intro x hx
   unfold L2.bNames at hx
   simp only[aG,bV,or_false]at hx
   rcases hx with rfl|rfl|rfl|rfl|rfl|rfl|rfl|rfl|rfl|rfl|rfl|rfl|rfl|rfl|rfl|rfl|rfl|rfl<;>k_is
  case hT =>
   intro x hx;cases hx
  (case tnd=>kernel_rfl)
  (case hO=>kernel_rfl)
  case hM =>
   intro p hp
   unfold My.mtb at hp
   simp only[aG,bV,or_false]at hp
   rcases hp with rfl|rfl|rfl|rfl
   all_goals walk_at "mf"
