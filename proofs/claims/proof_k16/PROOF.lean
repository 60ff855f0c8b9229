import PyProof.Rows.All
import Wide.All
import OpenK.AllK
import Wide.FinOn
import PyProof.EqAt
import PyProof.EqKinds
import PyProof.TupleCall
import PyProof.MinMaxWalk
import PyProof.WalkInts
import PyProof.NeKinds
import PyProof.SliceStr2
import PyProof.StrBlockI
import PyProof.MaxThree
import PyProof.ZipIter
import PyProof.Draws
import PyProof.EnumMake
import PyProof.ListMulRoad
import PyProof.Rows.StrRev
import PyProof.DictItems
import PyProof.ListRange
import PyProof.AutoIntG2
import PyProof.FactsAll.int_6
import KE.KMinKey
import PyProof.Rows.TupDisplay
import PyProof.Rows.CatchBare
import KE.KTryMore
import PyProof.RulesAs
import PyProof.StrOps
import KE.IntBitsLaws
import KE.KIntText
import PyProof.CallStr
import PyProof.StrBlockL
import PyProof.StrLawsChain
import PyProof.StrLawsTight
import PyProof.Rows.StrItems
import PySem.Challenge.RW_leasttolls_k16_rows_met
set_option hygiene false
set_option bootstrap.genMatcherCode false
set_option genSizeOf false
set_option compiler.extract_closed false
set_option Elab.async false
set_option linter.all false
set_option maxRecDepth 100000
set_option maxHeartbeats 4000000
open Bool renaming false_eq_true->ac,not_false->aj,not_true->am,and_eq_true->ao,false_ne_true->aW,or_eq_true->cb,true_and->dJ,and_eq_true_iff->eN,or_eq_false_iff->eR,and_true->fT,eq_iff_iff->gG,and_self->iG,not_eq_true'->je,false_and->jR,false_or->j8
open List renaming getElem?_eq_some_iff->ae,mem_cons_of_mem->aq,getElem?_eq_getElem->au,length_append->ax,mem_singleton->ay,replicate->aA,size_toArray->aB,mem_cons_self->aC,length_map->aE,mem_cons->aH,getElem?_append_left->aI,getElem?_append_right->aK,mem_append_right->aM,mem_append->aP,mem_map->aQ,mem_of_getElem?->aR,getElem?_map->aS,getElem?_set_ne->aU,all_eq_true->aX,filterMap_cons->aY,getElem?_set_self->aZ,map_cons->a7,range->a8,length_cons->bc,lookup_cons->be,mem_append_left->bh,length_set->bp,append_nil->bw,length_take->bD,getD_eq_getElem?_getD->bE,replicate_succ->bL,cons_lt_cons_iff->bM,map_append->bN,mem_map_of_mem->bQ,getElem?_eq_none->bR,cons_append->bT,length_eq_zero_iff->bU,getElem?_of_mem->bV,not_mem_nil->bW,map_map->b7,set_set->b8,pairwise_iff_getElem->cc,append_assoc->cx,set_append->cy,mem_filterMap->cF,map->cH,nil_append->cL,flatten_cons->cM,getElem?_take_of_lt->cN,mem_range->cS,filterMap_map->cY,foldl_cons->c6,find?_cons->c7,length_singleton->dh,getElem?_toArray->di,contains_iff_mem->dj,mem_iff_getElem->du,drop_zero->dw,lt_irrefl->dz,drop_eq_getElem_cons->dE,getElem?_range->dF,all_cons->dG,nodup_cons->dM,pairwise_cons->dR,reverse_cons->d6,map_nil->d7,take_of_length_le->ed,drop_eq_nil_of_le->eg,foldl_append->eA,set_append_right->eD,length_drop->eG,pairwise_append->eT,mem_filter->eU,length_nil->eZ,any_cons->fQ,take_append_getElem->fU,getElem?_replicate->fW,filter_cons->f8,pairwise_singleton->f9,range_succ_eq_map->ga,pairwise_lt_range->gA,of_mem_zip->gD,set_getElem_self->gN,forIn_nil->gY,filterMap->g6,length_reverse->iq,length_pos_iff->iw,map_congr_left->iz,getElem?_take->iQ,take_sublist->i6,any_eq_true->jq,getD->jv,take_length->jw,forIn_cons->jF,foldl->jV,set_comm->ka,all_map->kj,map_set->kB,lookup->kH
open Option renaming bind_some->af,map_some->ag,map_eq_some_iff->bJ,isSome_some->fv,isSome_map->fI,isSome_iff_exists->fM,getD_none->jn,map_none->jK
open PySem.W renaming Frag->ah,kitOne->bj,tabIn->bv,kia_one->bK,CodeHd->bX,nsIn->cf,mg_of->ci,keepIn->cq,exmOne->cu,fnOf->cX,OpenLaw->cZ,findIn->dr,codeIn->fq,methodObj->fC,cellsFrom_some->gg,instObj->gC,lookIn->gT,tabObj->g9,kitx_tuple->iL,mg_none_of->iR,specialIn->iY,kitx_list->iZ,kitx_dict->i4,plainGet->jl,codeHdIn->jr,takesIn->jD,kla_fn->jX,TabsAt->j0,noTabs->j1,WalkO->j4,mroIn->j7,fnX->kI
open PySem renaming Shared->ai,wpAny_bind->ak,wpAny_pure->aD,Program->aJ,sizeLine->aN,Around->aV,mainGlobals->bf,mem_of_lookup->bn,wpAny_mono->bq,bootBuiltins->br,starEach->bz,cellsFrom->bB,wpAny_newObj_type->bG,FuncData->bS,binaryOp->cj,NameKind->cr,wpAny_truthy_bool->cw,wpAny_call_entry->cA,assignEach->cE,compareOp->cJ,wpAny_passesOwn->cK,Paired->cQ,wpAny_seqItems->cR,wpAny_callSpecial?_slot->cT,sysModules->cV,wpAny_Call_Name_kw->cW,wpAny_specialOf->c0,wpAny_execs_nil->c5,behindInMarks->c9,wpAny_holding->da,wpAny_callSpecialIfBoundUnlessNone?_slot->db,foldedSetIterable->dk,wpAny_rule->dq,wpAny_forIn_list->dA,argBest->dB,IsTupleKey->dN,isTrue->dP,wpAny_field->dU,sliceBounds->dW,backTo->dZ,wpAny_pyIter_list->d4,wpAny_tryCatch->d8,Arguments->eF,typeIs_str->eI,pushCells->eJ,attributeBase->eL,relabel->eM,callSpecialIfBoundUnlessNone?->eO,sizeLine_eq->eP,letOwnedTupleGo->eV,pushCells_keeps->eW,wpAny_loadPart'->e6,swapsWith->fh,wpAny_binaryOp_repeat_ref->fA,IsPart->fN,wpAny_comprehension_free->fO,plainId_quiet->fP,ExceptHandler->fR,noFill_tuple_add->fX,builtinsNs->gb,assign->gd,codeAny->gf,getItem->gh,wpAny_typeOf->gi,typeIs_int->gm,call_meets->gu,codeAny_compStart_list->gy,richCompare_meets_room->gz,codeAny_builtin->gE,wpAny_updateSeq->gF,isSubtype_tuple_tuple->gJ,wpAny_isTrue_Compare1->gK,wpAny_loadName_local->gS,wpAny_letGo->gZ,strIterType->g7,PassesOwn->hJ,Keyword->hW,callerA->hX,seqItems?->hZ,valueAt->ic,wpAny_loadName_cell->io,wpAny_standAt->iB,swappedStores->iC,seq_tuple_add->iD,wpAny_pyIter_tuple->iK,eqIsQuiet_byValue->iU,holding->iV,wpAny_assign_Name->iX,codeAny_mono->i5,concat_meets->i7,wpAny_sequenceKey->i8,seqIndex_neg->i9,slot_list_getitem->ja,notedBy->jb,beq_builtin_none->jg,eqIsQuiet->jh,wpAny_isInstance->ji,wpAny_execs_cons->jj,pyNext->jk,noteFrame->jp,seqSlot_of->js,wpAny_Dict_empty->jt,wpAny_Try_except->ju,seqIndex_of->jx,keywordEach->jy,BindsTo->jL,call->jN,reduceHash->jO,wpAny_Name->jP,Operator->jQ,Result->jS,PlainAttrs->jU,quietNames->jZ,KeyKind->j6,storeName->kc,setFlight->kg,Within->km,pyIter->ko,typeOf->kq
open Nat renaming le_trans->av,le_refl->aw,lt_of_lt_of_le->aF,ne_of_lt->aL,lt_irrefl->bF,zero_le->b9,sub_self->ce,lt_succ_self->cC,add_assoc->c8,le_succ->dt,zero_add->dC,lt_trichotomy->ee,add_comm->fc,le_of_succ_le->fD,lt_succ_of_lt->fF,le_succ_of_le->fK,le_of_lt->gc,pow_le_pow_right->hG,lt_trans->jd,lt_or_ge->jf,le_of_not_lt->jo,mul_add->jA,not_lt_zero->jB,strongRecOn->jJ,not_lt->jW,ne_of_gt->kn,mul_comm->kr,add_zero->kA,sub_zero->kC
open PySem.Heap renaming get?_push_of_some->az,lt_size->aO,get?_push_size->a9,get?_update_other->bO,size_push->cU,get?_update_self->dg,SameBut->dY,ExtBut->jz
open Option.some renaming inj->aG
open PyProof.Rows renaming slot_tuple_getitem->bu,kindOf->eE,AllBare->e8,callWith_type1->e9,envOfC->fo,subscriptTail_builtinR->gj,entry_tuple_getitem->ip,Constant_none->iA,tupleItemsOf_->iE,args_tuple_getitem->iM,IntsAre->jM,tail_any->jT
open False renaming elim->bA
open PySem.Builtin.Str renaming strSliceIndices->bC,tooLong->j3
open PySem.Str renaming ofString->bH
open PySem.Builtin.Tuple renaming tupleHashOf->bI,tupleItemsOf->cD,tupleExact->cO,tupleCompareSizes->eB,tupleTooMany->fw,tupleIsExact->jY
open PySem.Builtin.SmallTypes renaming nextOf->bP
open Int renaming toNat_natCast->bZ,mul_le_mul_of_nonneg_left->eS,toNat_of_nonneg->e7,le_refl->fG,one_mul->fJ,zero_add->gB,ofNat_lt->jc,natCast_mul->jG,le_antisymm->jH,sub_zero->kx,le_total->kz
open Ne renaming symm->cz
open PySem.F renaming plain_min_loop->cB,slot_tuple_iterator_next->cG,slot_NoneType_hash->dm,args_tuple_add_2->dH,slot_int_rmul->dQ,entry_tuple_add->dS,slot_tuple_hash->dX,slot_tuple_add->d5,slot_tuple_mul->d9,args_tuple_iterator_next_1->eY,entry_tuple_iterator_next->fg,slot_dict_getitem->fB,entry_min_loop->fY,slot_tuple_rmul->fZ,plainAttrs_list->f7,slot_list_reverse->gv,slot_list_append->gL,args_int_rmul_2->gX,excBase_ValueError->g8,slot_int_index->ir,entry_int_rmul->iu,fills_int_mul->iO,slot_tuple_eq->jC
open PySem.Builtin.Slice renaming slicePlaces->cI,sliceAdjust->dD,sliceApplied->fu,slicePartIndex->jE,sliceFields->j2
open Array renaming length_toList->cP,forIn_toList->fi,getElem?_mapIdx->gM,append_assoc->iJ,toList->iW
open PySem.SeqAt renaming EqAt->dv,RcNeAt->ku,RcAt->kN
open PySem.Builtin.List renaming listTooLong->dI
open PySem.SeqAt.EqAt renaming same->dL,of_refs->fj,int_int->fy,str_str->fz,none_tuple->gH,tuple_none->gI,int_tuple->gO,str_tuple->gP,tuple_int->gQ,tuple_str->gR,none_int->ie,none_str->ig,int_none->ii,str_none->ik,int_str->iH,str_int->iI
open PySem.Paired renaming length->eK,mono->kG,snoc->kJ
open PySem.Around renaming under_plainId->eQ
open PySem.Txt renaming slice->eX
open PySem.Builtin.Builtins renaming bindParams->fe
open PySem.Calls renaming Name_function_global->fm,callWith_builtin->gr,evalArgs_plain->gW
open PySem.W.OpenLaw renaming wellSaid->fL
open PySem.AutoSeq1 renaming sub_tuple_tuple->fS
open Classical renaming propDecidable->f6
open PySem.Obj renaming mapSeq->gk,data_mapFields->iP
open PySem.Heap.SameBut renaming update->iy
open PySem.SeqAt.RcAt renaming tuples->iT
open PyProof.Rows.IsTup renaming new->jm
open PySem.PassesOwn renaming never->jI
open PySem.Value renaming isStrOf->j5,isInt->kF
open PySem.CmpOf renaming ints_lt->j9
open PySem.Builtin.Range renaming rangeSize->ke
open PySem.StrLaws renaming found_one->kh
open PySem.W.OpenRow renaming toRowW->ki
open PySem.W.Looks renaming andThen->kD,now->kO,ld->kP
open List.Pairwise renaming sublist->kE,filter->kK
open PySem.Heap.IsSliceOf renaming new->kL
open PySem.Walks renaming list->kM
abbrev yA:=List (PySem.Addr×PySem.Obj)
abbrev yB:=List (PySem.Str×PySem.Addr)
abbrev yC:=PySem.Str->Option PySem.Value
abbrev yD:=List (Option Nat)
abbrev yE:=Array (Option PySem.Value)
abbrev yF:=List (PySem.Addr×PySem.Addr)
abbrev yG:=List PySem.Value
abbrev yH:=List PySem.Str
abbrev yI:=Option PySem.Addr
abbrev yJ:=Array PySem.Value
abbrev yK:=List PySem.Expr
abbrev yL:=List PySem.Stmt
noncomputable section
namespace L2
open PySem PySem.Spec PyProof.Rows
theorem head_of {l:cZ}{q:aJ}{loose:yH}{H:PySem.W.Hook}{N:Nat}{d:DefRec}{h:List (Str×Expr)}
  (left:PySem.W.LeftO l.row.prog q loose (λ s=>PySem.W.xlAt q [] s&&PySem.W.recOk (PySem.W.RowW.records (ki l.row)) s) H.obs H.val N)
  (B:PySem.W.defOf q l.row.name=some (d,h)) (hp:l.row.prog.theDef l.row.name=some (d.params,d.body,d.scope)) (hk:PySem.W.kwWritten? d.params.kwonlyargs d.params.kw_defaults=some h) (F:(!l.row.writes||l.row.records.isEmpty)=true)
  (k1:l.row.wellSaid=true) (ok:(PySem.W.chainsOk q&&PySem.W.opensWell l.row.prog&&(PySem.W.frees l.row.toRowW&&l.row.within.isEmpty))=true) (hb:l.row.prog.bare) (hw:l.row.toRowW.promised)
  (call:j4 q loose (PySem.W.XL q []) H.says l.row.toRowW d h λ f vs=>jN f vs):l.row.Holds :=
 PySem.W.holds_open left H.of H.keeps (λ s e=>PySem.W.xl_of s (eN.mp e).1) PySem.W.XL.keeps B hp hk (λ s e=>PySem.W.recFacts_of (eN.mp e).2) F k1 ok hb hw call
end L2
end
noncomputable section
namespace My
open PySem L2
noncomputable def nmS:Stmt->Bool
 | .Assign [.Name x _] _ _=>decide (x=("__name__":Str))
 | _=>false
noncomputable def vq:aJ:={ PySem.Challenge.pw_leasttolls_k16_rows_met with main:={ (PySem.Challenge.pw_leasttolls_k16_rows_met).main with body:=(PySem.Challenge.pw_leasttolls_k16_rows_met).main.body.filter λ s=>!nmS s } }
inductive IsL:cZ->Prop|mk:IsL PySem.Challenge.rw_leasttolls_k16_rows_met
theorem bO3 {l:cZ}(h:IsL l):PySem.Challenge.rw_leasttolls_k16_rows_met=l:=by cases h;rfl
noncomputable def lwp:{ l:cZ // IsL l }:=by
 refine⟨?p,?h⟩
 case h =>
  have e:PySem.Challenge.rw_leasttolls_k16_rows_met=?p:=by
   conv=>lhs;reduce
  exact e▸IsL.mk
theorem ws1:fL lwp.1=true:=by k_qdec
theorem ws:fL PySem.Challenge.rw_leasttolls_k16_rows_met=true:=by
 rw[bO3 lwp.2];exact ws1
end My
end
section
open PySem PySem.W PyProof.Rows
local macro_rules | `(tactic| o_head $H) => `(tactic| refine L2.head_of (q := My.vq) (loose := []) (H := $H) (N := 4000) (λ w => by kernel_rfl) (by rfl) (by rfl) (by rfl) rfl (by assumption) (by decide +kernel) ⟨rfl, rfl, rfl, rfl, rfl, by decide +kernel⟩ ?_ ?_)
set_option maxRecDepth 100000 in
set_option maxHeartbeats 0 in
noncomputable def My.GT:{ G:Prop // G->PySem.Challenge.rw_leasttolls_k16_rows_met.Holds }:=by
 refine⟨?G,?h⟩
 case h =>
  intro g
  w_on;refine holds_law My.ws λ said=>?_;k_head;(focus w_witness2)
  exact g
end
noncomputable section
namespace L2
open PySem PySem.Spec PyProof.Rows
noncomputable abbrev Key:=Sum Int Str
noncomputable def aJ9:Key->Value->Bool
 | .inl k,v=>kF k v
 | .inr x,v=>j5 x v
noncomputable def cq3 (w:World):Key->Int
 | .inl k=>hashInt k
 | .inr x=>hashStr w x
theorem ze:∀ {k:Key} {v:Value},aJ9 k v=true->(∃ i t,k=Sum.inl i/\v=Value.int i t)\/(∃ x t,k=Sum.inr x/\v=Value.str x t)
 | .inl i,v,h=>by
  obtain⟨t,e⟩:=Value.isInt_shape (k:=i) (v:=v) h
  exact .inl ⟨i,t,rfl,e⟩
 | .inr x,v,h=>by
  obtain⟨t,e⟩:=Value.isStrOf_shape (x:=x) (v:=v) h
  exact .inr ⟨x,t,rfl,e⟩
theorem aX8 (i:Int)(t:Tok):aJ9 (.inl i) (.int i t)=true:=by simp[aJ9,kF]
theorem bf0 (x:Str)(t:Tok):aJ9 (.inr x) (.str x t)=true:=by simp[aJ9,j5]
theorem cb9 (a b:Int):decide ((Sum.inl a:Key)=Sum.inl b)=(a==b):=by
 by_cases e:a=b
 .subst e;simp
 .have h:¬(Sum.inl a:Key)=Sum.inl b:=λ q=>e (Sum.inl.inj q)
  rw[decide_eq_false h]
  exact(beq_eq_false_iff_ne.mpr e).symm
theorem bS1 (a b:Str):decide ((Sum.inr a:Key)=Sum.inr b)=decide (a=b):=by
 by_cases e:a=b
 .subst e;simp
 .have h:¬(Sum.inr a:Key)=Sum.inr b:=λ q=>e (Sum.inr.inj q)
  rw[decide_eq_false h,decide_eq_false e]
theorem bZ5 (a:Int)(b:Str):decide ((Sum.inl a:Key)=Sum.inr b)=false:=decide_eq_false (λ q=>nomatch q)
theorem bU7 (a:Str)(b:Int):decide ((Sum.inr a:Key)=Sum.inl b)=false:=decide_eq_false (λ q=>nomatch q)
noncomputable def zF (prog:aJ)(w:World):j6 prog w Key where
 is:=aJ9
 hash:=cq3 w
 inj:=λ v a b ha hb=>by
  rcases ze ha with⟨i,t,rfl,rfl⟩|⟨x,t,rfl,rfl⟩
  .rcases ze hb with⟨j,u,rfl,e⟩|⟨y,u,rfl,e⟩
   .injection e with e1 _;rw[e1]
   .exact nomatch e
  .rcases ze hb with⟨j,u,rfl,e⟩|⟨y,u,rfl,e⟩
   .exact nomatch e
   .injection e with e1 _;rw[e1]
 byValue:=λ k v h=>by
  rcases ze h with⟨i,t,rfl,rfl⟩|⟨x,t,rfl,rfl⟩<;>rfl
 pyHash:=λ hv h=>by
  rcases ze hv with⟨i,t,rfl,rfl⟩|⟨x,t,rfl,rfl⟩
  .exact wpAny_pyHash_int h
  .exact wpAny_pyHash_str h
 eqBool:=λ hu hv h=>by
  rcases ze hu with⟨i,t,rfl,rfl⟩|⟨x,t,rfl,rfl⟩
  .rcases ze hv with⟨j,u,rfl,rfl⟩|⟨y,u,rfl,rfl⟩
   .rw[cb9]at h;exact wpAny_eqBool_int h
   .rw[bZ5]at h;exact iH i t y u _ _ _ _ h
  .rcases ze hv with⟨j,u,rfl,rfl⟩|⟨y,u,rfl,rfl⟩
   .rw[bU7]at h;exact iI x t j u _ _ _ _ h
   .rw[bS1]at h;exact wpAny_eqBool_str h
 «strs»:=λ k x t v h=>by
  rcases ze h with⟨i,u,rfl,e⟩|⟨y,u,rfl,e⟩
  .exact nomatch e
  .injection e with e1 _
   subst e1
   cases v<;>rfl
theorem aN0 (prog:aJ)(w:World)(i:Int)(t:Tok):(zF prog w).is (.inl i) (.int i t)=true:=aX8 i t
theorem aL7 (prog:aJ)(w:World)(x:Str)(t:Tok):(zF prog w).is (.inr x) (.str x t)=true:=bf0 x t
noncomputable abbrev FK:=Option Key
noncomputable def fIs:FK->Value->Bool
 | none,v=>match v with|.none=>true|_=>false
 | some k,v=>aJ9 k v
noncomputable def fH (w:World):FK->Int
 | none=>0xFCA86420
 | some k=>cq3 w k
theorem zN {v:Value}(h:fIs none v=true):v=.none:=by
 cases v with
 | none=>rfl
 | _=>exact nomatch h
theorem ba7 {P:aJ}{w:World}{A:aV}{E:Value->ai->Prop}{s:ai}{Q:Int->ai->Prop}(h:Q 0xFCA86420 { s with toks:=s.toks+1 }):wpAny (model P w) A (PySem.pyHash .none) Q E s:=by
 have hT:s.TypeIs .none "NoneType":=rfl
 unfold PySem.pyHash pyHashByItsType
 refine ak (wpAny_cRoomFor_byValue rfl ?_)
 refine ak (c0 hT dm.lookup ?_)
 show wpAny _ _ (if(some (Value.builtin "NoneType.__hash__")==some Value.none)=true then _ else _) Q E s
 rw[if_neg (by rw[jg];exact aW)]
 refine ak (c0 hT dm.lookup ?_)
 show wpAny _ _ (eO .none "__hash__" _ >>= _) Q E s
 refine ak (db hT dm (cA dm hT F.entry_NoneType_hash
   (show wpAny _ _ (retInt 0xFCA86420) _ _ s from wpAny_ret_mkInt ?_) (F.args_NoneType_hash_1 _)))
 show wpAny _ _ (if _ then _ else _) Q E _
 rw[if_pos (by decide)]
 exact aD h
noncomputable def qA (prog:aJ)(w:World):j6 prog w FK where
 is:=fIs
 hash:=fH w
 inj:=λ v a b ha hb=>by
  cases a with
  | none =>
   cases zN ha
   cases b with
   | none=>rfl
   | some k=>rcases ze hb with⟨_,_,_,e⟩|⟨_,_,_,e⟩<;>exact nomatch e
  | some k =>
   cases b with
   | none=>cases zN hb;rcases ze ha with⟨_,_,_,e⟩|⟨_,_,_,e⟩<;>exact nomatch e
   | some j=>exact congrArg some ((zF prog w).inj v k j ha hb)
 byValue:=λ k v h=>by
  cases k with
  | none=>cases zN h;rfl
  | some k=>exact(zF prog w).byValue k v h
 pyHash:=λ {A E s k v Q} hv h=>by
  cases k with
  | none=>cases zN hv;exact ba7 h
  | some k=>exact(zF prog w).pyHash (k:=k) hv h
 eqBool:=λ {A E s a b u v Q} hu hv h=>by
  cases a with
  | none =>
   cases zN hu
   cases b with
   | none=>cases zN hv;exact dL _ prog w E Q h
   | some k =>
    rcases ze hv with⟨i,t,rfl,rfl⟩|⟨x,t,rfl,rfl⟩
    .exact ie i t _ _ _ _ h
    .exact ig x t _ _ _ _ h
  | some k =>
   cases b with
   | none =>
    cases zN hv
    rcases ze hu with⟨i,t,rfl,rfl⟩|⟨x,t,rfl,rfl⟩
    .exact ii i t _ _ _ _ h
    .exact ik x t _ _ _ _ h
   | some j =>
    refine(zF prog w).eqBool (a:=k) (b:=j) hu hv ?_
    have e:decide (k=j)=decide (some k=some j):=by simp
    rw[e];exact h
 «strs»:=λ k x t v h=>by
  cases k with
  | none=>exact nomatch zN h
  | some k=>exact(zF prog w).strs k x t v h
noncomputable abbrev NI:=Sum FK (List FK)
section
variable (P:aJ) (w:World)
noncomputable def NIs (h:Heap):NI->Value->Prop
 | .inl f,v=>fIs f v=true
 | .inr l,v=>∃ b,v=.ref b/\dN (qA P w) h l b
def bt5 (h:Heap)(ks:List NI)(a:Addr):Prop:=∃ o its n,h.get? a=some o/\o.cls=.type "tuple"/\o.data=.seq its n/\cQ (NIs P w h) ks its.toList
noncomputable def aI2:NI->Int
 | .inl f=>fH w f
 | .inr l=>tupleKeyHash (qA P w) l
noncomputable def aV9:NI->Nat
 | .inl f=>1
 | .inr l=>l.length+1
noncomputable def qM:List NI->Nat
 | []=>0
 | k::ks=>aV9 k+qM ks
end
section
variable {P:aJ} {w:World} {h h':Heap}
theorem NIs.inj {x y:NI}{v:Value}(hx:NIs P w h x v)(hy:NIs P w h y v):x=y:=by
 cases x with
 | inl f =>
  cases y with
  | inl g=>exact congrArg Sum.inl ((qA P w).inj v f g hx hy)
  | inr l =>
   obtain⟨b,rfl,_⟩:=hy
   exact absurd ((qA P w).byValue f _ hx) (by nofun)
 | inr l =>
  obtain⟨b,rfl,hb⟩:=hx
  cases y with
  | inl g=>exact absurd ((qA P w).byValue g _ hy) (by nofun)
  | inr m =>
   obtain⟨c,e,hc⟩:=hy
   cases e
   exact congrArg Sum.inr (hb.inj hc)
theorem NIs.all_inj:∀ {x y:List NI} {vs:yG},cQ (NIs P w h) x vs->cQ (NIs P w h) y vs->x=y
 | _,_,_,.nil,.nil=>rfl
 | _,_,_,.cons a p,.cons b q=>by rw[a.inj b,NIs.all_inj p q]
theorem bt5.inj {a:Addr}{x y:List NI}(hx:bt5 P w h x a)(hy:bt5 P w h y a):x=y:=by
 obtain⟨o,i,n,e,_,d,p⟩:=hx
 obtain⟨F,i',G,e',_,d',B⟩:=hy
 rw[e]at e';cases e'
 rw[d]at d';cases d'
 exact NIs.all_inj p B
theorem NIs.keep {x:NI}{v:Value}(k:∀ b l,dN (qA P w) h l b->dN (qA P w) h' l b)(hx:NIs P w h x v):NIs P w h' x v:=by
 cases x with
 | inl f=>exact hx
 | inr l=>obtain⟨b,e,p⟩:=hx;exact⟨b,e,k _ _ p⟩
theorem bJ3 {A:aV}{E:Value->ai->Prop}{s:ai}{k:List NI}{a:Addr}{Q:Int->ai->Prop}(hu:A.units+1<cLine)(hk:bt5 P w s.heap k a)
  (h:Q (jO (bI (k.map (aI2 P w)))) { s with toks:=s.toks+(qM k+1) }):wpAny (model P w) A (PySem.pyHash (.ref a)) Q E s:=by
 obtain⟨o,its,n,e,c,d,p⟩:=hk
 have hT:s.TypeIs (.ref a) "tuple":=⟨o,e,c⟩
 unfold PySem.pyHash pyHashByItsType
 refine ak (wpAny_cRoomFor (by omega) ?_)
 refine ak (c0 hT dX.lookup ?_)
 show wpAny _ _ (if(some (Value.builtin "tuple.__hash__")==some Value.none)=true then _ else _) Q E s
 rw[if_neg (by rw[jg];nofun)]
 refine ak (c0 hT dX.lookup ?_)
 show wpAny _ _ (eO (.ref a) "__hash__" _ >>= _) Q E s
 refine ak (db hT dX (cA dX hT F.entry_tuple_hash ?_ (F.args_tuple_hash_1 _)))
 show wpAny _ _ (cD (.ref a) >>= _) _ _ s
 refine ak (wpAny_tupleItemsOf e d (ak ?_))
 rw[<-fi]
 refine dA _
  (λ rest (b:Array Int) s'=>∃ q r,k=q++r/\cQ (NIs P w s.heap) r rest/\b.toList=q.map (aI2 P w)/\s'={ s with toks:=s.toks+qM q }) _ ?_ ?_ _ _ ⟨[],k,rfl,p,rfl,rfl⟩
 .rintro x rest b s' ⟨q,r,rfl,pr,hb,rfl⟩
  cases pr with
  | @cons u _ r' _ h1 t =>
   have B:∀ q:List NI,qM (q++[u])=qM q+aV9 u:=λ q=>by
    induction q with
    | nil=>simp[qM]
    | cons c q ih=>rw[bT,qM,qM,ih];omega
   refine ak ?_
   cases u with
   | inl f =>
    refine(qA P w).pyHash (k:=f) h1 ?_
    first
     | exact aD ⟨q++[.inl f],r',by simp,t,by simp[hb];rfl,by rw[B];simp[aV9,c8]⟩
     | exact ak (aD (aD ⟨q++[.inl f],r',by simp,t,by simp[hb];rfl,by rw[B];simp[aV9,c8]⟩))
   | inr l =>
    obtain⟨J,rfl,G⟩:=h1
    refine wpAny_pyHash_tuple (knd:=qA P w) (ks:=l) (s:={ s with toks:=s.toks+qM q }) (show A.units+1<cLine from hu) G ?_
    first
     | exact aD ⟨q++[.inr l],r',by simp,t,by simp[hb];rfl,by rw[B];simp[aV9,c8]⟩
     | exact ak (aD (aD ⟨q++[.inr l],r',by simp,t,by simp[hb];rfl,by rw[B];simp[aV9,c8]⟩))
 .rintro b s' ⟨q,r,rfl,pr,hb,rfl⟩
  cases pr
  rw[bw]at h
  show wpAny _ _ (retInt (bI b.toList)) _ _ _
  rw[hb]
  refine wpAny_ret_mkInt ?_
  show wpAny _ _ (if(decide (-(2:Int)^63<=bI (q.map (aI2 P w)))&&decide (bI (q.map (aI2 P w))<2^63))=true then _ else _) Q E _
  unfold jO at h
  by_cases hr:(decide (-(2:Int)^63<=bI (q.map (aI2 P w)))&&decide (bI (q.map (aI2 P w))<2^63))=true
  .rw[if_pos hr]at h ⊢
   exact aD (by simpa [c8]using h)
  .rw[if_neg hr]at h ⊢
   exact ak (dq (aD (by simpa [c8]using h)))
theorem aR7 {l:List FK}{b:Addr}(x:dN (qA P w) h l b):∃ its,h.IsTuple b its:=let⟨o,its,n,e,c,d,_⟩:=x;⟨its,o,e,c,n,d⟩
theorem ItemsAre.cg {F:aJ}{B:World}:∀ {l:List FK} {vs:yG},ItemsAre (qA P w) l vs->ItemsAre (qA F B) l vs
 | _,_,.nil=>.nil
 | _,_,.cons h t=>.cons (show fIs _ _=true from h) (ItemsAre.cg t)
theorem dN.cg {F:aJ}{B:World}{l:List FK}{b:Addr}:dN (qA P w) h l b->dN (qA F B) h l b:=λ⟨o,i,n,e,c,d,p⟩=>⟨o,i,n,e,c,d,ItemsAre.cg p⟩
theorem NIs.cg {F:aJ}{B:World}{x:NI}{v:Value}(hx:NIs P w h x v):NIs F B h x v:=by
 cases x with
 | inl f=>exact hx
 | inr l=>obtain⟨b,e,p⟩:=hx;exact⟨b,e,dN.cg p⟩
theorem ci0 {A:aV}{s:ai}{x y:NI}{u v:Value}(hu:A.units<cLine)(hx:NIs P w s.heap x u)(hy:NIs P w s.heap y v){E:Value->ai->Prop}{Q:Bool->ai->Prop}(h:Q (decide (x=y)) s):wpAny (model P w) A (PySem.eqBool u v) Q E s:=by
 cases x with
 | inl f =>
  cases y with
  | inl g =>
   refine(qA P w).eqBool (a:=f) (b:=g) hx hy ?_
   have e:decide (f=g)=decide ((Sum.inl f:NI)=Sum.inl g):=by simp
   rw[e];exact h
  | inr l =>
   obtain⟨b,rfl,hb⟩:=hy
   obtain⟨its,B⟩:=aR7 hb
   cases f with
   | none=>cases zN hx;exact gH B hu _ _ _ _ h
   | some k =>
    rcases ze hx with⟨i,t,rfl,rfl⟩|⟨z,t,rfl,rfl⟩
    .exact gO i t B hu _ _ _ _ h
    .exact gP z t B hu _ _ _ _ h
 | inr l =>
  obtain⟨b,rfl,hb⟩:=hx
  cases y with
  | inl f =>
   obtain⟨its,B⟩:=aR7 hb
   cases f with
   | none=>cases zN hy;exact gI B hu _ _ _ _ h
   | some k =>
    rcases ze hy with⟨i,t,rfl,rfl⟩|⟨z,t,rfl,rfl⟩
    .exact gQ i t B hu _ _ _ _ h
    .exact gR z t B hu _ _ _ _ h
  | inr m =>
   obtain⟨c,rfl,hc⟩:=hy
   refine wpAny_eqBool_tuple hu hb hc ?_
   have e:decide (l=m)=decide ((Sum.inr l:NI)=Sum.inr m):=by simp
   rw[e];exact h
theorem bc2:∀(x y:List NI),((a8 (min x.length y.length)).all (λ j=>decide (x[j]?=y[j]?))&&x.length==y.length)=decide (x=y)
 | [],[]=>rfl
 | [],_::_=>by simp
 | _::_,[]=>by simp
 | a::x,b::y=>by
  have h:=bc2 x y
  have hm:min (a::x).length (b::y).length=min x.length y.length+1:=by simp only[bc];omega
  rw[hm,ga,dG,kj]
  by_cases e:a=b
  .subst e
   have:decide (a::x=a::y)=decide (x=y):=by simp
   rw[this,<-h]
   simp[Function.comp_def]
  .have:decide ((a::x)[0]?=(b::y)[0]?)=false:=by simp[e]
   rw[this];simp[e]
theorem bE9 {α β:Type}{F:α->β->Prop}:∀ {B:List α} {l₂:List β},cQ F B l₂->∀(j:Nat) (h:j<l₂.length),∃ a,B[j]?=some a/\F a l₂[j]
 | _,_,.nil,j,h=>absurd h (jB _)
 | _,_,.cons r t,0,h=>⟨_,rfl,r⟩
 | _,_,.cons r t,j+1,h=>bE9 t j (Nat.lt_of_succ_lt_succ h)
theorem cf6 {A:aV}{E:Value->ai->Prop}{s:ai}{x y:List NI}{a b:Addr}{Q:Bool->ai->Prop}(hu:A.units+1<cLine)(hx:bt5 P w s.heap x a)(hy:bt5 P w s.heap y b)(h:Q (decide (x=y)) s) :
  wpAny (model P w) A (PySem.eqBool (.ref a) (.ref b)) Q E s:=by
 by_cases hab:a=b
 .subst hab
  cases hx.inj hy
  rw[decide_eq_true rfl]at h
  exact dL _ _ _ _ _ h
 .obtain⟨o,i,n,e,c,d,p⟩:=hx
  obtain⟨G,i',n',e',F,d',B⟩:=hy
  have l1:x.length=i.size:=eK p
  have Y:y.length=i'.size:=eK B
  have key:=iT (A:=A) (s:=s) (e:=λ j=>decide (x[j]?=y[j]?)) ⟨o,e,c,n,d⟩ ⟨G,e',F,n',d'⟩ (by omega) λ j h1 J prog Z E' Q' hq=>by
   obtain⟨u,q1,q2⟩:=bE9 p j (by rw[cP];exact h1)
   obtain⟨v,r1,r2⟩:=bE9 B j (by rw[cP];exact J)
   refine ci0 (P:=prog) (w:=Z) (x:=u) (y:=v) (show A.units+1<cLine from hu) (NIs.cg (by simpa using q2)) (NIs.cg (by simpa using r2)) ?_
   rw[q1,r1]at hq
   have e:decide (u=v)=decide (some u=some v):=by simp
   rw[e];exact hq
  rw[<-l1,<-Y,bc2]at key
  exact fj hab key P w E Q h
theorem aS8 {A:aV}{E:Value->ai->Prop}{s:ai}{x:NI}{v:Value}{Q:Bool->ai->Prop}(hx:NIs P w s.heap x v)(h:Q true s):wpAny (model P w) A (jh 7 v) Q E s:=by
 cases x with
 | inl f=>rw[iU _ ((qA P w).byValue f _ hx)];exact aD h
 | inr l =>
  obtain⟨b,rfl,o,its,n,e,c,d,p⟩:=hx
  have hT:s.TypeIs (.ref b) "tuple":=⟨o,e,c⟩
  unfold jh
  refine ak (c0 hT jC.lookup ?_)
  show wpAny _ _ (isInstance (.ref b) (.type "tuple") >>= _) _ _ s
  refine ak (ji hT gJ ?_)
  simp only[am,ac,if_false]
  refine ak (cR e d (ak ?_))
  show wpAny _ _ (forIn its _ _) _ _ s
  rw[<-fi]
  refine dA _ (λ rest r s'=>r.1=none/\s'=s/\∀ v∈rest,carriedByValue v=true) _ ?_ ?_ _ _ ⟨rfl,rfl,p.byValue⟩
  .rintro v rest r s' ⟨hr,rfl,al⟩
   rw[iU _ (al v aC)]
   refine ak (aD ?_)
   simp only[am,ac,if_false]
   exact aD ⟨rfl,rfl,λ u q=>al u (aq _ q)⟩
  .rintro⟨r1,r2⟩ s' ⟨hr,rfl,_⟩
   simp only at hr
   subst hr
   exact aD h
theorem bq4 {A:aV}{E:Value->ai->Prop}{s:ai}{k:List NI}{a:Addr}{Q:Bool->ai->Prop}(hk:bt5 P w s.heap k a)(h:Q true s):wpAny (model P w) A (jh 8 (.ref a)) Q E s:=by
 obtain⟨o,its,n,e,c,d,p⟩:=hk
 have hT:s.TypeIs (.ref a) "tuple":=⟨o,e,c⟩
 unfold jh
 refine ak (c0 hT jC.lookup ?_)
 show wpAny _ _ (isInstance (.ref a) (.type "tuple") >>= _) _ _ s
 refine ak (ji hT gJ ?_)
 simp only[am,ac,if_false]
 refine ak (cR e d (ak ?_))
 show wpAny _ _ (forIn its _ _) _ _ s
 rw[<-fi]
 refine dA _ (λ rest r s'=>r.1=none/\s'=s/\∃ ks,cQ (NIs P w s.heap) ks rest) _ ?_ ?_ _ _ ⟨rfl,rfl,k,p⟩
 .rintro v rest r s' ⟨hr,rfl,ks,al⟩
  cases al with
  | cons h1 t =>
   refine ak (aS8 h1 ?_)
   simp only[am,ac,if_false]
   exact aD ⟨rfl,rfl,_,t⟩
 .rintro⟨r1,r2⟩ s' ⟨hr,rfl,_⟩
  simp only at hr
  subst hr
  exact aD h
end
noncomputable def av0 (P:aJ)(w:World):HeapKind P w (List NI) where
 is:=bt5 P w
 hash:=λ k=>jO (bI (k.map (aI2 P w)))
 draws:=λ k=>qM k+1
 room:=λ A=>A.units+1<cLine
 inj:=λ hx hy=>hx.inj hy
 keeps:=λ {h h' k a d o es ep} x ho hd hs=>by
  obtain⟨o',i,n,e,c,q,p⟩:=x
  have ne:a≠d:=by
   rintro rfl
   rw[e]at ho;cases ho
   rw[hd]at q;cases q
  exact⟨o',i,n,(hs.2 a ne).trans e,c,q,kG (λ x v z=>NIs.keep (λ b l t=>t.keeps ho hd hs) z) p⟩
 pyHash:=λ hu hk h=>bJ3 hu hk h
 eqBool:=λ hu hx hy h=>cf6 hu hx hy h
 quiet:=λ hk h=>bq4 hk h
inductive V where
 | non|bl (b:Bool)|int (i:Int)|str (x:Str)|byt (b:Array UInt8)|flt (b:UInt64)|ref (a:Addr)|ty (n:String)
 deriving DecidableEq
noncomputable def RelV:V->Value->Prop
 | .non,u=>u=Value.none
 | .bl b,u=>u=Value.bool b
 | .int i,u=>∃ t,u=Value.int i t
 | .str x,u=>∃ t,u=Value.str x t
 | .byt b,u=>∃ t,u=Value.bytes b t
 | .flt b,u=>∃ t,u=Value.float b t
 | .ref a,u=>u=Value.ref a
 | .ty n,u=>u=Value.type n
abbrev Vals:List V->List Value->Prop:=cQ RelV
theorem Vals.length {h:List V}{us:yG}(r:Vals h us):h.length=us.length:=eK r
theorem Vals.get:∀ {h:List V} {us:yG} {i:Nat} {x:V},Vals h us->h[i]?=some x->∃ u,us[i]?=some u/\RelV x u
 | _,_,_,_,.nil,e=>by simp at e
 | _,_,0,_,.cons r _,e=>by simp at e;subst e;exact⟨_,rfl,r⟩
 | _,_,i+1,x,.cons _ t,e=>by
  obtain⟨u,B,F⟩:=Vals.get (i:=i) (x:=x) t (by simpa using e)
  exact⟨u,by simpa using B,F⟩
theorem Vals.set {x:V}{u:Value}(r:RelV x u):∀ {h:List V} {us:yG} (i:Nat),Vals h us->Vals (h.set i x) (us.set i u)
 | _,_,_,.nil=>.nil
 | _,_,0,.cons _ t=>.cons r t
 | _,_,i+1,.cons q t=>.cons q (Vals.set r i t)
theorem Vals.append:∀ {h ys:List V} {us ws:yG},Vals h us->Vals ys ws->Vals (h++ys) (us++ws)
 | _,_,_,_,.nil,s=>s
 | _,_,_,_,.cons r t,s=>.cons r (Vals.append t s)
theorem Vals.take:∀ {h:List V} {us:yG} (n:Nat),Vals h us->Vals (h.take n) (us.take n)
 | _,_,0,_=>.nil
 | _,_,_+1,.nil=>.nil
 | _,_,n+1,.cons r t=>.cons r (Vals.take n t)
theorem Vals.drop:∀ {h:List V} {us:yG} (n:Nat),Vals h us->Vals (h.drop n) (us.drop n)
 | _,_,0,r=>r
 | _,_,_+1,.nil=>.nil
 | _,_,n+1,.cons _ t=>Vals.drop n t
noncomputable def aT9:Option V->Option Value->Prop
 | some v,some u=>RelV v u
 | none,none=>True
 | _,_=>False
def KV {κ:Type}:List (κ×V)->List (κ×Value)->Prop:=cQ λ(p:κ×V) (q:κ×Value)=>p.1=q.1/\RelV p.2 q.2
noncomputable def kV:Key->V
 | .inl i=>.int i
 | .inr x=>.str x
inductive HO where
 | lst (xs:List V)
 | tup (xs:List V)
 | dK (kvs:List (Key×V))|dT (kvs:List (List NI×V))
 | set (S:Int->Bool) (n:Nat)
 | ins (Cc dx:Addr) (fs:List (Str×V))
 | own (x:Addr)
 | xd (fs:List (Str×V))
 | met (f x:Addr)
 | rng (lo hi:Int)
 | frz (o:Obj) (u:HO)
 | tbl (ps:yJ)
 | ext (C:Heap->Prop)
noncomputable abbrev Hp:=Addr->Option HO
noncomputable def fV:FK->V
 | none=>.non
 | some k=>kV k
noncomputable def NAt (H:Hp):NI->V->Prop
 | .inl f,v=>v=fV f
 | .inr l,v=>∃ c,v=.ref c/\H c=some (.tup (l.map fV))
def NK (H:Hp)(k:List NI)(b:Addr):Prop:=∃ xs,H b=some (.tup xs)/\cQ (NAt H) k xs
theorem NAt.mono {H H':Hp}{k:NI}{v:V}(F:∀ b B,H b=some (.tup B)->H' b=some (.tup B))(h:NAt H k v):NAt H' k v:=by
 cases k with
 | inl f=>exact h
 | inr l=>obtain⟨c,e,q⟩:=h;exact⟨c,e,F _ _ q⟩
theorem NK.mono {H H':Hp}{k:List NI}{b:Addr}(F:∀ b B,H b=some (.tup B)->H' b=some (.tup B))(h:NK H k b):NK H' k b:=let⟨B,e,p⟩:=h;⟨B,F _ _ e,kG (λ _ _ z=>z.mono F) p⟩
noncomputable def upd (H:Hp)(a:Addr)(o:HO):Hp:=λ b=>if b=a then some o else H b
theorem zy {H:Hp}{a:Addr}{o:HO}:upd H a o a=some o:=by unfold upd;rw[if_pos rfl]
theorem zn {H:Hp}{a b:Addr}{o:HO}(h:b≠a):upd H a o b=H b:=by unfold upd;rw[if_neg h]
theorem bW4 {H:Hp}{a b:Addr}{o u:HO}(h:H a=some o)(h':H b=some u)(d:o≠u):a≠b:=by
 intro e;subst e;rw[h]at h';exact d (aG h')
theorem zu {H:Hp}{a b:Addr}{o:HO}(h:H a=some o)(h':H b=none):a≠b:=by
 intro e;subst e;rw[h]at h';cases h'
section
variable (P:aJ) (w:World)
noncomputable def ai3 (H:Hp)(h:Heap)(a:Addr):HO->Prop
 | .lst xs=>xs.length<=aN/\∃(its:yG) (n:Nat),Vals xs its/\h.get? a=some { cls:=.type "list",data:=.seq its.toArray n }
 | .tup xs=>xs.length<=aN/\∃ its:List Value,Vals xs its/\IsTup h a its.toArray
 | .dK kvs=>kvs.length<=aN/\(a==cV)=false/\∃ vs,KV kvs vs/\h.DictOf (zF P w) a vs
 | .dT kvs=>kvs.length<=aN/\(a==cV)=false/\∃ xs:List (List NI×Addr×Value),
   cQ (λ(p:List NI×V) (q:List NI×Addr×Value)=>p.1=q.1/\NK H p.1 q.2.1/\RelV p.2 q.2.2) kvs xs /\
   ∃ o es ep,h.get? a=some o/\o.ExactDict/\o.data=.dict es ep/\es.toList=xs.map (entryOfKey (av0 P w))/\(xs.map (·.1)).Nodup
 | .set S n=>h.SetOf (intKind P w) a S n
 | .ins Cc dx fs=>H dx=some (.own a)/\fs.length<=1000/\dx≠a/\h.get? a=some (gC Cc dx) /\
   ∃ mA,h.Ns1 dx mA/\(∀ f,aT9 (fs.lookup f) (mA f))/\km mA (fs.map (·.1))
 | .own _=>∃ o,h.get? a=some o
 | .xd fs=>∃ mA,h.Ns1 a mA/\∀ f,aT9 (fs.lookup f) (mA f)
 | .rng lo hi=>∃ t u v,h.get? a=some { cls:=.type "range",data:=.fields #[.int lo t,.int hi u,.int 1 v] }
 | .frz o u=>h.get? a=some o/\ai3 H h a u
 | .tbl ps=>h.get? a=some { cls:=.none,data:=.fields ps }
 | .met f x=>h.get? a=some (fC (.ref f) (.ref x))
 | .ext C=>C h/\(∃ o,h.get? a=some o)/\∀ h1 h2:Heap,C h1->(∀ o,h1.get? a=some o->h2.get? a=some o)->C h2
def HOk (H:Hp)(h:Heap):Prop:=∀ a o,H a=some o->ai3 P w H h a o
end
section
variable {P:aJ} {w:World} {H H':Hp} {h h':Heap} {a:Addr} {o:HO}
theorem ai3.lt (x:ai3 P w H h a o):a<h.objs.size:=by
 cases o with
 | lst xs=>obtain⟨_,_,_,_,e⟩:=x;exact aO e
 | tup xs=>obtain⟨_,_,_,p⟩:=x;exact p.lt
 | dK kvs=>obtain⟨_,_,_,_,o,_,_,e,_⟩:=x;exact aO e
 | dT kvs=>obtain⟨_,_,_,_,o,_,_,e,_⟩:=x;exact aO e
 | set S n=>obtain⟨o,_,_,_,e,_⟩:=x;exact aO e
 | ins Cc dx fs=>obtain⟨_,_,_,e,_⟩:=x;exact aO e
 | own y=>obtain⟨_,e⟩:=x;exact aO e
 | xd fs=>obtain⟨_,⟨_,_,_,e,_⟩,_⟩:=x;exact aO e
 | rng lo hi=>obtain⟨_,_,_,e⟩:=x;exact aO e
 | frz ob u=>obtain⟨e,_⟩:=x;exact aO e
 | tbl ps=>exact aO (show h.get? a=some _ from x)
 | met f y=>exact aO (show h.get? a=some _ from x)
 | ext C=>obtain⟨_,⟨_,e⟩,_⟩:=x;exact aO e
theorem cQ.mapP {α β:Type}{F G:α->β->Prop}:∀ {h:List α} {l₂:List β},cQ F h l₂->(∀ a b,F a b->G a b)->cQ G h l₂
 | _,_,.nil,_=>.nil
 | _,_,.cons r t,f=>.cons (f _ _ r) (cQ.mapP t f)
theorem ai3.stay (x:ai3 P w H h a o)(k:∀ b u,(b=a\/H b=some (.own a))->h.get? b=some u->h'.get? b=some u)
  (ho:∀ b,H b=some (.own a)->H' b=some (.own a)) (G:∀ b B,H b=some (.tup B)->H' b=some (.tup B)):ai3 P w H' h' a o:=by
 induction o with
 | lst B=>obtain⟨z,its,n,r,e⟩:=x;exact⟨z,its,n,r,k _ _ (.inl rfl) e⟩
 | tup B=>obtain⟨z,its,r,ob,e,c⟩:=x;exact⟨z,its,r,ob,k _ _ (.inl rfl) e,c⟩
 | dK kvs=>obtain⟨z,y,vs,r,ob,es,ep,e,c⟩:=x;exact⟨z,y,vs,r,ob,es,ep,k _ _ (.inl rfl) e,c⟩
 | dT kvs =>
  obtain⟨z,y,B,r,ob,es,ep,e,c⟩:=x
  exact⟨z,y,B,cQ.mapP r λ p q z=>⟨z.1,z.2.1.mono G,z.2.2⟩,ob,es,ep,k _ _ (.inl rfl) e,c⟩
 | set S n=>obtain⟨ob,es,ep,t,e,c⟩:=x;exact⟨ob,es,ep,t,k _ _ (.inl rfl) e,c⟩
 | ins Cc dx fs =>
  obtain⟨d,z,ne,e,F,⟨od,es,ep,e2,c⟩,r⟩:=x
  exact⟨ho _ d,z,ne,k _ _ (.inl rfl) e,F,⟨od,es,ep,k _ _ (.inr d) e2,c⟩,r⟩
 | own y=>obtain⟨ob,e⟩:=x;exact⟨ob,k _ _ (.inl rfl) e⟩
 | xd fs=>obtain⟨F,⟨od,es,ep,e,c⟩,r⟩:=x;exact⟨F,⟨od,es,ep,k _ _ (.inl rfl) e,c⟩,r⟩
 | rng lo hi=>obtain⟨t,u,v,e⟩:=x;exact⟨t,u,v,k _ _ (.inl rfl) e⟩
 | frz ob u ih=>obtain⟨e,q⟩:=x;exact⟨k _ _ (.inl rfl) e,ih q⟩
 | tbl ps =>
  have e:h.get? a=some { cls:=.none,data:=.fields ps }:=x
  show h'.get? a=some { cls:=.none,data:=.fields ps }
  exact k a _ (.inl rfl) e
 | met f y =>
  have e:h.get? a=some (fC (.ref f) (.ref y)):=x
  show h'.get? a=some (fC (.ref f) (.ref y))
  exact k a _ (.inl rfl) e
 | ext C=>obtain⟨p,⟨o,e⟩,st⟩:=x;exact⟨st _ _ p λ o q=>k _ _ (.inl rfl) q,⟨o,k _ _ (.inl rfl) e⟩,st⟩
theorem HOk.lt (x:HOk P w H h)(e:H a=some o):a<h.objs.size:=(x a o e).lt
theorem HOk.fresh (x:HOk P w H h)(e:h.objs.size<=a):H a=none:=by
 cases q:H a with
 | none=>rfl
 | some u=>exact absurd (aF (x.lt q) e) (bF _)
theorem HOk.kept (x:HOk P w H h)(k:∀ b u,h.get? b=some u->h'.get? b=some u):HOk P w H h':=λ a o e =>
 (x a o e).stay (λ b u _ q=>k b u q) (λ _ q=>q) λ _ _ q=>q
theorem HOk.laid (x:HOk P w H h)(k:∀ b u,h.get? b=some u->h'.get? b=some u)(hp:h.objs.size<=a)(new:ai3 P w (upd H a o) h' a o):HOk P w (upd H a o) h':=λ b u e=>by
 have hn:=x.fresh hp
 by_cases hb:b=a
 .subst hb;rw[zy]at e;cases e;exact new
 .rw[zn hb]at e
  exact(x b u e).stay (λ c v _ q=>k c v q) (λ c q=>by rw[zn (zu q hn)];exact q) λ c B q=>by rw[zn (zu q hn)];exact q
end
def Rd (H:Hp)(a:Addr)(u:HO):Prop:=H a=some u\/∃ o,H a=some (.frz o u)
theorem Rd.ok {P:aJ}{w:World}{H:Hp}{h:Heap}{a:Addr}{u:HO}(r:Rd H a u)(x:HOk P w H h):ai3 P w H h a u:=by
 rcases r with r|⟨o,r⟩
 .exact x a u r
 .obtain⟨_,q⟩:=x a _ r
  exact q
noncomputable def Mut:Option HO->Prop
 | some (.lst _)=>True
 | some (.dK _)=>True
 | some (.dT _)=>True
 | some (.set _ _)=>True
 | some (.ins _ _ _)=>True
 | some (.ext _)=>True
 | _=>False
section
variable {P:aJ} {w:World} {H:Hp} {h h':Heap} {x e:Addr} {o':HO}
theorem HOk.write (ok:HOk P w H h)(mu:Mut (H x))(he:e=x\/H e=some (.own x))(k:∀ b u,b≠e->h.get? b=some u->h'.get? b=some u)(J:∃ u,h'.get? e=some u)
  (new:ai3 P w (upd H x o') h' x o'):HOk P w (upd H x o') h':=λ b u q=>by
 have B:∀ c y,H c=some (.own y)->c≠x:=λ c y r z=>by subst z;rw[r]at mu;exact mu
 have F:∀ c G,H c=some (.tup G)->c≠x:=λ c G r z=>by subst z;rw[r]at mu;exact mu
 by_cases hb:b=x
 .subst hb;rw[zy]at q;cases q;exact new
 .rw[zn hb]at q
  by_cases hbe:b=e
  .have Y:H b=some (.own x):=by
    rcases he with z|z
    .exact absurd (hbe.trans z) hb
    .rw[hbe];exact z
   rw[q]at Y;cases Y
   obtain⟨v,hv⟩:=J
   exact⟨v,by rw[hbe];exact hv⟩
  .refine(ok b u q).stay (λ c v hc r=>k c v ?_ r) (λ c r=>by rw[zn (B c b r)];exact r) λ c G r=>by rw[zn (F c G r)];exact r
   rcases hc with rfl|hc
   .exact hbe
   .rintro rfl
    rcases he with z|z
    .exact B c b hc z
    .rw[hc]at z;cases z;exact hb rfl
end
structure Un (fs ex:List Addr)(H H':Hp)(h h':Heap):Prop where
 keep:∀ b o,h.get? b=some o->H b=none->b ∉ fs->b ∉ ex->h'.get? b=some o
 slot:∀ b o,h.get? b=some o->H b=none->b∈fs->b ∉ ex->∃ sl,h'.get? b=some { o with slots:=sl }
 free:∀ b o,h.get? b=some o->H b=none->b ∉ ex->H' b=none
 there:∀ b o,h.get? b=some o->b ∉ ex->∃ o',h'.get? b=some o'
 tups:∀ b xs,H b=some (.tup xs)->H' b=some (.tup xs)
 frzs:∀ b o u,H b=some (.frz o u)->H' b=some (.frz o u)
 tbls:∀ b ps,H b=some (.tbl ps)->∃ more,H' b=some (.tbl (ps++more))
section
variable {fs fs' ex ex':List Addr} {H H1 H2:Hp} {h h1 h2 h':Heap} {a x e:Addr} {o:HO}
theorem Un.any (u:Un fs ex H H1 h h1){b:Addr}{ob:Obj}(q:h.get? b=some ob)(n:H b=none)(hx:b ∉ ex):∃ sl,h1.get? b=some { ob with slots:=sl }:=by
 by_cases hb:b∈fs
 .exact u.slot b ob q n hb hx
 .exact⟨ob.slots,u.keep b ob q n hb hx⟩
theorem Un.kept (k:∀ b u,h.get? b=some u->h'.get? b=some u):Un fs ex H H h h' :=
 ⟨λ b ob q _ _ _=>k b ob q,λ b ob q _ _ _=>⟨ob.slots,k b ob q⟩,λ _ _ _ n _=>n,λ b ob q _=>⟨ob,k b ob q⟩,λ _ _ q=>q,λ _ _ _ q=>q,λ _ ps q=>⟨#[],by rw[q];simp⟩⟩
theorem Un.refl:Un fs ex H H h h:=Un.kept λ _ _ q=>q
theorem Un.laid (k:∀ b u,h.get? b=some u->h'.get? b=some u)(hp:h.objs.size<=a)(hn:H a=none):Un fs ex H (upd H a o) h h' where
 keep:=λ b u q _ _ _=>k b u q
 slot:=λ b u q _ _ _=>⟨u.slots,k b u q⟩
 free:=λ b u q n _=>by rw[zn (aL (aF (aO q) hp))];exact n
 there:=λ b u q _=>⟨u,k b u q⟩
 tups:=λ b B q=>by rw[zn (zu q hn)];exact q
 frzs:=λ b u B q=>by rw[zn (zu q hn)];exact q
 tbls:=λ b ps q=>⟨#[],by rw[zn (zu q hn),q];simp⟩
theorem Un.write (mu:Mut (H x))(he:e=x\/H e=some (.own x))(k:∀ b u,b≠e->h.get? b=some u->h'.get? b=some u)(B:∃ u,h'.get? e=some u):Un fs ex H (upd H x o) h h':=by
 have hx:∀ b,H b=none->b≠x:=λ b n z=>by subst z;rw[n]at mu;exact mu
 have hb:∀ b,H b=none->b≠e:=λ b n z=>by
  subst z
  rcases he with r|r
  .exact hx b n r
  .rw[n]at r;cases r
 have hm:∀ b u,H b=some u->¬ Mut (some u)->b≠x:=λ b u q nm z=>by subst z;rw[q]at mu;exact nm mu
 refine⟨λ b u q n _ _=>k b u (hb b n) q,λ b u q n _ _=>⟨u.slots,k b u (hb b n) q⟩,λ b u q n _=>by rw[zn (hx b n)];exact n,λ b u q _=>?_,
  λ b F q=>by rw[zn (hm b _ q λ z=>z)];exact q,λ b u F q=>by rw[zn (hm b _ q λ z=>z)];exact q,λ b ps q=>⟨#[],by rw[zn (hm b _ q λ z=>z),q];simp⟩⟩
 by_cases hbe:b=e
 .subst hbe;exact B
 .exact⟨u,k b u hbe q⟩
end
noncomputable def trk (h:Heap)(H:Hp):List Addr:=(a8 h.objs.size).filter λ a=>(H a).isSome
noncomputable def bj5 (h:Heap)(H:Hp):Heap:=PySem.W.hideAll h (trk h H)
theorem bf8 (h:Heap)(H:Hp):(bj5 h H).objs.size=h.objs.size:=PySem.W.hideAll_size _ _
theorem aq2 {h:Heap}{H:Hp}{b:Addr}{o:Obj}(e:h.get? b=some o)(n:H b=none):(bj5 h H).get? b=some o :=
 PySem.W.hideAll_get _ e λ hm=>by
  have q:(H b).isSome=true:=(eU.mp hm).2
  rw[n]at q;simp at q
theorem bB6 {h:Heap}{H:Hp}{b:Addr}{o:Obj}(e:(bj5 h H).get? b=some o):h.get? b=some o/\H b=none:=by
 have e':h.get? b=some o:=PySem.W.of_hideAll (trk h H) e
 refine⟨e',?_⟩
 cases q:H b with
 | none=>rfl
 | some x =>
  have hm:b∈trk h H:=eU.mpr ⟨cS.mpr (aO e'),by simp[q]⟩
  have z:(bj5 h H).get? b=none:=PySem.W.hideAll_none (trk h H) hm
  rw[z]at e;cases e
noncomputable def bJ1 (g h:Heap)(L:Addr):List (Addr×Obj):=(a8 h.objs.size).filterMap λ a=>if a=L\/(g.get? a).isSome=true then none else(h.get? a).map λ o=>(a,o)
noncomputable def rest (g h:Heap)(L d:Addr):List (Addr×Obj):=(bJ1 g h L).filter λ p=>decide (p.1≠d)
structure Mod (K:ah)(mg:yC)(base:Heap):Prop where
 kin:K.In base
 glob:base.Ns bf mg
 blt:∃ mb,base.Ns gb mb/\∀ x:Str,x ≠ "__name__"->mb x=br x
 nolimit:base.NoLimit
structure Cx where
 prog:aJ
 w:World
 K:ah
 mg:Str->Option Value
 base:Heap
 A:aV
 N:List Str
 s₀:ai
 H₀:Hp
 env:Env
 outer:List Env
 stack:List Env
 ex:List Addr
 fn:Str->Bool
 calm:Bool
 pn:List (Addr×Obj)
 xe:Value->ai->Prop
noncomputable def frs (l:List Env):List Addr:=l.filterMap (·.frame)
noncomputable abbrev Cx.fs (X:Cx):List Addr:=frs X.outer
def Vis (sc:Scope)(x:Str):Prop:=sc.names.lookup x=some .local\/sc.names.lookup x=some .cell\/sc.names.lookup x=some .free
def Loc (sc:Scope)(x:Str):Prop:=sc.names.lookup x=some .local\/sc.names.lookup x=some .cell
def Look (env:Env)(h:Heap)(m:yC)(x:Str)(u:Value):Prop :=
 (env.kindOf x=some .local/\m x=some u)\/((env.kindOf x=some .cell\/env.kindOf x=some .free)/\∃ c,env.cells.lookup x=some c/\h.IsCell c (some u))
structure Cx.Ok (X:Cx):Prop where
 mod:Mod X.K X.mg X.base
 kind:X.env.scope.kind=.function
 glob:X.env.globals=bf
 blt:X.env.builtins=gb
 above:X.s₀.heap.objs.size<=X.env.locals
 inj:∀ x y c,X.env.cells.lookup x=some c->X.env.cells.lookup y=some c->x=y
 has:∀ x,(X.env.kindOf x=some .cell\/X.env.kindOf x=some .free)->∃ c,X.env.cells.lookup x=some c
 cab:∀ x c,X.fn x=true->X.env.cells.lookup x=some c->X.s₀.heap.objs.size<=c
 hd:X.calm=true->X.A.handled=none
 frames:X.A.frames=some X.stack
 stk:X.stack=X.outer\/(X.stack=X.env::X.outer/\X.env.frame=some X.env.locals)
 exf:∀ b∈X.ex,b≠X.env.locals/\∀ x c,X.env.cells.lookup x=some c->c≠b
 bs:∀ b o,X.base.get? b=some o->X.s₀.heap.get? b=some o/\X.H₀ b=none
 bsz:X.base.objs.size<=X.s₀.heap.objs.size
 noex:∀ b o,X.base.get? b=some o->b ∉ X.ex
 exfs:∀ b∈X.ex,b ∉ X.fs
 funs:X.s₀.heap.FunFrames X.base X.outer
 frf:∀ b∈X.fs,X.H₀ b=none
structure Inv (X:Cx)(pins:yA)(W:List (Option V))(H:Hp)(s:ai):Prop where
 ok:X.Ok
 os:s.os=X.s₀.os
 bare:e8 s.gens
 base:Un X.fs X.ex X.H₀ H X.s₀.heap s.heap
 loc:∃ m,s.heap.Ns X.env.locals m/\∀(i:Nat) (x:Str) (v:V),X.N[i]?=some x->W[i]?=some (some v)->Vis X.env.scope x->∃ u,RelV v u/\Look X.env s.heap m x u
 cell:∀ x c,X.env.cells.lookup x=some c->∃ v,s.heap.IsCell c v
 free:H X.env.locals=none
 freeC:∀ x c,X.env.cells.lookup x=some c->H c=none
 pin:∀ p∈X.pn++pins,s.heap.get? p.1=some p.2/\H p.1=none/\p.1≠X.env.locals/\p.1 ∉ X.fs/\∀ v,p.2.data≠.cell v
 hok:HOk X.prog X.w H s.heap
 len:W.length=X.N.length
section
variable {X:Cx} {pins:yA} {W:List (Option V)} {H H':Hp} {s:ai} {h':Heap}
theorem Cx.Ok.nofr (ok:X.Ok){b:Addr}{o:Obj}(e:X.base.get? b=some o):b ∉ X.fs:=λ hb=>by
 have:=(ok.funs.mem hb).1
 rw[e]at this;cases this
theorem Inv.bs (I:Inv X pins W H s):∀ b o,X.base.get? b=some o->s.heap.get? b=some o/\H b=none:=λ b o e =>
 ⟨I.base.keep b o (I.ok.bs b o e).1 (I.ok.bs b o e).2 (I.ok.nofr e) (I.ok.noex b o e),I.base.free b o (I.ok.bs b o e).1 (I.ok.bs b o e).2 (I.ok.noex b o e)⟩
theorem Inv.bk (I:Inv X pins W H s):∀ b o,X.base.get? b=some o->s.heap.get? b=some o:=λ b o e=>(I.bs b o e).1
theorem Inv.mod (I:Inv X pins W H s):Mod X.K X.mg X.base:=I.ok.mod
theorem Inv.kIn (I:Inv X pins W H s):X.K.In s.heap:=I.ok.mod.kin.keeps I.bk
theorem Inv.nolimit (I:Inv X pins W H s):s.heap.NoLimit:=I.ok.mod.nolimit.keeps I.bk
theorem Inv.lt (I:Inv X pins W H s):X.env.locals<s.heap.objs.size:=let⟨_,hn,_⟩:=I.loc;hn.lt
theorem Inv.sz (I:Inv X pins W H s):X.s₀.heap.objs.size<=s.heap.objs.size:=av I.ok.above (gc I.lt)
theorem Inv.nofs (I:Inv X pins W H s){a:Addr}(h:s.heap.objs.size<=a):a ∉ X.fs:=λ hb=>by
 obtain⟨_,o,ho,_⟩:=I.ok.funs.mem hb
 exact absurd (aF (aO ho) (av I.sz h)) (bF _)
theorem Inv.cne (I:Inv X pins W H s):∀ x c,X.env.cells.lookup x=some c->c≠X.env.locals:=λ x c e z=>by
 obtain⟨v,o,ho,hd⟩:=I.cell x c e
 obtain⟨m,⟨F,es,ep,h,B,_⟩,_⟩:=I.loc
 rw[z,h]at ho;cases ho;rw[B]at hd;cases hd
theorem Inv.funs (I:Inv X pins W H s):s.heap.FunFrames X.base X.outer:=by
 have all:∀(l:List Env),(∀ b∈frs l,b∈X.fs)->X.s₀.heap.FunFrames X.base l->s.heap.FunFrames X.base l:=by
  intro l
  induction l with
  | nil=>intro _ _;trivial
  | cons env r ih =>
   intro hs hl
   obtain⟨hk,⟨L,o,B,hn,ho,hd⟩,hr⟩:=hl
   have h:L∈X.fs:=hs L (by unfold frs;rw[aY,B];exact aC)
   obtain⟨sl,e⟩:=I.base.slot L o ho (I.ok.frf L h) h λ z=>I.ok.exfs L z h
   exact⟨hk,⟨L,_,B,hn,e,hd⟩,ih (λ b hb=>hs b (by unfold frs;rw[aY,B];exact aq _ hb)) hr⟩
 exact all X.outer (λ _ hb=>hb) I.ok.funs
theorem Inv.stack (I:Inv X pins W H s):s.heap.FunFrames X.base X.stack:=by
 rcases I.ok.stk with e|⟨e,h⟩
 .rw[e];exact I.funs
 .rw[e]
  obtain⟨m,hn,_⟩:=I.loc
  refine .cons (by rw[I.ok.kind];decide) h hn ?_ I.funs
  exact Heap.get?_none_of_le (av I.ok.bsz I.ok.above)
theorem Inv.stkSub (I:Inv X pins W H s):∀ b∈frs X.stack,b∈X.env.locals::X.fs:=λ b hb=>by
 rcases I.ok.stk with e|⟨e,h⟩
 .rw[e]at hb;exact aq _ hb
 .rw[e]at hb
  unfold frs at hb
  rw[aY,h]at hb
  exact hb
theorem Inv.stkFree (I:Inv X pins W H s):∀ b∈frs X.stack,H b=none:=λ b hb=>by
 rcases aH.mp (I.stkSub b hb)with e|hb
 .rw[e];exact I.free
 .obtain⟨_,o,ho,_⟩:=I.ok.funs.mem hb
  exact I.base.free b o ho (I.ok.frf b hb) λ z=>I.ok.exfs b z hb
theorem Inv.step {g':Array GenState}{t':Nat}{d':Drawn}{ch:List Addr}(I:Inv X pins W H s)
  (B:∀ b∈ch,(b∈X.ex\/X.s₀.heap.objs.size<=b)/\b≠X.env.locals/\(∀ x c,X.env.cells.lookup x=some c->c≠b)/\∀ p∈X.pn++pins,p.1≠b)
  (keep:∀ b o,b≠X.env.locals->b ∉ X.fs->b ∉ ch->s.heap.get? b=some o->H b=none->h'.get? b=some o)
  (slot:∀ b o,b≠X.env.locals->b∈X.fs->b ∉ ch->s.heap.get? b=some o->H b=none->∃ sl,h'.get? b=some { o with slots:=sl }) (free:∀ b o,b ∉ ch->s.heap.get? b=some o->H b=none->H' b=none)
  (there:∀ b o,b ∉ ch->s.heap.get? b=some o->∃ Z,h'.get? b=some Z)
  (tups:∀ b J,H b=some (.tup J)->H' b=some (.tup J)) (frzs:∀ b o u,H b=some (.frz o u)->H' b=some (.frz o u)) (tbls:∀ b ps,H b=some (.tbl ps)->∃ a0,H' b=some (.tbl (ps++a0)))
  (ns:∀ m,s.heap.Ns X.env.locals m->h'.Ns X.env.locals m) (hok:HOk X.prog X.w H' h') (hg:e8 g') :
  Inv X pins W H' { s with heap:=h',gens:=g',drawn:=d',toks:=t' }:=by
 have Y:∀ b o,X.s₀.heap.get? b=some o->b≠X.env.locals:=λ b o e=>aL (aF (aO e) I.ok.above)
 have G:∀ b o,X.s₀.heap.get? b=some o->b ∉ X.ex->b ∉ ch:=λ b o e hx hb=>by
  rcases(B b hb).1 with z|z
  .exact hx z
  .exact absurd (aF (aO e) z) (bF _)
 have F:∀ x c,X.env.cells.lookup x=some c->∀ v,s.heap.IsCell c v->h'.IsCell c v:=λ x c e v ⟨o,ho,hd⟩=>by
  have h:c ∉ ch:=λ z=>(B c z).2.2.1 x c e rfl
  by_cases hc:c∈X.fs
  .obtain⟨sl,q⟩:=slot c o (I.cne x c e) hc h ho (I.freeC x c e)
   exact⟨_,q,hd⟩
  .exact⟨o,keep c o (I.cne x c e) hc h ho (I.freeC x c e),hd⟩
 refine⟨I.ok,I.os,hg,⟨λ b o e n hb hx=>?_,λ b o e n hb hx=>?_,λ b o e n hx=>?_,λ b o e hx=>?_,λ b J e=>tups b J (I.base.tups b J e),λ b o J e=>frzs b o J (I.base.frzs b o J e),λ b ps e=>?_⟩,?_,λ x c e=>?_,?_,λ x c e=>?_,λ p hp=>?_,hok,I.len⟩
 .exact keep b o (Y b o e) hb (G b o e hx) (I.base.keep b o e n hb hx) (I.base.free b o e n hx)
 .obtain⟨sl,e1⟩:=I.base.slot b o e n hb hx
  obtain⟨a1,e2⟩:=slot b _ (Y b o e) hb (G b o e hx) e1 (I.base.free b o e n hx)
  exact⟨a1,e2⟩
 .obtain⟨Z,e1⟩:=I.base.there b o e hx
  exact free b Z (G b o e hx) e1 (I.base.free b o e n hx)
 .obtain⟨Z,e1⟩:=I.base.there b o e hx
  exact there b Z (G b o e hx) e1
 .obtain⟨m1,e1⟩:=I.base.tbls b ps e
  obtain⟨m2,e2⟩:=tbls b _ e1
  exact⟨m1++m2,by rw[e2,iJ]⟩
 .obtain⟨m,hn,hl⟩:=I.loc
  refine⟨m,ns m hn,λ i x v e1 e2 e3=>?_⟩
  obtain⟨u,r,l⟩:=hl i x v e1 e2 e3
  refine⟨u,r,?_⟩
  rcases l with l|⟨k,c,e,z⟩
  .exact .inl l
  .exact .inr ⟨k,c,e,F x c e _ z⟩
 .obtain⟨v,z⟩:=I.cell x c e
  exact⟨v,F x c e v z⟩
 .obtain⟨m,⟨o,_,_,ho,_⟩,_⟩:=I.loc
  exact free _ o (λ z=>(B _ z).2.1 rfl) ho I.free
 .obtain⟨v,o,ho,hd⟩:=I.cell x c e
  exact free c o (λ z=>(B c z).2.2.1 x c e rfl) ho (I.freeC x c e)
 .obtain⟨e,n,ne,nf,d⟩:=I.pin p hp
  have h:p.1 ∉ ch:=λ z=>(B p.1 z).2.2.2 p hp rfl
  exact⟨keep p.1 p.2 ne nf h e n,free p.1 p.2 h e n,ne,nf,d⟩
theorem Inv.un {t':Nat}(I:Inv X pins W H s)(u:Un X.fs [] H H' s.heap h')(hok:HOk X.prog X.w H' h'):Inv X pins W H' { s with heap:=h',toks:=t' }:=by
 obtain⟨m,⟨o,es,ep,ho,r⟩,_⟩:=id I.loc
 obtain⟨sl,J⟩:=u.any ho I.free (by simp)
 exact I.step (g':=s.gens) (d':=s.drawn) (ch:=[]) (λ _ z=>nomatch z) (λ b o _ hb _ e n=>u.keep b o e n hb (by simp)) (λ b o _ hb _ e n=>u.slot b o e n hb (by simp)) (λ b o _ e n=>u.free b o e n (by simp)) (λ b o _ e=>u.there b o e (by simp)) u.tups u.frzs u.tbls (λ m' hm=>by
  obtain⟨Y,B,F,h,G⟩:=hm
  rw[ho]at h;cases h
  exact⟨_,B,F,J,G⟩) hok I.bare
theorem Inv.call {g':Array GenState}{t':Nat}{d':Drawn}{ch:List Addr}(I:Inv X pins W H s)(u:Un (frs X.stack) ch H H' s.heap h')(hok:HOk X.prog X.w H' h')(hg:e8 g')
  (B:∀ b∈ch,(b∈X.ex\/X.s₀.heap.objs.size<=b)/\b≠X.env.locals/\(∀ x c,X.env.cells.lookup x=some c->c≠b)/\∀ p∈X.pn++pins,p.1≠b) :
  Inv X pins W H' { s with heap:=h',gens:=g',drawn:=d',toks:=t' }:=by
 obtain⟨m,⟨o,es,ep,ho,r⟩,_⟩:=id I.loc
 obtain⟨sl,J⟩:=u.any ho I.free λ z=>(B _ z).2.1 rfl
 exact I.step (ch:=ch) B (λ b o J hb hc e n=>u.keep b o e n (λ z=>(aH.mp (I.stkSub b z)).elim J hb) hc) (λ b o _ _ hc e n=>u.any e n hc) (λ b o hc e n=>u.free b o e n hc) (λ b o hc e=>u.there b o e hc) u.tups u.frzs u.tbls (λ m' hm=>by
  obtain⟨Z,G,F,h,Y⟩:=hm
  rw[ho]at h;cases h
  exact⟨_,G,F,J,Y⟩) hok hg
theorem Inv.turned {t':Nat}{it:Addr}(I:Inv X pins W H s)(k:∀ b o,b≠it->s.heap.get? b=some o->h'.get? b=some o)(hn:H it=none)(B:it≠X.env.locals)
  (G:it∈X.ex\/X.s₀.heap.objs.size<=it) (F:∀ x c,X.env.cells.lookup x=some c->c≠it) (h3:∀ p∈X.pn++pins,p.1≠it):Inv X pins W H { s with heap:=h',toks:=t' }:=by
 have h:∀ b u,H b=some u->b≠it:=λ b u e z=>by rw[z,hn]at e;cases e
 refine I.step (g':=s.gens) (d':=s.drawn) (ch:=[it]) (λ b hb=>?_) (λ b o _ _ hc e _=>k b o (λ z=>hc (by simp[z])) e) (λ b o _ _ hc e _=>⟨o.slots,k b o (λ z=>hc (by simp[z])) e⟩) (λ _ _ _ _ n=>n)
  (λ b o hc e=>⟨o,k b o (λ z=>hc (by simp[z])) e⟩) (λ _ _ e=>e) (λ _ _ _ e=>e) (λ b ps e=>⟨#[],by rw[e];simp⟩) (λ m hm=>?_) (λ b u e=>?_) I.bare
 .have e:b=it:=by simpa using hb
  subst e
  exact⟨G,B,F,h3⟩
 .obtain⟨o,es,ep,ho,r⟩:=hm
  exact⟨o,es,ep,k _ o (cz B) ho,r⟩
 .refine(I.hok b u e).stay (λ c v hc q=>k c v ?_ q) (λ _ q=>q) λ _ _ q=>q
  rcases hc with z|z
  .rw[z];exact h b u e
  .exact h c _ z
theorem Inv.tok (I:Inv X pins W H s)(t:Nat):Inv X pins W H { s with toks:=t }:=I.un (h':=s.heap) (t':=t) Un.refl I.hok
theorem Inv.kept {t':Nat}(I:Inv X pins W H s)(k:∀ b u,s.heap.get? b=some u->h'.get? b=some u):Inv X pins W H { s with heap:=h',toks:=t' }:=I.un (Un.kept k) (I.hok.kept k)
theorem Inv.laid {a:Addr}{o:HO}{t':Nat}(I:Inv X pins W H s)(k:∀ b u,s.heap.get? b=some u->h'.get? b=some u)(hp:s.heap.objs.size<=a)(new:ai3 X.prog X.w (upd H a o) h' a o) :
  Inv X pins W (upd H a o) { s with heap:=h',toks:=t' }:=I.un (Un.laid k hp (I.hok.fresh hp)) (I.hok.laid k hp new)
theorem Inv.write {x e:Addr}{o:HO}{t':Nat}(I:Inv X pins W H s)(mu:Mut (H x))(he:e=x\/H e=some (.own x))(k:∀ b u,b≠e->s.heap.get? b=some u->h'.get? b=some u)(h:∃ u,h'.get? e=some u)
  (new:ai3 X.prog X.w (upd H x o) h' x o):Inv X pins W (upd H x o) { s with heap:=h',toks:=t' }:=I.un (Un.write mu he k h) (I.hok.write mu he k h new)
theorem Inv.pins_of {B:yA}(I:Inv X pins W H s)(h:∀ p∈B,s.heap.get? p.1=some p.2/\H p.1=none/\p.1≠X.env.locals/\p.1 ∉ X.fs/\∀ v,p.2.data≠.cell v):Inv X B W H s :=
 ⟨I.ok,I.os,I.bare,I.base,I.loc,I.cell,I.free,I.freeC,λ p hp=>(aP.mp hp).elim (λ z=>I.pin p (bh _ z)) (h p),I.hok,I.len⟩
theorem aR8 {N:yH}(hN:N.Nodup){i j:Nat}{x:Str}(a:N[i]?=some x)(b:N[j]?=some x):i=j:=by
 obtain⟨h,e1⟩:=ae.mp a
 obtain⟨B,e2⟩:=ae.mp b
 exact(List.getElem_inj hN).mp (e1.trans e2.symm)
theorem aG8 {M:Model}{A:aV}{E:Value->ai->Prop}{i:Nat}{x:Str}{v:V}{u:Value}{Q:Unit->ai->Prop}(I:Inv X pins W H s)(hN:X.N.Nodup)(Y:X.N[i]?=some x)(hx:Loc X.env.scope x)(r:RelV v u)
  (h:∀ s',Inv X pins (W.set i (some v)) H s'->(∃ a,dY a s.heap s'.heap/\(a=X.env.locals\/X.env.cells.lookup x=some a))->Q () s') (hf:X.fn x=true\/X.env.scope.names.lookup x=some .local:=by first|exact .inl rfl|exact .inr rfl|assumption):wpAny M A (kc X.env x u) Q E s:=by
 obtain⟨m,hn,hl⟩:=id I.loc
 have a0:(X.env.scope.kind==.class||(X.env.scope.kind==.module&&X.env.locals != X.env.globals))=false:=by rw[I.ok.kind];rfl
 have a2:i < W.length:=by rw[I.len];exact(ae.mp Y).1
 have cne:=I.cne
 have B:∀ {a:Addr} {h':Heap},(∃ o,s.heap.get? a=some o/\H a=none)->dY a s.heap h'->HOk X.prog X.w H h':=λ {a h'} ha hs b ob e=>by
  obtain⟨_,_,F⟩:=ha
  refine(I.hok b ob e).stay (λ c w' hc q=>(hs.2 c ?_).trans q) (λ _ q=>q) λ _ _ q=>q
  rintro rfl
  rcases hc with rfl|hc
  .rw[F]at e;cases e
  .rw[F]at hc;cases hc
 rcases hx with hk|hk
 .refine wpAny_storeName_local hk hn (λ h' a3 hs=>?_) a0
  obtain⟨oL,_,_,a4,_⟩:=id hn
  refine h _ ⟨I.ok,I.os,I.bare,⟨λ b o e n hb hx=>?_,λ b o e n hb hx=>?_,I.base.free,λ b o e hx=>?_,I.base.tups,I.base.frzs,I.base.tbls⟩,⟨_,a3,λ j y v' e1 e2 e3=>?_⟩,λ y c e=>?_,I.free,I.freeC,λ p hp=>?_,B ⟨oL,a4,I.free⟩ hs,by simpa using I.len⟩ ⟨_,hs,.inl rfl⟩
  .exact(hs.2 b (aL (aF (aO e) I.ok.above))).trans (I.base.keep b o e n hb hx)
  .obtain⟨sl,e1⟩:=I.base.slot b o e n hb hx
   exact⟨sl,(hs.2 b (aL (aF (aO e) I.ok.above))).trans e1⟩
  .obtain⟨o',e1⟩:=I.base.there b o e hx
   exact⟨o',(hs.2 b (aL (aF (aO e) I.ok.above))).trans e1⟩
  .by_cases hj:j=i
   .subst hj
    rw[Y]at e1;cases e1
    rw[aZ a2]at e2
    cases e2
    exact⟨u,r,.inl ⟨hk,by simp⟩⟩
   .rw[aU (cz hj)]at e2
    obtain⟨u',r',q⟩:=hl j y v' e1 e2 e3
    refine⟨u',r',?_⟩
    rcases q with⟨k,e⟩|⟨k,c,e,z⟩
    .refine .inl ⟨k,?_⟩
     have:y≠x:=λ e=>hj (aR8 hN e1 (e▸Y))
     simp[this,e]
    .exact .inr ⟨k,c,e,z.sameBut hs (cne y c e)⟩
  .obtain⟨w',z⟩:=I.cell y c e
   exact⟨w',z.sameBut hs (cne y c e)⟩
  .obtain⟨e,n,ne,nf,d⟩:=I.pin p hp
   exact⟨(hs.2 p.1 ne).trans e,n,ne,nf,d⟩
 .have G:X.fn x=true:=by
   rcases hf with z|z
   .exact z
   .rw[z]at hk;cases hk
  obtain⟨c,hc⟩:=I.ok.has x (.inl hk)
  obtain⟨w',z⟩:=I.cell x c hc
  refine wpAny_storeName_cell I.ok.kind hk hc z (λ h' Z hs=>?_)
  obtain⟨oc,J,a1⟩:=id z
  refine h { s with heap:=h' } ⟨I.ok,I.os,I.bare,⟨λ b o e n hb hx=>?_,λ b o e n hb hx=>?_,I.base.free,λ b o e hx=>?_,I.base.tups,I.base.frzs,I.base.tbls⟩,⟨m,hn.sameBut hs (cz (cne x c hc)),λ j y v' e1 e2 e3=>?_⟩,λ y c' e=>?_,I.free,I.freeC,λ p hp=>?_,B ⟨oc,J,I.freeC x c hc⟩ hs,by simpa using I.len⟩ ⟨c,hs,.inr hc⟩
  .exact(hs.2 b (aL (aF (aO e) (I.ok.cab x c G hc)))).trans (I.base.keep b o e n hb hx)
  .obtain⟨sl,e1⟩:=I.base.slot b o e n hb hx
   exact⟨sl,(hs.2 b (aL (aF (aO e) (I.ok.cab x c G hc)))).trans e1⟩
  .obtain⟨o',e1⟩:=I.base.there b o e hx
   exact⟨o',(hs.2 b (aL (aF (aO e) (I.ok.cab x c G hc)))).trans e1⟩
  .by_cases hj:j=i
   .subst hj
    rw[Y]at e1;cases e1
    rw[aZ a2]at e2
    cases e2
    exact⟨u,r,.inr ⟨.inl hk,c,hc,Z⟩⟩
   .rw[aU (cz hj)]at e2
    obtain⟨u',r',q⟩:=hl j y v' e1 e2 e3
    refine⟨u',r',?_⟩
    rcases q with q|⟨k,c',e,z'⟩
    .exact .inl q
    .refine .inr ⟨k,c',e,z'.sameBut hs ?_⟩
     rintro rfl
     exact hj (aR8 hN e1 (I.ok.inj _ _ _ e hc▸Y))
  .by_cases hcc:c'=c
   .subst hcc;exact⟨_,Z⟩
   .obtain⟨w2,z2⟩:=I.cell y c' e
    exact⟨w2,z2.sameBut hs hcc⟩
  .obtain⟨e,n,ne,nf,d⟩:=I.pin p hp
   refine⟨(hs.2 p.1 ?_).trans e,n,ne,nf,d⟩
   intro q
   rw[q,J]at e
   have q':oc=p.2:=aG e
   exact d w' (by rw[<-q'];exact a1)
theorem ay8 {M:Model}{A:aV}{E:Value->ai->Prop}{i:Nat}{x:Str}{v:V}{u:Value}{Q:Unit->ai->Prop}(I:Inv X pins W H s)(hN:X.N.Nodup)(F:X.N[i]?=some x)(hx:Loc X.env.scope x)(r:RelV v u)
  (h:∀ s',Inv X pins (W.set i (some v)) H s'->Q () s') (G:X.fn x=true\/X.env.scope.names.lookup x=some .local:=by first|exact .inl rfl|exact .inr rfl|assumption):wpAny M A (kc X.env x u) Q E s :=
 aG8 I hN F hx r (λ s' B _=>h s' B) G
theorem Inv.call' {s':ai}{ch:List Addr}(I:Inv X pins W H s)(ho:s'.os=s.os)(u:Un (frs X.stack) ch H H' s.heap s'.heap)(hok:HOk X.prog X.w H' s'.heap)(hg:e8 s'.gens)
  (h:∀ b∈ch,(b∈X.ex\/X.s₀.heap.objs.size<=b)/\b≠X.env.locals/\(∀ x c,X.env.cells.lookup x=some c->c≠b)/\∀ p∈X.pn++pins,p.1≠b):Inv X pins W H' s':=by
 obtain⟨h',g',d',t',B⟩:=s'
 have e:B=s.os:=ho
 subst e
 exact I.call (g':=g') (t':=t') (d':=d') u hok hg h
end
abbrev XK:=Value->Option Addr->Hp->Prop
noncomputable abbrev St:=List (Option V)
abbrev VK:=V->Hp->Prop
abbrev TE:=St->Hp->VK->Prop
abbrev TT:=St->Hp->(Bool->Hp->Prop)->Prop
abbrev TA:=St->Hp->(List V->Hp->Prop)->Prop
structure Ends where
 nx:St->Hp->Prop
 rt:VK
 bk:St->Hp->Prop:=λ _ _=>False
 ct:St->Hp->Prop:=λ _ _=>False
abbrev TS:=Ends->St->Hp->Prop
def EP (X:Cx)(pins:yA)(W:St)(Q:VK)(u:Value)(s':ai):Prop:=∃ v H',Inv X pins W H' s'/\RelV v u/\Q v H'
def TP (X:Cx)(pins:yA)(W:St)(Q:Bool->Hp->Prop)(b:Bool)(s':ai):Prop:=∃ H',Inv X pins W H' s'/\Q b H'
def AP (X:Cx)(pins:yA)(W:St)(Q:List V->Hp->Prop)(us:yG)(s':ai):Prop:=∃ vs H',Inv X pins W H' s'/\Vals vs us/\Q vs H'
def SP (X:Cx)(pins:yA)(D:Ends)(f:Flow)(s':ai):Prop :=
 match f with
 | .next=>∃ W' H',Inv X pins W' H' s'/\D.nx W' H'
 | .brk=>∃ W' H',Inv X pins W' H' s'/\D.bk W' H'
 | .cont=>∃ W' H',Inv X pins W' H' s'/\D.ct W' H'
 | .ret u=>∃ v W' H',Inv X pins W' H' s'/\RelV v u/\D.rt v H'
def PE (X:Cx)(e:Expr)(t:TE):Prop :=
 ∀(pins:yA) (s:ai) (W:St) (H:Hp) (Q:VK),Inv X pins W H s->t W H Q->wpAny (model X.prog X.w) X.A (eval e X.env) (EP X pins W Q) X.xe s
def PT (X:Cx)(e:Expr)(t:TT):Prop :=
 ∀(pins:yA) (s:ai) (W:St) (H:Hp) (Q:Bool->Hp->Prop),Inv X pins W H s->t W H Q->wpAny (model X.prog X.w) X.A (dP e X.env (eval e X.env)) (TP X pins W Q) X.xe s
def PW (X:Cx)(e:Expr)(t:TT):Prop :=
 ∀(whole:Sem Value) (pins:yA) (s:ai) (W:St) (H:Hp) (Q:Bool->Hp->Prop),Inv X pins W H s->t W H Q->wpAny (model X.prog X.w) X.A (dP e X.env whole) (TP X pins W Q) X.xe s
theorem PW.pt {X:Cx}{e:Expr}{t:TT}(h:PW X e t):PT X e t:=h _
def PA (X:Cx)(es:yK)(t:TA):Prop :=
 ∀(pos:Pos) (pins:yA) (s:ai) (W:St) (H:Hp) (Q:List V->Hp->Prop),Inv X pins W H s->t W H Q->wpAny (model X.prog X.w) X.A (spliced (dZ pos (bz es X.env))) (AP X pins W Q) X.xe s
def PS (X:Cx)(st:Stmt)(t:TS):Prop :=
 ∀(pins:yA) (s:ai) (W:St) (H:Hp) (D:Ends),Inv X pins W H s->t D W H->wpAny (model X.prog X.w) X.A (exec st X.env) (SP X pins D) X.xe s
def PSs (X:Cx)(st:yL)(t:TS):Prop :=
 ∀(pins:yA) (s:ai) (W:St) (H:Hp) (D:Ends),Inv X pins W H s->t D W H->wpAny (model X.prog X.w) X.A (execs st X.env) (SP X pins D) X.xe s
theorem thn {α:Type}{t:Sem α}{Q B:α->ai->Prop}{M:Model}{A:aV}{E:Value->ai->Prop}{s:ai}(h:wpAny M A t Q E s)(F:∀ a s,Q a s->B a s):wpAny M A t B E s:=bq h F λ _ _ x=>x
section
variable {X:Cx}
theorem bin {a b:Expr}{J tb:TE}(ha:PE X a J)(hb:PE X b tb){B:yA}{s:ai}{W:St}{H:Hp}{R:V->V->Hp->Prop}(I:Inv X B W H s)(h:J W H λ x G=>tb W G λ y F=>R x y F)
  {α:Type} {Q:α->ai->Prop} {f:Value->Value->Sem α}
  (hf:∀ v u s2 x y F,Inv X B W F s2->RelV x v->RelV y u->R x y F->wpAny (model X.prog X.w) X.A (f v u) Q X.xe s2) :
  wpAny (model X.prog X.w) X.A (eval a X.env) (λ v Z=>wpAny (model X.prog X.w) X.A (eval b X.env) (λ u s₂=>wpAny (model X.prog X.w) X.A (f v u) Q X.xe s₂) X.xe Z) X.xe s:=by
 refine thn (ha B s W H _ I h) λ v s1 ⟨x,G,I1,r1,q1⟩=>?_
 refine thn (hb B s1 W G _ I1 q1) λ u s2 ⟨y,F,Y,r2,q2⟩=>?_
 exact hf v u s2 x y F Y r1 r2 q2
def cp1 (i:Nat):TE:=λ W H Q=>∃ v,W[i]?=some (some v)/\Q v H
def tC (v:V):TE:=λ _ H Q=>Q v H
theorem bP8 {i:Nat}{x:Str}{pos:Pos}(hN:X.N[i]?=some x)(hv:Vis X.env.scope x)(hd:(x==("__debug__":Str))=false:=by decide)(F:(x==("__classdict__":Str))=false:=by decide):PE X (.Name x pos) (cp1 i):=by
 intro B s W H Q I h
 obtain⟨v,e,h⟩:=h
 obtain⟨m,hn,hl⟩:=I.loc
 obtain⟨u,r,l⟩:=hl i x v hN e hv
 have fin:EP X B W Q u s:=⟨v,H,I,r,h⟩
 rcases l with⟨hk,hm⟩|⟨hk,c,hc,hcell⟩
 .exact jP (gS I.ok.kind hk hn hm fin) hd
 .rcases hk with hk|hk
  .exact jP (io I.ok.kind hk hc hcell fin) hd
  .exact jP (wpAny_loadName_free I.ok.kind hk hc hcell fin F) hd
theorem bT7 {i j pos}:PE X (.Constant (.int i) j pos) (tC (.int i)):=λ _ _ _ H _ I h=>wpAny_Constant_int ⟨.int i,H,I.tok _,⟨_,rfl⟩,h⟩
theorem bM4 {b j pos}:PE X (.Constant (.bool b) j pos) (tC (.bl b)):=λ _ _ _ H _ I h=>Constant_bool ⟨.bl b,H,I,rfl,h⟩
theorem bX3 {j pos}:PE X (.Constant .none j pos) (tC .non):=λ _ _ _ H _ I h=>iA ⟨.non,H,I,rfl,h⟩
theorem bt0 {x j pos}:PE X (.Constant (.str x) j pos) (tC (.str x)):=λ _ _ _ H _ I h=>Calls.Constant_str ⟨.str x,H,I.tok _,⟨_,rfl⟩,h⟩
def Gl (X:Cx)(x:Str):Prop:=X.env.kindOf x=some .globalImplicit
theorem aK5 {E:Value->ai->Prop}{B:yA}{s:ai}{W:St}{H:Hp}{x:Str}{u:Value}{pos:Pos}{Q:Value->ai->Prop}(I:Inv X B W H s)(hg:Gl X x)(hm:X.mg x=some u)(h:Q u s)
  (hd:(x==("__debug__":Str))=false:=by decide):wpAny (model X.prog X.w) X.A (eval (.Name x pos) X.env) Q E s :=
 fm I.ok.kind hg (Calls.loadGlobal_global (by rw[I.ok.glob];exact I.mod.glob.keeps I.bk) hm h) hd
theorem aD6 {E:Value->ai->Prop}{B:yA}{s:ai}{W:St}{H:Hp}{x:Str}{u:Value}{pos:Pos}{Q:Value->ai->Prop}(I:Inv X B W H s)(hg:Gl X x)(hm:X.mg x=none)(hv:br x=some u)(h:Q u s)
  (hn:x ≠ "__name__":=by decide) (hd:(x==("__debug__":Str))=false:=by decide):wpAny (model X.prog X.w) X.A (eval (.Name x pos) X.env) Q E s:=by
 obtain⟨mb,F,G⟩:=I.mod.blt
 exact fm I.ok.kind hg (Calls.loadGlobal_builtin (by rw[I.ok.glob];exact I.mod.glob.keeps I.bk) hm (by rw[I.ok.blt];exact F.keeps I.bk) ((G x hn).trans hv) h) hd
theorem aM2 {x:Str}{v:V}{u:Value}{pos:Pos}(hg:Gl X x)(hm:X.mg x=some u)(r:RelV v u)(hd:(x==("__debug__":Str))=false:=by decide):PE X (.Name x pos) (tC v) :=
 λ _ _ _ H _ I h=>aK5 I hg hm ⟨v,H,I,r,h⟩ hd
theorem bG0 {x:Str}{v:V}{u:Value}{pos:Pos}(hg:Gl X x)(hm:X.mg x=none)(hv:br x=some u)(r:RelV v u)(hn:x ≠ "__name__":=by decide)(hd:(x==("__debug__":Str))=false:=by decide):PE X (.Name x pos) (tC v) :=
 λ _ _ _ H _ I h=>aD6 I hg hm hv ⟨v,H,I,r,h⟩ hn hd
variable {a b:Expr} {ta tb:TE} {pos:Pos}
def PC (X:Cx)(op:CmpOp)(a b:Expr)(t:TE):Prop :=
 ∀(pins:yA) (s:ai) (W:St) (H:Hp) (Q:VK),Inv X pins W H s->t W H Q ->
  wpAny (model X.prog X.w) X.A (eval a X.env) (λ v s₁=>wpAny (model X.prog X.w) X.A (eval b X.env) (λ u s₂=>wpAny (model X.prog X.w) X.A (cJ op v u) (EP X pins W Q) X.xe s₂) X.xe s₁) X.xe s
theorem aS1 (b:Expr){op:CmpOp}(h:op≠.In)(B:op≠.NotIn):c9 op b=false:=by
 have e1:(op==CmpOp.In)=false:=by cases op<;>first|rfl|exact absurd rfl h
 have e2:(op==CmpOp.NotIn)=false:=by cases op<;>first|rfl|exact absurd rfl B
 cases b<;>simp[c9,e1,e2]
def co4 (ta:TE):TE:=λ W H Q=>ta W H λ x H1=>Q (.bl (decide (x=.non))) H1
def cc0 (ta:TE):TE:=λ W H Q=>ta W H λ x H1=>Q (.bl (!decide (x=.non))) H1
theorem RelV.none_iff {x:V}{v:Value}(r:RelV x v):(v==Value.none)=decide (x=.non):=by
 cases x with
 | non=>cases r;rfl
 | bl _=>cases r;rfl
 | int _=>obtain⟨t,rfl⟩:=r;rfl
 | str _=>obtain⟨t,rfl⟩:=r;rfl
 | byt _=>obtain⟨t,rfl⟩:=r;rfl
 | flt _=>obtain⟨t,rfl⟩:=r;rfl
 | ref _=>cases r;rfl
 | ty _=>cases r;rfl
theorem bv9 {j pos'}(ha:PE X a ta):PC X .Is a (.Constant .none j pos') (co4 ta):=by
 intro B s W H Q I h
 refine thn (ha B s W H _ I h) λ v s1 ⟨x,G,F,r1,q1⟩=>?_
 exact iA (is_none_gen ⟨.bl _,G,F,by rw[r1.none_iff];rfl,q1⟩)
theorem bf3 {j pos'}(ha:PE X a ta):PC X .IsNot a (.Constant .none j pos') (cc0 ta):=by
 intro B s W H Q I h
 refine thn (ha B s W H _ I h) λ v s1 ⟨x,G,F,r1,q1⟩=>?_
 exact iA (isnot_none_gen ⟨.bl _,G,F,by rw[r1.none_iff];rfl,q1⟩)
def tB (t:TE):TT:=λ W H Q=>t W H λ x H1=>∃ c,x=.bl c/\Q c H1
theorem bt3 {op:CmpOp}{t:TE}(h:PC X op a b t)(F:c9 op b=false:=by first|exact aS1 _ (by decide) (by decide)|rfl):PE X (.Compare a [op] [b] pos) t:=λ B s W H Q I hw=>wpAny_Compare1 (h B s W H Q I hw) F
theorem bv4 {op:CmpOp}{t:TE}(h:PC X op a b t)(F:c9 op b=false:=by first|exact aS1 _ (by decide) (by decide)|rfl):PT X (.Compare a [op] [b] pos) (tB t):=by
 intro B s W H Q I hw
 refine gK (thn (h B s W H _ I hw) λ v s1 F=>thn F λ u s2 Y=>thn Y λ c s3 ⟨x,J,G,r1,q1⟩=>?_) F
 obtain⟨d,rfl,q⟩:=q1
 cases r1
 exact cw ⟨J,G,q⟩
theorem bL8 {e:Expr}{t:TE}(h:PE X e t)(he:∀ B,dP e X.env B=(do let v <- B;standAt e.pos;iV [v] (truthy v)):=by intro _;rfl):PT X e (tB t):=by
 intro F s W H Q I hw
 refine isTrue_plain (thn (h F s W H _ I hw) λ v s1 ⟨x,J,G,r1,q1⟩=>?_) (he _)
 obtain⟨d,rfl,q⟩:=q1
 cases r1
 exact cw ⟨J,G,q⟩
variable {tA tB':TT} {rest:yK}
def cn3 (t u:TT):TT:=λ W H Q=>t W H λ c H1=>if c=true then u W H1 Q else Q false H1
def tOr (t u:TT):TT:=λ W H Q=>t W H λ c H1=>if c=true then Q true H1 else u W H1 Q
def cp3 (t:TT):TT:=λ W H Q=>t W H λ c H1=>Q (!c) H1
theorem bK0 (ha:PT X a tA):PW X (.BoolOp .And [a] pos) tA:=by
 intro F B s W H Q I h
 refine isTrue_and (thn (ha B s W H Q I h) λ c s1 e=>?_)
 cases c with
 | true=>exact isTrue_and_nil e
 | false=>exact e
theorem bU6 (ha:PT X a tA):PW X (.BoolOp .Or [a] pos) tA:=by
 intro F B s W H Q I h
 refine isTrue_or (thn (ha B s W H Q I h) λ c s1 e=>?_)
 cases c with
 | false=>exact isTrue_or_nil e
 | true=>exact e
theorem bt2 (ha:PT X a tA)(hb:PW X (.BoolOp .And (b::rest) pos) tB'):PW X (.BoolOp .And (a::b::rest) pos) (cn3 tA tB'):=by
 intro J B s W H Q I h
 refine isTrue_and (thn (ha B s W H _ I h) λ c s1 ⟨G,F,q1⟩=>?_)
 cases c with
 | true=>exact hb J B s1 W G Q F q1
 | false=>exact⟨G,F,q1⟩
theorem bR3 (ha:PT X a tA)(hb:PW X (.BoolOp .Or (b::rest) pos) tB'):PW X (.BoolOp .Or (a::b::rest) pos) (tOr tA tB'):=by
 intro J B s W H Q I h
 refine isTrue_or (thn (ha B s W H _ I h) λ c s1 ⟨G,F,q1⟩=>?_)
 cases c with
 | true=>exact⟨G,F,q1⟩
 | false=>exact hb J B s1 W G Q F q1
theorem bM7 (ha:PT X a tA):PT X (.UnaryOp .Not a pos) (cp3 tA):=by
 intro B s W H Q I h
 exact isTrue_not (ha B s W H (λ c F=>Q (!c) F) I h)
def bU8 (ta tb:TE):TE:=λ W H Q=>ta W H λ x H1=>∃ c,x=.bl c/\if c=true then tb W H1 Q else Q (.bl false) H1
def cn8 (ta tb:TE):TE:=λ W H Q=>ta W H λ x H1=>∃ c,x=.bl c/\if c=true then Q (.bl true) H1 else tb W H1 Q
def bZ7 (ta:TE):TE:=λ W H Q=>ta W H λ x H1=>∃ c,x=.bl c/\Q (.bl (!c)) H1
theorem bt4 {op}{t:TE}(h:PE X a t):PE X (.BoolOp op [a] pos) t:=λ B s W H Q I hw=>BoolOp_one (h B s W H Q I hw)
theorem bu0 (ha:PE X a ta)(hb:PE X (.BoolOp .And (b::rest) pos) tb):PE X (.BoolOp .And (a::b::rest) pos) (bU8 ta tb):=by
 intro B s W H Q I h
 refine BoolOp_and (thn (ha B s W H _ I h) λ v s1 ⟨x,G,F,r1,q1⟩=>?_)
 obtain⟨c,rfl,q1⟩:=q1
 cases r1
 refine cw ?_
 cases c with
 | true=>exact hb B s1 W G Q F q1
 | false=>exact⟨.bl false,G,F,rfl,q1⟩
theorem cb8 (ha:PE X a ta)(hb:PE X (.BoolOp .Or (b::rest) pos) tb):PE X (.BoolOp .Or (a::b::rest) pos) (cn8 ta tb):=by
 intro B s W H Q I h
 refine BoolOp_or (thn (ha B s W H _ I h) λ v s1 ⟨x,G,F,r1,q1⟩=>?_)
 obtain⟨c,rfl,q1⟩:=q1
 cases r1
 refine cw ?_
 cases c with
 | false=>exact hb B s1 W G Q F q1
 | true=>exact⟨.bl true,G,F,rfl,q1⟩
theorem bM8 (ha:PE X a ta):PE X (.UnaryOp .Not a pos) (bZ7 ta):=by
 intro B s W H Q I h
 refine UnaryOp_ (thn (ha B s W H _ I h) λ v s1 ⟨x,G,F,r1,q1⟩=>?_)
 obtain⟨c,rfl,q1⟩:=q1
 cases r1
 exact not_of (cw ⟨.bl (!c),G,F,rfl,q1⟩)
def tIf (t:TT)(ta tb:TE):TE:=λ W H Q=>t W H λ c H1=>if c=true then ta W H1 Q else tb W H1 Q
theorem br0 {c:Expr}(hc:PT X c tA)(ha:PE X a ta)(hb:PE X b tb):PE X (.IfExp c a b pos) (tIf tA ta tb):=by
 intro B s W H Q I h
 refine wpAny_IfExp (thn (hc B s W H _ I h) λ d s1 ⟨G,F,q1⟩=>?_)
 cases d with
 | true=>exact ha B s1 W G Q F q1
 | false=>exact hb B s1 W G Q F q1
end
def SqL (K:ah)(H:Hp)(a:Addr)(xs:List V):Prop :=
 Rd H a (.lst xs) \/
  ∃(o:Obj) (its:yJ) (n:Nat),K.lookup a=some o/\o.cls=.type "list"/\o.dict=none/\o.data=.seq its n/\its.size<=aN/\Vals xs its.toList
def SqT (K:ah)(H:Hp)(a:Addr)(xs:List V):Prop :=
 Rd H a (.tup xs) \/
  ∃(o:Obj) (its:yJ) (n:Nat),K.lookup a=some o/\o.cls=.type "tuple"/\o.data=.seq its n/\its.size<=aN/\Vals xs its.toList
noncomputable def cs8:Value->Option V
 | .none=>some .non
 | .bool b=>some (.bl b)
 | .int i _=>some (.int i)
 | .str x _=>some (.str x)
 | .bytes b _=>some (.byt b)
 | .float b _=>some (.flt b)
 | .ref a=>some (.ref a)
 | .type n=>some (.ty n)
 | _=>none
theorem RelV.abs {x:V}{u:Value}(r:RelV x u):cs8 u=some x:=by
 cases x with
 | non=>cases r;rfl
 | bl _=>cases r;rfl
 | int _=>obtain⟨t,rfl⟩:=r;rfl
 | str _=>obtain⟨t,rfl⟩:=r;rfl
 | byt _=>obtain⟨t,rfl⟩:=r;rfl
 | flt _=>obtain⟨t,rfl⟩:=r;rfl
 | ref _=>cases r;rfl
 | ty _=>cases r;rfl
theorem RelV.inj {x y:V}{u:Value}(r:RelV x u)(q:RelV y u):x=y:=aG (r.abs.symm.trans q.abs)
theorem Vals.inj:∀ {h ys:List V} {us:yG},Vals h us->Vals ys us->h=ys
 | _,_,_,.nil,.nil=>rfl
 | _,_,_,.cons r t,.cons r' t'=>by rw[r.inj r',Vals.inj t t']
section
variable {X:Cx} {pins:yA} {W:St} {H:Hp} {s:ai} {a:Addr} {xs ys:List V}
theorem SqL.of {K:ah}(h:H a=some (.lst xs)):SqL K H a xs:=.inl (.inl h)
theorem SqT.of {K:ah}(h:H a=some (.tup xs)):SqT K H a xs:=.inl (.inl h)
theorem Inv.list (I:Inv X pins W H s)(h:SqL X.K H a xs):∃ its:List Value,Vals xs its/\PlainL s.heap a its.toArray/\xs.length<=aN:=by
 rcases h with h|⟨o,its,n,hk,hc,hd,hs,hz,r⟩
 .obtain⟨z,its,n,r,e⟩:=h.ok I.hok
  exact⟨its,r,⟨_,n,e,rfl,rfl,rfl⟩,z⟩
 .refine⟨its.toList,r,⟨o,n,I.kIn a o hk,hc,hd,by simpa using hs⟩,?_⟩
  have e:=r.length
  simp only[cP]at e
  omega
theorem Inv.tuple (I:Inv X pins W H s)(h:SqT X.K H a xs):∃ its:List Value,Vals xs its/\IsTup s.heap a its.toArray/\xs.length<=aN:=by
 rcases h with h|⟨o,its,n,hk,hc,hs,hz,r⟩
 .obtain⟨z,its,r,p⟩:=h.ok I.hok
  exact⟨its,r,p,z⟩
 .refine⟨its.toList,r,⟨o,I.kIn a o hk,hc,n,by simpa using hs⟩,?_⟩
  have e:=r.length
  simp only[cP]at e
  omega
theorem Inv.list_inj (I:Inv X pins W H s)(h:SqL X.K H a xs)(h':SqL X.K H a ys):xs=ys:=by
 obtain⟨its,r,⟨o,n,e,_,_,d⟩,_⟩:=I.list h
 obtain⟨its',B,⟨F,G,e',_,_,d'⟩,_⟩:=I.list h'
 rw[e]at e';cases e'
 rw[d]at d'
 injection d' with d1 _
 have:its=its':=by simpa using congrArg iW d1
 subst this
 exact r.inj B
theorem Inv.tuple_inj (I:Inv X pins W H s)(h:SqT X.K H a xs)(h':SqT X.K H a ys):xs=ys:=by
 obtain⟨its,r,⟨o,e,_,n,d⟩,_⟩:=I.tuple h
 obtain⟨its',B,⟨F,e',_,G,d'⟩,_⟩:=I.tuple h'
 rw[e]at e';cases e'
 rw[d]at d'
 injection d' with d1 _
 have:its=its':=by simpa using congrArg iW d1
 subst this
 exact r.inj B
end
noncomputable abbrev Cx.wish (X:Cx)(E:Value->ai->Prop):Cx:={ X with xe:=E }
noncomputable abbrev Cx.nox (X:Cx):Cx:=X.wish λ _ _=>False
theorem Cx.Ok.wish {X:Cx}(ok:X.Ok)(E:Value->ai->Prop):(X.wish E).Ok :=
 ⟨ok.mod,ok.kind,ok.glob,ok.blt,ok.above,ok.inj,ok.has,ok.cab,ok.hd,ok.frames,ok.stk,ok.exf,ok.bs,ok.bsz,ok.noex,ok.exfs,ok.funs,ok.frf⟩
theorem Cx.Ok.unwish {X:Cx}{E:Value->ai->Prop}(ok:(X.wish E).Ok):X.Ok :=
 ⟨ok.mod,ok.kind,ok.glob,ok.blt,ok.above,ok.inj,ok.has,ok.cab,ok.hd,ok.frames,ok.stk,ok.exf,ok.bs,ok.bsz,ok.noex,ok.exfs,ok.funs,ok.frf⟩
section
variable {X:Cx} {pins:yA} {W:St} {H:Hp} {s:ai} {E:Value->ai->Prop}
theorem Inv.wish (I:Inv X pins W H s)(E:Value->ai->Prop):Inv (X.wish E) pins W H s:=⟨I.ok.wish E,I.os,I.bare,I.base,I.loc,I.cell,I.free,I.freeC,I.pin,I.hok,I.len⟩
theorem Inv.unwish (I:Inv (X.wish E) pins W H s):Inv X pins W H s:=⟨I.ok.unwish,I.os,I.bare,I.base,I.loc,I.cell,I.free,I.freeC,I.pin,I.hok,I.len⟩
theorem SP.unwish {D:Ends}{f:Flow}{s':ai}(h:SP (X.wish E) pins D f s'):SP X pins D f s':=by
 cases f with
 | next=>obtain⟨W',H',I,q⟩:=h;exact⟨W',H',I.unwish,q⟩
 | brk=>obtain⟨W',H',I,q⟩:=h;exact⟨W',H',I.unwish,q⟩
 | cont=>obtain⟨W',H',I,q⟩:=h;exact⟨W',H',I.unwish,q⟩
 | ret u=>obtain⟨v,W',H',I,r,q⟩:=h;exact⟨v,W',H',I.unwish,r,q⟩
theorem PT.nox {e:Expr}{t:TT}(h:PT X.nox e t):PT X e t:=λ B s W H Q I hw =>
 bq (h B s W H Q (I.wish _) hw) (λ _ _ ⟨H',F,q⟩=>⟨H',F.unwish,q⟩) λ _ _ z=>bA z
theorem PSs.nox {st:yL}{t:TS}(h:PSs X.nox st t):PSs X st t:=λ B s W H D I hw =>
 bq (h B s W H D (I.wish _) hw) (λ _ _ q=>q.unwish) λ _ _ z=>bA z
end
section
variable {X:Cx} {st:Stmt} {rest:yL} {t u:TS} {e:Expr} {te:TE} {pos:Pos}
def bT1:TS:=λ D W H=>D.nx W H
noncomputable def cg0 (t u:TS):TS:=λ D W H=>t { D with nx:=u D } W H
theorem be4:PSs X [] bT1:=λ _ _ W H _ I h=>c5 ⟨W,H,I,h⟩
theorem zG (G:PS X st t)(J:PSs X rest u):PSs X (st::rest) (cg0 t u):=by
 intro B s W H D I h
 refine jj (thn (G B s W H { D with nx:=u D } I h) λ f s1 q=>?_)
 cases f with
 | next =>
  obtain⟨W',H',F,q⟩:=q
  exact J B s1 W' H' D F q
 | ret v=>exact q
 | brk=>exact q
 | cont=>exact q
theorem ba2 (F:PS X st t):PSs X [st] t:=by
 intro B s W H D I h
 refine jj (thn (F B s W H D I h) λ f s1 q=>?_)
 cases f with
 | next=>exact c5 q
 | ret v=>exact q
 | brk=>exact q
 | cont=>exact q
def cb7:TS:=λ D W H=>D.ct W H
theorem aI0:PS X (.Continue pos) cb7:=λ _ _ W H _ I h=>wpAny_Continue ⟨W,H,I,h⟩
theorem Inv.quiet {h:yA}{W:St}{H:Hp}{s:ai}(I:Inv X h W H s):interactive X.env=false:=by simp[interactive,I.ok.kind]
def bP5 (te:TE):TS:=λ D W H=>te W H λ _ H1=>D.nx W H1
theorem ba6 (he:PE X e te)(hs:fh e none pos.line X.env=pure false:=by rfl):PS X (.Expr e pos) (bP5 te):=by
 intro B s W H D I h
 exact wpAny_Expr_any (thn (he B s W H _ I h) λ v s1 ⟨x,G,F,r1,q1⟩=>⟨W,G,F,q1⟩) I.quiet hs
def cn5 (te:TE):TS:=λ D W H=>te W H D.rt
theorem aP0 (he:PE X e te):PS X (.Return (some e) pos) (cn5 te):=by
 intro B s W H D I h
 exact wpAny_Return_some (thn (he B s W H _ I h) λ v s1 ⟨x,G,F,r1,q1⟩=>⟨x,W,G,F,r1,q1⟩)
def cb2:TS:=λ D _ H=>D.rt .non H
theorem bG9:PS X (.Return none pos) cb2:=λ _ _ W H _ I h=>wpAny_Return_none ⟨.non,W,H,I,rfl,h⟩
def co2 (c:TT)(t u:TS):TS:=λ D W H=>c W H λ b H1=>if b=true then t D W H1 else u D W H1
theorem bZ0 {c:Expr}{a b:yL}{J:TT}(hc:PT X c J)(ha:PSs X a t)(hb:PSs X b u):PS X (.If c a b pos) (co2 J t u):=by
 intro B s W H D I h
 refine wpAny_If (thn (hc B s W H _ I h) λ d s1 ⟨G,F,q1⟩=>?_)
 cases d with
 | true=>exact ha B s1 W G D F q1
 | false=>exact hb B s1 W G D F q1
def bu6:TS:=λ _ _ _=>False
theorem bm9:PS X st bu6:=λ _ _ _ _ _ _ h=>h.elim
theorem qh {B:yL}:PSs X B bu6:=λ _ _ _ _ _ _ h=>h.elim
end
abbrev TG:=V->St->Hp->(St->Hp->Prop)->Prop
abbrev TGs:=List V->St->Hp->(St->Hp->Prop)->Prop
def PG (X:Cx)(target:Expr)(t:TG):Prop :=
 ∀(pins:yA) (s:ai) (W:St) (H:Hp) (v:V) (u:Value) (Q:St->Hp->Prop),Inv X pins W H s->RelV v u->t v W H Q ->
  wpAny (model X.prog X.w) X.A (gd target X.env u) (λ _ s'=>∃ W' H',Inv X pins W' H' s'/\Q W' H') X.xe s
def PGs (X:Cx)(ts:yK)(t:TGs):Prop :=
 ∀(pins:yA) (s:ai) (W:St) (H:Hp) (vs:List V) (us:yG) (Q:St->Hp->Prop),Inv X pins W H s->Vals vs us->t vs W H Q ->
  wpAny (model X.prog X.w) X.A (assignInOrder ((cE ts X.env).map (·.2)) us) (λ _ s'=>∃ W' H',Inv X pins W' H' s'/\Q W' H') X.xe s
abbrev ce9:=V->V->V->Hp->(Hp->Prop)->Prop
def cj7 (X:Cx)(t:ce9):Prop :=
 ∀(pins:yA) (s:ai) (W:St) (H:Hp) (o i v:V) (ov iv u:Value) (Q:Hp->Prop),Inv X pins W H s->RelV o ov->RelV i iv->RelV v u->t o i v H Q ->
  wpAny (model X.prog X.w) X.A (setItem ov iv u) (λ _ s'=>∃ H',Inv X pins W H' s'/\Q H') X.xe s
abbrev TIp:=V->V->Hp->VK->Prop
def PIp (X:Cx)(op:jQ)(t:TIp):Prop :=
 ∀(pins:yA) (s:ai) (W:St) (H:Hp) (x y:V) (v u:Value) (Q:VK),Inv X pins W H s->RelV x v->RelV y u->t x y H Q ->
  wpAny (model X.prog X.w) X.A (inplaceOp op v u) (EP X pins W Q) X.xe s
section
variable {X:Cx} {pos:Pos}
def aC3 (i:Nat):TG:=λ v W H Q=>Q (W.set i (some v)) H
theorem bj1 {i:Nat}{x:Str}(hN:X.N.Nodup)(G:X.N[i]?=some x)(hx:Loc X.env.scope x)(J:X.fn x=true\/X.env.scope.names.lookup x=some .local:=by first|exact .inl rfl|exact .inr rfl|assumption):PG X (.Name x pos) (aC3 i):=by
 intro B s W H v u Q I r h
 exact iX (ay8 I hN G hx r (λ s' F=>⟨_,H,F,h⟩) J)
def co8:TGs:=λ vs W H Q=>vs=[]/\Q W H
def bL9 (t:TG)(u:TGs):TGs:=λ vs W H Q=>∃ v r,vs=v::r/\t v W H λ W' H'=>u r W' H' Q
theorem by8:PGs X [] co8:=by
 intro B s W H vs us Q I r h
 obtain⟨e,h⟩:=h
 subst e
 cases r
 exact assignInOrder_nil ⟨W,H,I,h⟩
theorem bn4 {e:Expr}{es:yK}{t:TG}{u:TGs}(J:PG X e t)(Y:PGs X es u)
  (hs:(cE (e::es) X.env).map (·.2)=gd e X.env::(cE es X.env).map (·.2):=by rfl):PGs X (e::es) (bL9 t u):=by
 intro B s W H vs us Q I r h
 obtain⟨v,Z,e1,h⟩:=h
 subst e1
 cases r with
 | cons r rr =>
  rw[hs]
  refine assignInOrder_cons (thn (J B s W H _ _ _ I r h) λ _ s1 ⟨W1,G,F,q1⟩=>?_)
  exact Y B s1 W1 G _ _ Q F rr q1
def cn0 (K:ah)(n:Nat)(t:TGs):TG:=λ v W H Q=>∃ a xs,v=.ref a/\SqT K H a xs/\xs.length=n/\t xs W H Q
theorem bR8 {es:yK}{k:Nat}{t:TGs}{n:Nat}(hc:X.calm=true)(h:PGs X es t)
  (hn:(cE es X.env).length=n:=by rfl) (F:(cE es X.env).findIdx? (·.1)=none:=by rfl):PG X (.Tuple es k pos) (cn0 X.K n t):=by
 intro B s W H v u Q I r hw
 obtain⟨a,J,e1,hq,hl,hw⟩:=hw
 subst e1
 cases r
 obtain⟨its,G,Y,hz⟩:=I.tuple hq
 refine assign_Tuple_tuple (I.ok.hd hc) Y (by simp[hn,<-hl,G.length]) F λ h' hx=>?_
 have Z:Inv X B W H { s with heap:=h' }:=I.kept (t':=s.toks) λ b o e=>hx b o (aL (aO e)) e
 exact h B _ W H J _ Q Z (by simpa using G) hw
def co6 (to ti:TE)(t:ce9):TG:=λ v W H Q=>to W H λ o H1=>ti W H1 λ i H2=>t o i v H2 λ H3=>Q W H3
theorem bW6 {o i:Expr}{Y J:TE}{t:ce9}(ho:PE X o Y)(hi:PE X i J)(hs:cj7 X t)
  (ha:∀ v,gd (.Subscript o i pos) X.env v=(do
   let F <- iV [v] (eval o X.env)
   let G <- iV [v,F] (eval i X.env)
   standAt pos
   iV [v,F,G] (setItem F G v)
   release [v,F,G] []):=by intro _;rfl):PG X (.Subscript o i pos) (co6 Y J t):=by
 intro B s W H v u Q I r h
 rw[ha]
 refine ak (da (thn (ho B s W H _ I h) λ F s1 ⟨x,Z,I1,r1,q1⟩=>?_))
 refine ak (da (thn (hi B s1 W Z _ I1 q1) λ G s2 ⟨y,H2,I2,r2,q2⟩=>?_))
 refine ak (iB (ak (da (thn (hs B s2 W H2 x y v F G u _ I2 r1 r2 r q2) λ _ s3 ⟨H3,I3,q3⟩=>?_))))
 exact wpAny_release ⟨W,H3,I3,q3⟩
def bo1 (te:TE)(g:TG):TS:=λ D W H=>te W H λ x H1=>g x W H1 D.nx
theorem bs2 {tg e:Expr}{F:TE}{g:TG}(he:PE X e F)(hg:PG X tg g)(hs:swapsWithSole [tg] e pos.line X.env=pure false:=by rfl)(hw:iC [tg] e X.env=pure none:=by rfl)
  (Y:(cE [tg] X.env).map (·.2)=[gd tg X.env]:=by rfl):PS X (.Assign [tg] e pos) (bo1 F g):=by
 intro B s W H D I h
 refine wpAny_Assign_stores (thn (he B s W H _ I h) λ v s1 ⟨x,J,G,r1,q1⟩=>?_) hs hw
 rw[Y]
 exact thn (hg B s1 W J x v _ G r1 q1) λ _ s2 q=>q
theorem bv0 {i:Nat}{x:Str}{e:Expr}{G:TE}{B:Pos}(hN:X.N.Nodup)(hi:X.N[i]?=some x)(hx:Loc X.env.scope x)(he:PE X e G)(hs:fh e (some (.Name x B)) pos.line X.env=pure false:=by rfl)(hf:X.fn x=true\/X.env.scope.names.lookup x=some .local:=by first|exact .inl rfl|exact .inr rfl|assumption) :
  PS X (.Assign [.Name x B] e pos) (bo1 G (aC3 i)):=by
 intro F s W H D I h
 refine wpAny_Assign_Name (thn (he F s W H _ I h) λ v s1 ⟨y,Z,Y,r1,q1⟩=>?_) hs
 exact ay8 Y hN hi hx r1 (λ s2 J=>⟨_,Z,J,q1⟩) hf
def cn4 (i:Nat)(te:TE)(ti:TIp):TS:=λ D W H=>∃ x,W[i]?=some (some x)/\te W H λ y H1=>ti x y H1 λ z H2=>D.nx (W.set i (some z)) H2
theorem bN5 {i:Nat}{x:Str}{e:Expr}{Y:TE}{op:jQ}{G:TIp}{F:Pos}(hN:X.N.Nodup)(J:X.N[i]?=some x)(hx:Loc X.env.scope x)(he:PE X e Y)(ho:PIp X op G)(hf:X.fn x=true\/X.env.scope.names.lookup x=some .local:=by first|exact .inl rfl|exact .inr rfl|assumption) :
  PS X (.AugAssign (.Name x F) op e pos) (cn4 i Y G):=by
 intro B s W H D I h
 obtain⟨v,e1,h⟩:=h
 obtain⟨m,hn,hl⟩:=I.loc
 have vis:Vis X.env.scope x:=by rcases hx with k|k;exact .inl k;exact .inr (.inl k)
 obtain⟨u,r,l⟩:=hl i x v J e1 vis
 refine wpAny_AugAssign_Name ?_
 have go:wpAny (model X.prog X.w) X.A (eval e X.env) (λ w s₂=>wpAny (model X.prog X.w) X.A (inplaceOp op u w) (λ r Z=>wpAny (model X.prog X.w) X.A (kc X.env x r) (λ _=>SP X B D .next) X.xe Z) X.xe s₂) X.xe s:=by
  refine thn (he B s W H _ I h) λ w s1 ⟨y,H1,I1,r1,q1⟩=>?_
  refine thn (ho B s1 W H1 v y u w _ I1 r r1 q1) λ z s2 ⟨zv,H2,I2,r2,q2⟩=>?_
  exact ay8 I2 hN J hx r2 (λ s3 I3=>⟨_,H2,I3,q2⟩) hf
 rcases l with⟨hk,hm⟩|⟨hk,c,hc,hcell⟩
 .exact gS I.ok.kind hk hn hm go
 .rcases hk with hk|hk
  .exact io I.ok.kind hk hc hcell go
  .rcases hx with k|k
   .have:X.env.scope.names.lookup x=some .free:=hk
    rw[k]at this;cases this
   .have:X.env.scope.names.lookup x=some .free:=hk
    rw[k]at this;cases this
def ipI (f:Int->Int->Int):TIp:=λ x y H Q=>∃ i j,x=.int i/\y=.int j/\Q (.int (f i j)) H
theorem bM2:PIp X .Add (ipI λ i j=>i+j):=by
 intro B s W H x y v u Q I r1 r2 h
 obtain⟨i,j,e1,e2,q⟩:=h
 subst e1;subst e2
 obtain⟨t,rfl⟩:=r1
 obtain⟨t',rfl⟩:=r2
 exact iadd_int ⟨.int _,H,I.tok _,⟨_,rfl⟩,q⟩
end
section
variable {X:Cx} {pos:Pos}
def be0 (c:TT)(tb:TS):TS:=λ D W H=>∃ Ww:Nat->St->Hp->Prop,(∃ m,Ww m W H)/\∀ m W H,Ww m W H ->
 c W H λ b H1=>if b=true then ∃ N:St->Hp->Prop,(∀ W' H',N W' H'->∃ m',m'<m/\Ww m' W' H')/\tb { D with nx:=N,ct:=N,bk:=D.nx } W H1 else D.nx W H1
theorem aQ6 {c:Expr}{body:yL}{tc:TT}{tb:TS}(hp:hJ (model X.prog X.w) X.A X.env X.xe)(hc:PT X c tc)(hb:PSs X body tb):PS X (.While c body [] pos) (be0 tc tb):=by
 intro B s W H D I h
 obtain⟨Ww,⟨m0,w0⟩,turn⟩:=h
 refine wpAny_While (codeAny_whileLoop (λ n s'=>∃ W' H',Inv X B W' H' s'/\Ww n W' H') ?_ m0 ⟨W,H,I,w0⟩)
 rintro n s1 ⟨W1,Z,I1,w1⟩
 refine cK hp (thn (hc B s1 W1 Z _ I1 (turn n W1 Z w1)) λ b s2 ⟨H2,I2,q2⟩=>?_)
 cases b with
 | true =>
  obtain⟨N,hN,q2⟩:=q2
  rw[if_pos rfl]
  refine cK hp (thn (hb B s2 W1 H2 _ I2 q2) λ f s3 q3=>?_)
  cases f with
  | next =>
   obtain⟨W3,F,Y,G⟩:=q3
   obtain⟨m',hm,J⟩:=hN W3 F G
   exact⟨m',hm,W3,F,Y,J⟩
  | cont =>
   obtain⟨W3,F,Y,G⟩:=q3
   obtain⟨m',hm,J⟩:=hN W3 F G
   exact⟨m',hm,W3,F,Y,J⟩
  | brk=>exact q3
  | ret v=>exact q3
 | false =>
  rw[if_neg aW]
  exact c5 ⟨W1,H2,I2,q2⟩
end
structure It where
 go:Nat->Hp->Prop
 yld:Nat->Hp->V->Hp->Prop
 stop:Nat->Hp->Prop
def FpOk (X:Cx)(pins:yA)(H:Hp)(b:Addr):Prop :=
 H b=none/\b≠X.env.locals/\b ∉ X.fs/\(b∈X.ex\/X.s₀.heap.objs.size<=b)/\(∀ x c,X.env.cells.lookup x=some c->c≠b)/\∀ p∈X.pn++pins,p.1≠b
theorem Inv.fpOk {X:Cx}{h:yA}{W:St}{H H':Hp}{s:ai}{b:Addr}(I:Inv X h W H s)(hb:s.heap.objs.size<=b)(hn:H' b=none):FpOk X h H' b:=by
 refine⟨hn,kn (aF I.lt hb),I.nofs hb,.inr (av I.sz hb),λ x c e z=>?_,λ p hp z=>?_⟩
 .obtain⟨v,q⟩:=I.cell x c e
  exact absurd (aF q.lt (by rw[z];exact hb)) (bF _)
 .exact absurd (aF (aO (I.pin p hp).1) (by rw[z];exact hb)) (bF _)
structure Turn (P:aJ)(w:World)(K:ah)(tg:Expr)(J:It)(fp:List Addr)(it:Addr)(tn:Nat->Heap->Prop):Prop where
 mem:it∈fp
 obj:∀ i h,tn i h->∀ b∈fp,∃ o,h.get? b=some o/\∀ v,o.data≠.cell v
 keep:∀ i h h',tn i h->(∀ b∈fp,∀ o,h.get? b=some o->h'.get? b=some o)->tn i h'
 item:∀(X:Cx),X.prog=P->X.w=w->X.K=K->X.calm=true->∀(i:Nat) (pins:yA) (s:ai) (W:St) (H:Hp) (E:Value->ai->Prop),Inv X pins W H s->(∀ b∈fp,FpOk X pins H b)->tn i s.heap->J.go i H ->
  wpAny (model P w) X.A (jk (.ref it)) (λ r s1=>∃ u,r=some u /\
   wpAny (model P w) X.A (eV tg (.ref it) u) (λ _ s2=>∃ x H',Inv X pins W H' s2/\RelV x u/\J.yld i H x H'/\tn (i+1) s2.heap/\∀ b∈fp,H' b=none) E s1) E s
 done:∀(X:Cx),X.prog=P->X.w=w->X.K=K->X.calm=true->∀(i:Nat) (pins:yA) (s:ai) (W:St) (H:Hp) (E:Value->ai->Prop),Inv X pins W H s->(∀ b∈fp,FpOk X pins H b)->tn i s.heap->J.stop i H ->
  wpAny (model P w) X.A (jk (.ref it)) (λ r s1=>r=none/\Inv X pins W H s1) E s
 self:∀(A:aV) (i:Nat) (s:ai) (Q:Value->ai->Prop) (E:Value->ai->Prop),tn i s.heap->Q (.ref it) s->wpAny (model P w) A (ko (.ref it)) Q E s
abbrev TI:=St->Hp->(It->Hp->Prop)->Prop
def PIE (X:Cx)(pins:yA)(W:St)(tg:Expr)(R:It->Hp->Prop)(itv:Value)(s2:ai):Prop :=
 ∃(it:Addr) (fp:List Addr) (tn:Nat->Heap->Prop) (J:It) (H':Hp),itv=.ref it/\Inv X pins W H' s2/\Turn X.prog X.w X.K tg J fp it tn/\tn 0 s2.heap/\(∀ b∈fp,FpOk X pins H' b)/\R J H'
def PI (X:Cx)(tg iter:Expr)(wi:TI):Prop :=
 ∀(pins:yA) (s:ai) (W:St) (H:Hp) (R:It->Hp->Prop),Inv X pins W H s->wi W H R ->
  wpAny (model X.prog X.w) X.A (eval iter X.env) (λ v s1=>wpAny (model X.prog X.w) X.A (ko v) (PIE X pins W tg R) X.xe s1) X.xe s
theorem bl6 {M : Model} {A : Around} {E : Value -> Shared -> Prop} {s : Shared} {tg : Expr} {it : Addr} {u : Value} {o : Obj} {n : String} {vs : Array Value} {Q : Unit -> Shared -> Prop} (ho : s.heap.get? it = some o) (hc : o.cls = .type n) (hd : o.data = .fields vs)
    (hn : ["enumerate", "zip", "dict_itemiterator", "dict_reverseitemiterator", "odict_iterator", "itertools.zip_longest", "itertools.pairwise"].contains n = false) (hQ : Q () s) : wpAny M A (eV tg (.ref it) u) Q E s := by
  unfold eV
  cases tg <;> first
    | exact aD hQ
    | (cases u <;> first
        | exact aD hQ
        | (refine ak (wpAny_load ho ?_)
           rw[hc, hd]
           show wpAny M A (if(["enumerate", "zip", "dict_itemiterator", "dict_reverseitemiterator", "odict_iterator", "itertools.zip_longest", "itertools.pairwise"].contains n && vs[0]? == some (rawInt _)) = true then _ else _) Q E s
           rw[if_neg (by intro h; rw[hn, jR]at h; cases h)]
           exact aD hQ))
noncomputable def Itl (K:ah)(a:Addr):It :=
 ⟨λ i H=>∃ xs x,SqL K H a xs/\xs[i]?=some x,λ i H x H'=>H'=H/\∀ xs,SqL K H a xs->xs[i]?=some x,λ i H=>∃ xs,SqL K H a xs/\xs.length<=i⟩
noncomputable def Itt (K:ah)(a:Addr):It :=
 ⟨λ i H=>∃ xs x,SqT K H a xs/\xs[i]?=some x,λ i H x H'=>H'=H/\∀ xs,SqT K H a xs->xs[i]?=some x,λ i H=>∃ xs,SqT K H a xs/\xs.length<=i⟩
noncomputable def Itr (lo:Int)(n:Nat):It:=⟨λ i _=>i<n,λ i H x H'=>H'=H/\x=.int (lo+i),λ i _=>n<=i⟩
theorem aY9 {P:aJ}{w:World}{K:ah}{tg:Expr}(a it:Addr):Turn P w K tg (Itl K a) [it] it (λ i h=>h.IsListIter it a i) where
 mem:=by simp
 obj:=λ i h st b hb=>by
  have e:b=it:=by simpa using hb
  subst e
  obtain⟨o,e,c,d⟩:=st
  exact⟨o,e,λ v z=>by rw[d]at z;cases z⟩
 keep:=λ i h h' st k=>st.at λ o e=>k it (by simp) o e
 item:=by
  intro X Z hw hK hc i B s W H E I G st hg
  subst Z hw hK
  obtain⟨xs,x,hq,hx⟩:=hg
  obtain⟨its,rv,p,hz⟩:=I.list hq
  obtain⟨u,hu,ru⟩:=rv.get hx
  obtain⟨J,f1,f2,Y,f4,f5⟩:=G it (by simp)
  refine wpAny_pyNext_list_item st p.isList (x:=u) (by simpa using hu) λ h' F sb=>?_
  have I1:Inv X B W H { s with heap:=h' }:=I.turned (t':=s.toks) (λ b o hb e=>(sb.2 b hb).trans e) J f1 Y f4 f5
  obtain⟨o,e,c,d⟩:=id F
  exact⟨u,rfl,bl6 (s:={ s with heap:=h' }) e c d (by decide) ⟨x,H,I1,ru,⟨rfl,λ ys hy=>by rw[I.list_inj hy hq];exact hx⟩,F,λ b hb=>(G b hb).1⟩⟩
 done:=by
  intro X Z hw hK hc i B s W H E I G st hg
  subst Z hw hK
  obtain⟨xs,hq,hx⟩:=hg
  obtain⟨its,rv,p,hz⟩:=I.list hq
  obtain⟨J,f1,f2,Y,f4,f5⟩:=G it (by simp)
  have hl:=rv.length
  exact wpAny_pyNext_list_end (I.ok.hd hc) st p.isList (by simp;omega) λ h' eb=>⟨rfl,I.turned (t':=s.toks) (λ b o hb e=>eb b o hb e) J f1 Y f4 f5⟩
 self:=λ _ _ _ _ _ st h=>wpAny_pyIter_listiter st h
theorem aT3 {P:aJ}{w:World}{K:ah}{tg:Expr}(a it:Addr):Turn P w K tg (Itt K a) [it] it (λ i h=>h.IsTupleIter it a i) where
 mem:=by simp
 obj:=λ i h st b hb=>by
  have e:b=it:=by simpa using hb
  subst e
  obtain⟨o,e,c,d⟩:=st
  exact⟨o,e,λ v z=>by rw[d]at z;cases z⟩
 keep:=λ i h h' st k=>st.at λ o e=>k it (by simp) o e
 item:=by
  intro X Z hw hK hc i B s W H E I G st hg
  subst Z hw hK
  obtain⟨xs,x,hq,hx⟩:=hg
  obtain⟨its,rv,p,hz⟩:=I.tuple hq
  obtain⟨u,hu,ru⟩:=rv.get hx
  obtain⟨J,f1,f2,Y,f4,f5⟩:=G it (by simp)
  refine wpAny_pyNext_tuple_item st (show s.heap.IsTuple a its.toArray from p) (x:=u) (by simpa using hu) λ h' F sb=>?_
  have I1:Inv X B W H { s with heap:=h' }:=I.turned (t':=s.toks) (λ b o hb e=>(sb.2 b hb).trans e) J f1 Y f4 f5
  obtain⟨o,e,c,d⟩:=id F
  exact⟨u,rfl,bl6 (s:={ s with heap:=h' }) e c d (by decide) ⟨x,H,I1,ru,⟨rfl,λ ys hy=>by rw[I.tuple_inj hy hq];exact hx⟩,F,λ b hb=>(G b hb).1⟩⟩
 done:=by
  intro X Z hw hK hc i B s W H E I G st hg
  subst Z hw hK
  obtain⟨xs,hq,hx⟩:=hg
  obtain⟨its,rv,p,hz⟩:=I.tuple hq
  obtain⟨J,f1,f2,Y,f4,f5⟩:=G it (by simp)
  have hl:=rv.length
  exact wpAny_pyNext_tuple_end (I.ok.hd hc) st (show s.heap.IsTuple a its.toArray from p) (by simp;omega) λ h' eb=>⟨rfl,I.turned (t':=s.toks) (λ b o hb e=>eb b o hb e) J f1 Y f4 f5⟩
 self:=λ _ _ _ _ _ st h=>wpAny_pyIter_tupleiter st h
theorem aS9 {P:aJ}{w:World}{K:ah}{tg:Expr}(it:Addr)(G:Int)(n:Nat):Turn P w K tg (Itr G n) [it] it (λ i h=>IsRangeIter h it (G+(i:Nat)*1) ((n:Int) - (i:Nat)) 1) where
 mem:=by simp
 obj:=λ i h st b hb=>by
  have e:b=it:=by simpa using hb
  subst e
  exact⟨_,st,λ v z=>by
   have z':Data.fields _=Data.cell v:=z
   cases z'⟩
 keep:=λ i h h' st k=>k it (by simp) _ st
 item:=by
  intro X hP hw hK hc i B s W H E I J st hg
  subst hP hw hK
  obtain⟨Y,f1,f2,Z,f4,f5⟩:=J it (by simp)
  have Ww:=Walks.range (prog:=X.prog) (w:=X.w) (I.ok.hd hc) it G 1 n
  refine Ww.item i s _ _ hg st λ v h' tk hv F kk=>?_
  obtain⟨t,rfl⟩:=hv
  have I1:Inv X B W H { s with heap:=h',toks:=tk }:=I.turned (λ b o hb e=>kk b o (by simpa using hb) e) Y f1 Z f4 f5
  refine⟨_,rfl,bl6 (s:={ s with heap:=h',toks:=tk }) (n := "range_iterator") F rfl rfl (by decide) ⟨.int (G+i),H,I1,⟨t,?_⟩,⟨rfl,rfl⟩,F,λ b hb=>(J b hb).1⟩⟩
  rw[Int.mul_one]
 done:=by
  intro X hP hw hK hc i B s W H E I J st hg
  subst hP hw hK
  obtain⟨Y,f1,f2,Z,f4,f5⟩:=J it (by simp)
  exact wpAny_pyNext_range_end (I.ok.hd hc) st (by have:n<=i:=hg;omega) λ h' eb=>⟨rfl,I.turned (t':=s.toks) (λ b o hb e=>eb b o hb e) Y f1 Z f4 f5⟩
 self:=λ _ _ _ _ _ st h=>wpAny_pyIter_rangeiter st h
section
variable {X:Cx} {tg:Expr}
def bC5 (K:ah)(tl:TE):TI:=λ W H R=>tl W H λ x H1=>∃ a,x=.ref a/\(∃ xs,SqL K H1 a xs)/\R (Itl K a) H1
def ck9 (K:ah)(tl:TE):TI:=λ W H R=>tl W H λ x H1=>∃ a,x=.ref a/\(∃ xs,SqT K H1 a xs)/\R (Itt K a) H1
theorem bJ0 {l:Expr}{G:TE}(hl:PE X l G):PI X tg l (bC5 X.K G):=by
 intro B s W H R I h
 refine thn (hl B s W H _ I h) λ v s1 ⟨x,J,F,r1,q1⟩=>?_
 obtain⟨a,e,⟨Y,hq⟩,q⟩:=q1
 subst e
 cases r1
 obtain⟨its,Z,p,hz⟩:=F.list hq
 refine d4 p.isList ?_
 refine⟨s1.heap.objs.size,[s1.heap.objs.size],_,_,J,rfl,F.kept (t':=s1.toks) λ b o e=>az _ e,aY9 a _,⟨_,a9 _ rfl,rfl,rfl⟩,λ b hb=>?_,q⟩
 have e:b=s1.heap.objs.size:=by simpa using hb
 subst e
 exact F.fpOk (aw _) (F.hok.fresh (aw _))
theorem bY1 {l:Expr}{G:TE}(hl:PE X l G):PI X tg l (ck9 X.K G):=by
 intro B s W H R I h
 refine thn (hl B s W H _ I h) λ v s1 ⟨x,J,F,r1,q1⟩=>?_
 obtain⟨a,e,⟨Y,hq⟩,q⟩:=q1
 subst e
 cases r1
 obtain⟨its,Z,p,hz⟩:=F.tuple hq
 refine iK (show s1.heap.IsTuple a its.toArray from p) ?_
 refine⟨s1.heap.objs.size,[s1.heap.objs.size],_,_,J,rfl,F.kept (t':=s1.toks) λ b o e=>az _ e,aT3 a _,⟨_,a9 _ rfl,rfl,rfl⟩,λ b hb=>?_,q⟩
 have e:b=s1.heap.objs.size:=by simpa using hb
 subst e
 exact F.fpOk (aw _) (F.hok.fresh (aw _))
theorem bp5 {F:yA}{W:St}{H:Hp}{s:ai}{R:It->Hp->Prop}{E:Value->ai->Prop}{h B:Int}{t u v:Tok}{tk:Nat}(I:Inv X F W H s)(Z:-(2^62)<=h)(J:h<2^62)(h3:-(2^62)<=B)(Y:B<2^62)
  (q:R (Itr h (B - h).toNat) H):wpAny (model X.prog X.w) X.A (ko (.ref s.heap.objs.size)) (PIE X F W tg R) E { s with heap:=s.heap.push { cls:=.type "range",data:=.fields #[.int h t,.int B u,.int 1 v] },toks:=tk }:=by
 refine wpAny_pyIter_range (IsRange.new ..) (small_one Z J h3 Y) ?_
 have G:Inv X F W H { s with heap:=s.heap.push { cls:=.type "range",data:=.fields #[.int h t,.int B u,.int 1 v] },toks:=tk }:=I.kept λ b o e=>az _ e
 refine⟨(s.heap.push { cls:=.type "range",data:=.fields #[.int h t,.int B u,.int 1 v] }).objs.size,[(s.heap.push { cls:=.type "range",data:=.fields #[.int h t,.int B u,.int 1 v] }).objs.size],_,_,H,rfl,
  G.kept (t':=tk) λ b o e=>az _ e,aS9 _ h (B - h).toNat,?_,λ b hb=>?_,q⟩
 .have e1:h+((0:Nat):Int)*1=h:=by simp
  have e2:(((B - h).toNat:Nat):Int) - ((0:Nat):Int)=ke h B 1:=by rw[rangeSize_one];split<;>omega
  show IsRangeIter _ _ (h+((0:Nat):Int)*1) ((((B - h).toNat:Nat):Int) - ((0:Nat):Int)) 1
  rw[e1,e2]
  exact a9 _ rfl
 .have e:b=(s.heap.push { cls:=.type "range",data:=.fields #[.int h t,.int B u,.int 1 v] }).objs.size:=by simpa using hb
  subst e
  exact G.fpOk (aw _) (G.hok.fresh (aw _))
def bT0 (ta:TA):TI:=λ W H R=>ta W H λ vs H1=>∃ j:Int,vs=[.int j]/\-(2^62)<=j/\j<2^62/\R (Itr 0 j.toNat) H1
theorem bb2 {a:Expr}{F:TA}{p pos:Pos}(hg:Gl X "range")(hm:X.mg "range"=none)(ha:PA X [a] F)(hs:bz [a] X.env=[(false,eval a X.env)]:=by rfl):PI X tg (.Call (.Name "range" p) [a] [] pos) (bT0 F):=by
 intro B s W H R I h
 refine Call_ (aD6 I hg hm boot_range (e9 (thn (ha pos B s W H _ I h) λ us s1 ⟨vs,J,G,r1,q1⟩=>?_) hs rfl))
 obtain⟨j,e,q1,q2,q⟩:=q1
 subst e
 cases r1 with
 | cons r rr =>
  cases rr
  obtain⟨t,rfl⟩:=r
  exact call_range_1 (bp5 G (by omega) (by omega) q1 q2 (by simpa using q))
def ch3 (wi:TI)(g:TG)(tb:TS):TS:=λ D W H=>wi W H λ J H1=>∃ Ww:Nat->Nat->St->Hp->Prop,(∃ m,Ww 0 m W H1)/\∀ i m W H,Ww i m W H ->
 (J.stop i H/\D.nx W H)\/(J.go i H/\∃ N:St->Hp->Prop,(∀ W' H',N W' H'->∃ m',m'<m/\Ww (i+1) m' W' H')/\∀ x H',J.yld i H x H'->g x W H' λ W2 H2=>tb { D with nx:=N,ct:=N,bk:=D.nx } W2 H2)
noncomputable def aG1 (fp:List Addr)(h:Heap):List (Addr×Obj):=fp.filterMap λ b=>(h.get? b).map λ o=>(b,o)
theorem qJ {B:List Addr}{h:Heap}{b:Addr}{o:Obj}(hb:b∈B)(e:h.get? b=some o):(b,o)∈aG1 B h:=cF.mpr ⟨b,hb,by rw[e];rfl⟩
theorem bi7 {B:List Addr}{h:Heap}{p:Addr×Obj}(hp:p∈aG1 B h):p.1∈B/\h.get? p.1=some p.2:=by
 obtain⟨b,hb,e⟩:=cF.mp hp
 cases q:h.get? b with
 | none=>rw[q]at e;cases e
 | some o =>
  rw[q]at e
  have e':(b,o)=p:=aG e
  subst e'
  exact⟨hb,q⟩
theorem Inv.pinned {h:yA}{W:St}{H:Hp}{s:ai}{B:List Addr}(I:Inv X h W H s)(Y:∀ b∈B,FpOk X h H b)(ho:∀ b∈B,∃ o,s.heap.get? b=some o/\∀ v,o.data≠.cell v):Inv X (h++aG1 B s.heap) W H s :=
 I.pins_of λ p hp=>(aP.mp hp).elim (λ z=>I.pin p (aM _ z)) λ z=>by
  obtain⟨hb,e⟩:=bi7 z
  obtain⟨F,G,J,_⟩:=Y p.1 hb
  obtain⟨o,e',d⟩:=ho p.1 hb
  rw[e]at e';cases e'
  exact⟨e,F,G,J,d⟩
theorem Inv.unpinned {h B:yA}{W:St}{H:Hp}{s:ai}(I:Inv X (h++B) W H s):Inv X h W H s:=I.pins_of λ p hp=>I.pin p (aM _ (bh _ hp))
theorem bt6 {iter:Expr}{body:yL}{wi:TI}{g:TG}{tb:TS}{pos:Pos}(hp:hJ (model X.prog X.w) X.A X.env X.xe)(hc:X.calm=true)(hi:PI X tg iter wi)(hg:PG X tg g)(hb:PSs X body tb)
  (hs:∀ x,dk iter X.env x=pure x:=by intro _;rfl):PS X (.For tg iter body [] pos) (ch3 wi g tb):=by
 intro B s W H D I h
 refine wpAny_For (thn (hi B s W H _ I h) λ v s1 h1=>thn h1 λ a6 s2 h2=>?_) hs
 obtain⟨it,fp,tn,J,H2,e,I2,T,a4,f2,Ww,⟨m0,w0⟩,turn⟩:=h2
 subst e
 have F:∀ {H':Hp},(∀ b∈fp,H' b=none)->∀ b∈fp,FpOk X B H' b:=λ hn b hb=>⟨hn b hb,(f2 b hb).2⟩
 refine codeAny_forLoop_any (λ n s'=>∃ i W' H',Inv X B W' H' s'/\tn i s'.heap/\(∀ b∈fp,H' b=none)/\Ww i n W' H') ?_ m0 ⟨0,W,H2,I2,a4,λ b hb=>(f2 b hb).1,w0⟩
 rintro n s3 ⟨i,W3,H3,I3,a2,a1,w3⟩
 rcases turn i n W3 H3 w3 with⟨stop,qn⟩|⟨go,N,hN,step⟩
 .refine cK hp (thn (T.done X rfl rfl rfl hc i B s3 W3 H3 X.xe I3 (F a1) a2 stop) λ r s4 ⟨hr,I4⟩=>?_)
  subst hr
  exact c5 ⟨W3,H3,I4,qn⟩
 .refine cK hp (thn (T.item X rfl rfl rfl hc i B s3 W3 H3 X.xe I3 (F a1) a2 go) λ r s4 ⟨u,hr,h4⟩=>?_)
  subst hr
  refine cK hp (thn h4 λ _ s5 ⟨x,H5,I5,r5,y5,a0,a3⟩=>?_)
  have a5:=I5.pinned (F a3) (T.obj _ _ a0)
  refine cK hp (thn (hg _ s5 W3 H5 x u _ a5 r5 (step x H5 y5)) λ _ s6 ⟨W6,H6,I6,q6⟩=>?_)
  refine cK hp (thn (hb _ s6 W6 H6 _ I6 q6) λ f s7 Z=>?_)
  have again:∀ {W7:St} {G:Hp},Inv X (B++aG1 fp s5.heap) W7 G s7->N W7 G->∃ m,m<n/\∃ i W' H',Inv X B W' H' s7/\tn i s7.heap/\(∀ b∈fp,H' b=none)/\Ww i m W' H':=λ {W7 G} Y n7=>by
   obtain⟨m',hm,w7⟩:=hN W7 G n7
   refine⟨m',hm,i+1,W7,G,Y.unpinned,T.keep _ _ _ a0 λ b hb o e=>(Y.pin (b,o) (aM _ (aM _ (qJ hb e)))).1,λ b hb=>?_,w7⟩
   obtain⟨o,e,d⟩:=T.obj _ _ a0 b hb
   exact(Y.pin (b,o) (aM _ (aM _ (qJ hb e)))).2.1
  cases f with
  | next=>obtain⟨W7,G,Y,n7⟩:=Z;exact again Y n7
  | cont=>obtain⟨W7,G,Y,n7⟩:=Z;exact again Y n7
  | brk=>obtain⟨W7,G,Y,Z⟩:=Z;exact⟨W7,G,Y.unpinned,Z⟩
  | ret v=>obtain⟨x7,W7,G,Y,r7,Z⟩:=Z;exact⟨x7,W7,G,Y.unpinned,r7,Z⟩
end
abbrev R2:=V->V->Hp->VK->Prop
def OpR (X:Cx)(f:Value->Value->Sem Value)(r:R2):Prop :=
 ∀(pins:yA) (s:ai) (W:St) (H:Hp) (x y:V) (v u:Value) (Q:VK),Inv X pins W H s->RelV x v->RelV y u->r x y H Q ->
  wpAny (model X.prog X.w) X.A (f v u) (EP X pins W Q) X.xe s
def UnR (X:Cx)(f:Value->Sem Value)(r:V->Hp->VK->Prop):Prop :=
 ∀(pins:yA) (s:ai) (W:St) (H:Hp) (x:V) (v:Value) (Q:VK),Inv X pins W H s->RelV x v->r x H Q ->
  wpAny (model X.prog X.w) X.A (f v) (EP X pins W Q) X.xe s
def aj3 (X:Cx)(f:Value)(r:List V->Hp->VK->Prop):Prop :=
 ∀(pins:yA) (s:ai) (W:St) (H:Hp) (xs:List V) (us:yG) (Q:VK),Inv X pins W H s->Vals xs us->r xs H Q ->
  wpAny (model X.prog X.w) X.A (call f us) (EP X pins W Q) X.xe s
def tOp (r:R2)(ta tb:TE):TE:=λ W H Q=>ta W H λ x H1=>tb W H1 λ y H2=>r x y H2 Q
def tUn (r:V->Hp->VK->Prop)(ta:TE):TE:=λ W H Q=>ta W H λ x H1=>r x H1 Q
def rI (Cc:Int->Int->Prop)(g:Int->Int->V):R2:=λ x y H Q=>∃ i j,x=.int i/\y=.int j/\Cc i j/\Q (g i j) H
def rI0 (g:Int->Int->V):R2:=λ x y H Q=>∃ i j,x=.int i/\y=.int j/\Q (g i j) H
def rU (g:Int->V):V->Hp->VK->Prop:=λ x H Q=>∃ i,x=.int i/\Q (g i) H
section
variable {X:Cx} {a b c:Expr} {ta tb tc:TE} {pos:Pos}
theorem cl4 (ha:PE X a ta)(hb:PE X b tb){B:yA}{s:ai}{W:St}{H:Hp}{R:V->V->Hp->Prop}(I:Inv X B W H s)
  (h:ta W H λ x G=>tb W G λ y F=>R x y F) {Q:Value->ai->Prop} {f:Value->Value->Sem Value}
  (hf:∀ v u s2 x y F,Inv X B W F s2->RelV x v->RelV y u->R x y F->wpAny (model X.prog X.w) X.A (f v u) Q X.xe s2) :
  wpAny (model X.prog X.w) X.A (eval a X.env) (λ v Y=>wpAny (model X.prog X.w) X.A (eval b X.env) (λ u s₂=>wpAny (model X.prog X.w) X.A (f v u) Q X.xe s₂) X.xe Y) X.xe s:=by
 refine thn (ha B s W H _ I h) λ v s1 ⟨x,G,Z,r1,q1⟩=>?_
 refine thn (hb B s1 W G _ Z q1) λ u s2 ⟨y,F,J,r2,q2⟩=>?_
 exact hf v u s2 x y F J r1 r2 q2
theorem ck7 {op:jQ}{r:R2}(ho:OpR X (cj op) r)(ha:PE X a ta)(hb:PE X b tb):PE X (.BinOp a op b pos) (tOp r ta tb):=by
 intro B s W H Q I h
 exact wpAny_BinOp (cl4 ha hb I h λ v u s2 x y J G Y F q=>ho B s2 W J x y v u Q G Y F q)
theorem ch8 {op:UnaryOp}{r:V->Hp->VK->Prop}(ho:UnR X (unaryOp op) r)(ha:PE X a ta):PE X (.UnaryOp op a pos) (tUn r ta):=by
 intro B s W H Q I h
 exact UnaryOp_ (thn (ha B s W H _ I h) λ v s1 ⟨x,G,F,r1,q1⟩=>ho B s1 W G x v Q F r1 q1)
theorem opI {f:Value->Value->Sem Value}{Cc:Int->Int->Prop}{g:Int->Int->Int}
  (rule:∀(i j:Int) (t u:Tok) (s:ai) (Q:Value->ai->Prop) (E:Value->ai->Prop),Cc i j->Q (.int (g i j) s.toks) { s with toks:=s.toks+1 }->wpAny (model X.prog X.w) X.A (f (.int i t) (.int j u)) Q E s) :
  OpR X f (rI Cc λ i j=>.int (g i j)):=by
 intro B s W H x y v u Q I G F h
 obtain⟨i,j,rfl,rfl,hc,q⟩:=h
 obtain⟨t,rfl⟩:=G
 obtain⟨t',rfl⟩:=F
 exact rule i j t t' s _ _ hc ⟨.int (g i j),H,I.tok _,⟨_,rfl⟩,q⟩
theorem cp8 {f:Value->Value->Sem Value}{g:Int->Int->Int}
  (rule:∀(i j:Int) (t u:Tok) (s:ai) (Q:Value->ai->Prop) (E:Value->ai->Prop),Q (.int (g i j) s.toks) { s with toks:=s.toks+1 }->wpAny (model X.prog X.w) X.A (f (.int i t) (.int j u)) Q E s) :
  OpR X f (rI0 λ i j=>.int (g i j)):=by
 intro B s W H x y v u Q I G F h
 obtain⟨i,j,rfl,rfl,q⟩:=h
 obtain⟨t,rfl⟩:=G
 obtain⟨t',rfl⟩:=F
 exact rule i j t t' s _ _ ⟨.int (g i j),H,I.tok _,⟨_,rfl⟩,q⟩
theorem cd7 {f:Value->Value->Sem Value}{g:Int->Int->Bool}
  (rule:∀(i j:Int) (t u:Tok) (s:ai) (Q:Value->ai->Prop) (E:Value->ai->Prop),Q (.bool (g i j)) s->wpAny (model X.prog X.w) X.A (f (.int i t) (.int j u)) Q E s) :
  OpR X f (rI0 λ i j=>.bl (g i j)):=by
 intro B s W H x y v u Q I G F h
 obtain⟨i,j,rfl,rfl,q⟩:=h
 obtain⟨t,rfl⟩:=G
 obtain⟨t',rfl⟩:=F
 exact rule i j t t' s _ _ ⟨.bl (g i j),H,I,rfl,q⟩
def cq2 (i j:Int):Prop:=0<=j/\j<=1000000/\i.natAbs<2^64
def ce1 (i j:Int):Prop:=(-(2^64)<i/\i<2^64)\/(-(2^64)<j/\j<2^64)
theorem ce1.ok {i j:Int}(h:ce1 i j):IntMulOk i j:=by
 rcases h with⟨F,B⟩|⟨F,B⟩
 .exact .of_left (intBits_le_64 F B)
 .exact .of_right (intBits_le_64 F B)
theorem bO9:OpR X (cj .Add) (rI0 λ i j=>.int (i+j)):=cp8 λ _ _ _ _ _ _ _ q=>add_int q
theorem bX6:OpR X (cj .Sub) (rI0 λ i j=>.int (i - j)):=cp8 λ _ _ _ _ _ _ _ q=>sub_int q
theorem cb3:OpR X (cj .Mod) (rI (λ _ j=>0<j) λ i j=>.int (i % j)):=opI λ i j _ _ _ _ _ hc q=>by
 have h:(0:Int)<j:=hc
 exact mod_int' (by omega) (by rw[Int.fmod_eq_emod_of_nonneg i (by omega)];exact q)
theorem bQ4:OpR X (cj .Pow) (rI cq2 λ i j=>.int (i^j.toNat)):=opI λ _ _ _ _ _ _ _ hc q=>pow_int_small hc.1 hc.2.1 hc.2.2 q
theorem bT4:OpR X (cj .LShift) (rI cq2 λ i j=>.int (i*2^j.toNat)):=opI λ _ _ _ _ _ _ _ hc q=>lshift_int_small hc.1 hc.2.1 hc.2.2 q
theorem unI {f:Value->Sem Value}{g:Int->Int}
  (rule:∀(i:Int) (t:Tok) (s:ai) (Q:Value->ai->Prop) (E:Value->ai->Prop),Q (.int (g i) s.toks) { s with toks:=s.toks+1 }->wpAny (model X.prog X.w) X.A (f (.int i t)) Q E s) :
  UnR X f (rU λ i=>.int (g i)):=by
 intro B s W H x v Q I F h
 obtain⟨i,rfl,q⟩:=h
 obtain⟨t,rfl⟩:=F
 exact rule i t s _ _ ⟨.int (g i),H,I.tok _,⟨_,rfl⟩,q⟩
theorem bP4:UnR X (unaryOp .USub) (rU λ i=>.int (-i)):=unI λ _ _ _ _ _ q=>neg_int q
end
section
variable {X:Cx} {a b c:Expr} {ta tb tc:TE} {pos:Pos}
theorem cg1:OpR X (cJ .Lt) (rI0 λ i j=>.bl (decide (i<j))):=cd7 λ _ _ _ _ _ _ _ q=>lt_int q
theorem cl3:OpR X (cJ .LtE) (rI0 λ i j=>.bl (decide (i<=j))):=cd7 λ _ _ _ _ _ _ _ q=>le_int q
theorem ch1:OpR X (cJ .Gt) (rI0 λ i j=>.bl (decide (j<i))):=cd7 λ _ _ _ _ _ _ _ q=>gt_int q
theorem cm9:OpR X (cJ .GtE) (rI0 λ i j=>.bl (decide (j<=i))):=cd7 λ _ _ _ _ _ _ _ q=>ge_int q
theorem bH7 {op:CmpOp}{r:R2}(ho:OpR X (cJ op) r)(ha:PE X a ta)(hb:PE X b tb)(hm:c9 op b=false):PE X (.Compare a [op] [b] pos) (tOp r ta tb):=by
 intro B s W H Q I h
 exact wpAny_Compare1 (cl4 ha hb I h λ v u s2 x y J G Y F q=>ho B s2 W J x y v u Q G Y F q) hm
def cc5 (t:TE):TT:=λ W H Q=>t W H λ x H'=>∃ k,x=.bl k/\Q k H'
theorem bH8 {op:CmpOp}{r:R2}(ho:OpR X (cJ op) r)(ha:PE X a ta)(hb:PE X b tb)(hm:c9 op b=false):PT X (.Compare a [op] [b] pos) (cc5 (tOp r ta tb)):=by
 intro B s W H Q I h
 refine gK (thn (ha B s W H _ I h) λ v s1 ⟨x,F,Y,r1,q1⟩=>thn (hb B s1 W F _ Y q1) λ u s2 ⟨y,Z,G,r2,q2⟩ =>
  thn (ho B s2 W Z x y v u _ G r1 r2 q2) λ c s3 ⟨z,H3,I3,J,k,e,q3⟩=>?_) hm
 subst e
 cases J
 exact cw ⟨H3,I3,q3⟩
theorem ar0:(aN:Nat)<2^63:=by rw[eP];decide
theorem aT1:OpR X (cj .Add) (λ x y H Q=>∃ i j,x=.str i/\y=.str j/\i.length+j.length<=aN/\Q (.str (i++j)) H):=by
 intro B s W H x y v u Q I G F h
 obtain⟨i,j,rfl,rfl,hz,q⟩:=h
 obtain⟨t,rfl⟩:=G
 obtain⟨t',rfl⟩:=F
 exact add_str (λ t' tk=>⟨.str (i++j),H,I.tok _,⟨_,rfl⟩,q⟩) hz
theorem am3 {x:V}{us:yG}(r:Vals [x] us):∃ u,us=[u]/\RelV x u:=by
 cases r with
 | cons r1 r2=>cases r2;exact⟨_,rfl,r1⟩
theorem bI5 {x y:V}{us:yG}(r:Vals [x,y] us):∃ u h,us=[u,h]/\RelV x u/\RelV y h:=by
 cases r with
 | cons r1 r2 =>
  cases r2 with
  | cons r3 r4=>cases r4;exact⟨_,_,rfl,r1,r3⟩
theorem bo0:aj3 X (.builtin "abs") (λ B H Q=>∃ i,B=[.int i]/\Q (.int (if i<0 then -i else i)) H):=by
 intro F s W H B us Q I r h
 obtain⟨i,rfl,q⟩:=h
 obtain⟨u,rfl,t,rfl⟩:=am3 r
 exact call_abs_int λ u tk=>⟨.int (if i<0 then -i else i),H,I.tok _,⟨_,rfl⟩,q⟩
theorem bf9 (hc:X.calm=true):aj3 X (.builtin "min") (λ B H Q=>∃ i j,B=[.int i,.int j]/\Q (.int (if j<i then j else i)) H):=by
 intro F s W H B us Q I r h
 obtain⟨i,j,rfl,q⟩:=h
 obtain⟨u,G,rfl,⟨t,rfl⟩,⟨t',rfl⟩⟩:=bI5 r
 refine min_two_ints (I.ok.hd hc) λ h' tk k=>⟨_,H,I.kept k,?_,q⟩
 by_cases hj:j<i
 .rw[if_pos hj,if_pos hj];exact⟨_,rfl⟩
 .rw[if_neg hj,if_neg hj];exact⟨_,rfl⟩
theorem bg6:aj3 X (.type "int") (λ B H Q=>(∃ i,B=[.int i]/\Q (.int i) H)\/∃ k,B=[.bl k]/\Q (.int (if k then 1 else 0)) H):=by
 intro F s W H B us Q I r h
 rcases h with⟨i,rfl,q⟩|⟨k,rfl,q⟩
 .obtain⟨u,rfl,t,rfl⟩:=am3 r
  exact call_int_int ⟨.int i,H,I,⟨_,rfl⟩,q⟩
 .obtain⟨u,rfl,r1⟩:=am3 r
  cases r1
  exact call_int_bool ⟨.int (if k then 1 else 0),H,I.tok _,⟨_,rfl⟩,q⟩
end
structure ObjM (h:Heap)(x dx Cc:Addr)(mA:yC):Prop where
 obj:h.get? x=some (gC Cc dx)
 ns:h.Ns1 dx mA
 ne:dx≠x
theorem aY8 {h:Heap}{F:Addr}{G:yC}(n:h.Ns1 F G):∃ od,h.get? F=some od/\∀ name,gT name od=some (G name):=by
 obtain⟨o,es,ep,ho,hd,hk,_,hm⟩:=n
 refine⟨o,ho,λ name=>?_⟩
 have e:=hm name
 unfold nsFind findBy at e
 rw[<-Array.find?_toList]at e
 unfold gT
 rw[hd]
 dsimp only
 split
 .rename_i y q
  rw[q]at e
  exact congrArg some e
 .rename_i q
  rw[q]at e
  have a:es.toList.any (·.refKey)=false:=by
   rw[List.any_eq_false]
   intro y hy
   obtain⟨z,t,B⟩:=hk y (Array.mem_toList_iff.mp hy)
   simp[DictEntry.refKey,B]
  have J:¬ es.toList.any (·.refKey)=true:=by rw[a];exact aW
  rw[if_neg J]
  exact congrArg some e
theorem ObjM.look {h:Heap}{x B Cc:Addr}{F:yC}(I:ObjM h x B Cc F):∃ od,PySem.W.InstAt h x (gC Cc B) Cc (some od)/\∀ name,gT name od=some (F name) :=
 let⟨od,ho,hl⟩:=aY8 I.ns
 ⟨od,⟨I.obj,rfl,rfl,ho⟩,hl⟩
section
variable {prog:aJ} {w:World} {A:aV} {E:Value->ai->Prop} {s:ai} {K:ah} {x dx Cc f:Addr} {mA:yC} {name:Str} {v:Value}
end
theorem aT9.some_of {v:V}{o:Option Value}(r:aT9 (some v) o):∃ u,o=some u/\RelV v u:=by
 cases o with
 | none=>exact(show False from r).elim
 | some u=>exact⟨u,rfl,r⟩
section
variable {P:aJ} {w:World} {H H':Hp} {h h':Heap} {a Cc dx:Addr} {fs fs':List (Str×V)}
theorem bI0 (hok:HOk P w H h)(e:H a=some (.ins Cc dx fs)):∃ B,ObjM h a dx Cc B/\(∀ f,aT9 (fs.lookup f) (B f))/\km B (fs.map (·.1))/\fs.length<=1000/\H dx=some (.own a):=by
 obtain⟨d,z,ne,ob,B,n,r,q⟩:=(show ai3 P w H h a (.ins Cc dx fs)from hok a _ e)
 exact⟨B,⟨ob,n,ne⟩,r,q,z,d⟩
end
structure Cls (K:ah)(Cc:Addr):Prop where
 pg:jl K Cc Str.empty=true
 hd:PySem.W.hasDictIn K Cc=true
 po:PySem.W.plainOver K Cc=true
 sa:dr K (.ref Cc) "__setattr__"=some (some (.builtin "object.__setattr__"))
theorem Cls.get {K:ah}{Cc:Addr}(c:Cls K Cc)(f:Str):jl K Cc f=true:=c.pg
section
variable {X:Cx} {pins:yA} {W:St} {H:Hp} {s:ai} {a Cc dx:Addr} {fs:List (Str×V)} {f:Str} {v:V} {A:aV} {E:Value->ai->Prop}
end
section
variable {X:Cx} {o e value:Expr} {f:Str} {pos pos' tpos:Pos} {ta tv:TE}
end
section
variable {X:Cx} {pins:yA} {W:St} {H:Hp} {s:ai} {A:aV} {E:Value->ai->Prop} {Q:Value->ai->Prop} {c:Value} {b:Bool}
inductive TyOf (K:ah)(H:Hp):V->Value->Prop where
 | non:TyOf K H .non (.type "NoneType")
 | bl (x:Bool):TyOf K H (.bl x) (.type "bool")
 | int (i:Int):TyOf K H (.int i) (.type "int")
 | str (x:Str):TyOf K H (.str x) (.type "str")
 | flt (x:UInt64):TyOf K H (.flt x) (.type "float")
 | lst {a:Addr} {xs:List V} (e:H a=some (.lst xs)):TyOf K H (.ref a) (.type "list")
 | frz {a:Addr} {o:Obj} {xs:List V} (e:H a=some (.frz o (.lst xs))):TyOf K H (.ref a) (.type "list")
 | tup {a:Addr} {xs:List V} (e:H a=some (.tup xs)):TyOf K H (.ref a) (.type "tuple")
 | dK {a:Addr} {kvs:List (Key×V)} (e:H a=some (.dK kvs)):TyOf K H (.ref a) (.type "dict")
 | dT {a:Addr} {kvs:List (List NI×V)} (e:H a=some (.dT kvs)):TyOf K H (.ref a) (.type "dict")
 | ins {a Cc dx:Addr} {fs:List (Str×V)} (e:H a=some (.ins Cc dx fs)) (cl:Cls K Cc) (ha:dr K (.ref Cc) "__class__"=some (some (.builtin "object.__class__")))
   (hn:iY K (.builtin "object.__class__") "__get__"=some (some (.builtin "getset_descriptor.__get__"))) (htk:jD K (.builtin "object.__class__")=some true)
   (hm:j7 K Cc (.type "object")=some true):TyOf K H (.ref a) (.ref Cc)
theorem qz {x:V}{u t:Value}(I:Inv X pins W H s)(B:RelV x u)(Z:TyOf X.K H x t)(e:bj X.K t c=some b)(h:∀ tk,Q (.bool b) { s with toks:=tk }) :
  wpAny (model X.prog X.w) A (call (.builtin "isinstance") [u,c]) Q E s:=by
 cases Z with
 | non=>cases(show u=Value.none from B);exact bK PySem.W.kitx_none I.kIn True.intro e (λ z=>nomatch z) h
 | bl y=>cases(show u=Value.bool y from B);exact bK PySem.W.kitx_bool I.kIn True.intro e (λ z=>nomatch z) h
 | int i=>obtain⟨t,q⟩:=(show ∃ t,u=Value.int i t from B);cases q;exact bK PySem.W.kitx_int I.kIn True.intro e (λ z=>nomatch z) h
 | str y=>obtain⟨t,q⟩:=(show ∃ t,u=Value.str y t from B);cases q;exact bK PySem.W.kitx_str I.kIn True.intro e (λ z=>nomatch z) h
 | flt y=>obtain⟨t,q⟩:=(show ∃ t,u=Value.float y t from B);cases q;exact bK PySem.W.kitx_float I.kIn True.intro e (λ z=>nomatch z) h
 | @lst a G ea =>
  cases(show u=Value.ref a from B)
  obtain⟨_,_,n,_,F⟩:=(show ai3 X.prog X.w H s.heap a (.lst G)from I.hok a _ ea)
  exact bK iZ I.kIn ⟨_,F,rfl⟩ e (λ z=>nomatch z) h
 | @frz a ob G ea =>
  cases(show u=Value.ref a from B)
  obtain⟨_,_,_,n,_,F⟩:=(show ai3 X.prog X.w H s.heap a (.frz ob (.lst G))from I.hok a _ ea)
  exact bK iZ I.kIn ⟨_,F,rfl⟩ e (λ z=>nomatch z) h
 | @tup a G ea =>
  cases(show u=Value.ref a from B)
  obtain⟨_,_,_,p⟩:=(show ai3 X.prog X.w H s.heap a (.tup G)from I.hok a _ ea)
  obtain⟨o,F,Y,_⟩:=p
  exact bK iL I.kIn ⟨o,F,Y⟩ e (λ z=>nomatch z) h
 | @dK a kvs ea =>
  cases(show u=Value.ref a from B)
  obtain⟨_,_,vs,_,p⟩:=(show ai3 X.prog X.w H s.heap a (.dK kvs)from I.hok a _ ea)
  obtain⟨o,es,ep,F,Y,_⟩:=p
  exact bK i4 I.kIn ⟨o,F,Y.1⟩ e (λ z=>nomatch z) h
 | @dT a kvs ea =>
  cases(show u=Value.ref a from B)
  obtain⟨_,_,G,_,o,es,ep,F,Y,_⟩:=(show ai3 X.prog X.w H s.heap a (.dT kvs)from I.hok a _ ea)
  exact bK i4 I.kIn ⟨o,F,Y.1⟩ e (λ z=>nomatch z) h
 | @ins a Cc dx fs ea cl ha hn htk hm =>
  cases(show u=Value.ref a from B)
  obtain⟨mA,O,_⟩:=bI0 I.hok ea
  obtain⟨od,J,_⟩:=O.look
  exact bK (PySem.W.kitx_own (cl.get _) cl.hd ha hn htk hm) I.kIn J e (λ z=>nomatch z) h
end
structure Room (k:Nat)(A:aV):Prop where
 hd:A.handled=none
 dp:A.depth+3*k+5<recursionLimit
 un:A.units+16*k+200<cLine
theorem Room.mono {j k:Nat}{A:aV}(r:Room k A)(h:j<=k):Room j A:=⟨r.hd,by have:=r.dp;omega,by have:=r.un;omega⟩
theorem Room.deeper {k:Nat}{A:aV}(r:Room (k+1) A)(env:Env):Room k (A.deeper env) :=
 ⟨r.hd,by have:=r.dp;show A.depth+1+3*k+5<_;omega,by have:=r.un;show A.units+3+16*k+200<_;omega⟩
theorem Room.in1 {k:Nat}{A:aV}(r:Room (k+1) A):Room k A.in1 :=
 ⟨r.hd,by have:=r.dp;show A.depth+3*k+5<_;omega,by have:=r.un;show A.units+1+16*k+200<_;omega⟩
theorem Room.depth {k:Nat}{A:aV}(r:Room k A):A.depth<recursionLimit:=by have:=r.dp;omega
theorem Room.units {k:Nat}{A:aV}(r:Room k A):A.units+64<cLine:=by have:=r.un;omega
theorem Room.units0 {k:Nat}{A:aV}(r:Room k A):A.units<cLine:=by have:=r.un;omega
def bp7:TA:=λ _ H Q=>Q [] H
def aD8 (ta:TE)(tr:TA):TA:=λ W H Q=>ta W H λ x H1=>tr W H1 λ xs H2=>Q (x::xs) H2
section
variable {X:Cx} {e:Expr} {es:yK} {te:TE} {t:TA} {pos:Pos}
theorem ak2:PA X [] bp7:=λ _ _ _ _ H Q I h=>Calls.spliced_nil ⟨[],H,I,.nil,h⟩
theorem z7 (ha:PE X e te)(hr:PA X es t)(hs:bz (e::es) X.env=(false,eval e X.env)::bz es X.env:=by rfl):PA X (e::es) (aD8 te t):=by
 intro pos B s W H Q I h
 rw[hs]
 show wpAny _ _ (spliced ((false,eval e X.env)::dZ pos (bz es X.env))) _ _ s
 refine Calls.spliced_cons (thn (ha B s W H _ I h) λ u s1 ⟨x,Y,G,r1,q1⟩=>?_)
 exact thn (hr pos B s1 W Y _ G q1) λ us s2 ⟨J,Z,F,r2,q2⟩=>⟨x::J,Z,F,.cons r1 r2,q2⟩
def cq6 (t:TA):TE:=λ W H Q=>t W H λ xs H1=>xs.length<=aN/\∀ p,H1 p=none->Q (.ref p) (upd H1 p (.tup xs))
def cr0 (t:TA):TE:=λ W H Q=>t W H λ xs H1=>xs.length<=aN/\∀ p,H1 p=none->Q (.ref p) (upd H1 p (.lst xs))
theorem bQ0 {x1}(h:PA X es t):PE X (.Tuple es x1 pos) (cq6 t):=by
 intro B s W H Q I hq
 refine wpAny_Tuple_spliced (thn (h pos B s W H _ I hq) λ us s1 ⟨J,G,F,r,z,q⟩=>⟨by rw[<-r.length];exact z,?_⟩)
 have Y:G s1.heap.objs.size=none:=F.hok.fresh (aw _)
 refine⟨.ref s1.heap.objs.size,upd G s1.heap.objs.size (.tup J),F.laid (t':=s1.toks) (λ b u e=>az _ e) (aw _) ?_,rfl,q _ Y⟩
 exact⟨z,us,r,⟨_,a9 _ rfl,rfl,_,rfl⟩⟩
theorem aO5 (h:PA X es t):PE X (.List es pos) (cr0 t):=by
 intro B s W H Q I hq
 refine wpAny_List_spliced (thn (h pos B s W H _ I hq) λ us s1 ⟨J,G,F,r,z,q⟩=>⟨by rw[<-r.length];exact z,?_⟩)
 have Y:G s1.heap.objs.size=none:=F.hok.fresh (aw _)
 refine⟨.ref s1.heap.objs.size,upd G s1.heap.objs.size (.lst J),F.laid (t':=s1.toks) (λ b u e=>az _ e) (aw _) ?_,rfl,q _ Y⟩
 exact⟨z,us,0,r,a9 _ rfl⟩
end
abbrev Sp:=List V->Hp->VK->XK->Prop
abbrev CXT:=List Env->Hp->ai->XK->Value->ai->Prop
structure Env0 (P:aJ)(w:World)(K:ah)(mg:yC)(base:Heap)(A:aV)(outer:List Env)(s:ai)(H:Hp):Prop where
 frames:A.frames=some outer
 mod:Mod K mg base
 bs:∀ b o,base.get? b=some o->s.heap.get? b=some o/\H b=none
 bsz:base.objs.size<=s.heap.objs.size
 funs:s.heap.FunFrames base outer
 frf:∀ b∈frs outer,H b=none
 hok:HOk P w H s.heap
 bare:e8 s.gens
def CE (outer:List Env)(P:aJ)(w:World)(H:Hp)(s:ai)(Q:VK)(u:Value)(s':ai):Prop :=
 ∃ v H',s'.os=s.os/\e8 s'.gens/\Un (frs outer) [] H H' s.heap s'.heap/\HOk P w H' s'.heap/\RelV v u/\Q v H'
def CR (CX:CXT)(outer:List Env)(P:aJ)(w:World)(H:Hp)(s:ai)(Q:VK)(E:XK)(r:jS)(s':ai):Prop :=
 match r with
 | .ok (.ret u)=>CE outer P w H s Q u s'
 | .ok _=>False
 | .error e=>CX outer H s E e s'
structure FnOk (P:aJ)(w:World)(K:ah)(mg:yC)(base:Heap)(CX:CXT)(k:Nat)(f:Addr)(fd:bS)(ps:yH)(sp:Sp):Prop where
 len:∀ vs H Q E,sp vs H Q E->vs.length=ps.length
 run:∀(A:aV) (outer:List Env) (s:ai) (H:Hp) (args:Args) (us:yG) (vs:List V) (Q:VK) (E:XK),Room k A->Env0 P w K mg base A outer s H->jL s fd args (ps.zip us)->Vals vs us->sp vs H Q E ->
  gf (model P w) A (.call (.ref f) args) (CR CX outer P w H s Q E) s
theorem FnOk.imp {P:aJ}{w:World}{K:ah}{mg:yC}{base:Heap}{J:CXT}{k:Nat}{f:Addr}{Y:bS}{ps:yH}{sp G:Sp}(F:FnOk P w K mg base J k f Y ps sp)
  (h:∀ vs H Q E,G vs H Q E->sp vs H Q E):FnOk P w K mg base J k f Y ps G :=
 ⟨λ vs H Q E q=>F.len vs H Q E (h _ _ _ _ q),λ A B s H args us vs Q E hr he hb hv hs=>F.run A B s H args us vs Q E hr he hb hv (h _ _ _ _ hs)⟩
section
variable {X:Cx} {pins:yA} {W:St} {H:Hp} {s s':ai}
theorem Inv.env0 (I:Inv X pins W H s):Env0 X.prog X.w X.K X.mg X.base X.A X.stack s H :=
 ⟨I.ok.frames,I.ok.mod,I.bs,av I.ok.bsz I.sz,I.stack,I.stkFree,I.hok,I.bare⟩
theorem Inv.after {Q:VK}{u:Value}(I:Inv X pins W H s)(h:CE X.stack X.prog X.w H s Q u s'):EP X pins W Q u s':=by
 obtain⟨v,H',os,bare,un,hok,r,q⟩:=h
 obtain⟨hh,g,d,t,B⟩:=s'
 obtain rfl:B=s.os:=os
 exact⟨v,H',I.call (h':=hh) (g':=g) (d':=d) (t':=t) (ch:=[]) un hok bare (λ b z=>absurd z (by simp)),r,q⟩
end
def aU5 (sp:Sp)(dvs:List V)(E:XK)(t:TA):TE:=λ W H Q=>t W H λ vs H1=>sp (vs++dvs) H1 Q E
def Binds (K:ah)(fd:bS)(ps:yH)(ds:yG):Prop :=
 ∀(s:ai) (us:yG),K.In s.heap->(us++ds).length=ps.length->jL s fd ⟨us,[]⟩ (ps.zip (us++ds))
theorem Binds.all {K:ah}{B:bS}{ps:yH}(h:∀ us:List Value,us.length=ps.length->bindArgs B ⟨us,[]⟩=pure (ps.zip us)):Binds K B ps []:=λ s us _ hl=>by
 rw[bw]at hl ⊢
 exact .of_eq (h us hl)
def an1 (CX:CXT)(X:Cx)(E:XK):Prop:=∀(pins:yA) (W:St) (H:Hp) (s:ai) (e:Value) (s':ai),Inv X pins W H s->CX X.stack H s E e s'->X.xe e s'
section
variable {X:Cx} {CX:CXT} {k:Nat} {f Cc:Addr} {fd:bS} {ps:yH} {sp:Sp} {dvs:List V} {ds:yG} {E:XK} {x m:Str} {p pos apos:Pos} {e o:Expr} {es:yK} {ta:TE} {t:TA}
theorem bw2 {B:yA}{W:St}{H:Hp}{s:ai}{Q:VK}{us:yG}{vs:List V}(F:FnOk X.prog X.w X.K X.mg X.base CX k f fd ps sp)(hr:Room k X.A)(hb:Binds X.K fd ps ds)(hd:Vals dvs ds)(hx:an1 CX X E)
  (I:Inv X B W H s) (r:Vals vs us) (h:sp (vs++dvs) H Q E):wpAny (model X.prog X.w) X.A (call (.ref f) us) (EP X B W Q) X.xe s:=by
 have r2:Vals (vs++dvs) (us++ds):=r.append hd
 have hl:(us++ds).length=ps.length:=by rw[<-r2.length];exact F.len _ _ _ _ h
 refine wpAny_call (i5 (F.run X.A X.stack s H ⟨us,[]⟩ (us++ds) (vs++dvs) Q E hr I.env0 (hb s us I.kIn hl) r2 h) λ r s' hq=>?_)
 cases r with
 | error e=>exact hx B W H s e s' I hq
 | ok fl =>
  cases fl with
  | ret u=>exact I.after hq
  | next=>exact bA hq
  | brk=>exact bA hq
  | cont=>exact bA hq
theorem bg8 (F:FnOk X.prog X.w X.K X.mg X.base CX k f fd ps sp)(hr:Room k X.A)(hg:Gl X x)(hm:X.mg x=some (.ref f))(hk:cq X.K (.ref f)=true)(hb:Binds X.K fd ps ds)(hd:Vals dvs ds)(hx:an1 CX X E)
  (ha:PA X (e::es) t) (G:(x==("__debug__":Str))=false:=by decide) (he:bz (e::es) X.env=(false,eval e X.env)::bz es X.env:=by rfl) (J:(dZ pos (bz es X.env)).any (·.1)=false:=by rfl) :
  PE X (.Call (.Name x p) (e::es) [] pos) (aU5 sp dvs E t):=by
 intro B s W H Q I h
 refine cW (aK5 I hg hm ?_ G)
 refine PySem.W.callWith_K (h₀:=X.base) I.ok.mod.kin hk (thn (ha pos B s W H _ I h) λ us s1 ⟨vs,Z,Y,r,q⟩=>⟨Y.kIn,?_⟩) he J
 exact bw2 F hr hb hd hx Y r q
theorem bq3 (F:FnOk X.prog X.w X.K X.mg X.base CX k f fd ps sp)(hr:Room k X.A)(hg:Gl X x)(hm:X.mg x=some (.ref f))(hk:cq X.K (.ref f)=true)(hb:Binds X.K fd ps ds)(hd:Vals dvs ds)(hx:an1 CX X E)
  (B:(x==("__debug__":Str))=false:=by decide):PE X (.Call (.Name x p) [] [] pos) (aU5 sp dvs E bp7):=by
 intro G s W H Q I h
 refine cW (aK5 I hg hm ?_ B)
 exact PySem.W.callWith_K0 I.kIn hk (bw2 (us:=[]) F hr hb hd hx I .nil h)
structure Mk (K:ah)(Cc f:Addr):Prop where
 makes:PySem.W.makesIn K Cc=true
 init:dr K (.ref Cc) "__init__"=some (some (.ref f))
 fn:PySem.W.isFn K (.ref f)=true
 kp:cq K (.ref Cc)=true
end
section
variable {X:Cx} {CX:CXT} {k:Nat} {f Cc:Addr} {fd:bS} {ps ks:yH} {sp:Sp} {E:XK} {x m:Str} {p pos apos kpos:Pos} {e o:Expr} {es:yK} {kws:List hW} {te ta:TE} {t tk:TA} {nm:Option Str}
variable {g:List Value->List Value->List Value} {gV:List V->List V->List V}
end
structure FnScope (N P:yH)(sc:Scope):Prop where
 kind:sc.kind=.function
 co:sc.isCoroutine=false
 gen:sc.isGenerator=false
 nd:N.Nodup
 pre:N.take P.length=P
 par:∀ x∈P,sc.names.lookup x=some .local\/sc.names.lookup x=some .cell
 nofree:∀ y∈sc.names,y.2≠.free
theorem aG4 {eE:Str->Option cr}{x:Str}:∀ {binds:List (Str×Value)} {m:yC},(∀ v,(x,v) ∉ binds)->bindL eE binds m x=m x
 | [],_,_=>rfl
 | (n,v)::r,m,h=>by
  unfold bindL
  rw[aG4 λ w hw=>h w (aq _ hw)]
  split
  .have:x≠n:=by rintro rfl;exact h v aC
   simp[this]
  .rfl
theorem aF9 {eE:Str->Option cr}{x:Str}:∀ {binds:List (Str×Value)} {m:yC},(∀ v,(x,v) ∉ binds)->bindC eE binds m x=m x
 | [],_,_=>rfl
 | (n,v)::r,m,h=>by
  unfold bindC
  rw[aF9 λ w hw=>h w (aq _ hw)]
  split
  .rfl
  .have:x≠n:=by rintro rfl;exact h v aC
   simp[this]
theorem aH2 {eE:Str->Option cr}{x:Str}{v:Value}:∀ {P:yH} {vs:yG} {i:Nat} {m:yC},P.Nodup->P[i]?=some x->vs[i]?=some v->eE x=some .local ->
  bindL eE (P.zip vs) m x=some v
 | [],_,_,_,_,h,_,_=>by simp at h
 | _::_,[],_,_,_,_,h,_=>by simp at h
 | p::P,w::vs,0,m,nd,h1,h2,hk=>by
  simp at h1 h2;subst h1;subst h2
  show bindL eE ((p,w)::P.zip vs) m p=_
  unfold bindL
  rw[aG4 λ v hv=>(dM.mp nd).1 (gD hv).1,if_pos hk]
  simp
 | p::P,w::vs,i+1,m,nd,h1,h2,hk=>by
  show bindL eE ((p,w)::P.zip vs) m x=_
  unfold bindL
  exact aH2 (i:=i) (dM.mp nd).2 (by simpa using h1) (by simpa using h2) hk
theorem aE6 {eE:Str->Option cr}{x:Str}{v:Value}:∀ {P:yH} {vs:yG} {i:Nat} {m:yC},P.Nodup->P[i]?=some x->vs[i]?=some v->eE x≠some .local ->
  bindC eE (P.zip vs) m x=some v
 | [],_,_,_,_,h,_,_=>by simp at h
 | _::_,[],_,_,_,_,h,_=>by simp at h
 | p::P,w::vs,0,m,nd,h1,h2,hk=>by
  simp at h1 h2;subst h1;subst h2
  show bindC eE ((p,w)::P.zip vs) m p=_
  unfold bindC
  rw[aF9 λ v hv=>(dM.mp nd).1 (gD hv).1,if_neg hk]
  simp
 | p::P,w::vs,i+1,m,nd,h1,h2,hk=>by
  show bindC eE ((p,w)::P.zip vs) m x=_
  unfold bindC
  exact aE6 (i:=i) (dM.mp nd).2 (by simpa using h1) (by simpa using h2) hk
noncomputable def ao4 (N:yH)(vs:List V):St:=vs.map some++aA (N.length - vs.length) none
noncomputable def ax0 (CX:CXT)(P:aJ)(w:World)(K:ah)(mg:yC)(base:Heap)(N:yH)(qual:Str)(scope:Scope)(f:Addr)(cd:Value)(A:aV)(outer:List Env)(s:ai)(H:Hp)(E:XK):Cx where
 prog:=P
 w:=w
 K:=K
 mg:=mg
 base:=base
 A:=A.deeper (fo qual scope s.heap.objs.size f cd)
 N:=N
 s₀:=s
 H₀:=H
 env:=fo qual scope s.heap.objs.size f cd
 outer:=outer
 stack:=fo qual scope s.heap.objs.size f cd::outer
 ex:=[]
 calm:=true
 fn:=λ _=>true
 pn:=[]
 xe:=λ e s'=>wpAny (model P w) (A.deeper (fo qual scope s.heap.objs.size f cd)) (leaving (fo qual scope s.heap.objs.size f cd) e) (λ _ s''=>CX outer H s E e s'') (λ e' s''=>CX outer H s E e' s'') s'
theorem aq1 {sc:Scope}{n:Nat}{x:Str}(h:sc.names.lookup x=some .cell):∃ c,(bB n sc.names []).lookup x=some c:=by
 have q:=gg sc.names n [] (.inl h)
 exact fM.mp q
theorem bc0 {CX:CXT}{P:aJ}{w:World}{K:ah}{mg:yC}{base:Heap}{N ps:yH}{qual:Str}{scope:Scope}{f:Addr}{cd:Value}{A:aV}{B:List Env}{s s1:ai}{H:Hp}{E:XK}{us:yG}{vs:List V}
  (S:FnScope N ps scope) (hd:A.handled=none) (G:Env0 P w K mg base A B s H) (hl:vs.length=ps.length) (r:Vals vs us)
  (x:InCallC s s.heap.objs.size (bindL (fo qual scope s.heap.objs.size f cd).kindOf (ps.zip us) λ _=>none) (bB (s.heap.objs.size+1) scope.names []) (bindC (fo qual scope s.heap.objs.size f cd).kindOf (ps.zip us) λ _=>none) s1) :
  Inv (ax0 CX P w K mg base N qual scope f cd A B s H E) [] (ao4 N vs) H s1:=by
 have a0:ps.length<=N.length:=by have:=congrArg List.length S.pre;rw[bD]at this;omega
 obtain⟨h1,tk,rfl,hk⟩:=x.done
 have J:∀ b:Addr,b ∉ (ax0 CX P w K mg base N qual scope f cd A B s H E).ex:=λ b z=>absurd (show b∈([]:List Addr)from z) (by simp)
 refine⟨⟨G.mod,S.kind,rfl,rfl,aw _,λ y z c h1 F=>?_,λ y hy=>?_,λ y c _ h=>?_,λ _=>hd,Around.frames_deeper G.frames,.inr ⟨rfl,rfl⟩,λ b z=>absurd z (J b),G.bs,G.bsz,λ b _ _=>J b,λ b z=>absurd z (J b),G.funs,G.frf⟩,
  rfl,G.bare,Un.kept hk,⟨_,x.toInCall.ns,λ i y v h1 F h3=>?_⟩,λ y c h=>⟨_,x.cell y c h⟩,G.hok.fresh (aw _),λ y c h=>?_,λ p hp=>absurd (show p∈([]:yA)from hp) (by simp),G.hok.kept hk,?_⟩
 .exact name_of_addr x.apart (bn h1) (bn F)
 .have hy:scope.names.lookup y=some .cell\/scope.names.lookup y=some .free:=hy
  rcases hy with hy|hy
  .exact aq1 hy
  .exact absurd rfl (S.nofree _ (bn hy))
 .exact gc (x.above y c (bn h))
 .have Z:i<vs.length:=by
   unfold ao4 at F
   by_cases Z:i<vs.length
   .exact Z
   .rw[aK (by simpa using Z)]at F
    rw[fW]at F
    split at F<;>cases F
  have ha:vs[i]?=some v:=by
   unfold ao4 at F
   rw[aI (by simpa using Z),aS]at F
   cases e:vs[i]? with
   | none=>rw[e]at F;cases F
   | some a=>rw[e]at F;cases F;rfl
  obtain⟨u,hu,rv⟩:=r.get ha
  have hp:ps[i]?=some y:=by
   rw[<-S.pre,cN (by omega)];exact h1
  have Y:ps.Nodup:=by rw[<-S.pre];exact S.nd.sublist (i6 _ _)
  refine⟨u,rv,?_⟩
  rcases S.par y (aR hp)with k|k
  .exact .inl ⟨k,aH2 Y hp hu k⟩
  .obtain⟨c,e⟩:=aq1 (n:=s.heap.objs.size+1) k
   refine .inr ⟨.inl k,c,e,?_⟩
   have q:=x.cell y c e
   rw[aE6 Y hp hu (by show scope.names.lookup y≠_;rw[k];decide)]at q
   exact q
 .exact G.hok.fresh (gc (x.above y c (bn h)))
 .unfold ao4
  show _=N.length
  rw[ax,aE,List.length_replicate]
  omega
theorem bX5 {CX:CXT}{P:aJ}{w:World}{K:ah}{mg:yC}{base:Heap}{k:Nat}{f:Addr}{name qual:Str}{params:eF}{body:yL}{scope:Scope}{dV kV a0 pm B ct oc:Value}{an od:yI}
  {a1:yE} {N ps:yH} {sp:Sp} (lk:K.lookup f=some ⟨oc,od,.func (cX name qual params body scope dV kV a0 pm an B ct),a1⟩) (a2:fq K B qual=true) (S:FnScope N ps scope)
  (len:∀ vs H Q E,sp vs H Q E->vs.length=ps.length)
  (G:∀(A:aV) (h:List Env) (s:ai) (H:Hp) (vs:List V) (Q:VK) (E:XK),Room k (A.deeper (fo qual scope s.heap.objs.size f B))->sp vs H Q E ->
   ∃ t,PSs (ax0 CX P w K mg base N qual scope f B A h s H E) body t/\t { nx:=λ _ H'=>Q .non H',rt:=Q } (ao4 N vs) H) :
  FnOk P w K mg base CX (k+1) f (cX name qual params body scope dV kV a0 pm an B ct) ps sp:=by
 refine⟨len,λ A h s H args us vs Q E hr Z hb r Y=>?_⟩
 have hl:=len _ _ _ _ Y
 have KX:K.In s.heap:=Z.mod.kin.keeps λ b o e=>(Z.bs b o e).1
 have a3:s.heap.NoLimit:=Z.mod.nolimit.keeps λ b o e=>(Z.bs b o e).1
 have F:∀ y∈ps.zip us,scope.names.lookup y.1=some .local\/(scope.names.lookup y.1=some .cell/\((bB (s.heap.objs.size+1) scope.names []).lookup y.1).isSome=true):=λ⟨n,v⟩ hy=>by
  rcases S.par n (gD hy).1 with q|q
  .exact .inl q
  .exact .inr ⟨q,gg _ _ _ (.inl q)⟩
 refine codeAny_call_function hr.depth (KX _ _ lk) rfl S.co S.gen rfl (PySem.W.codeRec_of KX a2) (hb _ _ _ _ ?_)
 refine wpAny_newFunctionEnv_cells S.kind F λ env he s1 x=>?_
 subst he
 refine⟨a3.keeps x.toInCall.keep,codeAny_func ?_⟩
 obtain⟨t,ht,hq⟩:=G A h s H vs Q E (hr.deeper _) Y
 have I:Inv (ax0 CX P w K mg base N qual scope f B A h s H E) [] (ao4 N vs) H s1:=bc0 S hr.hd Z hl r x
 refine bq (ht [] s1 (ao4 N vs) H _ I hq) (λ fl s' hs=>?_) λ e s' hs=>hs
 have fin:∀ {W':St} {H':Hp} {v:V} {u:Value},Inv (ax0 CX P w K mg base N qual scope f B A h s H E) [] W' H' s'->RelV v u->Q v H'->CE h P w H s Q u s' :=
  λ {W' H' v u} J rv q=>⟨v,H',J.os,J.bare,J.base,J.hok,rv,q⟩
 cases fl with
 | ret u =>
  obtain⟨v,W',H',J,rv,q⟩:=hs
  exact fin J rv q
 | next =>
  obtain⟨W',H',J,q⟩:=hs
  exact fin (v:=V.non) (u:=Value.none) J rfl q
 | brk =>
  obtain⟨_,_,_,q⟩:=hs
  exact bA q
 | cont =>
  obtain⟨_,_,_,q⟩:=hs
  exact bA q
section
variable {X:Cx} {x:Str} {p pos:Pos} {e:Expr} {es:yK} {t:TA} {id T:String} {r:List V->Hp->VK->Prop}
def tCB (r:List V->Hp->VK->Prop)(t:TA):TE:=λ W H Q=>t W H λ vs H1=>r vs H1 Q
theorem aB4 (hc:aj3 X (.builtin id) r)(hg:Gl X x)(hm:X.mg x=none)(hv:br x=some (.builtin id))(ha:PA X (e::es) t)(hn:x ≠ "__name__":=by decide)(F:(x==("__debug__":Str))=false:=by decide)
  (he:bz (e::es) X.env=(false,eval e X.env)::bz es X.env:=by rfl) (G:(dZ pos (bz es X.env)).any (·.1)=false:=by rfl):PE X (.Call (.Name x p) (e::es) [] pos) (tCB r t):=by
 intro B s W H Q I h
 refine cW (aD6 I hg hm hv ?_ hn F)
 exact PyProof.Rows.callWith_builtin1 (thn (ha pos B s W H _ I h) λ us s1 ⟨vs,Y,J,r1,q1⟩=>hc B s1 W Y vs us Q J r1 q1) he G
theorem aq7 (hc:aj3 X (.type T) r)(hg:Gl X x)(hm:X.mg x=none)(hv:br x=some (.type T))(ha:PA X (e::es) t)(hn:x ≠ "__name__":=by decide)(F:(x==("__debug__":Str))=false:=by decide)
  (he:bz (e::es) X.env=(false,eval e X.env)::bz es X.env:=by rfl) (G:(dZ pos (bz es X.env)).any (·.1)=false:=by rfl):PE X (.Call (.Name x p) (e::es) [] pos) (tCB r t):=by
 intro B s W H Q I h
 refine cW (aD6 I hg hm hv ?_ hn F)
 exact e9 (thn (ha pos B s W H _ I h) λ us s1 ⟨vs,Y,J,r1,q1⟩=>hc B s1 W Y vs us Q J r1 q1) he G
end
end L2
end
noncomputable section
namespace HT
open PySem PyProof.Rows
section
open PySem.SeqAt
open PySem.AutoSeq1 (wpAny_loadPart')
open PySem.MeetsSeq PySem.MeetsSeq2 PySem.MeetsSeq3
end
section
variable {prog:aJ} {w:World} {A:aV} {E:Value->ai->Prop} {s:ai}
theorem cat_tup {t b:Addr}{vs ws:yG}{Q:Value->ai->Prop}(ht:IsTup s.heap t vs.toArray)(hb:IsTup s.heap b ws.toArray)(hv:vs≠[])
  (h1:ws=[]->Q (.ref t) s) (h2:ws≠[]->Q (.ref s.heap.objs.size) { s with heap:=s.heap.push { cls:=.type "tuple",data:=.seq (vs++ws).toArray } })
  (hsz:vs.length+ws.length<=aN):wpAny (model prog w) A (cj .Add (.ref t) (.ref b)) Q E s:=by
 obtain⟨⟨cls,dd,data,sl⟩,ho,hc,n,hd⟩:=id ht
 obtain⟨⟨a0,J,Y,G⟩,h,B,Z,F⟩:=id hb
 simp only at hc hd B F
 subst hc hd B F
 have e:vs.toArray++ws.toArray=(vs++ws).toArray:=by simp
 by_cases hw:ws=[]
 .exact i7 ⟨_,ho,rfl⟩ ⟨_,h,rfl⟩ fX iD d5 dS (dH _ _)
   (tuple_addW1 t b vs.toArray ws.toArray n Z dd J sl G (by simpa using hv) (by simp[hw])) ⟨ho,h,h1 hw⟩
 .refine i7 ⟨_,ho,rfl⟩ ⟨_,h,rfl⟩ fX iD d5 dS (dH _ _)
   (tuple_addW2 t b vs.toArray ws.toArray n Z dd J sl G (by simpa using hv) (by simpa using hw) (by rw[aB,aB];exact hsz)) ⟨ho,h,?_⟩
  rw[e]
  exact h2 hw
noncomputable def sIx (n d:Nat):Option Int->Nat
 | none=>d
 | some v=>if v<0 then(v+(n:Int)).toNat else min v.toNat n
theorem sIx_le (n d:Nat)(hd:d<=n)(o:Option Int):sIx n d o<=n:=by
 cases o with
 | none=>exact hd
 | some v =>
  show(if v<0 then(v+(n:Int)).toNat else min v.toNat n)<=n
  by_cases hv:v<0
  .rw[if_pos hv];omega
  .rw[if_neg hv];exact Nat.min_le_right _ _
theorem clip_eq (v:Int)(n d:Nat):(if v<0 then max (v+(n:Int)) 0 else min v (n:Int))=((sIx n d (some v):Nat):Int):=by
 show(if v<0 then max (v+(n:Int)) 0 else min v (n:Int))=(((if v<0 then(v+(n:Int)).toNat else min v.toNat n):Nat):Int)
 by_cases hv:v<0
 .simp only[if_pos hv];omega
 .simp only[if_neg hv];omega
theorem adjust_gen (h B:Option Int)(n:Nat):dD h B 1 (n:Int)=(((sIx n 0 h:Nat):Int),((sIx n n B:Nat):Int)):=by
 have F:¬((1:Int)<0):=by omega
 unfold dD
 simp only[F,if_false]
 refine Prod.ext ?_ ?_
 .cases h with
  | none=>rfl
  | some v=>exact clip_eq v n 0
 .cases B with
  | none=>rfl
  | some v=>exact clip_eq v n n
theorem places_gen (i j:Nat):cI (i:Int) (j:Int) 1=j - i:=by
 unfold cI
 have h:(1:Int) > 0:=by omega
 simp only[h,if_true,Int.ediv_one]
 split<;>omega
theorem slicePart_ {v:Value}{o:Option Int}{Q:Option Int->ai->Prop}(p:fN v o)(h:Q o s):wpAny (model prog w) A (jE v) Q E s:=by
 cases p with
 | none=>exact slicePart_none h
 | int i t=>exact slicePart_int h
theorem sliceApplied_gen {sl:Addr}{vl vu:Value}{B G:Option Int}{n:Nat}{Q:Int×Int×Nat->ai->Prop}(hs:s.heap.IsSliceOf sl vl vu .none)(Z:fN vl B)(pu:fN vu G)
  (h:Q (((sIx n 0 B:Nat):Int),1,sIx n n G - sIx n 0 B) s):wpAny (model prog w) A (fu (.ref sl) (pure (n:Int))) Q E s:=by
 obtain⟨os,F,Y,J⟩:=id hs
 unfold fu j2
 refine ak (ak (dU F J (x:=vl) rfl (ak (dU F J (x:=vu) rfl (ak (dU F J (x:=.none) rfl (aD ?_)))))))
 refine ak (slicePart_none ?_)
 show wpAny _ _ (if((1:Int)==0)=true then _ else _) _ _ s
 rw[if_neg (by decide)]
 refine ak (slicePart_ Z (ak (slicePart_ pu (ak (aD ?_)))))
 show wpAny _ _ (match dD B G 1 (n:Int)with|(B,G)=>pure (B,(1:Int),cI B G 1)) _ _ s
 rw[adjust_gen B G n]
 show wpAny _ _ (pure (((sIx n 0 B:Nat):Int),(1:Int),cI ((sIx n 0 B:Nat):Int) ((sIx n n G:Nat):Int) 1)) _ _ s
 rw[places_gen]
 exact aD h
theorem pick_gen (h:yJ)(i k:Nat):((a8 k).filterMap λ(m:Nat)=>h[((i:Int)+(m:Int)*1).toNat]?).toArray=((h.toList.drop i).take k).toArray:=by
 have e:(λ(m:Nat)=>h[((i:Int)+(m:Int)*1).toNat]?)=λ m=>h[i+m]?:=by
  funext m
  have:((i:Int)+(m:Int)*1).toNat=i+m:=by omega
  rw[this]
 rw[e]
 have:=pick_run h i k
 rw[cY]at this
 have e2:((λ x=>h[x]?) ∘ λ x=>i+x)=λ m=>h[i+m]?:=rfl
 rw[e2]at this
 rw[this]
theorem getItem_tuple_cut {t sl:Addr}{B:yJ}{vl vu:Value}{G J:Option Int}{Q:Value->ai->Prop}(Y:IsTup s.heap t B)(hs:s.heap.IsSliceOf sl vl vu .none)(pl:fN vl G)(pu:fN vu J)
  (hw:¬(sIx B.size 0 G=0/\sIx B.size B.size J=B.size))
  (h:Q (.ref s.heap.objs.size) { s with heap:=s.heap.push { cls:=.type "tuple",data:=.seq ((B.toList.drop (sIx B.size 0 G)).take (sIx B.size B.size J - sIx B.size 0 G)).toArray } })
  (hsz:B.size<=aN):wpAny (model prog w) A (gh (.ref t) (.ref sl)) Q E s:=by
 have F:sizeOk (.seq ((B.toList.drop (sIx B.size 0 G)).take (sIx B.size B.size J - sIx B.size 0 G)).toArray):=by
  show((B.toList.drop (sIx B.size 0 G)).take (sIx B.size B.size J - sIx B.size 0 G)).toArray.size<=aN
  rw[aB,bD,eG,cP]
  omega
 have hj:sIx B.size B.size J<=B.size:=sIx_le _ _ (aw _) J
 obtain⟨os,a0,Z,a3⟩:=id hs
 have a1:s.TypeIs (.ref sl) "slice":=⟨os,a0,Z⟩
 unfold gh
 try with_reducible refine da ?_
 first|refine ak (aD ?_)|skip
 refine ak (i8 Y.typeIs (by decide) ?_)
 refine ak (cT (name:=bH "__getitem__") Y.typeIs bu
  (cA bu Y.typeIs ip ?_ (iM _ _)))
 show wpAny _ _ (cD (.ref t) >>= _) _ _ s
 refine ak (iE Y ?_)
 refine ak (gi a1 ?_)
 rw[if_pos (by decide)]
 refine ak (sliceApplied_gen hs pl pu ?_)
 have a2:¬((((sIx B.size 0 G:Nat):Int)==0&&(1:Int)==1&&(sIx B.size B.size J - sIx B.size 0 G)==B.size)=true):=by
  intro q
  rw[ao,ao]at q
  have q1:((sIx B.size 0 G:Nat):Int)=0:=eq_of_beq q.1.1
  have q2:sIx B.size B.size J - sIx B.size 0 G=B.size:=eq_of_beq q.2
  exact hw ⟨by omega,by omega⟩
 show wpAny _ _ (if(((sIx B.size 0 G:Nat):Int)==0&&(1:Int)==1&&(sIx B.size B.size J - sIx B.size 0 G)==B.size)=true then _ else _) _ _ s
 rw[if_neg a2,pick_gen]
 first
  | exact ak (m:=cO _) (bG (aD ⟨_,rfl,aD h⟩) F)
  | exact ak (m:=cO _) (bG (ak (aD (aD ⟨_,rfl,aD h⟩))) F)
  | exact ak (ak (m:=cO _) (bG (aD (aD ⟨_,rfl,aD h⟩)) F))
  | exact ak (ak (m:=cO _) (bG (aD ⟨_,rfl,aD h⟩) F))
end
end HT
noncomputable section
namespace L2
open PySem PySem.Spec PyProof.Rows
abbrev TO:=St->Hp->(Option Int->Hp->Prop)->Prop
def PO (X:Cx)(e:Option Expr)(t:TO):Prop :=
 ∀(pins:yA) (s:ai) (W:St) (H:Hp) (Q:Option Int->Hp->Prop),Inv X pins W H s->t W H Q ->
  wpAny (model X.prog X.w) X.A (evalPart e X.env) (λ u s'=>∃ o H',Inv X pins W H' s'/\fN u o/\Q o H') X.xe s
noncomputable def aL0:TO:=λ _ H Q=>Q none H
noncomputable def aY7 (t:TE):TO:=λ W H Q=>t W H λ x H1=>∃ i,x=.int i/\Q (some i) H1
section
variable {X:Cx} {e:Expr} {te:TE} {lo hi:Option Expr} {tl th:TO} {pos p2:Pos}
theorem bD8:PO X none aL0:=by
 intro B s W H Q I h
 rw[evalPart_none]
 exact aD ⟨none,H,I,.none,h⟩
theorem bE4 (h:PE X e te):PO X (some e) (aY7 te):=by
 intro B s W H Q I hw
 rw[evalPart_some]
 refine thn (h B s W H _ I hw) λ u s1 ⟨x,G,F,r1,q1⟩=>?_
 obtain⟨i,rfl,q⟩:=q1
 obtain⟨t,rfl⟩:=r1
 exact⟨some i,G,F,.int i t,q⟩
def SlR (X:Cx)(r:V->Option Int->Option Int->Hp->VK->Prop):Prop :=
 ∀(pins:yA) (s:ai) (W:St) (H:Hp) (x:V) (v vl vu:Value) (lo hi:Option Int) (sl:Addr) (Q:VK),Inv X pins W H s->RelV x v->s.heap.IsSliceOf sl vl vu .none->fN vl lo->fN vu hi->r x lo hi H Q ->
  ∃ T id,typeLookup (.type T) "__getitem__"=pure (some (.builtin id))/\s.TypeIs v T/\wpAny (model X.prog X.w) X.A (gh v (.ref sl)) (EP X pins W Q) X.xe s
def tSl (r:V->Option Int->Option Int->Hp->VK->Prop)(te:TE)(tl th:TO):TE:=λ W H Q=>te W H λ x H1=>tl W H1 λ l H2=>th W H2 λ u H3=>r x l u H3 Q
theorem bl0 {r:V->Option Int->Option Int->Hp->VK->Prop}(hr:SlR X r)(he:PE X e te)(hl:PO X lo tl)(hu:PO X hi th):PE X (.Subscript e (.Slice lo hi none p2) pos) (tSl r te tl th):=by
 intro B s W H Q I h
 refine Subscript_ (thn (he B s W H _ I h) λ v s1 ⟨x,G,Z,r1,q1⟩=>?_)
 refine wpAny_Slice (thn (hl B s1 W G _ Z q1) λ vl s2 ⟨l,H2,J,pl,q2⟩=>thn (hu B s2 W H2 _ J q2) λ vu s3 ⟨u,F,I3,pu,q3⟩=>?_)
 rw[evalPart_none]
 refine aD ?_
 have I4:Inv X B W F { s3 with heap:=s3.heap.push { cls:=.type "slice",data:=.fields #[vl,vu,.none] } }:=I3.kept (t':=s3.toks) λ b ob q=>az _ q
 obtain⟨T,id,hT,Y,hg⟩:=hr B { s3 with heap:=s3.heap.push { cls:=.type "slice",data:=.fields #[vl,vu,.none] } } W F x v vl vu l u s3.heap.objs.size Q I4 r1 (kL ..) pl pu q3
 show wpAny (model X.prog X.w) X.A (subscriptTail e (.Slice lo hi none p2) v (.ref s3.heap.objs.size)) (EP X B W Q) X.xe { s3 with heap:=s3.heap.push { cls:=.type "slice",data:=.fields #[vl,vu,.none] } }
 exact jT (ops:=[.ref s3.heap.objs.size,v]) Y hT hg (by with_unfolding_all rfl)
noncomputable def aW7 (xs:List V)(lo hi:Option Int):List V:=(xs.drop (HT.sIx xs.length 0 lo)).take (HT.sIx xs.length xs.length hi - HT.sIx xs.length 0 lo)
theorem as6 (h:List V)(B F:Option Int):(aW7 h B F).length<=h.length:=by
 unfold aW7
 rw[bD,eG]
 omega
def cs0 (K:ah):V->Option Int->Option Int->Hp->VK->Prop:=λ x lo hi H Q=>∃ a xs,x=.ref a/\SqT K H a xs /\
 ¬(HT.sIx xs.length 0 lo=0/\HT.sIx xs.length xs.length hi=xs.length)/\∀ p,H p=none->Q (.ref p) (upd H p (.tup (aW7 xs lo hi)))
theorem bY8:SlR X (cs0 X.K):=by
 intro Z s W H x v vl vu G J sl Q I rx hs pl pu h
 obtain⟨a,F,rfl,hx,hw,q⟩:=h
 cases rx
 obtain⟨its,r,Y,hz⟩:=I.tuple hx
 have B:its.toArray.size=F.length:=by rw[aB];exact r.length.symm
 refine⟨"tuple",_,bu.lookup,Y.typeIs,?_⟩
 refine HT.getItem_tuple_cut Y hs pl pu (by rw[B];exact hw) ?_ (by rw[B];exact hz)
 rw[B]
 refine⟨.ref s.heap.objs.size,_,I.laid (t':=s.toks) (o:=.tup (aW7 F G J)) (λ b ob q=>az _ q) (aw _) ?_,rfl,q _ (I.hok.fresh (aw _))⟩
 exact⟨av (as6 F G J) hz,_,(r.drop (HT.sIx F.length 0 G)).take (HT.sIx F.length F.length J - HT.sIx F.length 0 G),jm _ _⟩
def cm5 (K:ah):R2:=λ x y H Q=>∃ a b xs ys,x=.ref a/\y=.ref b/\SqT K H a xs/\SqT K H b ys/\xs≠[]/\xs.length+ys.length<=aN /\
 (ys=[]->Q (.ref a) H)/\(ys≠[]->∀ p,H p=none->Q (.ref p) (upd H p (.tup (xs++ys))))
theorem Vals.nil_iff {h:List V}{us:yG}(r:Vals h us):us=[]↔h=[]:=by
 cases r with
 | nil=>simp
 | cons _ _=>simp
theorem bD1:OpR X (cj .Add) (cm5 X.K):=by
 intro F s W H x y v u Q I Y J h
 obtain⟨a,b,G,ys,rfl,rfl,ha,hb,hx,hz,q1,q2⟩:=h
 cases Y
 cases J
 obtain⟨its,r1,p1,_⟩:=I.tuple ha
 obtain⟨B,r2,Z,_⟩:=I.tuple hb
 refine HT.cat_tup p1 Z (λ z=>hx (r1.nil_iff.mp z)) (λ z=>⟨.ref a,H,I,rfl,q1 (r2.nil_iff.mp z)⟩) (λ z=>?_) (by rw[<-r1.length,<-r2.length];exact hz)
 refine⟨.ref s.heap.objs.size,_,I.laid (t':=s.toks) (o:=.tup (G++ys)) (λ b ob q=>az _ q) (aw _) ?_,rfl,q2 (λ w=>z (r2.nil_iff.mpr w)) _ (I.hok.fresh (aw _))⟩
 exact⟨by rw[ax];exact hz,_,r1.append r2,jm _ _⟩
end
noncomputable def ixN (n:Nat)(i:Int):Option Nat:=if 0<=i then(if i<n then some i.toNat else none)else if -(n:Int)<=i then some (i+n).toNat else none
noncomputable def atI {α:Type}(xs:List α)(i:Int):Option α:=(ixN xs.length i).bind λ j=>xs[j]?
theorem bh7 {n:Nat}{i:Int}{j:Nat}(h:ixN n i=some j):seqIndex? i n=some j/\j<n/\-(n:Int)<=i/\i<n:=by
 unfold ixN at h
 by_cases h0:0<=i
 .rw[if_pos h0]at h
  by_cases h1:i<n
  .rw[if_pos h1]at h
   have e:i.toNat=j:=aG h
   exact⟨by rw[jx h0 h1,e],by omega,by omega,h1⟩
  .rw[if_neg h1]at h;cases h
 .rw[if_neg h0]at h
  by_cases h1:-(n:Int)<=i
  .rw[if_pos h1]at h
   have e:(i+n).toNat=j:=aG h
   exact⟨by rw[i9 (by omega) h1,e],by omega,h1,by omega⟩
  .rw[if_neg h1]at h;cases h
theorem aK9 {α:Type}{B:List α}{i:Int}{v:α}(h:atI B i=some v):∃ j,seqIndex? i B.length=some j/\B[j]?=some v/\j<B.length/\-(B.length:Int)<=i/\i<B.length:=by
 unfold atI at h
 cases e:ixN B.length i with
 | none=>rw[e]at h;cases h
 | some j =>
  rw[e]at h
  obtain⟨G,J,h3,F⟩:=bh7 e
  exact⟨j,G,h,J,h3,F⟩
def bf4 (b:Expr):Prop:=∀ o i,subscripted b false o i=operate [o,i] (gh o i)
def IxR (X:Cx)(r:R2):Prop :=
 ∀(value slice:Expr) (pins:yA) (s:ai) (W:St) (H:Hp) (x y:V) (v u:Value) (Q:VK),Inv X pins W H s->RelV x v->RelV y u->r x y H Q ->
  subscripted slice false v u=operate [v,u] (gh v u)->wpAny (model X.prog X.w) X.A (subscriptTail value slice v u) (EP X pins W Q) X.xe s
def MtR (X:Cx)(id:String)(r:V->List V->Hp->VK->Prop):Prop :=
 ∀(pins:yA) (s:ai) (W:St) (H:Hp) (x:V) (xs:List V) (v:Value) (us:yG) (Q:VK),Inv X pins W H s->RelV x v->Vals xs us->r x xs H Q ->
  wpAny (model X.prog X.w) X.A (call (.builtin id) (v::us)) (EP X pins W Q) X.xe s
section
variable {X:Cx} {a b:Expr} {ta tb:TE} {pos:Pos}
theorem cf7 {r:R2}(hr:IxR X r)(ha:PE X a ta)(hb:PE X b tb)(hs:bf4 b):PE X (.Subscript a b pos) (tOp r ta tb):=by
 intro B s W H Q I h
 exact Subscript_ (cl4 ha hb I h λ v u s2 x y J G Y F q=>hr a b B s2 W J x y v u Q G Y F q (hs _ _))
def cq1 (K:ah):R2:=λ x y H Q=>∃ p xs i v,x=.ref p/\y=.int i/\SqL K H p xs/\atI xs i=some v/\Q v H
def cn9 (K:ah):R2:=λ x y H Q=>∃ p xs i v,x=.ref p/\y=.int i/\SqT K H p xs/\atI xs i=some v/\Q v H
def cs7:R2:=λ x y H Q=>∃ z i c,x=.str z/\y=.int i/\z.length<=aN/\atI z.cps.toList i=some c/\Q (.str ⟨#[c]⟩) H
theorem bD7:IxR X (cq1 X.K):=by
 intro G J B s W H x y v u Q I rx ry h hs
 obtain⟨p,xs,i,z,rfl,rfl,hq,he,q⟩:=h
 cases rx
 obtain⟨t,rfl⟩:=ry
 obtain⟨its,r,Z,hz⟩:=I.list hq
 obtain⟨j,F,h2,h3,h4,h5⟩:=aK9 he
 obtain⟨w,ew,Y⟩:=r.get h2
 have hl:=r.length
 have hn:=ar0
 have fin:EP X B W Q w s:=⟨z,H,I,Y,q⟩
 by_cases h0:0<=i
 .have hj:i.toNat=j:=by
   rw[jx h0 h5]at F
   exact aG F
  exact item_listR Z.isList h0 (by omega) (by rw[hj];simpa using ew) fin hs
 .have hj:(i+(its.toArray.size:Int)).toNat=j:=by
   rw[i9 (by omega) h4]at F
   rw[aB,<-hl]
   exact aG F
  exact gj (x:=w) Z.isList.typeIs ja.lookup
   (wpAny_getItem_list_neg (Q:=λ r s'=>r=w/\EP X B W Q r s') Z.isList (by omega) (by rw[aB]<;>omega) (by omega) (by rw[hj];simpa using ew) ⟨rfl,fin⟩) hs
theorem ix_tup:IxR X (cn9 X.K):=by
 intro F G B s W H x y v u Q I rx Z h hs
 obtain⟨p,xs,i,z,rfl,rfl,hq,he,q⟩:=h
 cases rx
 obtain⟨t,rfl⟩:=Z
 obtain⟨its,r,Y,hz⟩:=I.tuple hq
 obtain⟨j,h1,h2,h3,h4,h5⟩:=aK9 he
 obtain⟨w,ew,J⟩:=r.get h2
 have hl:=r.length
 have hn:=ar0
 have fin:EP X B W Q w s:=⟨z,H,I,J,q⟩
 exact gj (x:=w) Y.typeIs bu.lookup
  (getItem_tuple (j:=j) (Q:=λ r s'=>r=w/\EP X B W Q r s') Y (by omega) (by omega) (by rw[aB,<-hl];exact h1) (by simpa using ew) ⟨rfl,fin⟩) hs
theorem ix_str:IxR X cs7:=by
 intro B F G s W H x y v u Q I rx Y h hs
 obtain⟨z,i,c,rfl,rfl,hz,he,q⟩:=h
 obtain⟨t,rfl⟩:=rx
 obtain⟨t',rfl⟩:=Y
 obtain⟨j,J,Z,h3,h4,h5⟩:=aK9 he
 have hl:z.cps.toList.length=z.length:=by simp[Str.length]
 rw[hl]at J h4 h5
 have hn:=ar0
 exact jT (eI s z t) slot_str_getitem.lookup (getItem_str (c:=c) (by
  have e1:decide (i < -(2^63:Int))=false:=decide_eq_false (by omega)
  have e2:decide (i ≥ 2^63)=false:=decide_eq_false (by omega)
  rw[e1,e2,Bool.or_false]) (by rw[J];simpa using Z) ⟨.str ⟨#[c]⟩,H,I.tok _,⟨_,rfl⟩,q⟩) hs
theorem aU0 (its:yG)(n j:Nat)(u:Value):gk (·.setIfInBounds j u) { cls:=.type "list",data:=.seq its.toArray n }={ cls:=.type "list",data:=.seq (its.set j u).toArray n }:=by
 simp[gk]
theorem Inv.lst {B:yA}{W:St}{H:Hp}{s:ai}{p:Addr}{F:List V}(I:Inv X B W H s)(h:H p=some (.lst F)) :
  ∃(its:yG) (n:Nat),Vals F its/\s.heap.get? p=some { cls:=.type "list",data:=.seq its.toArray n }/\F.length<=aN:=by
 obtain⟨z,its,n,r,e⟩:=I.hok p _ h
 exact⟨its,n,r,e,z⟩
theorem Inv.lstUpd {B:yA}{W:St}{H:Hp}{s:ai}{p:Addr}{J ys:List V}{its its':yG}{n F:Nat}{f:Obj->Obj}(I:Inv X B W H s)(h:H p=some (.lst J))
  (ho:s.heap.get? p=some { cls:=.type "list",data:=.seq its.toArray n }) (G:f { cls:=.type "list",data:=.seq its.toArray n }={ cls:=.type "list",data:=.seq its'.toArray F }) (r:Vals ys its') (hz:ys.length<=aN) (t:Nat) :
  Inv X B W (upd H p (.lst ys)) { s with heap:=s.heap.update p f,toks:=t }:=by
 have e:(s.heap.update p f).get? p=some { cls:=.type "list",data:=.seq its'.toArray F }:=by
  rw[dg f ho (by rw[G]<;>rfl),G]
 refine I.write (x:=p) (e:=p) (by rw[h];trivial) (.inl rfl) (λ b u hb q=>(bO _ _ (cz hb)).trans q) ⟨_,e⟩ ?_
 exact⟨hz,its',F,r,e⟩
def cm1:V->V->V->Hp->(Hp->Prop)->Prop:=λ o i v H Q=>∃ p xs k j,o=.ref p/\i=.int k/\H p=some (.lst xs)/\ixN xs.length k=some j/\Q (upd H p (.lst (xs.set j v)))
theorem bk4:cj7 X cm1:=by
 intro B s W H o i v ov iv u Q I ro Z rv h
 obtain⟨p,Y,k,j,rfl,rfl,hp,hj,q⟩:=h
 cases ro
 obtain⟨t,rfl⟩:=Z
 obtain⟨its,n,r,ho,hz⟩:=I.lst hp
 obtain⟨F,h2,h3,J⟩:=bh7 hj
 have hl:=r.length
 have hn:=ar0
 have G:Inv X B W (upd H p (.lst (Y.set j v))) { s with heap:=s.heap.update p (gk (·.setIfInBounds j u)) } :=
  I.lstUpd hp ho (aU0 its n j u) (r.set rv j) (by rw[bp];exact hz) s.toks
 by_cases h0:0<=k
 .have hk:k.toNat=j:=by
   rw[jx h0 J]at F
   exact aG F
  exact PySem.W.ki_setAt ho h0 (by omega) (by rw[aB,<-hl];exact J) (by rw[hk];exact⟨_,G,q⟩)
 .have hk:(k+(its.toArray.size:Int)).toNat=j:=by
   rw[i9 (by omega) h3]at F
   rw[aB,<-hl]
   exact aG F
  exact PySem.W.ki_setBack ho (by omega) (by rw[aB,<-hl];exact h3) (by omega) (by rw[hk];exact⟨_,G,q⟩)
theorem aH4 (B F:Option Int)(n:Nat):(dW B F none n).1=((HT.sIx n 0 B:Nat):Int)/\(dW B F none n).2.1=((HT.sIx n n F:Nat):Int)/\(dW B F none n).2.2=1:=by
 refine⟨?_,?_,rfl⟩
 .cases B with
  | none=>simp[dW,HT.sIx]
  | some i =>
   simp only[dW,HT.sIx,jn,show(1:Int) > 0 by decide,if_true]
   by_cases h:i<0
   .simp only[h,if_true]<;>omega
   .simp only[h,if_false]<;>omega
 .cases F with
  | none=>simp[dW,HT.sIx]
  | some i =>
   simp only[dW,HT.sIx,jn,show(1:Int) > 0 by decide,if_true]
   by_cases h:i<0
   .simp only[h,if_true]<;>omega
   .simp only[h,if_false]<;>omega
theorem ax5 (its:yG)(h B:Option Int):slicePick its.toArray h B none=((its.drop (HT.sIx its.length 0 h)).take (HT.sIx its.length its.length B - HT.sIx its.length 0 h)).toArray:=by
 obtain⟨G,F,h3⟩:=aH4 h B its.toArray.size
 unfold slicePick
 rw[G,F,h3]
 simp only[sliceRange_one,pick_run,aB]<;>rfl
def cp2 (K:ah):V->Option Int->Option Int->Hp->VK->Prop:=λ x lo hi H Q=>∃ a xs,x=.ref a/\SqL K H a xs/\∀ p,H p=none->Q (.ref p) (upd H p (.lst (aW7 xs lo hi)))
theorem bz3:SlR X (cp2 X.K):=by
 intro Z s W H x v vl vu G J sl Q I rx hs pl pu h
 obtain⟨a,B,rfl,hx,q⟩:=h
 cases rx
 obtain⟨its,r,Y,hz⟩:=I.list hx
 have F:=r.length
 refine⟨"list",_,ja.lookup,Y.isList.typeIs,?_⟩
 refine wpAny_getItem_list_slice Y.isList hs pl pu .none (by simp) ?_ (by rw[aB]<;>omega)
 rw[ax5,<-F]
 refine⟨.ref s.heap.objs.size,_,I.laid (t':=s.toks) (o:=.lst (aW7 B G J)) (λ b ob q=>az _ q) (aw _) ?_,rfl,q _ (I.hok.fresh (aw _))⟩
 exact⟨av (as6 B G J) hz,_,0,(r.drop (HT.sIx B.length 0 G)).take (HT.sIx B.length B.length J - HT.sIx B.length 0 G),a9 _ rfl⟩
theorem aC7:aj3 X (.builtin "len") (λ J H Q=>∃ p ys,J=[.ref p]/\(SqL X.K H p ys\/SqT X.K H p ys)/\Q (.int ys.length) H):=by
 intro Y s W H J us Q I r h
 obtain⟨p,ys,rfl,hq,q⟩:=h
 obtain⟨u,rfl,Z⟩:=am3 r
 cases Z
 have hn:=ar0
 rcases hq with hq|hq
 .obtain⟨its,F,G,hz⟩:=I.list hq
  have B:=F.length
  exact Calls.call_len_list G.isList (by simp only[aB]<;>omega) ⟨.int ys.length,H,I.tok _,⟨s.toks+1,by rw[aB,B]⟩,q⟩
 .obtain⟨its,F,G,hz⟩:=I.tuple hq
  have B:=F.length
  exact len_tuple G (by simp only[aB]<;>omega) ⟨.int ys.length,H,I.tok _,⟨s.toks+1,by rw[aB,B]⟩,q⟩
theorem aD2:aj3 X (.builtin "len") (λ B H Q=>∃ z,B=[.str z]/\z.length<=aN/\Q (.int z.length) H):=by
 intro F s W H B us Q I r h
 obtain⟨z,rfl,hz,q⟩:=h
 obtain⟨u,rfl,t,rfl⟩:=am3 r
 have hn:=ar0
 exact len_str (by omega) ⟨.int z.length,H,I.tok _,⟨_,rfl⟩,q⟩
theorem aj3.or {f:Value}{r G:List V->Hp->VK->Prop}(h:aj3 X f r)(h':aj3 X f G):aj3 X f (λ F H Q=>r F H Q\/G F H Q):=by
 intro B s W H F us Q I J q
 rcases q with q|q
 .exact h B s W H F us Q I J q
 .exact h' B s W H F us Q I J q
theorem aE0:aj3 X (.type "list") (λ Z H Q=>∃ p ys,Z=[.ref p]/\(SqL X.K H p ys\/SqT X.K H p ys)/\∀ l,H l=none->Q (.ref l) (upd H l (.lst ys))):=by
 intro J s W H Z us Q I r h
 obtain⟨p,ys,rfl,hq,q⟩:=h
 obtain⟨u,rfl,rx⟩:=am3 r
 cases rx
 have fin:∀(its:yG),Vals ys its->ys.length<=aN->∀(h':Heap) (B:Nat),(∀ b o',s.heap.get? b=some o'->h'.get? b=some o') ->
   h'.get? s.heap.objs.size=some { cls:=.type "list",dict:=none,data:=.seq its.toArray B,slots:=#[] }->EP X J W Q (.ref s.heap.objs.size) { s with heap:=h' }:=λ its F hz h' B kp e =>
  ⟨.ref s.heap.objs.size,_,I.laid (t':=s.toks) kp (aw _) (show ai3 X.prog X.w _ h' _ (.lst ys)from⟨hz,its,B,F,e⟩),rfl,q _ (I.hok.fresh (aw _))⟩
 rcases hq with hq|hq
 .obtain⟨its,F,Y,hz⟩:=I.list hq
  have G:=F.length
  obtain⟨o,ho,hc,n,hd⟩:=Y.isList
  exact call_list_seq p (.inl rfl) ho hc hd (λ h' B kp e=>fin its F hz h' B kp e) (by simp only[aB]<;>omega)
 .obtain⟨its,F,Y,hz⟩:=I.tuple hq
  have G:=F.length
  obtain⟨o,ho,hc,n,hd⟩:=Y
  exact call_list_seq p (.inr rfl) ho hc hd (λ h' B kp e=>fin its F hz h' B kp e) (by simp only[aB]<;>omega)
theorem ay5:aj3 X (.type "tuple") (λ J H Q=>∃ p ys,J=[.ref p]/\((SqL X.K H p ys/\∀ l,H l=none->Q (.ref l) (upd H l (.tup ys)))\/(SqT X.K H p ys/\Q (.ref p) H))):=by
 intro B s W H J us Q I r h
 obtain⟨p,ys,rfl,h⟩:=h
 obtain⟨u,rfl,rx⟩:=am3 r
 cases rx
 rcases h with⟨hq,q⟩|⟨hq,q⟩
 .obtain⟨its,F,G,hz⟩:=I.list hq
  have Y:=F.length
  refine call_tuple_list G.isList (λ h' kp=>?_) (by simp only[aB]<;>omega)
  have Z:Inv X B W H { s with heap:=h' }:=I.kept (t':=s.toks) kp
  have I2:Inv X B W (upd H h'.objs.size (.tup ys)) { s with heap:=h'.push { cls:=.type "tuple",data:=.seq its.toArray } } :=
   Z.laid (t':=s.toks) (λ b o e=>az _ e) (aw _) (show ai3 X.prog X.w _ _ _ (.tup ys)from⟨hz,its,F,jm _ _⟩)
  exact⟨.ref h'.objs.size,_,I2,rfl,q _ (Z.hok.fresh (aw _))⟩
 .obtain⟨its,F,G,hz⟩:=I.tuple hq
  exact call_tuple_same G ⟨.ref p,H,I,rfl,q⟩
def tyV (K:ah)(T:String)(x:V)(H:Hp):Prop:=match x with
 | .str _=>T = "str"
 | .int _=>T = "int"
 | .ref p=>(T = "list"/\∃ xs,SqL K H p xs)\/(T = "tuple"/\∃ o,K.lookup p=some o/\o.cls=.type "tuple"/\o.dict=none) \/
   (T = "dict"/\((∃ kvs,H p=some (.dK kvs))\/∃ kvs,H p=some (.dT kvs)))\/(T = "set"/\∃ S n,H p=some (.set S n))
 | _=>False
theorem bs4 {h:yA}{W:St}{H:Hp}{s:ai}{T:String}{x:V}{v:Value}(I:Inv X h W H s)(r:RelV x v)(B:tyV X.K T x H) :
  s.TypeIs v T/\∀ a,v=.ref a->∃ ob,s.heap.get? a=some ob/\ob.dict=none:=by
 cases x with
 | str z =>
  obtain⟨t,rfl⟩:=r
  cases(show T = "str" from B)
  exact⟨eI s z t,λ _ e=>nomatch e⟩
 | int i =>
  obtain⟨t,rfl⟩:=r
  cases(show T = "int" from B)
  exact⟨gm s i t,λ _ e=>nomatch e⟩
 | ref p =>
  cases r
  rcases B with⟨rfl,J,hq⟩|⟨rfl,o,hk,hc,hd⟩|⟨rfl,hk⟩|⟨rfl,S,n,hk⟩
  .obtain⟨its,_,G,_⟩:=I.list hq
   refine⟨G.isList.typeIs,λ a e=>?_⟩
   cases e
   obtain⟨o,n,e,c,hd,_⟩:=G
   exact⟨o,e,hd⟩
  .refine⟨⟨o,I.kIn p o hk,hc⟩,λ a e=>?_⟩
   cases e
   exact⟨o,I.kIn _ o hk,hd⟩
  .have z:∃ o,s.heap.get? p=some o/\o.ExactDict:=by
    rcases hk with⟨F,hk⟩|⟨F,hk⟩
    .obtain⟨_,_,_,_,o,_,_,e,ex,_⟩:=I.hok p _ hk
     exact⟨o,e,ex⟩
    .obtain⟨_,_,_,_,o,_,_,e,ex,_⟩:=I.hok p _ hk
     exact⟨o,e,ex⟩
   obtain⟨o,e,ex⟩:=z
   refine⟨⟨o,e,ex.1⟩,λ a e2=>?_⟩
   cases e2
   exact⟨o,e,ex.2.1⟩
  .obtain⟨o,_,_,_,e,ex,_⟩:=I.hok p _ hk
   refine⟨⟨o,e,ex.1⟩,λ a e2=>?_⟩
   cases e2
   exact⟨o,e,ex.2.1⟩
 | _=>exact bA B
def co3 (K:ah)(T:String)(r:V->List V->Hp->VK->Prop)(to:TE):TE:=λ W H Q=>to W H λ x H1=>tyV K T x H1/\r x [] H1 Q
def tBM (K:ah)(T:String)(r:V->List V->Hp->VK->Prop)(to:TE)(t:TA):TE:=λ W H Q=>to W H λ x H1=>tyV K T x H1/\t W H1 λ xs H2=>r x xs H2 Q
variable {o e:Expr} {es:yK} {to:TE} {t:TA} {name:Str} {apos cpos:Pos} {T id:String} {r:V->List V->Hp->VK->Prop}
theorem bR9 (pa:jU T)(slot:Slot T name id)(J:kq (.builtin id)=pure (.type "method_descriptor"))(hm:MtR X id r)(ho:PE X o to)
  (F:eL o name X.env (eval o X.env)=eval o X.env:=by rfl) (G:(apos.endLine==cpos.line)=true:=by rfl):PE X (.Call (.Attribute o name apos) [] [] cpos) (co3 X.K T r to):=by
 intro B s W H Q I h
 refine wpAny_Call_method0_late F G (thn (ho B s W H _ I h) λ v s1 ⟨x,H1,Y,r1,Z,q1⟩=>?_)
 obtain⟨h1,h2⟩:=bs4 Y r1 Z
 exact⟨T,id,pa,slot,J,h1,h2,gr rfl (PySem.evalArgs_none (hm B s1 W H1 x [] v [] Q Y r1 .nil q1))⟩
theorem cf9 (pa:jU T)(slot:Slot T name id)(Z:kq (.builtin id)=pure (.type "method_descriptor"))(hm:MtR X id r)(ho:PE X o to)(ha:PA X (e::es) t)
  (G:eL o name X.env (eval o X.env)=eval o X.env:=by rfl)
  (Y:((dZ cpos (bz (e::es) X.env)).all (λ x=>!x.1)&&(backToKw cpos (jy [] X.env)).all (λ x=>x.1.isSome)
   && decide ((e::es).length+([]:List hW).length+(if([]:List hW).isEmpty then 0 else 1)<30))=true:=by rfl)
  (J:(apos.endLine==cpos.line)=true:=by rfl) (hs:bz (e::es) X.env=(false,eval e X.env)::bz es X.env:=by rfl) (F:(dZ cpos (bz es X.env)).any (·.1)=false:=by rfl) :
  PE X (.Call (.Attribute o name apos) (e::es) [] cpos) (tBM X.K T r to t):=by
 intro B s W H Q I h
 refine wpAny_Call_method_late G Y J rfl (thn (ho B s W H _ I h) λ v s1 ⟨x,H1,I1,r1,ty,q1⟩=>?_)
 obtain⟨h1,h2⟩:=bs4 I1 r1 ty
 refine⟨T,id,pa,slot,Z,h1,h2,?_⟩
 have hA:=ha cpos B s1 W H1 _ I1 q1
 rw[hs]at hA ⊢
 refine gr (by show(false||(dZ cpos (bz es X.env)).any (·.1))=false;rw[F]<;>rfl) (gW ?_)
 exact thn hA λ us s2 ⟨vs,H2,I2,r2,q2⟩=>hm B s2 W H2 x vs v us Q I2 r1 r2 q2
end
def MtM (X:Cx)(id:String)(r:V->List V->Hp->VK->Prop):Prop :=
 ∀(pins:yA) (s:ai) (W:St) (H:Hp) (x:V) (xs:List V) (v:Value) (us:yG) (Q:VK),Inv X pins W H s->RelV x v->Vals xs us->r x xs H Q ->
  wpAny (model X.prog X.w) X.A (call (.builtin id) (v::us)) (EP X pins W Q) X.xe s
theorem Vals.one:∀ {x:V} {us:yG},Vals [x] us->∃ u,us=[u]/\RelV x u
 | _,_,.cons r .nil=>⟨_,rfl,r⟩
theorem Vals.zero:∀ {us:yG},Vals [] us->us=[]
 | _,.nil=>rfl
theorem Vals.dropLast {B:List V}{us:yG}(h:Vals B us):Vals B.dropLast us.dropLast:=by
 induction h with
 | nil=>exact .nil
 | cons r t ih =>
  cases t with
  | nil=>exact .nil
  | cons q t'=>exact .cons r ih
theorem Vals.reverse {B:List V}{us:yG}(h:Vals B us):Vals B.reverse us.reverse:=by
 induction h with
 | nil=>exact .nil
 | cons r t ih=>rw[d6,d6];exact Vals.append ih (.cons r .nil)
theorem Vals.rep {B:List V}{us:yG}(h:Vals B us):∀ k:Nat,Vals (aA k B).flatten (aA k us).flatten
 | 0=>.nil
 | k+1=>by
  rw[bL,bL,cM,cM]
  exact Vals.append h (Vals.rep h k)
theorem aF2 (its:yG):∀(k:Nat) (h:yG),
  jV (λ x1 B=>x1++B) h.toArray (aA k its.toArray)=(h++(aA k its).flatten).toArray
 | 0,h=>by simp
 | k+1,h=>by
  have e:h.toArray++its.toArray=(h++its).toArray:=by simp
  have e2:(h++its)++(aA k its).flatten=h++(aA (k+1) its).flatten:=by
   rw[bL,cM,cx]
  rw[<-e2,<-aF2 its k (h++its),<-e,bL,c6]
section
variable {X:Cx} {pins:yA} {W:St} {H:Hp} {s:ai} {l b:Addr} {xs ys zs:List V}
theorem Inv.lset {its its':yG}{n:Nat}{f:Array Value->Array Value}{t':Nat}(I:Inv X pins W H s)(h:H l=some (.lst xs))
  (e:s.heap.get? l=some { cls:=.type "list",data:=.seq its.toArray n }) (B:f its.toArray=its'.toArray) (hv:Vals ys its') (hz:ys.length<=aN) :
  Inv X pins W (upd H l (.lst ys)) { s with heap:=s.heap.update l (gk f),toks:=t' }:=by
 have q:=PySem.IsL.update e f
 rw[B]at q
 refine I.write (x:=l) (e:=l) (by rw[h];exact trivial) (.inl rfl) (λ F u hb hu=>(bO s.heap (gk f) (cz hb)).trans hu) ⟨_,q⟩ ?_
 exact⟨hz,its',_,hv,q⟩
theorem Inv.lnew {its:yG}{t':Nat}(I:Inv X pins W H s)(hv:Vals ys its)(hz:ys.length<=aN) :
  Inv X pins W (upd H s.heap.objs.size (.lst ys)) { s with heap:=s.heap.push { cls:=.type "list",data:=.seq its.toArray },toks:=t' } :=
 I.laid (λ _ _ q=>az _ q) (aw _) ⟨hz,its,0,hv,a9 _ rfl⟩
theorem Inv.fresh (I:Inv X pins W H s):H s.heap.objs.size=none:=I.hok.fresh (aw _)
theorem Inv.lstM (I:Inv X pins W H s)(h:H l=some (.lst xs)):xs.length<=aN/\∃(its:yG) (n:Nat),Vals xs its/\xs.length=its.length/\s.heap.get? l=some { cls:=.type "list",data:=.seq its.toArray n }:=by
 obtain⟨z,its,n,r,e⟩:=I.hok l _ h
 exact⟨z,its,n,r,r.length,e⟩
theorem bo7 {n:Nat}(h:n<=aN):dI n=false:=by
 unfold dI
 exact decide_eq_false (by omega)
end
section
variable {X:Cx}
def bH4:V->List V->Hp->VK->Prop:=λ x vs H Q=>∃ l xs y,x=.ref l/\vs=[y]/\H l=some (.lst xs)/\xs.length<aN/\Q .non (upd H l (.lst (xs++[y])))
theorem aE1:MtM X "list.append" bH4:=by
 intro B s W H x vs v us Q I J Z h
 obtain⟨l,xs,y,rfl,rfl,G,hz,q⟩:=h
 cases J
 obtain⟨u,rfl,Y⟩:=Z.one
 obtain⟨z,its,n,r,hl,e⟩:=I.lstM G
 refine gu gL ⟨_,e,rfl⟩ F.entry_list_append (F.args_list_append_2 _ _) (PySem.list_append l its.toArray n u (by rw[aB];omega)) ⟨e,?_⟩
 refine⟨.non,_,I.lset (its':=its++[u]) G e (by simp) (r.append (.cons Y .nil)) ?_,rfl,q⟩
 rw[ax,dh]
 omega
def bj7:V->List V->Hp->VK->Prop:=λ x vs H Q=>∃ l xs,x=.ref l/\vs=[]/\H l=some (.lst xs)/\Q .non (upd H l (.lst xs.reverse))
theorem aV6:MtM X "list.reverse" bj7:=by
 intro G s W H x vs v us Q I Y Z h
 obtain⟨l,xs,rfl,rfl,J,q⟩:=h
 cases Y
 have B:=Z.zero
 subst B
 obtain⟨z,its,n,r,hl,e⟩:=I.lstM J
 refine gu gv ⟨_,e,rfl⟩ F.entry_list_reverse (F.args_list_reverse_1 _) (AutoSeq1.list_reverse_list_0 l its.toArray n (by rw[aB];omega)) ⟨e,?_⟩
 refine⟨.non,_,I.lset (its':=its.reverse) J e (by simp) r.reverse ?_,rfl,q⟩
 rw[iq]
 omega
def cs3:R2:=λ x y H Q=>∃ l b xs zs,x=.ref l/\y=.ref b/\H l=some (.lst xs)/\H b=some (.lst zs)/\xs.length+zs.length<=aN/\∀ p,H p=none->Q (.ref p) (upd H p (.lst (xs++zs)))
theorem bZ2:OpR X (cj .Add) cs3:=by
 intro F s W H x y v u Q I Y J h
 obtain⟨l,b,xs,zs,rfl,rfl,Z,hB,hz,q⟩:=h
 cases Y
 cases J
 obtain⟨z,its,n,r,hl,e⟩:=I.lstM Z
 obtain⟨z2,B,n2,r2,G,e2⟩:=I.lstM hB
 refine PySem.P.add_list e e2 ?_ (by rw[aB,aB];omega)
 have ea:its.toArray++B.toArray=(its++B).toArray:=by simp
 rw[ea]
 exact⟨.ref _,_,I.lnew (t':=s.toks) (r.append r2) (by rw[ax];omega),rfl,q _ I.fresh⟩
def cs2:R2:=λ x y H Q=>∃ l k xs,x=.ref l/\y=.int k/\H l=some (.lst xs)/\-(2^63)<=k/\k<2^63/\xs.length*k.toNat<=aN /\
 ∀ p,H p=none->Q (.ref p) (upd H p (.lst (aA k.toNat xs).flatten))
theorem by4 {α:Type}(h:List α)(k:Nat):(aA k h).flatten.length=k*h.length:=by
 induction k with
 | zero=>simp
 | succ k ih=>rw[bL,cM,ax,ih,Nat.succ_mul,fc]
theorem bV7:OpR X (cj .Mult) cs2:=by
 intro a0 s W H x y v u Q I rx ry h
 obtain⟨l,k,xs,rfl,rfl,hH,h1,h2,hz,q⟩:=h
 cases rx
 obtain⟨t,rfl⟩:=ry
 obtain⟨z,its,n,r,hl,e⟩:=I.lstM hH
 have J:its.toArray.size*k.toNat<=aN:=by rw[aB,<-hl];exact hz
 have G:¬ its.toArray.size*k.toNat > (2^63 - 1) / 8:=by
  have:(aN:Nat)<=(2^63 - 1) / 8:=by decide
  omega
 have Z:¬(!Builtin.List.listFitsIndex k)=true:=by
  rw[fitsIndex_both h1 h2]
  exact aW
 have B:¬ dI (its.toArray.size*k.toNat)=true:=by
  rw[bo7 J]
  exact aW
 have Y:jV (λ x1 x2=>x1++x2) #[] (aA (if its.toArray.isEmpty=true then 0 else k.toNat) its.toArray)=(aA k.toNat its).flatten.toArray:=by
  have f0:∀ m:Nat,jV (λ x1 x2=>x1++x2) #[] (aA m its.toArray)=(aA m its).flatten.toArray:=λ m=>by
   have:=aF2 its m []
   rw[cL]at this
   exact this
  rw[f0]
  cases its with
  | nil=>simp
  | cons a r'=>rw[if_neg (by simp)]
 refine fA (T := "list") (U := "int") (by decide) ⟨_,e,rfl⟩ (λ s'=>gm s' k t) noFill_list_mul iO dQ repeat_list ir.lookup
  (gu dQ (gm s k t) iu (gX _ _) (int___rmul___int_list k t l its.toArray n)
   ⟨e,rfl,⟨_,e,rfl⟩,gu F.slot_list_mul ⟨_,e,rfl⟩ F.entry_list_mul (F.args_list_mul_2 _ _) (AutoListH.list___mul___list_int_3 l its.toArray n k t Z G B) ⟨e,?_⟩⟩)
 rw[Y]
 exact⟨.ref _,_,I.lnew (t':=s.toks) (r.rep k.toNat) (by rw[by4,kr];exact hz),rfl,q _ I.fresh⟩
end
section
variable {prog:aJ} {w:World} {A:aV} {E:Value->ai->Prop} {s:ai}
end
section
variable {X:Cx}
end
end L2
end
noncomputable section
namespace Att
open PySem PySem.W PySem.Calls PyProof.Rows
theorem ints_of_wellAll {P:Params}{h:Heap}:∀(ns:List Int) (vs:yG),WellAll P h vs (ns.map WData.int)->jM vs ns:=by
 intro ns
 induction ns with
 | nil =>
  intro vs w
  rw[d7]at w
  cases w
  exact .nil
 | cons n ns ih =>
  intro vs w
  rw[a7]at w
  cases w with
  | cons a b =>
   cases a
   exact .cons _ _ (ih _ b)
theorem script_of {l:OpenLaw}{n:Nat}(hn:l.most=some n){P:Params}{h:Heap}{args:List WData}{F:yG}
  (B:l.row.toRowW.claim.pre args=true) (Z:WellAll P h F args) :
  ∃ a vs ns,F=[Value.ref a]/\args=[WData.list (ns.map WData.int)]/\h.get? a=some { cls:=.type "list",data:=.seq vs.toArray }/\jM vs ns/\ns.length<=n:=by
 have a0:WShape.hasAll [] args [.list .int]=true:=(pre_splitW B).1
 have hc:l.pre.holds [] { args:=args }=true:=(pre_splitW B).2
 obtain⟨d,r,rfl,h1,h2⟩:=hasAllW_cons a0
 obtain rfl:=hasAllW_nil h2
 obtain⟨xs,rfl,h3⟩:=hasW_list h1
 obtain⟨ns,rfl⟩:=items_int h3
 have G:ns.length<=n:=by
  unfold OpenLaw.pre at hc
  have Y:(WTm.not (.lt (.lit (.int (n:Int))) (.len (.arg 0)))).holds [] { args:=[.list (ns.map .int)] }=true:=by
   have Y:=(holds_andW hc).1
   rw[hn]at Y
   exact Y
  have J:=condW_of Y (w_not (w_lt w_lit (w_len_list (w_arg rfl))))
  rw[aE]at J
  refine jo λ q=>?_
  have q':(n:Int)<((ns.length:Nat):Int):=by omega
  first
   | (rw[decide_eq_true q']at J;exact absurd J (by decide))
   | (simp at J;omega)
 cases Z with
 | cons w1 w2 =>
  cases w2
  cases w1 with
  | list ho hall=>exact⟨_,_,ns,rfl,rfl,ho,ints_of_wellAll ns _ hall,G⟩
theorem post_true (l:OpenLaw)(args:List WData):l.row.toRowW.claim.post args (.bool true) args=true :=
 postW_of (r:=l.row.toRowW) (X:=(true==true))
  (show WShape.has [] (.bool true) .bool=true by first|rfl|decide|simp[WShape.has,WShape.arms,WShape.armsAll])
  (show(WTm.eq .res (.lit (.bool true))).value [] { args:=args,res:=some (.bool true),after:=args }=some (.bool (true==true))from w_eq_bool (w_res rfl) w_lit) rfl
theorem attach_call {l:OpenLaw}{n:Nat}{q:aJ}{loose:yH}{XP:(Str->Option Value)->Heap->Prop}{YP:World->Heap->Prop}{d:DefRec}
  (hn:l.most=some n) (a3:d.params.defaults=[])
  (call:∀(w:World) (s₀ h:ai) (mg mb:yC) (fa:Addr) (o:Obj) (pm cd F:Value) (a:Addr) (vs:yG) (ns:List Int),
   Ground q loose [] XP w s₀ mg mb h.heap->YP w h.heap ->
   h.heap.get? fa=some o->o.data=.func (docDef d.name d.params d.body d.scope pm cd F)->h.heap.CodeRec cd d.name->mg d.name=some (.ref fa) ->
   h.heap.get? a=some { cls:=.type "list",data:=.seq vs.toArray }->jM vs ns->ns.length<=n->h.gens=#[] ->
   gf (model l.prog w) hX (.call (.ref fa) ⟨[.ref a],[]⟩) (λ r s'=>r=.ok (.ret (.bool true))/\OldK h.heap s'.heap/\s'.os=h.os/\e8 s'.gens) h) :
  WalkO q loose XP YP l.row.toRowW d [] (λ f vs=>jN f vs):=by
 intro w s₀ h mg mb G Y fa o pm cd F dV kV ho hd a4 hD a1 hg args a6 as a0 a5 b0 a2 b1
 obtain rfl:dV=.none:=Dflts.none hD a3
 obtain rfl:kV=.none:=Dflts.noKw hD
 obtain⟨a,vs,ns,rfl,rfl,Z,B,J⟩:=script_of hn a0 a2
 refine enter_call (i5 (call w s₀ h mg mb fa o pm cd F a vs ns G Y ho (fd_plain hd) a4 a1 Z B J hg) λ r s' hq=>?_)
 obtain⟨rfl,h2,h3,h4⟩:=hq
 exact⟨.inl ⟨.bool true,.bool true,[],rfl,λ _=>rfl,.bool true,post_true l _,λ _=>⟨List.Pairwise.nil,λ _ hm=>(nomatch hm)⟩⟩,h2,h3,h4⟩
section
variable {prog:aJ} {w:World} {A:aV} {E:Value->ai->Prop} {s:ai} {K:Frag}
end
end Att
noncomputable section
namespace L2
open PySem PySem.Spec PyProof.Rows
theorem aG9:∀ {vs:yG} {ns:List Int},jM vs ns->Vals (ns.map V.int) vs
 | _,_,.nil=>.nil
 | _,_,.cons n t h=>.cons ⟨t,rfl⟩ (aG9 h)
noncomputable def defArgs (s:Stmt):eF:=match s with
 | .FunctionDef _ a _ _ _ _ _ _ _ _=>a
 | _=>{ posonlyargs:=[],args:=[],vararg:=none,kwonlyargs:=[],kw_defaults:=[],kwarg:=none,defaults:=[] }
noncomputable def zA (s:Stmt):List Stmt:=match s with
 | .FunctionDef _ _ b _ _ _ _ _ _ _=>b
 | _=>[]
noncomputable def defScope (s:Stmt):Scope:=match s with
 | .FunctionDef _ _ _ _ _ _ sc _ _ _=>sc
 | _=>{ kind:=.function,names:=[],isGenerator:=false,isCoroutine:=false }
noncomputable abbrev CX0:CXT:=λ _ _ _ _ _ _=>False
abbrev E0:XK:=λ _ _ _=>False
theorem cc1 {X:Cx}:an1 CX0 X E0:=λ _ _ _ _ _ _ _ h=>h.elim
structure Fun (K:ah)(x qual:Str)(st:Stmt)(f:Addr)(fd:bS):Prop where
 ex:∃(oc:Value) (od:yI) (kV doc pm:Value) (an:yI) (cdv ct:Value) (osl:yE),
  fd=cX x qual (defArgs st) (zA st) (defScope st) .none kV doc pm an cdv ct/\K.lookup f=some ⟨oc,od,.func fd,osl⟩/\fq K cdv qual=true
 kp:cq K (.ref f)=true
section
variable {P:aJ} {w:World} {K:ah} {mg:yC} {base:Heap}
theorem Fun.ok {x qual:Str}{st:Stmt}{f:Addr}{fd:bS}{N ps:yH}{k:Nat}{sp:Sp}(F:Fun K x qual st f fd)(S:FnScope N ps (defScope st))(len:∀ vs H Q E,sp vs H Q E->vs.length=ps.length)
  (J:∀(G:Value) (A:aV) (B:List Env) (s:ai) (H:Hp) (vs:List V) (Q:VK) (E:XK),Room k (A.deeper (fo qual (defScope st) s.heap.objs.size f G))->sp vs H Q E ->
   ∃ t,PSs (ax0 CX0 P w K mg base N qual (defScope st) f G A B s H E).nox (zA st) t/\t { nx:=λ _ H'=>Q .non H',rt:=Q } (ao4 N vs) H):FnOk P w K mg base CX0 (k+1) f fd ps sp:=by
 obtain⟨oc,od,kV,a1,pm,an,G,ct,a0,rfl,lk,Z⟩:=F.ex
 refine bX5 lk Z S len λ A B s H vs Q E hr Y=>?_
 obtain⟨t,h,q⟩:=J G A B s H vs Q E hr Y
 exact⟨t,h.nox,q⟩
theorem Fun.binds {x qual:Str}{st:Stmt}{f:Addr}{Z:bS}{ps:yH}(F:Fun K x qual st f Z)
  (h:∀(kV B J:Value) (Y:yI) (G ct:Value) (us:yG),us.length=ps.length->bindArgs (cX x qual (defArgs st) (zA st) (defScope st) .none kV B J Y G ct) ⟨us,[]⟩=pure (ps.zip us)):Binds K Z ps []:=by
 obtain⟨oc,od,kV,B,J,Y,G,ct,a0,rfl,lk,a1⟩:=F.ex
 exact .all (h kV B J Y G ct)
theorem bs3 {x qual:Str}{st:Stmt}{f:Addr}{oc:Value}{od J:yI}{F:yE}{kV B G h ct:Value}(l:K.lookup f=some ⟨oc,od,.func (cX x qual (defArgs st) (zA st) (defScope st) .none kV B G J h ct),F⟩)
  (c:fq K h qual=true) (k:cq K (.ref f)=true):Fun K x qual st f (cX x qual (defArgs st) (zA st) (defScope st) .none kV B G J h ct):=⟨⟨oc,od,kV,B,G,J,h,ct,F,rfl,l,c⟩,k⟩
end
section
variable {X:Cx}
end
theorem cq8 {A B:Prop}(h:B):if false=true then A else B:=by
 rw[if_neg aW]
 exact h
theorem iteT {A B:Prop}(h:A):if true=true then A else B:=by
 rw[if_pos rfl]
 exact h
def ak9 (H H':Hp):Prop:=∀ b o,H b=some o->H' b=some o
theorem ak9.refl (H:Hp):ak9 H H:=λ _ _ h=>h
theorem ak9.trans {H B F:Hp}(a:ak9 H B)(b:ak9 B F):ak9 H F:=λ c o h=>b c o (a c o h)
theorem bc4 {prog:aJ}{w:World}{A:aV}{R:jS->ai->Prop}{s:ai}{G B iter:Expr}{F:yK}{scope:Scope}{pos:Pos}{it J:Value}{env:Env}(I:Nat->ai->Prop)
  (turn:∀ n s,I n s->wpAny (model prog w) A (jk it) (λ r s₁=>match r with
   | none=>R (.ok .next) s₁
   | some v=>wpAny (model prog w) A (eV B it v) (λ _ Y=>wpAny (model prog w) A (gd B env v) (λ _ s₂ =>
     wpAny (model prog w) A (forIn F true λ c r=>if r=true then do let ok <- dP c env (eval c env);pure (ForInStep.yield ok)else pure (ForInStep.yield r)) (λ ok Z =>
      if ok=true then wpAny (model prog w) A (eval G env) (λ x s₄ =>
       wpAny (model prog w) A (call (.builtin "list.append") [J,x]) (λ _ s₅=>∃ m,m<n/\I m s₅) (jb (model prog w) A env λ e s'=>R (.error e) s') s₄) (jb (model prog w) A env λ e s'=>R (.error e) s') Z
      else ∃ m,m<n/\I m Z) (jb (model prog w) A env λ e s'=>R (.error e) s') s₂) (jb (model prog w) A env λ e s'=>R (.error e) s') Y) (jb (model prog w) A env λ e s'=>R (.error e) s') s₁) (jb (model prog w) A env λ e s'=>R (.error e) s') s)
  (n:Nat) (h:I n s) :
  gf (model prog w) A (.compLoop (.ListComp G [⟨B,iter,F,0⟩] scope pos) 0 it J env) R s:=by
 refine codeAny_loop rfl I (λ n s hI=>?_) n h
 show wpAny _ A ((compTurn (.ListComp G [⟨B,iter,F,0⟩] scope pos) 0 it J env).onRaise (λ x=>do jp x env;theTreesLotGoes x)) _ _ s
 refine wpAny_noted ?_
 rw[compTurn_list]
 refine ak (iB (ak (bq (turn n s hI) (λ r s₁ h₁=>?_) λ _ _ h'=>h')))
 cases r with
 | none=>exact aD h₁
 | some v =>
  refine ak (bq h₁ (λ _ Y a0=>?_) λ _ _ h'=>h')
  refine ak (bq a0 (λ _ s₂ h₂=>ak (bq h₂ (λ ok Z h₃=>?_) λ _ _ h'=>h')) λ _ _ h'=>h')
  cases ok with
  | false=>exact aD ⟨rfl,h₃⟩
  | true =>
   exact ak (ak (bq h₃ (λ x s₄ h₄=>ak (bq h₄ (λ _ s₅ h₅=>aD (aD ⟨rfl,h₅⟩)) λ _ _ h'=>h')) λ _ _ h'=>h'))
noncomputable def au3 (cells:yB):List (Str×cr)->List (Str×Addr)->List (Str×Addr)
 | [],acc=>acc
 | (n,k)::r,acc=>au3 cells r (if k==.free then(match cells.lookup n with|some c=>(n,c)::acc|none=>acc)else acc)
theorem al8 {env:Env}:∀(names:List (Str×cr)) (B:yB),(∀ y∈names,y.2=.free->∃ c,env.cells.lookup y.1=some c) ->
  (forIn names B λ(x:Str×cr) (G:yB)=>(if x.2==.free then do let c <- cellOf env x.1;pure (ForInStep.yield ((x.1,c)::G))else pure (ForInStep.yield G):Sem (ForInStep (List (Str×Addr)))))=pure (au3 env.cells names B)
 | [],B,_=>by rw[gY];rfl
 | (n,k)::r,B,h=>by
  have F:=λ a=>al8 r a λ y hy=>h y (aq _ hy)
  rw[jF]
  unfold au3
  cases e:(k==NameKind.free)with
  | false =>
   simp only[ac,if_false]
   exact F B
  | true =>
   have hk:k=.free:=by simpa using e
   obtain⟨c,hc⟩:=h (n,k) aC hk
   have e1:cellOf env n=pure c:=by unfold cellOf;rw[hc]
   simp only[if_true,e1,hc]
   exact F _
theorem am7 {scope:Scope}{env:Env}(h:∀ y∈scope.names,y.2=.free->∃ c,env.cells.lookup y.1=some c):closureFor scope env=pure (au3 env.cells scope.names []):=by
 have:=al8 (env:=env) scope.names [] h
 show(forIn scope.names [] (λ(x:Str×cr) (B:yB)=>(if x.2==.free then do let c <- cellOf env x.1;pure (ForInStep.yield ((x.1,c)::B))else pure (ForInStep.yield B):Sem (ForInStep (List (Str×Addr))))) >>= λ B=>pure B)=_
 rw[this]
 rfl
theorem clOf_mem {cells:yB}{n:Str}{c:Addr}:∀ {names:List (Str×cr)} {B:yB},(n,c)∈au3 cells names B->cells.lookup n=some c\/(n,c)∈B
 | [],_,h=>.inr h
 | (m,k)::r,B,h=>by
  unfold au3 at h
  rcases clOf_mem h with z|z
  .exact .inl z
  .cases e:(k==NameKind.free)with
   | false=>simp only[e,ac,if_false]at z;exact .inr z
   | true =>
    simp only[e,if_true]at z
    cases q:cells.lookup m with
    | none=>rw[q]at z;exact .inr z
    | some d =>
     rw[q]at z
     rcases aH.mp z with y|y
     .cases y;exact .inl q
     .exact .inr y
theorem aR6 {cells:yB}{n:Str}{c:Addr}(hc:cells.lookup n=some c):∀ {names:List (Str×cr)} {B:yB},((n,NameKind.free)∈names\/(n,c)∈B)->(n,c)∈au3 cells names B
 | [],_,h=>by rcases h with h|h;(exact absurd h (by simp));exact h
 | (m,k)::r,B,h=>by
  unfold au3
  refine aR6 hc ?_
  rcases h with h|h
  .rcases aH.mp h with e|h
   .cases e
    right
    simp[hc]
   .exact .inl h
  .right
   cases e:(k==NameKind.free)with
   | false=>simpa using h
   | true =>
    simp only[if_true]
    cases q:cells.lookup m with
    | none=>exact h
    | some d=>exact aq _ h
theorem al7 {α:Type}{n:Str}{c:α}:∀ {l:List (Str×α)},(n,c)∈l->(∀ d,(n,d)∈l->d=c)->l.lookup n=some c
 | (m,d)::r,h,u=>by
  rw[be]
  cases e:n==m with
  | true =>
   have e':=beq_iff_eq.mp e
   subst e'
   rw[u d aC]
  | false =>
   rcases aH.mp h with z|z
   .cases z;simp at e
   .exact al7 z λ d' h'=>u d' (aq _ h')
theorem aM6 {cells:yB}{n:Str}{c:Addr}{names:List (Str×cr)}(hc:cells.lookup n=some c)(h:(n,NameKind.free)∈names):(au3 cells names []).lookup n=some c:=by
 refine al7 (aR6 hc (.inl h)) λ d hd=>?_
 rcases clOf_mem hd with z|z
 .rw[hc]at z;exact(aG z).symm
 .exact absurd z (by simp)
theorem zD:∀(names:List (Str×cr)) (n:Nat) (h:yB),bB n names h=bB n names []++h
 | [],_,h=>by simp[bB]
 | (x,k)::r,n,h=>by
  unfold bB
  split
  .rw[zD r (n+1) ((x,n)::h),zD r (n+1) [(x,n)]]
   simp
  .exact zD r n h
theorem zM:∀ {names:List (Str×cr)} {n:Nat} {B:yB} {x:Str} {c:Addr},(x,c)∈bB n names B->(x,NameKind.cell)∈names\/(x,c)∈B
 | [],_,_,_,_,h=>.inr h
 | (y,k)::r,n,B,x,c,h=>by
  unfold bB at h
  split at h
  .rename_i hk
   rcases zM h with z|z
   .exact .inl (aq _ z)
   .rcases aH.mp z with e|z
    .cases e
     have:k=.cell:=by simpa using hk
     subst this
     exact .inl aC
    .exact .inr z
  .rcases zM h with z|z
   .exact .inl (aq _ z)
   .exact .inr z
theorem qE {α:Type}(x:Str):∀(l r:List (Str×α)),(l++r).lookup x=(l.lookup x).or (r.lookup x)
 | [],r=>by simp
 | (y,v)::l,r=>by
  rw[bT,be,be]
  cases x==y with
  | true=>rfl
  | false=>exact qE x l r
noncomputable def zO (N':yH)(src:yD)(scope:Scope)(XN:yH)(xs:Scope):Bool :=
 (scope.kind==.function) &&
 (scope.names.all λ y=>!(y.2==.free)||(xs.names.lookup y.1==some .cell||xs.names.lookup y.1==some .free)) &&
 (scope.names.all λ y=>!(y.2==.local)||scope.names.lookup y.1==some .local) &&
 (scope.names.all λ y=>!(y.2==.cell)||(scope.names.all λ z=>!(z.1==y.1)||z.2==.cell)) &&
 (src.length==N'.length) &&
 ((N'.zip src).all λ y=>match y.2 with|none=>true|some j=>XN[j]?==some y.1&&scope.names.lookup y.1==some .free)
structure CompCk (N':yH)(src:yD)(scope:Scope)(XN:yH)(xs:Scope):Prop where
 kind:scope.kind=.function
 fr:∀ y∈scope.names,y.2=.free->xs.names.lookup y.1=some .cell\/xs.names.lookup y.1=some .free
 loc:∀ y∈scope.names,y.2=.local->scope.names.lookup y.1=some .local
 cel:∀ y∈scope.names,y.2=.cell->∀ z∈scope.names,z.1=y.1->z.2=.cell
 len:src.length=N'.length
 sr:∀(i j:Nat) (x:Str),src[i]?=some (some j)->N'[i]?=some x->XN[j]?=some x/\scope.names.lookup x=some .free
theorem bw1 {B:yH}{src:yD}{scope:Scope}{G:yH}{F:Scope}(h:zO B src scope G F=true):CompCk B src scope G F:=by
 unfold zO at h
 simp only[ao]at h
 obtain⟨⟨⟨⟨⟨h1,h2⟩,h3⟩,h4⟩,J⟩,Y⟩:=h
 refine⟨by simpa using h1,λ y hy e=>?_,λ y hy e=>?_,λ y hy e z hz Z=>?_,by simpa using J,λ i j x e1 e2=>?_⟩
 .have:=aX.mp h2 y hy
  simpa [e]using this
 .have:=aX.mp h3 y hy
  simpa [e]using this
 .have:=aX.mp h4 y hy
  simp only[e,beq_self_eq_true,am,j8]at this
  have:=aX.mp this z hz
  simpa [Z]using this
 .have hm:(x,some j)∈B.zip src:=by
   refine aR (i:=i) ?_
   rw[List.getElem?_zip_eq_some]
   exact⟨e2,e1⟩
  have:=aX.mp Y _ hm
  simpa using this
noncomputable abbrev zB (X:Cx)(N':yH)(scope:Scope)(Cc:Addr)(cells:yB)(s:ai)(H:Hp)(ex:List Addr):Cx where
 prog:=X.prog
 w:=X.w
 K:=X.K
 mg:=X.mg
 base:=X.base
 A:=X.A
 N:=N'
 s₀:=s
 H₀:=H
 env:={ scope:=eM scope X.env,locals:=Cc,globals:=X.env.globals,cells:=cells,qual:=X.env.qual,func:=none,code:=X.env.code,frame:=X.env.frame,builtins:=X.env.builtins }
 outer:=X.stack
 stack:=X.stack
 ex:=ex
 fn:=λ x=>scope.names.lookup x==some .cell
 calm:=X.calm
 pn:=[]
 xe:=λ _ _=>False
def PIf (X:Cx)(ifs:yK)(t:TT):Prop :=
 ∀(pins:yA) (s:ai) (W:St) (H:Hp) (Q:Bool->Hp->Prop),Inv X pins W H s->t W H Q ->
  wpAny (model X.prog X.w) X.A (forIn ifs true λ c r=>if r=true then do let ok <- dP c X.env (eval c X.env);pure (ForInStep.yield ok)else pure (ForInStep.yield r)) (TP X pins W Q) X.xe s
def cs1:TT:=λ _ H Q=>Q true H
theorem bH5 {X:Cx}:PIf X [] cs1:=λ _ _ _ H _ I h=>wpAny_tests_nil ⟨H,I,h⟩
theorem bI1 {X:Cx}{c:Expr}{t:TT}(h:PT X c t):PIf X [c] t:=λ B s W H Q I hw=>wpAny_tests_one (h B s W H Q I hw)
noncomputable def aC9 (src:yD)(W:St):St:=src.map λ o=>match o with|none=>none|some j=>(W[j]?).join
def tComp (src:yD)(wi:TI)(g:TG)(tc:TT)(te:TE):TE:=λ W H Q=>wi W H λ J H1=>∀ D,H1 D=none ->
 ∃ Ww:Nat->Nat->St->Hp->Prop,(∃ m,Ww 0 m (aC9 src W) (upd H1 D (.lst [])))/\∀ i m W' H',Ww i m W' H' ->
  (J.stop i H'/\Q (.ref D) H')\/(J.go i H'/\∃ N:St->Hp->Prop,(∀ W2 H2,N W2 H2->∃ m',m'<m/\Ww (i+1) m' W2 H2) /\
   ∀ x H2,J.yld i H' x H2->g x W' H2 λ W3 H3=>tc W3 H3 λ b H4=>if b=true then te W3 H4 λ v H5=>∃ ys,H5 D=some (.lst ys)/\ys.length<aN/\N W3 (upd H5 D (.lst (ys++[v])))else N W3 H4)
theorem qb {env:Env}:∀ {names:List (Str×cr)} {x:Str} {k:cr},names.lookup x=some k ->
  (names.map λ(n,k)=>if(k==NameKind.free&&env.scope.kind==.function&&env.kindOf n==some .cell)then(n,NameKind.cell)else(n,k)).lookup x =
   some (if(k==NameKind.free&&env.scope.kind==.function&&env.kindOf x==some .cell)then NameKind.cell else k)
 | [],_,_,h=>by simp at h
 | (n,k)::r,x,k',h=>by
  have B:=@qb env r x k'
  show kH x ((if(k==NameKind.free&&env.scope.kind==.function&&env.kindOf n==some .cell)=true then(n,NameKind.cell)else(n,k))::_)=_
  cases hx:x==n with
  | true =>
   have e:=beq_iff_eq.mp hx
   subst e
   simp only[be,hx]at h
   cases h
   by_cases hc:(k==NameKind.free&&env.scope.kind==.function&&env.kindOf x==some .cell)=true
   .rw[if_pos hc,if_pos hc];simp only[be,hx]
   .rw[if_neg hc,if_neg hc];simp only[be,hx]
  | false =>
   simp only[be,hx]at h
   by_cases hc:(k==NameKind.free&&env.scope.kind==.function&&env.kindOf n==some .cell)=true
   .rw[if_pos hc];simp only[be,hx];exact B h
   .rw[if_neg hc];simp only[be,hx];exact B h
theorem z8 {env:Env}:∀ {names:List (Str×cr)} {x:Str},names.lookup x=none ->
  (names.map λ(n,k)=>if(k==NameKind.free&&env.scope.kind==.function&&env.kindOf n==some .cell)then(n,NameKind.cell)else(n,k)).lookup x=none
 | [],_,_=>rfl
 | (n,k)::r,x,h=>by
  have B:=@z8 env r x
  show kH x ((if(k==NameKind.free&&env.scope.kind==.function&&env.kindOf n==some .cell)=true then(n,NameKind.cell)else(n,k))::_)=_
  cases hx:x==n with
  | true=>simp only[be,hx]at h;cases h
  | false =>
   simp only[be,hx]at h
   by_cases hc:(k==NameKind.free&&env.scope.kind==.function&&env.kindOf n==some .cell)=true
   .rw[if_pos hc];simp only[be,hx];exact B h
   .rw[if_neg hc];simp only[be,hx];exact B h
theorem av1 {X:Cx}{N':yH}{src:yD}{scope:Scope}{a4:yA}{W:St}{H:Hp}{s s4:ai}{fp:List Addr}
  (G:CompCk N' src scope X.N X.env.scope) (I:Inv X a4 W H s) (hf:∀ b∈fp,FpOk X a4 H b) (b2:∀ b∈fp,b<s.heap.objs.size)
  (e4:∃ tk,s4={ s with heap:=eJ (s.heap.push { cls:=.type "dict",data:=.dict #[] }) scope.names,toks:=tk }) :
  Inv (zB X N' scope s.heap.objs.size (bB (s.heap.objs.size+1) scope.names (au3 X.env.cells scope.names [])) s H fp) [] (aC9 src W) H s4:=by
 obtain⟨tk,rfl⟩:=e4
 have hk:∀ b o,s.heap.get? b=some o->(eJ (s.heap.push { cls:=.type "dict",data:=.dict #[] }) scope.names).get? b=some o:=λ b o e=>eW _ _ b o (az _ e)
 have ok:=cellsFrom_ok scope.names (s.heap.push { cls:=.type "dict",data:=.dict #[] }) (s.heap.objs.size+1) [] ⟨λ _ _ hm=>(nomatch hm),List.Pairwise.nil⟩ (by rw[cU];exact aw _)
 rw[cU]at ok
 have Z:=zD scope.names (s.heap.objs.size+1) (au3 X.env.cells scope.names [])
 have lk:∀ x c,(bB (s.heap.objs.size+1) scope.names (au3 X.env.cells scope.names [])).lookup x=some c ->
   ((x,c)∈bB (s.heap.objs.size+1) scope.names []/\(x,NameKind.cell)∈scope.names)\/(X.env.cells.lookup x=some c/\(bB (s.heap.objs.size+1) scope.names []).lookup x=none):=λ x c e=>by
  rw[Z,qE]at e
  cases q:(bB (s.heap.objs.size+1) scope.names []).lookup x with
  | some d =>
   rw[q]at e
   have e':d=c:=aG e
   subst e'
   have hm:=bn q
   refine .inl ⟨hm,?_⟩
   rcases zM hm with z|z
   .exact z
   .exact absurd z (by simp)
  | none =>
   rw[q]at e
   have e':(au3 X.env.cells scope.names []).lookup x=some c:=e
   rcases clOf_mem (bn e')with z|z
   .exact .inr ⟨z,rfl⟩
   .exact absurd z (by simp)
 have up:∀ x c,(x,c)∈bB (s.heap.objs.size+1) scope.names []->s.heap.objs.size+1<=c:=λ x c h=>(ok.empty x c h).2
 have b3:∀ x c,X.env.cells.lookup x=some c->c<s.heap.objs.size:=λ x c h=>by
  obtain⟨v,q⟩:=I.cell x c h
  exact q.lt
 have a0:∀ b,b<s.heap.objs.size->b≠s.heap.objs.size:=λ b h=>aL h
 have b0:∀ b∈fp,H b=none/\b≠X.env.locals/\b ∉ X.fs:=λ b hb=>⟨(hf b hb).1,(hf b hb).2.1,(hf b hb).2.2.1⟩
 have b4:(eJ (s.heap.push { cls:=.type "dict",data:=.dict #[] }) scope.names).Ns s.heap.objs.size (λ _=>none):=(Heap.Ns.new s.heap (.type "dict")).keeps (eW _ _)
 have Y:∀ x k,scope.names.lookup x=some k->(eM scope X.env).names.lookup x=some (if(k==NameKind.free&&X.env.scope.kind==.function&&X.env.kindOf x==some .cell)then NameKind.cell else k):=λ x k e=>qb (env:=X.env) e
 have a3:∀ x,scope.names.lookup x=none->(eM scope X.env).names.lookup x=none:=λ x e=>z8 (env:=X.env) e
 have a6:∀ x c,(x,NameKind.free)∈scope.names->X.env.cells.lookup x=some c->(bB (s.heap.objs.size+1) scope.names (au3 X.env.cells scope.names [])).lookup x=some c:=λ x c hx hc=>by
  rw[Z,qE]
  cases q:(bB (s.heap.objs.size+1) scope.names []).lookup x with
  | some d =>
   rcases zM (bn q)with z|z
   .have:=G.cel _ z rfl _ hx rfl
    cases this
   .exact absurd z (by simp)
  | none=>exact aM6 hc hx
 have a5:∀ x,(x,NameKind.free)∈scope.names->∃ c,X.env.cells.lookup x=some c:=λ x hx=>I.ok.has x (G.fr _ hx rfl)
 refine⟨⟨I.ok.mod,G.kind,I.ok.glob,I.ok.blt,aw _,λ x y c e1 e2=>?_,λ x hx=>?_,λ x c hx e=>?_,I.ok.hd,I.ok.frames,.inl rfl,λ b hb=>⟨a0 b (b2 b hb),λ x c e z=>?_⟩,I.bs,av I.ok.bsz I.sz,λ b o e hb=>?_,λ b hb z=>?_,I.stack,I.stkFree⟩,
  rfl,I.bare,Un.kept hk,⟨_,b4,λ i x v e1 e2 e3=>?_⟩,λ x c e=>?_,I.hok.fresh (aw _),λ x c e=>?_,λ p hp=>absurd (show p∈([]:yA)from hp) (by simp),I.hok.kept hk,by unfold aC9;rw[aE];exact G.len⟩
 .rcases lk x c e1 with⟨a1,_⟩|⟨a1,_⟩<;>rcases lk y c e2 with⟨a2,_⟩|⟨a2,_⟩
  .exact name_of_addr ok.apart a1 a2
  .exact absurd (aF (b3 _ _ a2) (fD (up _ _ a1))) (bF _)
  .exact absurd (aF (b3 _ _ a1) (fD (up _ _ a2))) (bF _)
  .exact I.ok.inj x y c a1 a2
 .cases q:scope.names.lookup x with
  | none =>
   have B:(eM scope X.env).names.lookup x=some .cell\/(eM scope X.env).names.lookup x=some .free:=hx
   rw[a3 x q]at B
   rcases B with z|z<;>cases z
  | some k =>
   have B:(eM scope X.env).names.lookup x=some .cell\/(eM scope X.env).names.lookup x=some .free:=hx
   rw[Y x k q]at B
   cases k with
   | free =>
    obtain⟨c,hc⟩:=a5 x (bn q)
    exact⟨c,a6 x c (bn q) hc⟩
   | cell =>
    obtain⟨c,hc⟩:=aq1 (n:=s.heap.objs.size+1) q
    exact⟨c,by show(bB _ _ _).lookup x=_;rw[Z,qE,hc];rfl⟩
   | _=>rcases B with z|z<;>cases z
 .have B:(scope.names.lookup x==some .cell)=true:=hx
  have q:scope.names.lookup x=some .cell:=by simpa using B
  rcases lk x c e with⟨a,_⟩|⟨a,b⟩
  .have:=up _ _ a;show s.heap.objs.size<=c;omega
  .obtain⟨d,hd⟩:=aq1 (n:=s.heap.objs.size+1) q
   rw[hd]at b;cases b
 .subst z
  rcases lk x c e with⟨a,_⟩|⟨a,_⟩
  .exact absurd (aF (b2 c hb) (fD (up _ _ a))) (bF _)
  .exact(hf c hb).2.2.2.2.1 x c a rfl
 .rcases(hf b hb).2.2.2.1 with z|z
  .exact I.ok.noex b o e z
  .exact absurd (aF (aO e) (av I.ok.bsz z)) (bF _)
 .rcases aH.mp (I.stkSub b z)with y|y
  .exact(b0 b hb).2.1 y
  .exact(b0 b hb).2.2 y
 .have F:(aC9 src W)[i]?=some (some v):=e2
  unfold aC9 at F
  rw[aS]at F
  cases q:src[i]? with
  | none=>rw[q]at F;cases F
  | some o =>
   rw[q]at F
   cases o with
   | none=>cases F
   | some j =>
    have J:(W[j]?).join=some v:=aG F
    have ej:W[j]?=some (some v):=by
     cases q2:W[j]? with
     | none=>rw[q2]at J;cases J
     | some o2=>rw[q2]at J;exact congrArg some J
    obtain⟨h1,h2⟩:=G.sr i j x q e1
    have hm:=bn h2
    obtain⟨mX,b6,b5⟩:=I.loc
    have b1:Vis X.env.scope x:=by
     rcases G.fr _ hm rfl with z|z
     .exact .inr (.inl z)
     .exact .inr (.inr z)
    obtain⟨u,ru,look⟩:=b5 j x v h1 ej b1
    refine⟨u,ru,.inr ?_⟩
    have hcell:∃ c,X.env.cells.lookup x=some c/\s.heap.IsCell c (some u):=by
     rcases look with⟨z,_⟩|⟨_,c,z1,z2⟩
     .have z':X.env.scope.names.lookup x=some .local:=z
      rcases G.fr _ hm rfl with y|y<;>(rw[z']at y;cases y)
     .exact⟨c,z1,z2⟩
    obtain⟨c,c1,c2⟩:=hcell
    refine⟨?_,c,a6 x c hm c1,c2.keeps hk⟩
    show(eM scope X.env).names.lookup x=some .cell\/(eM scope X.env).names.lookup x=some .free
    rw[Y x _ h2]
    by_cases hc:(NameKind.free==NameKind.free&&X.env.scope.kind==.function&&X.env.kindOf x==some .cell)=true
    .rw[if_pos hc];exact .inl rfl
    .rw[if_neg hc];exact .inr rfl
 .rcases lk x c e with⟨a,_⟩|⟨a,_⟩
  .exact⟨_,(ok.empty x c a).1⟩
  .obtain⟨v,q⟩:=I.cell x c a
   exact⟨v,q.keeps hk⟩
 .rcases lk x c e with⟨a,_⟩|⟨a,_⟩
  .exact I.hok.fresh (by have:=up _ _ a;omega)
  .exact I.freeC x c a
theorem aP1 {X:Cx}{Z:yH}{scope:Scope}{h:yA}{W W':St}{H G:Hp}{s s5:ai}{F:List Addr}{cells:yB}{h':Heap}
  (I:Inv X h W H s) (Y:∀ b∈F,FpOk X h H b) (J:Inv (zB X Z scope s.heap.objs.size cells s H F) [] W' G s5) (hs:dY s.heap.objs.size s5.heap h') :
  Inv X h W G { s5 with heap:=h' }:=by
 have B:∀ b o,s.heap.get? b=some o->b≠s.heap.objs.size:=λ b o e=>aL (aO e)
 have u:Un (frs X.stack) F H G s.heap s5.heap:=J.base
 refine I.call' (s':={ s5 with heap:=h' }) (ch:=F) J.os ⟨λ b o e n hb hx=>?_,λ b o e n hb hx=>?_,λ b o e n hx=>u.free b o e n hx,λ b o e hx=>?_,u.tups,u.frzs,u.tbls⟩ (λ b o e=>?_) J.bare λ b hb=>⟨(Y b hb).2.2.2.1,(Y b hb).2.1,(Y b hb).2.2.2.2.1,(Y b hb).2.2.2.2.2⟩
 .exact(hs.2 b (B b o e)).trans (u.keep b o e n hb hx)
 .obtain⟨sl,q⟩:=u.slot b o e n hb hx
  exact⟨sl,(hs.2 b (B b o e)).trans q⟩
 .obtain⟨o',q⟩:=u.there b o e hx
  exact⟨o',(hs.2 b (B b o e)).trans q⟩
 .have fr:G s.heap.objs.size=none:=J.free
  refine(J.hok b o e).stay (λ c w' hc q=>(hs.2 c ?_).trans q) (λ _ q=>q) λ _ _ q=>q
  rintro rfl
  rcases hc with z|hc
  .rw[<-z,fr]at e;cases e
  .rw[fr]at hc;cases hc
theorem al4 {M:Model}{A:aV}{E:Value->ai->Prop}{s:ai}{scope:Scope}{globals:Addr}{F:yB}{qual:Str}{B:Env}{Q:Env->ai->Prop}
  (h:Q { scope:=scope,locals:=s.heap.objs.size,globals:=globals,cells:=bB (s.heap.objs.size+1) scope.names F,qual:=qual,func:=none,code:=B.code,frame:=B.frame,builtins:=B.builtins }
   { s with heap:=eJ (s.heap.push { cls:=.type "dict",data:=.dict #[] }) scope.names }) :
  wpAny M A (newFunctionEnv scope globals F [] qual none .none (some B)) Q E s:=by
 simp only[newFunctionEnv,fv,if_true]
 refine ak (wpAny_alloc ?_)
 refine ak (wpAny_layCells _ (λ name kind cells=>by cases hkc:kind==NameKind.cell<;>simp[hkc]) _ _ _ _ ?_)
 rw[show({ s with heap:=s.heap.push { cls:=.type "dict",data:=.dict #[] } }:ai).heap.objs.size=s.heap.objs.size+1 from cU ..]
 refine ak ?_
 rw[gY]
 exact aD (aD h)
theorem aE5 {X':Cx}{R:jS->ai->Prop}{a0 tg iter:Expr}{a4:yK}{scope:Scope}{pos:Pos}{g:TG}{tc:TT}{te:TE}{J:It}{fp:List Addr}{it D:Addr}{tn:Nat->Heap->Prop}{Ww:Nat->Nat->St->Hp->Prop}
  {QD:Hp->Prop} {W0:St} {H0:Hp} {s4:ai} {m0:Nat} (hx:X'.xe=λ _ _=>False) (F:X'.calm=true) (I4:Inv X' [] W0 H0 s4) (T:Turn X'.prog X'.w X'.K tg J fp it tn) (b0:tn 0 s4.heap)
  (B:∀ H':Hp,(∀ b∈fp,H' b=none)->∀ b∈fp,FpOk X' [] H' b) (a6:∀ b∈fp,H0 b=none) (w0:Ww 0 m0 W0 H0)
  (turn:∀ i m W' H',Ww i m W' H'->(J.stop i H'/\QD H')\/(J.go i H'/\∃ N:St->Hp->Prop,(∀ W2 H2,N W2 H2->∃ m',m'<m/\Ww (i+1) m' W2 H2) /\
   ∀ x H2,J.yld i H' x H2->g x W' H2 λ W3 G=>tc W3 G λ b H4=>if b=true then te W3 H4 λ v H5=>∃ ys,H5 D=some (.lst ys)/\ys.length<aN/\N W3 (upd H5 D (.lst (ys++[v])))else N W3 H4))
  (hg:PG X' tg g) (hif:PIf X' a4 tc) (he:PE X' a0 te) (a2:∀ W' H' s',Inv X' [] W' H' s'->QD H'->R (.ok .next) s') :
  gf (model X'.prog X'.w) X'.A (.compLoop (.ListComp a0 [⟨tg,iter,a4,0⟩] scope pos) 0 (.ref it) (.ref D) X'.env) R s4:=by
 have nox:∀ {α:Type} {t:Sem α} {Q Q':α->ai->Prop} {E:Value->ai->Prop} {s:ai},wpAny (model X'.prog X'.w) X'.A t Q X'.xe s->(∀ a s,Q a s->Q' a s)->wpAny (model X'.prog X'.w) X'.A t Q' E s :=
  λ h hQ=>bq h hQ λ _ _ z=>by rw[hx]at z;exact z.elim
 refine bc4 (λ n s'=>∃ i W' H',Inv X' [] W' H' s'/\tn i s'.heap/\(∀ b∈fp,H' b=none)/\Ww i n W' H') ?_ m0 ⟨0,W0,H0,I4,b0,a6,w0⟩
 rintro n s3 ⟨i,W3,G,I3,a1,a3,w3⟩
 rcases turn i n W3 G w3 with⟨stop,qn⟩|⟨go,N,hN,step⟩
 .refine nox (T.done X' rfl rfl rfl F i [] s3 W3 G X'.xe I3 (B G a3) a1 stop) λ r s4 ⟨hr,I4⟩=>?_
  subst hr
  exact a2 W3 G s4 I4 qn
 .refine nox (T.item X' rfl rfl rfl F i [] s3 W3 G X'.xe I3 (B G a3) a1 go) λ r s4 ⟨u,hr,h4⟩=>?_
  subst hr
  refine nox h4 λ _ s5 ⟨x,H5,I5,r5,y5,Y,a5⟩=>?_
  have b1:=I5.pinned (B H5 a5) (T.obj _ _ Y)
  refine nox (hg _ s5 W3 H5 x u _ b1 r5 (step x H5 y5)) λ _ s6 ⟨W6,H6,I6,q6⟩=>?_
  have again:∀ {W7:St} {Z:Hp} {s7:ai},Inv X' ([]++aG1 fp s5.heap) W7 Z s7->N W7 Z->∃ m,m<n/\∃ i W' H',Inv X' [] W' H' s7/\tn i s7.heap/\(∀ b∈fp,H' b=none)/\Ww i m W' H':=λ {W7 Z s7} I7 n7=>by
   obtain⟨m',hm,w7⟩:=hN W7 Z n7
   refine⟨m',hm,i+1,W7,Z,I7.unpinned,T.keep _ _ _ Y λ b hb o e=>(I7.pin (b,o) (aM _ (aM _ (qJ hb e)))).1,λ b hb=>?_,w7⟩
   obtain⟨o,e,d⟩:=T.obj _ _ Y b hb
   exact(I7.pin (b,o) (aM _ (aM _ (qJ hb e)))).2.1
  refine nox (hif _ s6 W6 H6 _ I6 q6) λ b s7 ⟨Z,I7,q7⟩=>?_
  cases b with
  | false =>
   rw[if_neg aW]at q7 ⊢
   exact again I7 q7
  | true =>
   rw[if_pos rfl]at q7 ⊢
   refine nox (he _ s7 W6 Z _ I7 q7) λ v s8 ⟨y,H8,I8,r8,ys,hy,hz,q8⟩=>?_
   refine nox (aE1 _ s8 W6 H8 (.ref D) [y] (.ref D) [v] (λ _ H9=>N W6 H9) I8 rfl (.cons r8 .nil) ⟨D,ys,y,rfl,rfl,hy,hz,q8⟩) λ v9 s9 ⟨_,H9,I9,_,q9⟩=>?_
   exact again I9 q9
theorem aZ2 {X:Cx}{a1 tg iter:Expr}{a0:yK}{scope:Scope}{pos:Pos}{wi:TI}{g:TG}{tc:TT}{te:TE}(Z:yH)(src:yD)
  (b3:zO Z src scope X.N X.env.scope=true) (hi:PI X tg iter wi) (G:X.calm=true)
  (b0:∀(Cc:Addr) (cells:yB) (s:ai) (H:Hp) (ex:List Addr),PG (zB X Z scope Cc cells s H ex) tg g/\PIf (zB X Z scope Cc cells s H ex) a0 tc/\PE (zB X Z scope Cc cells s H ex) a1 te)
  (hs:∀ x,dk iter X.env x=pure x:=by intro _;rfl):PE X (.ListComp a1 [⟨tg,iter,a0,0⟩] scope pos) (tComp src wi g tc te):=by
 intro B s W H Q I h
 have ck:=bw1 b3
 rw[eval_ListComp]
 have hcl:=am7 (scope:=scope) (env:=X.env) λ y hy e=>I.ok.has y.1 (ck.fr y hy e)
 refine fO (use:=none) rfl hs hcl ck.kind ck.loc (thn (hi B s W H _ I h) λ v s1 h1=>thn h1 λ b5 s2 h2=>?_)
 obtain⟨it,F,tn,J,H2,e,I2,T,a5,f2,Ww⟩:=h2
 subst e
 have hD:=I2.fresh
 obtain⟨Ww,⟨m0,w0⟩,turn⟩:=Ww _ hD
 have I3:=I2.lnew (its:=[]) (ys:=[]) (t':=s2.toks) .nil (b9 _)
 have a3:∀ b∈F,b<s2.heap.objs.size:=λ b hb=>by obtain⟨o,q,_⟩:=T.obj _ _ a5 b hb;exact aO q
 have f3:∀ b∈F,FpOk X B (upd H2 s2.heap.objs.size (.lst [])) b:=λ b hb=>⟨by rw[zn (aL (a3 b hb))];exact(f2 b hb).1,(f2 b hb).2⟩
 refine bG (al4 ?_)
 generalize Y:({ s2 with heap:=s2.heap.push { cls:=.type "list",data:=.seq ([]:yG).toArray },toks:=s2.toks }:ai)=s3 at I3
 have b4:({ s2 with heap:=s2.heap.push { cls:=.type "list",data:=.seq ([]:yG).toArray } }:ai)=s3:=Y
 have b1:∀ b∈F,b<s3.heap.objs.size:=λ b hb=>by
  rw[<-Y]
  show b<(s2.heap.push _).objs.size
  rw[cU]
  exact fF (a3 b hb)
 have I4:=av1 (s4:={ s3 with heap:=eJ (s3.heap.push { cls:=.type "dict",data:=.dict #[] }) scope.names }) ck I3 f3 b1 ⟨_,rfl⟩
 have a4:tn 0 (eJ (s3.heap.push { cls:=.type "dict",data:=.dict #[] }) scope.names):=T.keep _ _ _ a5 λ b hb o e=>eW _ _ b o (az _ (by rw[<-Y];exact az _ e))
 obtain⟨hg,hif,he⟩:=b0 s3.heap.objs.size (bB (s3.heap.objs.size+1) scope.names (au3 X.env.cells scope.names [])) s3 (upd H2 s2.heap.objs.size (.lst [])) F
 have a2:∀ H':Hp,(∀ b∈F,H' b=none)->∀ b∈F,FpOk (zB X Z scope s3.heap.objs.size (bB (s3.heap.objs.size+1) scope.names (au3 X.env.cells scope.names [])) s3 (upd H2 s2.heap.objs.size (.lst [])) F) [] H' b:=λ H' hn b hb =>
  ⟨hn b hb,(I4.ok.exf b hb).1,I4.ok.exfs b hb,.inl hb,λ x c e=>(I4.ok.exf b hb).2 x c e,λ p hp=>absurd (show p∈([]:yA)from hp) (by simp)⟩
 have T':Turn X.prog X.w X.K tg J F it tn:=T
 have b2:∀ b∈F,upd H2 s2.heap.objs.size (.lst []) b=none:=λ b hb=>(f3 b hb).1
 have L:=aE5 (X':=zB X Z scope s3.heap.objs.size (bB (s3.heap.objs.size+1) scope.names (au3 X.env.cells scope.names [])) s3 (upd H2 s2.heap.objs.size (.lst [])) F) (R:=compPost (model X.prog X.w) X.A X.xe none (EP X B W Q) (Value.ref s2.heap.objs.size) s3.heap.objs.size) (iter:=iter) (scope:=scope) (pos:=pos) (QD:=λ H'=>Q (.ref s2.heap.objs.size) H') rfl G I4 T' a4 a2 b2 w0 turn hg hif he
  (λ W' H' s' J' q=>by
   obtain⟨mm,hn,_⟩:=J'.loc
   exact⟨mm,hn,λ h' a6=>⟨.ref s2.heap.objs.size,H',aP1 I3 f3 J' a6,rfl,q⟩⟩)
 exact gy L (T.self _ _ _ _ _ a4 L)
section
variable {X:Cx}
theorem ci3:br "abs"=some (.builtin "abs"):=by decide +kernel
theorem cj0:br "len"=some (.builtin "len"):=by decide +kernel
theorem bB7:br "min"=some (.builtin "min"):=by decide +kernel
theorem aH1:br "isinstance"=some (.builtin "isinstance"):=by decide +kernel
theorem bU1:br "int"=some (.type "int"):=by decide +kernel
theorem bS9:br "bool"=some (.type "bool"):=by decide +kernel
theorem cb6:br "str"=some (.type "str"):=by decide +kernel
theorem aY6:br "tuple"=some (.type "tuple"):=by decide +kernel
theorem bw5:br "list"=some (.type "list"):=by decide +kernel
def ci5 (i j:Int):Prop:=0<j/\j<2^4096
theorem aV7 {y:Int}(h0:0<y)(h:y<2^4096):y.natAbs.log2<9000:=by
 have hn:y.natAbs<2^4096:=by
  have:(y.natAbs:Int)=y:=by omega
  have B:(y.natAbs:Int)<((2^4096:Nat):Int):=by rw[this];simpa using h
  exact jc.mp B
 have:=(Nat.log2_lt (by omega)).mpr hn
 omega
theorem bn1:OpR X (cj .FloorDiv) (rI ci5 λ i j=>.int (i / j)):=opI λ i j _ _ _ _ _ hc q=>by
 refine floordiv_int (by have:=hc.1;omega) ?_ (.inl (PyProof.noPylong_of_log2 (aV7 hc.1 hc.2)))
 rw[Int.fdiv_eq_ediv_of_nonneg i (by have:=hc.1;omega)]
 exact q
theorem aR1 {K:ah}(hK:X.K=K):IxR X (cq1 K):=by subst hK;exact bD7
theorem bF0 {K:ah}(hK:X.K=K):IxR X (cn9 K):=by subst hK;exact ix_tup
theorem at0 {K:ah}(hK:X.K=K):aj3 X (.builtin "len") (λ h H Q=>∃ p ys,h=[.ref p]/\(SqL K H p ys\/SqT K H p ys)/\Q (.int ys.length) H):=by subst hK;exact aC7
theorem aM5 {K:ah}(hK:X.K=K):aj3 X (.type "tuple") (λ h H Q=>∃ p ys,h=[.ref p]/\((SqL K H p ys/\∀ l,H l=none->Q (.ref l) (upd H l (.tup ys)))\/(SqT K H p ys/\Q (.ref p) H))):=by subst hK;exact ay5
theorem aV4 {K:ah}(hK:X.K=K):aj3 X (.type "list") (λ h H Q=>∃ p ys,h=[.ref p]/\(SqL K H p ys\/SqT K H p ys)/\∀ l,H l=none->Q (.ref l) (upd H l (.lst ys))):=by subst hK;exact aE0
theorem bq6 {K:ah}{tg l:Expr}{h:TE}(hK:X.K=K)(hl:PE X l h):PI X tg l (bC5 K h):=by subst hK;exact bJ0 hl
theorem bJ8 {K:ah}{tg l:Expr}{h:TE}(hK:X.K=K)(hl:PE X l h):PI X tg l (ck9 K h):=by subst hK;exact bY1 hl
theorem bE1 {K:ah}{pos:Pos}{es:yK}{k:Nat}{t:TGs}{n:Nat}(hK:X.K=K)(hc:X.calm=true)(h:PGs X es t)
  (hn:(cE es X.env).length=n:=by rfl) (B:(cE es X.env).findIdx? (·.1)=none:=by rfl):PG X (.Tuple es k pos) (cn0 K n t):=by subst hK;exact bR8 hc h hn B
end
structure DefAt (K:ah)(mg:yC)(x:Str)(st:Stmt)(ps:yH)(f:Addr)(fd:bS):Prop where
 fn:Fun K x x st f fd
 mg:mg x=some (.ref f)
 bi:Binds K fd ps []
@[irreducible] noncomputable def ct0 (p:Prop):Prop:=p
theorem ak9.new {p:Addr}{H B:Hp}{o:HO}(h:ak9 H B)(hp:B p=none):ak9 H (L2.upd B p o):=λ x o e=>by
 have e1:=h x o e
 rw[zn (zu e1 hp)]
 exact e1
section
variable {prog:aJ} {w:World} {A:aV} {R:jS->ai->Prop} {I:Addr} {fp wr:List Addr} {n:Nat} {P:Nat->Value->Prop} {St:Nat->Heap->Prop} {kw:List (Str×Value)}
theorem bf2 (Ww:Walks prog w A.in1 I fp wr n P St)(bt:Nat->Nat->Bool)(b1:CmpOf prog w A.in1 .Lt P bt)(S:Addr)(b2:S ∉ fp) :
  ∀(k j:Nat) (s:ai) (vb:Value) (c:Nat),n - (j+1)=k->j+1<=n->St (j+1) s.heap->P (dB bt j) vb ->
  s.heap.get? S=some { cls:=.type "list",dict:=none,data:=.seq #[vb,vb] c,slots:=#[] } ->
  (∀ v h' tk,P (dB bt (n - 1)) v->(∀ b o,b ∉ wr->b≠S->s.heap.get? b=some o->h'.get? b=some o)->R (.ok (.ret v)) { s with heap:=h',toks:=tk }) ->
  gf (model prog w) A (.builtin "min.loop" ⟨[.ref I,.none,.ref S],kw⟩) R s:=by
 have b0:S ∉ wr:=λ h=>b2 (Ww.sub _ h)
 have a0:(toString "min"++toString ".loop":String) = "min.loop":=by decide
 intro k
 induction k with
 | zero =>
  intro j s vb c hk hj a4 a1 hS hR
  have a6:j+1=n:=by omega
  refine gE fY ?_
  rw[eQ cB _]
  show wpAny _ A.in1 (hZ (.ref S) >>= _) _ _ s
  refine ak (cR hS rfl ?_)
  show wpAny _ A.in1 (tryCatch (jk (.ref I)) _ >>= _) _ _ s
  refine ak (d8 (Ww.done s _ _ (a6▸a4) λ h' tk F=>?_))
  have Y:=F S _ b0 hS
  show wpAny _ A.in1 (updateSeq S (λ _=>#[]) >>= _) _ _ _
  refine ak ?_
  refine gF Y rfl (ak (gZ (aD ?_)))
  refine hR vb _ tk (by rw[<-a6];exact a1) λ b o B G e=>(bO _ _ (cz G)).trans (F b o B e)
 | succ k ih =>
  intro j s vb c hk hj a4 a1 hS hR
  have hlt:j+1<n:=by omega
  refine gE fY ?_
  rw[eQ cB _]
  show wpAny _ A.in1 (hZ (.ref S) >>= _) _ _ s
  refine ak (cR hS rfl ?_)
  show wpAny _ A.in1 (tryCatch (jk (.ref I)) _ >>= _) _ _ s
  refine ak (d8 (Ww.item (j+1) s _ _ hlt a4 λ v h' tk hP a2 F=>?_))
  have Y:=F S _ b0 hS
  show wpAny _ A.in1 (tryCatch (iV [v,v] (richCompare .Lt v vb >>= _)) _ >>= _) _ _ _
  refine ak (d8 (da (ak (b1 (j+1) (dB bt j) v vb _ _ _ hP a1 ?_))))
  refine ak (da (cw ?_))
  refine ak (gZ (aD ?_))
  cases hb:bt (j+1) (dB bt j)with
  | true =>
   simp only[if_true]
   refine ak ?_
   refine gF Y rfl (ak (gZ ?_))
   rw[a0]
   refine aD ⟨fP cB _,ih (j+1) _ v _ (by omega) hlt (Ww.frame _ _ _ a2 λ b b3 o e=>?_) (by simp only[dB,hb,if_true];exact hP) (dg _ Y rfl)
    λ v' a3 J a5 Z=>?_⟩
   .exact(bO _ _ (λ h:S=b=>b2 (by rw[h];exact b3))).trans e
   .exact hR v' a3 J a5 λ b o B G e=>Z b o B G ((bO _ _ (cz G)).trans (F b o B e))
  | false =>
   simp only[ac,if_false]
   refine ak (gZ ?_)
   rw[a0]
   refine aD ⟨fP cB _,ih (j+1) _ vb c (by omega) hlt a2 (by simp only[dB,hb,ac,if_false];exact a1) Y λ v' a3 J a5 Z=>?_⟩
   exact hR v' a3 J a5 λ b o B G e=>Z b o B G (F b o B e)
theorem aX2 (Ww:Walks prog w A.in1 I fp wr n P St)(bt:Nat->Nat->Bool)(a3:CmpOf prog w A.in1 .Lt P bt)(S:Addr)(J:S ∉ fp){s:ai}{c:Nat}{d:Value}(a2:St 0 s.heap)
  (hS:s.heap.get? S=some { cls:=.type "list",dict:=none,data:=.seq #[] c,slots:=#[] })
  (h0:n=0->∀ h' tk,(∀ b o,b ∉ wr->b≠S->s.heap.get? b=some o->h'.get? b=some o)->R (.ok (.ret d)) { s with heap:=h',toks:=tk })
  (hR:0<n->∀ v h' tk,P (dB bt (n - 1)) v->(∀ b o,b ∉ wr->b≠S->s.heap.get? b=some o->h'.get? b=some o)->R (.ok (.ret v)) { s with heap:=h',toks:=tk }) :
  gf (model prog w) A (.builtin "min.loop" ⟨[.ref I,.none,.ref S],[(bH "default",d)]⟩) R s:=by
 have b0:S ∉ wr:=λ h=>J (Ww.sub _ h)
 have G:(toString "min"++toString ".loop":String) = "min.loop":=by decide
 refine gE fY ?_
 rw[eQ cB _]
 show wpAny _ A.in1 (hZ (.ref S) >>= _) _ _ s
 refine ak (cR hS rfl ?_)
 show wpAny _ A.in1 (tryCatch (jk (.ref I)) _ >>= _) _ _ s
 rcases Nat.eq_zero_or_pos n with hn|hn
 .refine ak (d8 (Ww.done s _ _ (hn▸a2) λ h' tk F=>?_))
  show wpAny _ A.in1 (rule _ >>= _) _ _ _
  refine ak (dq (aD ?_))
  exact h0 hn h' tk λ b o B _ e=>F b o B e
 .refine ak (d8 (Ww.item 0 s _ _ hn a2 λ v h' tk hP Y F=>?_))
  have a0:=F S _ b0 hS
  show wpAny _ A.in1 (updateSeq S (λ _=>#[v,v]) >>= _) _ _ _
  refine ak ?_
  refine gF a0 rfl ?_
  rw[G]
  refine aD ⟨fP cB _,bf2 Ww bt a3 S J _ 0 _ v _ rfl hn (Ww.frame _ _ _ Y λ b a6 o e=>?_) hP (dg _ a0 rfl) λ v' a5 Z b1 a1=>?_⟩
  .exact(bO _ _ (λ h:S=b=>J (by rw[h];exact a6))).trans e
  .exact hR hn v' a5 Z b1 λ b o B a4 e=>a1 b o B a4 ((bO _ _ (cz a4)).trans (F b o B e))
end
theorem aY0 (a d:Value):argsOk "min" ⟨[a],[(bH "default",d)]⟩:=by unfold argsOk;kernel_rfl
theorem qP (val : Nat -> Int) : ∀ k j, j <= k -> val (dB (λ i j => decide (val i < val j)) k) <= val j
  | 0, j, h => by have : j = 0 := by omega
                  subst this; exact fG _
  | k + 1, j, h => by
    have ih := qP val k
    unfold dB
    by_cases hb : val (k + 1) < val (dB (λ i j => decide (val i < val j)) k)
    . rw[if_pos (by simpa using hb)]
      by_cases hj : j = k + 1
      . subst hj; exact fG _
      . have := ih j (by omega); omega
    . rw[if_neg (by simpa using hb)]
      by_cases hj : j = k + 1
      . subst hj; omega
      . exact ih j (by omega)
def bK7 (K:ah):V->V->Hp->VK->Prop:=λ x d H Q=>∃ a ns,x=.ref a/\SqL K H a (ns.map V.int)/\(ns=[]->Q d H)/\∀ m∈ns,(∀ y∈ns,m<=y)->Q (.int m) H
theorem aA1 {ns:List Int}{its:yG}(r:Vals (ns.map V.int) its){i:Nat}{v:Value}(h:its[i]?=some v):∃ z t,ns[i]?=some z/\v=Value.int z t:=by
 have hl:=r.length
 rw[aE]at hl
 have B:i<its.length:=(ae.mp h).1
 obtain⟨u,e1,q⟩:=r.get (i:=i) (x:=.int ns[i]) (by rw[aS,au (by omega)];rfl)
 rw[h]at e1;cases e1
 obtain⟨t,rfl⟩:=q
 exact⟨_,t,au (by omega),rfl⟩
theorem bm4 {X:Cx}{B:yA}{W:St}{H:Hp}{s:ai}{x d:V}{u Z:Value}{Q:VK}(hc:X.calm=true)(I:Inv X B W H s)(rx:RelV x u)(rd:RelV d Z)(h:bK7 X.K x d H Q) :
  wpAny (model X.prog X.w) X.A (call (.builtin "min") [u] [(bH "default",Z)]) (EP X B W Q) X.xe s:=by
 obtain⟨a,ns,rfl,hS,q0,qm⟩:=h
 cases rx
 obtain⟨its,rv,pl,hz⟩:=I.list hS
 have hl:=rv.length
 rw[aE]at hl
 have Y:(toString "min"++toString ".loop":String) = "min.loop":=by decide
 refine kmb_tree F.kind_min F.plain_min F.entry_min (aY0 _ _) ?_
 show wpAny _ X.A.in1 (fe "min" ["key", "default"] 0 ⟨[],[(bH "default",Z)]⟩ >>= _) _ _ s
 refine ak (wpAny_of_eq (show fe "min" ["key", "default"] 0 ⟨[],[(bH "default",Z)]⟩=pure [none,some Z]from rfl) ?_)
 refine ak (aD ?_)
 refine ak (d4 pl.isList ?_)
 have a2:a<s.heap.objs.size:=by obtain⟨o,_,e,_⟩:=pl;exact aO e
 have Ww:=kM (prog:=X.prog) (w:=X.w) (A:=X.A.in1) (I.ok.hd hc) s.heap.objs.size a (aL a2) its.toArray
 refine ak (bG ?_)
 generalize J:s.heap.push _=h2
 have G:h2.objs.size=s.heap.objs.size+1:=by rw[<-J,cU]
 have a0:∀ b o,s.heap.get? b=some o->h2.get? b=some o:=λ b o e=>by rw[<-J];exact az _ e
 have a4:h2.objs.size ∉ [s.heap.objs.size,a]:=by
  rw[G]
  intro z
  rcases aH.mp z with z|z
  .exact absurd z (Nat.succ_ne_self _)
  .have z':s.heap.objs.size+1=a:=by simpa using z
   exact absurd (aF a2 (by rw[<-z'];exact dt _)) (bF _)
 have a3:(h2.push { cls:=.type "list",data:=.seq ([]:yG).toArray }).IsListIter s.heap.objs.size a 0/\(h2.push { cls:=.type "list",data:=.seq ([]:yG).toArray }).IsList a its.toArray:=by
  refine⟨⟨_,az _ (by rw[<-J];exact a9 _ rfl),rfl,rfl⟩,?_⟩
  obtain⟨o,e,r⟩:=pl.isList
  exact⟨o,az _ (a0 _ _ e),r⟩
 let val:Nat->Int:=λ i=>ns.getD i 0
 have a1:∀ i v,its.toArray[i]?=some v->∃ t,v=Value.int (val i) t:=λ i v e=>by
  obtain⟨z,t,e1,e2⟩:=aA1 rv (i:=i) (v:=v) (by rw[di]at e;exact e)
  refine⟨t,?_⟩
  rw[e2]
  show Value.int z t=Value.int (ns.getD i 0) t
  rw[bE,e1]
  rfl
 rw[Y]
 have nx:∀(h':Heap) (tk:Nat),(∀ b o,b ∉ [s.heap.objs.size]->b≠h2.objs.size->(h2.push { cls:=.type "list",data:=.seq ([]:yG).toArray }).get? b=some o->h'.get? b=some o)->Inv X B W H { s with heap:=h',toks:=tk }:=λ h' tk k=>I.kept λ b o e=>by
  refine k b o ?_ ?_ (az _ (a0 b o e))
  .intro z
   have z':b=s.heap.objs.size:=by simpa using z
   exact absurd (aO e) (by rw[z'];exact bF _)
  .intro z
   exact absurd (aO e) (by rw[z,G];exact jW.mpr (dt _))
 refine aD ⟨fP cB _,aX2 (d:=Z) Ww _ (j9 val a1) h2.objs.size a4 a3 (a9 _ rfl) (λ hn h' tk k=>?_) λ hn v h' tk hP k=>?_⟩
 .have e:ns=[]:=by
   have:its.toArray.size=0:=hn
   have:its.length=0:=by simpa using this
   exact bU.mp (by omega)
  exact⟨d,H,nx h' tk k,rd,q0 e⟩
 .obtain⟨z,t,e1,e2⟩:=aA1 rv (i:=dB (λ i j=>decide (val i<val j)) (its.toArray.size - 1)) (v:=v) (by rw[di]at hP;exact hP)
  subst e2
  have hv:val (dB (λ i j=>decide (val i<val j)) (its.toArray.size - 1))=z:=by
   show ns.getD _ 0=z
   rw[bE,e1]
   rfl
  refine⟨.int z,H,nx h' tk k,⟨t,rfl⟩,qm z (aR e1) λ y hy=>?_⟩
  obtain⟨j,hj,e3⟩:=du.mp hy
  have:=qP val (its.toArray.size - 1) j (by simp only[aB];omega)
  rw[hv]at this
  have e4:val j=y:=by
   show ns.getD j 0=y
   rw[bE,au hj]
   exact e3
  omega
def ci9 (K:ah)(ta td:TE):TE:=λ W H Q=>ta W H λ x H1=>td W H1 λ d H2=>bK7 K x d H2 Q
theorem by3 {X:Cx}{K:ah}{e Y:Expr}{J G:TE}{p pos kp:Pos}(hK:X.K=K)(hc:X.calm=true)(hg:Gl X "min")(hm:X.mg "min"=none)(ha:PE X e J)(hd:PE X Y G)
  (hs:bz [e] X.env=[(false,eval e X.env)]:=by rfl) :
  PE X (.Call (.Name "min" p) [e] [⟨some "default",Y,kp⟩] pos) (ci9 K J G):=by
 subst hK
 intro B s W H Q I h
 refine cW (aD6 I hg hm bB7 ?_)
 have h':aD8 J bp7 W H (λ vs F=>match vs with|[x]=>G W F λ d Z=>bK7 X.K x d Z Q|_=>False):=h
 refine callWith_kw (env:=X.env) (thn ((z7 ha ak2 hs) pos B s W H _ I h') λ us s1 ⟨vs,F,I1,r1,q1⟩=>?_) (by rw[hs];rfl) (by rw[hs];rfl)
 match vs,q1,r1 with
 | [x],q1,r1 =>
  obtain⟨u,rfl,ru⟩:=am3 r1
  refine kws_cons (thn (hd B s1 W F _ I1 q1) λ v s2 ⟨d,Z,I2,rd,q2⟩=>kws_nil ?_)
  exact bm4 hc I2 ru rd q2
inductive D where
 | non|bl (b:Bool)|int (i:Int)|str (x:Str)|tup (l:List D)|lst (l:List D)
mutual
noncomputable def D.deep:D->Nat
 | .tup l=>D.deepL l+1
 | .lst l=>D.deepL l+1
 | _=>0
noncomputable def D.deepL:List D->Nat
 | []=>0
 | d::l=>max (D.deep d) (D.deepL l)
end
section
variable {X:Cx}
end
section
variable {X:Cx}
def cj8 (K:ah):R2:=λ x y H Q=>∃ a b xs ys,x=.ref a/\y=.ref b/\SqT K H a xs/\SqT K H b ys/\xs.length+ys.length<=aN/\∀ p H',ak9 H H'->SqT K H' p (xs++ys)->(H' p=some (.tup (xs++ys))\/(p=a/\ys=[])\/(p=b/\xs=[]))->Q (.ref p) H'
theorem bJ6 {prog:aJ}{w:World}{A:aV}{E:Value->ai->Prop}{s:ai}{t b:Addr}{ws:yG}{Q:Value->ai->Prop}(ht:IsTup s.heap t ([]:yG).toArray)(hb:IsTup s.heap b ws.toArray)(h1:Q (.ref b) s) :
  wpAny (model prog w) A (cj .Add (.ref t) (.ref b)) Q E s:=by
 obtain⟨⟨cls,dd,data,sl⟩,ho,hc,n,hd⟩:=id ht
 obtain⟨⟨Z,Y,J,G⟩,F,B,n2,h⟩:=id hb
 simp only at hc hd B h
 subst hc hd B h
 exact i7 ⟨_,ho,rfl⟩ ⟨_,F,rfl⟩ fX iD d5 dS (dH _ _)
   (tuple_addW0 t b _ ws.toArray n n2 dd Y sl G rfl) ⟨ho,F,h1⟩
theorem bC3 {K:ah}(hK:X.K=K):OpR X (cj .Add) (cj8 K):=by
 subst hK
 intro B s W H x y v u Q I Y J h
 obtain⟨a,b,G,ys,e1,e2,ha,hb,hz,q⟩:=h
 by_cases hx:G=[]
 .subst e1;subst e2;subst hx
  cases Y;cases J
  obtain⟨its,r1,p1,_⟩:=I.tuple ha
  obtain⟨F,r2,Z,_⟩:=I.tuple hb
  obtain rfl:its=[]:=r1.nil_iff.mpr rfl
  exact bJ6 p1 Z ⟨.ref b,H,I,rfl,q b H (ak9.refl H) hb (.inr (.inr ⟨rfl,rfl⟩))⟩
 .refine bD1 B s W H x y v u Q I Y J ⟨a,b,G,ys,e1,e2,ha,hb,hx,hz,λ z=>?_,λ z p hp=>?_⟩
  .subst z
   exact q a H (ak9.refl H) (by rw[bw];exact ha) (.inr (.inl ⟨rfl,rfl⟩))
  .exact q p _ ((ak9.refl H).new hp) (SqT.of zy) (.inl zy)
def cr4 (K:ah):V->Option Int->Option Int->Hp->VK->Prop:=λ x lo hi H Q=>∃ a xs,x=.ref a/\SqT K H a xs/\∀ p H',ak9 H H'->SqT K H' p (aW7 xs lo hi)->(H' p=some (.tup (aW7 xs lo hi))\/(p=a/\aW7 xs lo hi=xs))->Q (.ref p) H'
theorem ax9 {prog:aJ}{w:World}{A:aV}{E:Value->ai->Prop}{s:ai}{t sl:Addr}{B:yJ}{vl vu:Value}{F Y:Option Int}{Q:Value->ai->Prop}(G:IsTup s.heap t B)(hs:s.heap.IsSliceOf sl vl vu .none)(pl:fN vl F)(pu:fN vu Y)
  (hw:HT.sIx B.size 0 F=0/\HT.sIx B.size B.size Y=B.size) (h:Q (.ref t) s):wpAny (model prog w) A (gh (.ref t) (.ref sl)) Q E s:=by
 obtain⟨os,Z,a1,a2⟩:=id hs
 have a0:s.TypeIs (.ref sl) "slice":=⟨os,Z,a1⟩
 unfold gh
 try with_reducible refine da ?_
 first|refine ak (aD ?_)|skip
 refine ak (i8 G.typeIs (by decide) ?_)
 refine ak (cT (name:=bH "__getitem__") G.typeIs bu
  (cA bu G.typeIs ip ?_ (iM _ _)))
 show wpAny _ _ (cD (.ref t) >>= _) _ _ s
 refine ak (iE G ?_)
 refine ak (gi a0 ?_)
 rw[if_pos (by decide)]
 refine ak (HT.sliceApplied_gen hs pl pu ?_)
 have J:((((HT.sIx B.size 0 F:Nat):Int)==0&&(1:Int)==1&&(HT.sIx B.size B.size Y - HT.sIx B.size 0 F)==B.size)=true):=by
  rw[hw.1,hw.2]
  simp
 show wpAny _ _ (if(((HT.sIx B.size 0 F:Nat):Int)==0&&(1:Int)==1&&(HT.sIx B.size B.size Y - HT.sIx B.size 0 F)==B.size)=true then _ else _) _ _ s
 rw[if_pos J]
 refine ak (ak (gi G.typeIs (aD ?_)))
 rw[if_pos (by decide)]
 exact ak (dq (aD ⟨_,rfl,aD h⟩))
theorem av9 {B:List V}{F G:Option Int}(h:HT.sIx B.length 0 F=0/\HT.sIx B.length B.length G=B.length):aW7 B F G=B:=by
 unfold aW7
 rw[h.1,h.2]
 simp
theorem bE8 {K:ah}(hK:X.K=K):SlR X (cr4 K):=by
 subst hK
 intro G s W H x v vl vu lo J sl Q I Z hs pl pu h
 obtain⟨a,B,e1,hx,q⟩:=h
 by_cases hw:HT.sIx B.length 0 lo=0/\HT.sIx B.length B.length J=B.length
 .subst e1
  cases Z
  obtain⟨its,r,Y,hz⟩:=I.tuple hx
  have F:its.toArray.size=B.length:=by rw[aB];exact r.length.symm
  refine⟨"tuple",_,bu.lookup,Y.typeIs,?_⟩
  exact ax9 Y hs pl pu (by rw[F];exact hw) ⟨.ref a,H,I,rfl,q a H (ak9.refl H) (by rw[av9 hw];exact hx) (.inr ⟨rfl,av9 hw⟩)⟩
 .exact bY8 G s W H x v vl vu lo J sl Q I Z hs pl pu ⟨a,B,e1,hx,hw,λ p hp=>q p _ ((ak9.refl H).new hp) (SqT.of zy) (.inl zy)⟩
theorem br3 {K:ah}(hK:X.K=K):SlR X (cp2 K):=by subst hK;exact bz3
end
noncomputable def Its (x:Str):It:=⟨λ i _=>i<x.cps.size,λ i H v H'=>H'=H/\∃ c,x.cps[i]?=some c/\v=.str ⟨#[c]⟩,λ i _=>x.cps.size<=i⟩
theorem aP6 {P:aJ}{w:World}{K:ah}{tg:Expr}{G:String}{x:Str}{t:Tok}(it:Addr)(hn:["enumerate", "zip", "dict_itemiterator", "dict_reverseitemiterator", "odict_iterator", "itertools.zip_longest", "itertools.pairwise"].contains G=false)
  (Ww:∀ A:aV,A.handled=none->Walks P w A it [it] [it] x.cps.size (SignAt x) (λ i h=>h.IsStrIter it G x t i))
  (J:∀(A:aV) (s:ai) (i:Nat) (Q:Option Value->ai->Prop) (E:Value->ai->Prop),A.handled=none->s.heap.IsStrIter it G x t i->x.cps[i]?=none->(∀ h',jz it s.heap h'->Q none { s with heap:=h' })->wpAny (model P w) A (jk (.ref it)) Q E s)
  (F:∀(A:aV) (i:Nat) (s:ai) (Q:Value->ai->Prop) (E:Value->ai->Prop),s.heap.IsStrIter it G x t i->Q (.ref it) s->wpAny (model P w) A (ko (.ref it)) Q E s):Turn P w K tg (Its x) [it] it (λ i h=>h.IsStrIter it G x t i) where
 mem:=by simp
 obj:=λ i h st b hb=>by
  have e:b=it:=by simpa using hb
  subst e
  obtain⟨o,ho,hc,hd⟩:=st
  exact⟨o,ho,λ v z=>by rw[hd]at z;cases z⟩
 keep:=λ i h h' st k=>by
  obtain⟨o,ho,r⟩:=st
  exact⟨o,k it (by simp) _ ho,r⟩
 item:=by
  intro X hP hw hK hc i B s W H E I Z st hg
  subst hP hw hK
  obtain⟨f0,f1,f2,f3,f4,f5⟩:=Z it (by simp)
  refine(Ww X.A (I.ok.hd hc)).item i s _ _ hg st λ v h' tk hv Y kk=>?_
  obtain⟨c,u,a0,rfl⟩:=hv
  have I1:Inv X B W H { s with heap:=h',toks:=tk }:=I.turned (λ b o hb e=>kk b o (by simpa using hb) e) f0 f1 f3 f4 f5
  obtain⟨o,ho,hcl,hd⟩:=id Y
  exact⟨_,rfl,bl6 (s:={ s with heap:=h',toks:=tk }) (n:=G) ho hcl hd hn ⟨.str ⟨#[c]⟩,H,I1,⟨u,rfl⟩,⟨rfl,c,a0,rfl⟩,Y,λ b hb=>(Z b hb).1⟩⟩
 done:=by
  intro X hP hw hK hc i B s W H E I Z st hg
  subst hP hw hK
  obtain⟨f0,f1,f2,f3,f4,f5⟩:=Z it (by simp)
  have a1:x.cps.size<=i:=hg
  exact J X.A s i _ E (I.ok.hd hc) st (by simp;omega) λ h' eb=>⟨rfl,I.turned (t':=s.toks) (λ b o hb e=>eb b o hb e) f0 f1 f3 f4 f5⟩
 self:=λ A i s Q E st h=>F A i s Q E st h
def cq4 (tl:TE):TI:=λ W H R=>tl W H λ v H1=>∃ x,v=.str x/\R (Its x) H1
theorem bY4 {X:Cx}{tg l:Expr}{Y:TE}(hl:PE X l Y):PI X tg l (cq4 Y):=by
 intro B s W H R I h
 refine thn (hl B s W H _ I h) λ v s1 ⟨v0,Z,J,r1,q1⟩=>?_
 obtain⟨x,e,q⟩:=q1
 subst e
 obtain⟨t,rfl⟩:=r1
 have fin:∀(F:String) (o:Obj),o={ cls:=.type F,data:=.fields #[.str x t,.int 0 0] }->Turn X.prog X.w X.K tg (Its x) [s1.heap.objs.size] s1.heap.objs.size (λ i h=>h.IsStrIter s1.heap.objs.size F x t i)->PIE X B W tg R (.ref s1.heap.objs.size) { s1 with heap:=s1.heap.push o }:=λ F o eo T=>by
  subst eo
  refine⟨s1.heap.objs.size,[s1.heap.objs.size],_,_,Z,rfl,J.kept (t':=s1.toks) λ b o e=>az _ e,T,⟨_,a9 _ rfl,rfl,rfl⟩,λ b hb=>?_,q⟩
  have e:b=s1.heap.objs.size:=by simpa using hb
  subst e
  exact J.fpOk (aw _) (J.hok.fresh (aw _))
 cases ha:x.cps.all (·<128)
 .exact wpAny_pyIter_wide ha (fin "str_iterator" _ rfl (aP6 _ (by decide) (λ A hA=>Walks.strWide hA _ x t) (λ A s i Q E hA st hx G=>wpAny_pyNext_wide_end hA st hx G) λ A i s Q E st h=>wpAny_pyIter_striter_wide st h))
 .exact wpAny_pyIter_ascii ha (fin "str_ascii_iterator" _ rfl (aP6 _ (by decide) (λ A hA=>Walks.strAscii hA _ x t) (λ A s i Q E hA st hx G=>wpAny_pyNext_ascii_end hA st hx G) λ A i s Q E st h=>wpAny_pyIter_striter_ascii st h))
section
variable {X:Cx} {K:ah} {T id:String} {name:Str} {o e:Expr} {es:yK} {to:TE} {t:TA} {r:V->List V->Hp->VK->Prop} {apos cpos:Pos}
theorem ca8 (hK:X.K=K)(Y:jU T)(slot:Slot T name id)(J:kq (.builtin id)=pure (.type "method_descriptor"))(hm:MtR X id r)(ho:PE X o to)(ha:PA X (e::es) t)
  (B:eL o name X.env (eval o X.env)=eval o X.env:=by rfl)
  (G:((dZ cpos (bz (e::es) X.env)).all (λ x=>!x.1)&&(backToKw cpos (jy [] X.env)).all (λ x=>x.1.isSome)
   && decide ((e::es).length+([]:List hW).length+(if([]:List hW).isEmpty then 0 else 1)<30))=true:=by rfl)
  (F:(apos.endLine==cpos.line)=true:=by rfl) (hs:bz (e::es) X.env=(false,eval e X.env)::bz es X.env:=by rfl) (h:(dZ cpos (bz es X.env)).any (·.1)=false:=by rfl) :
  PE X (.Call (.Attribute o name apos) (e::es) [] cpos) (tBM K T r to t):=by
 subst hK
 exact cf9 Y slot J hm ho ha B G F hs h
end
structure Mach where
 letters:Int
 rooms:Int
 begins:List Int
 ends:List Int
 doors:List (Int×Str×Int×Int)
noncomputable def cj5 (q:Int×Str×Int×Int):D:=.tup [.int q.1,.str q.2.1,.int q.2.2.1,.int q.2.2.2]
noncomputable def Mach.D (M:Mach):D:=.tup [.int M.letters,.int M.rooms,.tup (M.begins.map .int),.tup (M.ends.map .int),.tup (M.doors.map cj5)]
noncomputable def ltr (i:Nat):Str:=⟨#[97+i]⟩
structure DoorOk (letters rooms:Int)(q:Int×Str×Int×Int):Prop where
 s0:0<=q.1
 s1:q.1<rooms
 l:∃ i:Nat,(i:Int)<letters/\q.2.1=ltr i
 g0:0<=q.2.2.1
 g1:q.2.2.1<rooms
 t0:0<=q.2.2.2
 t1:q.2.2.2<=3
structure RoomsOk (rooms:Int)(l:List Int):Prop where
 mem:∀ r∈l,0<=r/\r<rooms
 up:l.Pairwise (· < ·)
structure Mach.Ok (most:Nat)(M:Mach):Prop where
 l0:1<=M.letters
 l1:M.letters<=3
 r0:1<=M.rooms
 r1:M.rooms<=5
 b:RoomsOk M.rooms M.begins
 e:RoomsOk M.rooms M.ends
 d:∀ q∈M.doors,DoorOk M.letters M.rooms q
 m:M.doors.length<=most
mutual
noncomputable def D.tups:D->Bool
 | .lst _=>false
 | .tup l=>D.tupsL l
 | _=>true
noncomputable def D.tupsL:List D->Bool
 | []=>true
 | d::l=>D.tups d&&D.tupsL l
end
end L2
end
noncomputable section
namespace L2
end L2
end
noncomputable section
namespace L2
open PySem PySem.Spec PyProof.Rows
noncomputable def addO:Option Int->Option Int->Option Int
 | some a,some b=>some (a+b)
 | _,_=>none
noncomputable def cutO (k:Int):Option Int->Option Int
 | none=>none
 | some p=>some (if p<=k then p else k+1)
noncomputable def minO:List Int->Option Int
 | []=>none
 | a::l=>some (match minO l with|none=>a|some b=>if b<a then b else a)
theorem aV0 {X:Cx}{G tg iter:Expr}{Y:yK}{scope:Scope}{pos Z py:Pos}{y:Str}{i:Nat}{wi:TI}{g:TG}{tc:TT}{te:TE}(N':yH)(src:yD)
  (hN:X.N.Nodup) (b1:X.N[i]?=some y) (a5:X.env.scope.names.lookup y=some .local)
  (b5:zO N' src scope X.N X.env.scope=true) (hi:PI X tg iter wi) (a1:X.calm=true)
  (b6:∀(Cc:Addr) (cells:yB) (s:ai) (H:Hp) (ex:List Addr),PG (zB X N' scope Cc cells s H ex) tg g/\PIf (zB X N' scope Cc cells s H ex) Y tc/\PE (zB X N' scope Cc cells s H ex) G te)
  (hs:∀ x,dk iter X.env x=pure x:=by intro _;rfl)
  (b4:fh (.ListComp G [⟨tg,iter,Y,0⟩] scope pos) (some (.Name y py)) Z.line X.env=pure true:=by rfl) :
  PS X (.Assign [.Name y py] (.ListComp G [⟨tg,iter,Y,0⟩] scope pos) Z) (bo1 (tComp src wi g tc te) (aC3 i)):=by
 intro B s W H D0 I h
 have ck:=bw1 b5
 rw[exec_Assign_Name_used _ _ _ _ b4]
 refine ak (iB (ak ?_))
 show wpAny _ X.A (do let _ <- comprehension (.ListComp G [⟨tg,iter,Y,0⟩] scope pos) scope X.env _ (newList []) false (eval iter X.env) (some (gd (.Name y py) X.env))) _ _ s
 have hcl:=am7 (scope:=scope) (env:=X.env) λ y hy e=>I.ok.has y.1 (ck.fr y hy e)
 refine ak (bq (fO (use:=some (gd (.Name y py) X.env)) (Q:=λ _ s'=>SP X B D0 .next s') rfl hs hcl ck.kind ck.loc (thn (hi B s W H _ I h) λ v s1 h1=>thn h1 λ c2 s2 h2=>?_)) (λ _ s' hq=>aD (aD hq)) λ _ _ e=>e)
 obtain⟨it,F,tn,J,H2,e,I2,T,a6,f2,Ww⟩:=h2
 subst e
 have hD:=I2.fresh
 obtain⟨Ww,⟨m0,w0⟩,turn⟩:=Ww _ hD
 have I3:=I2.lnew (its:=[]) (ys:=[]) (t':=s2.toks) .nil (b9 _)
 have a3:∀ b∈F,b<s2.heap.objs.size:=λ b hb=>by obtain⟨o,q,_⟩:=T.obj _ _ a6 b hb;exact aO q
 have f3:∀ b∈F,FpOk X B (upd H2 s2.heap.objs.size (.lst [])) b:=λ b hb=>⟨by rw[zn (aL (a3 b hb))];exact(f2 b hb).1,(f2 b hb).2⟩
 refine bG (al4 ?_)
 generalize a0:({ s2 with heap:=s2.heap.push { cls:=.type "list",data:=.seq ([]:yG).toArray },toks:=s2.toks }:ai)=s3 at I3
 have c1:({ s2 with heap:=s2.heap.push { cls:=.type "list",data:=.seq ([]:yG).toArray } }:ai)=s3:=a0
 have b2:∀ b∈F,b<s3.heap.objs.size:=λ b hb=>by
  rw[<-a0]
  show b<(s2.heap.push _).objs.size
  rw[cU]
  exact fF (a3 b hb)
 have I4:=av1 (s4:={ s3 with heap:=eJ (s3.heap.push { cls:=.type "dict",data:=.dict #[] }) scope.names }) ck I3 f3 b2 ⟨_,rfl⟩
 have a4:tn 0 (eJ (s3.heap.push { cls:=.type "dict",data:=.dict #[] }) scope.names):=T.keep _ _ _ a6 λ b hb o e=>eW _ _ b o (az _ (by rw[<-a0];exact az _ e))
 obtain⟨hg,hif,he⟩:=b6 s3.heap.objs.size (bB (s3.heap.objs.size+1) scope.names (au3 X.env.cells scope.names [])) s3 (upd H2 s2.heap.objs.size (.lst [])) F
 have a2:∀ H':Hp,(∀ b∈F,H' b=none)->∀ b∈F,FpOk (zB X N' scope s3.heap.objs.size (bB (s3.heap.objs.size+1) scope.names (au3 X.env.cells scope.names [])) s3 (upd H2 s2.heap.objs.size (.lst [])) F) [] H' b:=λ H' hn b hb =>
  ⟨hn b hb,(I4.ok.exf b hb).1,I4.ok.exfs b hb,.inl hb,λ x c e=>(I4.ok.exf b hb).2 x c e,λ p hp=>absurd (show p∈([]:yA)from hp) (by simp)⟩
 have T':Turn X.prog X.w X.K tg J F it tn:=T
 have b3:∀ b∈F,upd H2 s2.heap.objs.size (.lst []) b=none:=λ b hb=>(f3 b hb).1
 have L:=aE5 (X':=zB X N' scope s3.heap.objs.size (bB (s3.heap.objs.size+1) scope.names (au3 X.env.cells scope.names [])) s3 (upd H2 s2.heap.objs.size (.lst [])) F) (R:=compPost (model X.prog X.w) X.A X.xe (some (gd (.Name y py) X.env)) (λ _ s'=>SP X B D0 .next s') (Value.ref s2.heap.objs.size) s3.heap.objs.size) (iter:=iter) (scope:=scope) (pos:=pos) (QD:=λ H'=>D0.nx (W.set i (some (.ref s2.heap.objs.size))) H') rfl a1 I4 T' a4 a2 b3 w0 turn hg hif he
  (λ W' H' s' J' q=>by
   have J2:=aP1 I3 f3 J' (Heap.SameBut.refl _ _)
   obtain⟨mm,hn,_⟩:=J'.loc
   have nL:s3.heap.objs.size≠X.env.locals:=kn I3.lt
   have nC:∀ x c,X.env.cells.lookup x=some c->c≠s3.heap.objs.size:=λ x c e=>by
    obtain⟨v,z⟩:=I3.cell x c e
    exact aL z.lt
   show wpAny _ X.A (gd (.Name y py) X.env (.ref s2.heap.objs.size)) _ _ _
   refine iX (aG8 (v:=.ref s2.heap.objs.size) J2 hN b1 (.inl a5) rfl (λ s5 I5 sb=>?_) (.inr a5))
   obtain⟨aa,sb,ha⟩:=sb
   have na:s3.heap.objs.size≠aa:=by
    rcases ha with z|z
    .rw[z];exact nL
    .exact λ e=>nC _ _ z e.symm
   refine⟨mm,hn.sameBut sb na,λ h' b0=>⟨_,H',I5.turned (t':=s5.toks) (λ b o hb e=>(b0.2 b hb).trans e) J'.free nL (.inr I3.sz) nC λ p hp z=>?_,q⟩⟩
   exact absurd (aO (I3.pin p hp).1) (by rw[z];exact bF _))
 exact gy L (T.self _ _ _ _ _ a4 L)
def cr9:V->Option Int->Option Int->Hp->VK->Prop:=λ x lo hi H Q=>∃ z,x=.str z/\z.length<=aN/\Q (.str (eX z lo hi)) H
theorem aG7 {v:Value}{o:Option Int}(p:fN v o):∃ q:Option (Int×Tok),v=partValue q/\q.map (·.1)=o:=by
 cases p with
 | none=>exact⟨none,rfl,rfl⟩
 | int i t=>exact⟨some (i,t),rfl,rfl⟩
theorem bO0 {X:Cx}:SlR X cr9:=by
 intro Z s W H x v vl vu J G sl Q I rx hs pl pu h
 obtain⟨z,rfl,hz,q⟩:=h
 obtain⟨t,rfl⟩:=rx
 obtain⟨l,rfl,el⟩:=aG7 pl
 obtain⟨u,rfl,eu⟩:=aG7 pu
 refine⟨"str",_,F.slot_str_getitem.lookup,eI s z t,?_⟩
 refine wpAny_getItem_str_slice (l:=l) (u:=u) (st:=none) hs rfl ?_
 unfold sliceMade
 have e:slicePicked z l u none=bC J G 1 z.length:=by
  unfold slicePicked
  rw[el,eu]
  rfl
 rw[e]
 unfold eX at q
 split
 .rename_i hc
  have B:((1:Int)==1&&(bC J G 1 z.length).length==z.length)=true:=hc
  rw[if_pos B]at q
  exact⟨.str z,H,I,⟨t,rfl⟩,q⟩
 .rename_i hc
  have B:¬((1:Int)==1&&(bC J G 1 z.length).length==z.length)=true:=hc
  rw[if_neg B]at q
  have Y:(Str.mk (g6 (λ x=>z.cps[x]?) (bC J G 1 z.length)).toArray).length<=aN:=by
   show(g6 (λ x=>z.cps[x]?) (bC J G 1 z.length)).toArray.size<=aN
   rw[aB]
   exact av (List.length_filterMap_le _ _) (av (sliceIndices_le J G z.length) hz)
  exact⟨Y,.str _,H,I.tok _,⟨_,rfl⟩,q⟩
section
variable {M:Model} {A:aV} {E:Value->ai->Prop} {s₀ s:ai} {m cm:yC} {env:Env} {cs:yB}
end
noncomputable def aW9 (c:Addr)(qual:Str):HO:=.ext λ h=>h.CodeRec (.ref c) qual
noncomputable def bL3 (f:Addr)(fd:bS):HO:=.ext λ h=>h.get? f=some { cls:=.type "function",data:=.func fd }
theorem br1 {P:aJ}{w:World}{H:Hp}{h:Heap}{f:Addr}{B:bS}(x:HOk P w H h)(e:H f=some (bL3 f B)):h.get? f=some { cls:=.type "function",data:=.func B }:=(x f _ e).1
noncomputable def isC (cells:yB)(b:Addr):Bool:=cells.any λ p=>cells.lookup p.1==some b
theorem bD3 {cells:yB}{b:Addr}:isC cells b=true↔∃ x,cells.lookup x=some b:=by
 unfold isC
 rw[jq]
 constructor
 .rintro⟨p,_,e⟩;exact⟨p.1,by simpa using e⟩
 .rintro⟨x,e⟩;exact⟨(x,b),bn e,by simpa using e⟩
noncomputable def az3 (cells:yB)(H:Hp):Hp:=λ b=>if isC cells b=true then none else H b
noncomputable def Put (cells:yB)(H H':Hp):Hp:=λ b=>if isC cells b=true then H b else H' b
theorem az3.cell {cells:yB}{H:Hp}{b:Addr}(h:isC cells b=true):az3 cells H b=none:=if_pos h
theorem az3.ne {cells:yB}{H:Hp}{b:Addr}(h:isC cells b≠true):az3 cells H b=H b:=if_neg h
theorem az3.some {cells:yB}{H:Hp}{b:Addr}{o:HO}(h:az3 cells H b=some o):isC cells b≠true/\H b=some o:=by
 unfold az3 at h
 split at h
 .cases h
 .rename_i z;exact⟨z,h⟩
theorem az3.none {cells:yB}{H:Hp}{b:Addr}(h:H b=none):az3 cells H b=none:=by
 unfold az3
 split
 .rfl
 .exact h
theorem Put.cell {cells:yB}{H H':Hp}{b:Addr}(h:isC cells b=true):Put cells H H' b=H b:=if_pos h
theorem Put.ne {cells:yB}{H H':Hp}{b:Addr}(h:isC cells b≠true):Put cells H H' b=H' b:=if_neg h
def Cells (clos:yB)(H:Hp):Prop:=∀ x c,clos.lookup x=some c->∃ o v,H c=some (.frz o (.own c))/\o.data=.cell v
theorem Cells.at {B:yB}{H:Hp}(z:Cells B H){b:Addr}(h:isC B b=true):∃ o v,H b=some (.frz o (.own b))/\o.data=.cell v:=by
 obtain⟨x,e⟩:=bD3.mp h
 exact z x b e
def Cap (clos:yB)(H:Hp)(fr:yH)(cap:List V):Prop:=∀(i:Nat) (x:Str) (v:V),fr[i]?=some x->cap[i]?=some v->∃ c o u,clos.lookup x=some c/\H c=some (.frz o (.own c))/\o.data=.cell (some u)/\RelV v u
theorem HOk.drop {P:aJ}{w:World}{H:Hp}{h:Heap}{B:yB}(x:HOk P w H h)(z:Cells B H):HOk P w (az3 B H) h:=λ b o e=>by
 obtain⟨_,e'⟩:=az3.some e
 have F:∀ c u,H c=some u->(∀ o v,u≠.frz o v)->isC B c≠true:=λ c u q d y=>by
  obtain⟨o,v,G,_⟩:=z.at y
  rw[q]at G;cases G
  exact d _ _ rfl
 exact(x b o e').stay (λ _ _ _ q=>q) (λ c q=>by rw[az3.ne (F c _ q λ _ _=>by nofun)];exact q) λ c J q=>by rw[az3.ne (F c _ q λ _ _=>by nofun)];exact q
def aY5 (H:Hp)(f:Addr)(qual:Str)(params:eF)(body:Expr)(scope:Scope)(fr:yH)(cap:List V)(clos:yB):Prop :=
 ∃ pm c' ctv,H f=some (bL3 f (jX "<lambda>" qual params body scope clos pm (.ref c') ctv))/\H c'=some (aW9 c' qual)/\Cells clos H /\
  (∀ x y c,clos.lookup x=some c->clos.lookup y=some c->x=y)/\(∀ x,scope.names.lookup x=some .free->∃ c,clos.lookup x=some c)/\Cap clos H fr cap
def BM (mg:yC)(base:Heap):Prop:=∃ bm ob,mg "__builtins__"=some (.ref bm)/\bm≠gb/\base.get? bm=some ob/\ob.cls=.type "module"/\ob.dict=some gb/\ob.data=.plain
structure Caught (cl:yB)(N:yH)(kd:Str->Option cr)(W:St)(H1 H2:Hp):Prop where
 ne:∀ b,isC cl b≠true->H2 b=H1 b
 free:∀ b,isC cl b=true->H1 b=none
 cells:Cells cl H2
 cap:∀(i:Nat) (x:Str) (v:V) (c:Addr),N[i]?=some x->W[i]?=some (some v)->(kd x=some .cell\/kd x=some .free)->cl.lookup x=some c->∃ o u,H2 c=some (.frz o (.own c))/\o.data=.cell (some u)/\RelV v u
 inj:∀ x y c,cl.lookup x=some c->cl.lookup y=some c->x=y
def cd5 (K:ah)(H:Hp)(f:Addr):Prop:=(∃ fd,H f=some (bL3 f fd))\/∃ oc od fd sl,K.lookup f=some ⟨oc,od,.func fd,sl⟩
theorem cd5.at {X:Cx}{B:yA}{W:St}{H:Hp}{s:ai}{f:Addr}(h:cd5 X.K H f)(I:Inv X B W H s):PySem.W.FnAt f s.heap:=by
 rcases h with⟨F,h⟩|⟨oc,od,F,sl,h⟩
 .exact⟨_,_,_,_,br1 I.hok h⟩
 .exact⟨_,_,_,_,I.kIn _ _ h⟩
noncomputable def aF4 (K:ah)(names:yH):List (Str×Addr×Addr):=names.filterMap λ x=>(bv K x).map λ p=>(x,p)
theorem ax3 {K:ah}{names:yH}{y:Str×Addr×Addr}:y∈aF4 K names↔y.1∈names/\bv K y.1=some y.2:=by
 unfold aF4
 rw[cF]
 constructor
 .rintro⟨x,hx,e⟩
  obtain⟨p,hp,rfl⟩:=bJ.mp e
  exact⟨hx,hp⟩
 .rintro⟨hx,e⟩
  exact⟨y.1,hx,by rw[e];rfl⟩
def bE0 (K:ah)(names:yH)(base:Heap):Prop:=∀ x∈names,∀ c P,bv K x=some (c,P)->bX base c P
def by5 (K:ah)(names:yH)(H:Hp):Prop:=∀ x∈names,∀ c P,bv K x=some (c,P)->H P=some (.tbl #[])
noncomputable def bV6 (K:ah)(names:yH)(ts:List Addr):Bool:=names.all λ x=>match bv K x with
 | some (c,P)=>jr K c P&&ts.contains P
 | none=>true
theorem aQ2 {K:ah}{x:Str}(h:(bv K x).isSome=true):bv K x=some (((bv K x).getD (0,0)).1,((bv K x).getD (0,0)).2):=by
 obtain⟨p,e⟩:=fM.mp h
 rw[e]
 rfl
def bX4 (H:Hp)(P:Addr)(q:Str):Prop:=∃ ps:Array Value,H P=some (.tbl ps)/\TriplesOk ps.toList/\∀ pos cv,codeAmong pos ps.toList=some cv->∃ c',cv=.ref c'/\H c'=some (aW9 c' q)
def TabsH (T:List (Addr×Str))(H:Hp):Prop:=∀ y∈T,bX4 H y.1 y.2
def bV8 (H H':Hp):Prop:=∀ b o,(∀ ps,o≠.tbl ps)->H b=some o->H' b=some o
theorem bV8.of {H B:Hp}(a:ak9 H B):bV8 H B:=λ c o _ h=>a c o h
theorem TabsH.keep {T:List (Addr×Str)}{H H':Hp}(h:TabsH T H)(k:∀ b o,(∀ G,o≠.lst G)->H b=some o->H' b=some o):TabsH T H':=λ y hy=>by
 obtain⟨ps,e,t,c⟩:=h y hy
 refine⟨ps,k _ _ (λ _=>by nofun) e,t,λ pos F q=>?_⟩
 obtain⟨B,e1,e2⟩:=c pos F q
 exact⟨B,e1,k _ _ (λ _=>by unfold aW9;nofun) e2⟩
theorem TabsH.same {T:List (Addr×Str)}{H H':Hp}(h:TabsH T H)(s:ak9 H H'):TabsH T H':=h.keep λ b o _ e=>s b o e
theorem TabsH.new {T:List (Addr×Str)}{H:Hp}{a:Addr}{o:HO}(h:TabsH T H)(n:H a=none):TabsH T (upd H a o):=h.same ((ak9.refl H).new n)
theorem TabsH.put {T:List (Addr×Str)}{H:Hp}{a:Addr}{o:HO}{B:List V}(h:TabsH T H)(n:H a=some (.lst B)):TabsH T (upd H a o):=h.keep λ b u d e=>by
 rw[zn λ z=>by subst z;rw[n]at e;cases e;exact d _ rfl];exact e
theorem TabsH.init {T:List (Addr×Str)}{H:Hp}(h:∀ p∈T.map (·.1),H p=some (.tbl #[])):TabsH T H:=λ y hy =>
 ⟨#[],h _ (bQ hy),trivial,λ pos B e=>by simp[codeAmong]at e⟩
theorem Caught.same {cells:yB}{N:yH}{kd:Str->Option cr}{W:St}{h B:Hp}(F:Caught cells N kd W h B):ak9 h B:=λ b o e=>by
 rw[F.ne b λ z=>by rw[F.free b z]at e;cases e];exact e
theorem bj0 {X:Cx}{K:ah}(hc:X.calm=true)(hK:X.K=K):aj3 X (.builtin "min") (λ Z H Q=>∃ a ns,Z=[.ref a]/\SqL K H a (ns.map V.int)/\ns≠[]/\∀ m∈ns,(∀ y∈ns,m<=y)->Q (.int m) H):=by
 subst hK
 intro a1 s W H Z us Q I r h
 obtain⟨a,ns,rfl,hS,G,q⟩:=h
 obtain⟨u,rfl,ru⟩:=am3 r
 cases ru
 obtain⟨its,Y,J,hz⟩:=I.list hS
 have hl:=Y.length
 rw[aE]at hl
 have a0:0<ns.length:=iw.mpr G
 refine call_min_walk (d4 J.isList ?_)
 have F:a<s.heap.objs.size:=by obtain⟨o,_,e,_⟩:=J;exact aO e
 have Ww:=kM (prog:=X.prog) (w:=X.w) (A:=X.A.in1) (I.ok.hd hc) s.heap.objs.size a (aL F) its.toArray
 let val:Nat->Int:=λ i=>ns.getD i 0
 have B:∀ i v,its.toArray[i]?=some v->∃ t,v=Value.int (val i) t:=λ i v e=>by
  obtain⟨z,t,e1,e2⟩:=aA1 Y (i:=i) (v:=v) (by rw[di]at e;exact e)
  refine⟨t,?_⟩
  rw[e2]
  show Value.int z t=Value.int (ns.getD i 0) t
  rw[bE,e1]
  rfl
 refine⟨_,_,_,_,_,_,_,rfl,Ww,⟨⟨_,a9 _ rfl,rfl,rfl⟩,?_⟩,λ b hb=>?_,by rw[aB];omega,j9 val B,λ v h' tk hP k=>?_⟩
 .obtain⟨o,e,r⟩:=J.isList
  exact⟨o,az _ e,r⟩
 .show b<(s.heap.push _).objs.size
  rw[cU]
  rcases aH.mp hb with z|z
  .rw[z];exact cC _
  .have z':b=a:=by simpa using z
   rw[z'];exact fF F
 .obtain⟨z,t,e1,e2⟩:=aA1 Y (i:=dB (λ i j=>decide (val i<val j)) (its.toArray.size - 1)) (v:=v) (by rw[di]at hP;exact hP)
  subst e2
  have hv:val (dB (λ i j=>decide (val i<val j)) (its.toArray.size - 1))=z:=by
   show ns.getD _ 0=z
   rw[bE,e1]
   rfl
  refine⟨.int z,H,I.kept (h':=h') (t':=tk) λ b o q=>k b o ?_ (az _ q),⟨t,rfl⟩,q z (aR e1) λ y hy=>?_⟩
  .intro z
   have z':b=s.heap.objs.size:=by simpa using z
   exact absurd (aO q) (by rw[z'];exact bF _)
  .obtain⟨j,hj,e3⟩:=du.mp hy
   have:=qP val (its.toArray.size - 1) j (by simp only[aB];omega)
   rw[hv]at this
   have e4:val j=y:=by
    show ns.getD j 0=y
    rw[bE,au hj]
    exact e3
   omega
noncomputable def mx (a b:Int):Int:=if b > a then b else a
section
variable {X:Cx}
end
noncomputable def mx3 (a b c:Int):Int:=mx (mx a b) c
noncomputable def rnd (x:Int):Int:=if x=0\/x=3 then x else 2
noncomputable def sharp (n:Nat)(s:Nat->Nat->Int)(i j:Nat):Int:=(minO ((a8 n).map λ k=>mx3 (s i k) (rnd (s k k)) (s k j))).getD 3
section
variable {n:Nat} {s:Nat->Nat->Int}
end
def aH6 (H:Hp)(f:Addr)(name qual:Str)(params:eF)(body:yL)(scope:Scope)(fr:yH)(cap:List V)(clos:yB):Prop :=
 ∃ doc pm c' ctv,H f=some (bL3 f (kI name qual params body scope clos .none .none doc pm none (.ref c') ctv))/\H c'=some (aW9 c' qual)/\Cells clos H /\
  (∀ x y c,clos.lookup x=some c->clos.lookup y=some c->x=y)/\(∀ x,scope.names.lookup x=some .free->∃ c,clos.lookup x=some c)/\Cap clos H fr cap
theorem aH6.fn {K:ah}{H:Hp}{f:Addr}{name qual:Str}{params:eF}{body:yL}{scope:Scope}{fr:yH}{cap:List V}{B:yB}(h:aH6 H f name qual params body scope fr cap B):cd5 K H f:=by
 obtain⟨F,Z,Y,G,J,_⟩:=h
 exact .inl ⟨_,J⟩
end L2
end
noncomputable section
namespace L2
open PySem PySem.Spec PyProof.Rows Builtin
section
variable {P:aJ} {w:World} {A:aV} {E:Value->ai->Prop} {s:ai}
theorem aJ2 {it t:Addr}{i:Nat}{l:yJ}{v:Value}{Q:Value->ai->Prop}(h:s.heap.IsTupleIter it t i)(F:s.heap.IsTuple t l)(hv:l[i]?=some v)
  (k:∀ h',h'.IsTupleIter it t (i+1)->dY it s.heap h'->Q v { s with heap:=h' }):wpAny (model P w) A (bP (.ref it)) Q E s:=by
 obtain⟨o,e1,e2,e3⟩:=id h
 obtain⟨p,p1,_,n,B⟩:=F
 unfold bP
 refine ak (cT (name:=bH "__next__") h.typeIs cG (cA cG h.typeIs fg ?_ (eY _)))
 show wpAny _ _ (field (.ref it) 0 >>= _) _ _ _
 refine ak (dU e1 e3 (x:=.ref t) rfl ?_)
 show wpAny _ _ (if(Value.ref t==Value.none)=true then _ else _) _ _ _
 rw[if_neg (show ¬((Value.ref t==Value.none)=true)from λ z=>nomatch z)]
 show wpAny _ _ (field (.ref it) 1 >>= _) _ _ _
 refine ak (dU e1 e3 (x:=.int i 0) rfl ?_)
 show wpAny _ _ (hZ (.ref t) >>= _) _ _ _
 refine ak (cR p1 B ?_)
 simp only[bZ,hv]
 refine ak (wpAny_setField e1 e3 (by simp) (aD ⟨v,rfl,aD (k _ ⟨_,dg _ e1 (Obj.isFreed_of_fields (iP e3 _)),(Obj.cls_mapFields ..).trans e2,by rw[iP e3];simp[rawInt]⟩ (iy ..))⟩))
theorem aW4 {it t:Addr}{i:Nat}{l:yJ}{Q:Value->ai->Prop}(hh:A.handled=none)(h:s.heap.IsTupleIter it t i)(F:s.heap.IsTuple t l)(hv:l[i]?=none)
  (k:∀ h' e,jz it s.heap h'->(∃ o,h'.get? e=some o/\o.cls=.type "StopIteration")->E (.ref e) { s with heap:=h' }):wpAny (model P w) A (bP (.ref it)) Q E s:=by
 obtain⟨o,e1,e2,e3⟩:=id h
 obtain⟨p,p1,_,n,B⟩:=F
 unfold bP
 refine ak (cT (name:=bH "__next__") h.typeIs cG (cA cG h.typeIs fg ?_ (eY _)))
 show wpAny _ _ (field (.ref it) 0 >>= _) _ _ _
 refine ak (dU e1 e3 (x:=.ref t) rfl ?_)
 show wpAny _ _ (if(Value.ref t==Value.none)=true then _ else _) _ _ _
 rw[if_neg (show ¬((Value.ref t==Value.none)=true)from λ z=>nomatch z)]
 show wpAny _ _ (field (.ref it) 1 >>= _) _ _ _
 refine ak (dU e1 e3 (x:=.int i 0) rfl ?_)
 show wpAny _ _ (hZ (.ref t) >>= _) _ _ _
 refine ak (cR p1 B ?_)
 simp only[bZ,hv]
 refine ak (dq (ak (wpAny_setField e1 e3 (by simp) ?_)))
 show wpAny _ _ (newExc (.type "StopIteration") [] >>= _) _ _ (_:ai)
 refine ak ?_
 simp only[newExc,newTuple]
 refine ak (bG ?_ (by size_fits))
 refine ak (m:=firstArgMember _ _) (wpAny_of_eq (a:=Value.none) (by first|rfl|(simp only[firstArgMember];rfl)) (bG ?_ (by size_fits)))
 simp only[raiseNew]
 refine ak (wpAny_handled ?_)
 first|rw[show A.in1.handled=none from hh]|rw[hh]
 exact ak (aD (wpAny_throw (k _ _ (((iy ..).extBut.push _).push _) ⟨_,a9 _ rfl,rfl⟩)))
end
structure Dw (P:aJ)(w:World)(K:ah)(J:It)(it:Addr)(tn:Nat->Heap->Prop):Prop where
 obj:∀ i h,tn i h->∃ o,h.get? it=some o/\∀ v,o.data≠.cell v
 keep:∀ i h h',tn i h->(∀ o,h.get? it=some o->h'.get? it=some o)->tn i h'
 item:∀(X:Cx),X.prog=P->X.w=w->X.K=K->∀(A:aV) (i:Nat) (pins:yA) (s:ai) (W:St) (H:Hp) (Q:Value->ai->Prop) (E:Value->ai->Prop),Inv X pins W H s->tn i s.heap->J.go i H ->
  (∀ x u h' tk,RelV x u->J.yld i H x H->tn (i+1) h'->dY it s.heap h'->Q u { s with heap:=h',toks:=tk })->wpAny (model P w) A (bP (.ref it)) Q E s
 done:∀(X:Cx),X.prog=P->X.w=w->X.K=K->∀(A:aV) (i:Nat) (pins:yA) (s:ai) (W:St) (H:Hp) (Q:Value->ai->Prop) (E:Value->ai->Prop),A.handled=none->Inv X pins W H s->tn i s.heap->J.stop i H ->
  (∀ h' e,jz it s.heap h'->(∃ o,h'.get? e=some o/\o.cls=.type "StopIteration")->E (.ref e) { s with heap:=h' })->wpAny (model P w) A (bP (.ref it)) Q E s
theorem bJ4 {P:aJ}{w:World}{K:ah}(a it:Addr):Dw P w K (Itl K a) it (λ i h=>h.IsListIter it a i) where
 obj:=λ i h st=>by
  obtain⟨o,e,c,d⟩:=st
  exact⟨o,e,λ v z=>by rw[d]at z;cases z⟩
 keep:=λ i h h' st k=>st.at k
 item:=by
  intro X F hw hK A i B s W H Q E I st hg k
  subst F hw hK
  obtain⟨Y,x,hq,hx⟩:=hg
  obtain⟨its,J,p,hz⟩:=I.list hq
  obtain⟨u,hu,Z⟩:=J.get hx
  exact wpAny_nextOf_list_item st p.isList (x:=u) (by simpa using hu) λ h' G sb=>k x u h' s.toks Z ⟨rfl,λ ys hy=>by rw[I.list_inj hy hq];exact hx⟩ G sb
 done:=by
  intro X F hw hK A i B s W H Q E hA I st hg k
  subst F hw hK
  obtain⟨Y,hq,hx⟩:=hg
  obtain⟨its,J,p,hz⟩:=I.list hq
  have hl:=J.length
  exact wpAny_nextOf_list_end hA st p.isList (by simp;omega) k
theorem cc3 {P:aJ}{w:World}{K:ah}(a it:Addr):Dw P w K (Itt K a) it (λ i h=>h.IsTupleIter it a i) where
 obj:=λ i h st=>by
  obtain⟨o,e,c,d⟩:=st
  exact⟨o,e,λ v z=>by rw[d]at z;cases z⟩
 keep:=λ i h h' st k=>st.at k
 item:=by
  intro X F hw hK A i B s W H Q E I st hg k
  subst F hw hK
  obtain⟨Y,x,hq,hx⟩:=hg
  obtain⟨its,J,p,hz⟩:=I.tuple hq
  obtain⟨u,hu,Z⟩:=J.get hx
  exact aJ2 st (show s.heap.IsTuple a its.toArray from p) (v:=u) (by simpa using hu) λ h' G sb=>k x u h' s.toks Z ⟨rfl,λ ys hy=>by rw[I.tuple_inj hy hq];exact hx⟩ G sb
 done:=by
  intro X F hw hK A i B s W H Q E hA I st hg k
  subst F hw hK
  obtain⟨Y,hq,hx⟩:=hg
  obtain⟨its,J,p,hz⟩:=I.tuple hq
  have hl:=J.length
  exact aW4 hA st (show s.heap.IsTuple a its.toArray from p) (by simp;omega) k
theorem cc9 {P:aJ}{w:World}{K:ah}(x:Str)(t:Tok)(it:Addr):Dw P w K (Its x) it (λ i h=>h.IsStrIter it (g7 x) x t i) where
 obj:=λ i h st=>by
  obtain⟨o,e,c,d⟩:=st
  exact⟨o,e,λ v z=>by rw[d]at z;cases z⟩
 keep:=λ i h h' st k=>by
  obtain⟨o,ho,r⟩:=st
  exact⟨o,k _ ho,r⟩
 item:=by
  intro X J hw hK A i G s W H Q E I st hg k
  subst J hw hK
  have B:i<x.cps.size:=hg
  have hc:x.cps[i]?=some x.cps[i]:=by simp[B]
  unfold g7 at st k
  cases ha:x.cps.all (·<128)
  .rw[ha]at st k
   exact wpAny_nextOf_wide_item st hc λ h' F Y=>k (.str ⟨#[x.cps[i]]⟩) _ h' (s.toks+1) ⟨_,rfl⟩ ⟨rfl,_,hc,rfl⟩ F Y
  .rw[ha]at st k
   exact wpAny_nextOf_ascii_item st hc λ h' F Y=>k (.str ⟨#[x.cps[i]]⟩) _ h' (s.toks+1) ⟨_,rfl⟩ ⟨rfl,_,hc,rfl⟩ F Y
 done:=by
  intro X J hw hK A i G s W H Q E hA I st hg k
  subst J hw hK
  have B:x.cps.size<=i:=hg
  have hc:x.cps[i]?=none:=by simp[B]
  unfold g7 at st
  cases ha:x.cps.all (·<128)
  .rw[ha]at st
   exact wpAny_nextOf_wide_end hA st hc k
  .rw[ha]at st
   exact wpAny_nextOf_ascii_end hA st hc k
section
variable {X:Cx} {pins:yA} {W:St} {H:Hp} {s:ai} {A:aV} {E:Value->ai->Prop} {J1 J2:It} {t1 t2:Nat->Heap->Prop} {z ti to i1 i2:Addr} {n:Nat} {a b:Value}
end
def Mkr (v:Value)(o:Obj)(h:Heap):Prop:=∀(P:aJ) (w:World) (A:aV) (E:Value->ai->Prop) (s:ai) (Q:Value->ai->Prop),(∀ b u,h.get? b=some u->s.heap.get? b=some u) ->
 Q (.ref s.heap.objs.size) { s with heap:=s.heap.push o }->wpAny (model P w) A (ko v) Q E s
def Sr (K:ah)(H:Hp)(x:V)(J:It):Prop:=(∃ a,x=.ref a/\(∃ xs,SqL K H a xs)/\J=Itl K a)\/(∃ a,x=.ref a/\(∃ xs,SqT K H a xs)/\J=Itt K a)\/∃ y,x=.str y/\J=Its y
theorem Sr.mk {X:Cx}{B:yA}{W:St}{H:Hp}{s:ai}{x:V}{u:Value}{J:It}(I:Inv X B W H s)(h:Sr X.K H x J)(r:RelV x u) :
  ∃(o:Obj) (F:Addr->Nat->Heap->Prop),o.isFreed=false/\Mkr u o s.heap/\(∀ it,Dw X.prog X.w X.K J it (F it))/\∀ it h',h'.get? it=some o->F it 0 h':=by
 rcases h with⟨a,e,⟨G,hq⟩,e'⟩|⟨a,e,⟨G,hq⟩,e'⟩|⟨y,e,e'⟩
 .subst e e';cases r
  obtain⟨its,Y,p,hz⟩:=I.list hq
  exact⟨_,λ it i h=>h.IsListIter it a i,rfl,λ P w A E s' Q hk q=>d4 (p.isList.at λ o e=>hk _ _ e) q,λ it=>bJ4 a it,λ it h' e=>⟨_,e,rfl,rfl⟩⟩
 .subst e e';cases r
  obtain⟨its,Y,p,hz⟩:=I.tuple hq
  exact⟨_,λ it i h=>h.IsTupleIter it a i,rfl,λ P w A E s' Q hk q=>iK (Heap.IsTuple.at (show s.heap.IsTuple a its.toArray from p) λ o e=>hk _ _ e) q,λ it=>cc3 a it,λ it h' e=>⟨_,e,rfl,rfl⟩⟩
 .subst e e';obtain⟨t,rfl⟩:=r
  exact⟨_,λ it i h=>h.IsStrIter it (g7 y) y t i,rfl,λ P w A E s' Q hk q=>wpAny_pyIter_strU q,λ it=>cc9 y t it,λ it h' e=>⟨_,e,rfl,rfl⟩⟩
end L2
end
noncomputable section
namespace L2
open PySem PySem.Spec PyProof.Rows Builtin
open AutoSeq1 (wpAny_loadPart')
section
variable {X:Cx} {pins:yA} {W:St} {H:Hp} {s:ai} {A:aV} {E:Value->ai->Prop} {J1:It} {t1:Nat->Heap->Prop} {z it:Addr} {n:Nat} {old:Value}
end
end L2
end
noncomputable section
namespace L2
open PySem PySem.Spec PyProof.Rows Builtin
open AutoSeq1 (wpAny_loadPart')
theorem aK1:fillsNumberSlot (.type "tuple") "mul"=pure false :=
 PySem.fillsNumberSlot_seq (id := "tuple.__mul__") (r:=some (.builtin "tuple.__rmul__")) d9.lookup (by decide +kernel) fZ.lookup (by decide +kernel)
theorem aU6:seqRepeat? (.type "tuple")=pure (some (.builtin "tuple.__mul__")):=by
 unfold seqRepeat?
 rw[js (T := "tuple") (name := "__mul__") (id := "tuple.__mul__") d9.lookup (by decide +kernel),js (T := "tuple") (name := "__rmul__") (id := "tuple.__rmul__") fZ.lookup (by decide +kernel)]
 rfl
theorem aC4 (a:Int)(t:Tok)(l:Addr)(o:Obj)(B:yJ)(n:Nat)(F:yI)(sl:yE) :
  Meets (Builtin.«int.__rmul__» ⟨[.int a t,.ref l],[]⟩) (λ _ R s=>s.heap.get? l=some { cls:=.type "tuple",dict:=F,data:=.seq B n,slots:=sl }/\R (.ok (.ret Value.notImplemented)) s) :=
 .of_wp λ prog w A R s h=>by obtain⟨hp,g,d,tk,os⟩:=s;obtain⟨hl,h⟩:=h;wp_walk;exact⟨_,rfl,h⟩
noncomputable def au1 {α:Type}:Nat->List α->List α
 | 0,_=>[]
 | n+1,a=>a++au1 n a
theorem aS3 {α:Type}(l:List α):∀(n:Nat) (h:Array α),(aA n l.toArray).foldl (·++·) h=h++(au1 n l).toArray
 | 0,h=>by simp[au1]
 | n+1,h=>by rw[bL,c6,aS3 l n];simp[au1]
theorem aB9 {α:Type}(a:Array α):∀(n:Nat) (h:Array α),((aA n a).foldl (·++·) h).size=h.size+a.size*n
 | 0,h=>by simp
 | n+1,h=>by rw[bL,c6,aB9 a n,Array.size_append,Nat.mul_succ];omega
def TmA (items:yJ)(k:Int)(l:Addr)(R:Value->ai->Prop)(s:ai):Prop :=
 ((items.isEmpty||k==1)=true->R (.ref l) s)/\((items.isEmpty||k==1)=false->R (.ref s.heap.objs.size) { s with heap:=s.heap.push { cls:=.type "tuple",data:=.seq ((aA k.toNat items).foldl (·++·) #[]) } })
theorem ba5 {P:aJ}{w:World}{A:aV}{E:Value->ai->Prop}{s:ai}{l:Addr}{B:yJ}{k:Int}{t:Tok}{Q:Value->ai->Prop}(h0:0<=k)(J:k<=1000000)(hz:B.size*k.toNat<=1000000)(hl:IsTup s.heap l B)
  (h:TmA B k l Q s):wpAny (model P w) A (call (.builtin "tuple.__mul__") [.ref l,.int k t]) Q E s:=by
 refine cA d9 hl.typeIs PySem.F.entry_tuple_mul ?_ (PySem.F.args_tuple_mul_2 _ _)
 obtain⟨q1,q2⟩:=h
 show wpAny _ _ (asIndex (.int k t) >>= _) _ _ _
 refine ak (aD ?_)
 rw[if_neg (by rw[decide_eq_false (by omega),decide_eq_false (by omega)];decide)]
 show wpAny _ _ (cD (.ref l) >>= _) _ _ _
 refine ak (iE hl ?_)
 have G:(B.size:Int)*k<=1000000:=by
  have:((B.size*k.toNat:Nat):Int)<=1000000:=by omega
  rw[jG,e7 h0]at this
  exact this
 cases hb:(B.isEmpty||k==1)with
 | true =>
  rw[if_pos rfl]
  unfold jY
  refine ak (ak (gi hl.typeIs (aD ?_)))
  rw[if_pos (by decide)]
  exact ak (dq (aD ⟨_,rfl,q1 hb⟩))
 | false =>
  rw[if_neg aW]
  have he:B.isEmpty=false:=by
   rw[eR]at hb;exact hb.1
  have q:=q2 hb
  show wpAny _ _ (if(decide (k<=0)||B.isEmpty)=true then _ else _) _ _ _
  by_cases hk:k<=0
  .rw[if_pos (by rw[decide_eq_true hk];rfl)]
   have:k.toNat=0:=by omega
   rw[this]at q
   exact ak (bG (aD ⟨_,rfl,q⟩) (by size_fits))
  .rw[if_neg (by rw[decide_eq_false hk,he];decide)]
   show wpAny _ _ (if(B.size:Int)*k > (2^63 - 1) / 8 then _ else _) _ _ _
   rw[if_neg (by omega)]
   show wpAny _ _ (if fw ((B.size:Int)*k)=true then _ else _) _ _ _
   rw[if_neg (by unfold fw;rw[decide_eq_false (by unfold aN;omega)];decide)]
   refine ak (bG (aD ⟨_,rfl,q⟩) ?_)
   show Array.size _<=aN
   rw[aB9]
   show 0+_<=_
   rw[dC]
   have h3:B.size*k.toNat<=aN:=av hz (by decide)
   exact h3
theorem aR4 {α:Type}:∀ n,au1 n ([]:List α)=[]
 | 0=>rfl
 | n+1=>by simp[au1,aR4 n]
theorem bk5 {α:Type}(l:List α):au1 1 l=l:=by simp[au1]
theorem aQ0 {α:Type}(l:List α):∀ n,(au1 n l).length=l.length*n
 | 0=>by simp[au1]
 | n+1=>by simp[au1,aQ0 l n,jA];omega
theorem Vals.repT {h:List V}{us:yG}(r:Vals h us):∀ n,Vals (au1 n h) (au1 n us)
 | 0=>.nil
 | n+1=>r.append (Vals.repT r n)
def ch6 (K:ah):R2:=λ x y H Q=>∃ a xs n,x=.ref a/\y=.int n/\SqT K H a xs/\(0<=n/\n<=1000000/\xs.length*n.toNat<=1000000)/\∀ p H',ak9 H H'->SqT K H' p (au1 n.toNat xs)->(H' p=some (.tup (au1 n.toNat xs))\/(p=a/\au1 n.toNat xs=xs))->Q (.ref p) H'
theorem bB8 {X:Cx}{K:ah}(hK:X.K=K):OpR X (cj .Mult) (ch6 K):=by
 subst hK
 intro G s W H x y v u Q I rx ry h
 obtain⟨a,F,n,rfl,rfl,ha,⟨h0,h1,hz⟩,q⟩:=h
 cases rx
 obtain⟨t,rfl⟩:=ry
 obtain⟨its,r1,p1,Y⟩:=I.tuple ha
 have B:=r1.length
 obtain⟨⟨cls,dd,data,sl⟩,ho,hc,J,hd⟩:=id p1
 simp only at hc hd
 subst hc hd
 refine fA (T := "tuple") (U := "int") (by decide) p1.typeIs (λ s'=>gm s' n t) aK1 iO dQ aU6 ir.lookup
  (gu dQ (gm s n t) iu (gX _ _) (aC4 n t a default its.toArray J dd sl) ⟨ho,⟨rfl,p1.typeIs,ba5 h0 h1 (by rw[aB,<-B];exact hz) p1 ⟨λ hb=>?_,λ hb=>?_⟩⟩⟩)
 .have ex:au1 n.toNat F=F:=by
   rw[cb]at hb
   rcases hb with hb|hb
   .have Z:its=[]:=by simpa using hb
    have hx:F=[]:=r1.nil_iff.mp Z
    rw[hx,aR4]
   .have:n=1:=by simpa using hb
    subst this
    exact bk5 _
  exact⟨.ref a,H,I,rfl,q a H (ak9.refl H) (by rw[ex];exact ha) (.inr ⟨rfl,ex⟩)⟩
 .have hp:=I.hok.fresh (aw s.heap.objs.size)
  refine⟨.ref s.heap.objs.size,_,I.laid (t':=s.toks) (o:=.tup (au1 n.toNat F)) (λ b ob q=>az _ q) (aw _) ?_,rfl,q _ _ ((ak9.refl H).new hp) (SqT.of zy) (.inl zy)⟩
  refine⟨by rw[aQ0];exact av hz (by decide),au1 n.toNat its,r1.repT _,?_⟩
  rw[show(au1 n.toNat its).toArray=(aA n.toNat its.toArray).foldl (·++·) #[]by rw[aS3];simp]
  exact⟨_,a9 _ rfl,rfl,_,rfl⟩
end L2
end
noncomputable section
namespace L2
open PySem PySem.Spec PyProof.Rows
theorem at9 {A:aV}{k:Nat}(hr:Room k A):A.units+2<cLine:=Nat.lt_of_le_of_lt (Nat.add_le_add_left (by decide:2<=64) _) hr.units
section
variable {κ:Type} [DecidableEq κ]
noncomputable def aH9 (kvs:List (κ×V))(k:κ):Option V:=(kvs.find? λ kv=>decide (kv.1=k)).map (·.2)
noncomputable def av6 (kvs:List (κ×V))(k:κ)(v:V):List (κ×V) :=
 if(kvs.any λ kv=>decide (kv.1=k))=true then kvs.map (λ kv=>if kv.1=k then(kv.1,v)else kv)else kvs++[(k,v)]
theorem ap8 {p:κ×V}{r:List (κ×V)}{k:κ}(e:p.1=k):aH9 (p::r) k=some p.2:=by simp[aH9,c7,e]
theorem aq0 {p:κ×V}{r:List (κ×V)}{k:κ}(e:¬ p.1=k):aH9 (p::r) k=aH9 r k:=by simp[aH9,c7,e]
theorem az5 (k:κ):∀ h:List (κ×V),(h.any λ B=>decide (B.1=k))=(aH9 h k).isSome
 | []=>rfl
 | p::r=>by
  rw[fQ]
  by_cases e:p.1=k
  .simp only[ap8 e,decide_eq_true e,Bool.true_or,fv]
  .rw[aq0 e,decide_eq_false e,j8];exact az5 k r
theorem qQ (h:List (κ×V))(k:κ)(v:V):(av6 h k v).length<=h.length+1:=by
 unfold av6
 split
 .rw[aE];omega
 .rw[ax,bc,eZ];omega
theorem aT9.isSome_eq {o:Option V}{u:Option Value}(r:aT9 o u):o.isSome=u.isSome:=by
 cases o with
 | none=>cases u with
  | none=>rfl
  | some _=>exact(show False from r).elim
 | some _=>cases u with
  | none=>exact(show False from r).elim
  | some _=>rfl
theorem aT9.getD {o:Option V}{u:Option Value}{d:V}{d':Value}(r:aT9 o u)(h:RelV d d'):RelV (o.getD d) (u.getD d'):=by
 cases o with
 | none=>cases u with
  | none=>exact h
  | some _=>exact(show False from r).elim
 | some _=>cases u with
  | none=>exact(show False from r).elim
  | some _=>exact r
theorem KV.val {B:List (κ×V)}{vs:List (κ×Value)}(r:KV B vs)(k:κ):aT9 (aH9 B k) (ic vs k):=by
 unfold KV at r
 induction r with
 | nil=>exact True.intro
 | @cons p q ps qs h t ih =>
  obtain⟨F,G⟩:=h
  by_cases e:p.1=k
  .have e':q.1=k:=F.symm.trans e
   have b:ic (q::qs) k=some q.2:=by simp[ic,c7,e']
   rw[ap8 e,b];exact G
  .have e':¬ q.1=k:=λ z=>e (F.trans z)
   have b:ic (q::qs) k=ic qs k:=by simp[ic,c7,e']
   rw[aq0 e,b];exact ih
theorem KV.any {B:List (κ×V)}{vs:List (κ×Value)}(r:KV B vs)(k:κ):(B.any λ F=>decide (F.1=k))=vs.any λ F=>decide (F.1=k):=by
 unfold KV at r
 induction r with
 | nil=>rfl
 | cons h t ih=>rw[fQ,fQ,ih,h.1]
theorem KV.repl {F:List (κ×V)}{vs:List (κ×Value)}(r:KV F vs)(k:κ){y:V}{u:Value}(J:RelV y u) :
  KV (F.map λ B=>if B.1=k then(B.1,y)else B) (vs.map λ B=>if B.1=k then(B.1,u)else B):=by
 unfold KV at r ⊢
 induction r with
 | nil=>exact .nil
 | @cons p q ps qs h t ih =>
  rw[a7,a7]
  refine .cons ?_ ih
  obtain⟨G,Y⟩:=h
  by_cases e:p.1=k
  .rw[if_pos e,if_pos (G.symm.trans e)];exact⟨G,J⟩
  .rw[if_neg e,if_neg (λ z=>e (G.trans z))];exact⟨G,Y⟩
theorem KV.put {h:List (κ×V)}{vs:List (κ×Value)}(r:KV h vs)(k:κ){y:V}{u:Value}(B:RelV y u):KV (av6 h k y) (stored vs k u):=by
 unfold av6 stored
 rw[r.any k]
 by_cases e:(vs.any λ F=>decide (F.1=k))=true
 .rw[if_pos e,if_pos e];exact r.repl k B
 .rw[if_neg e,if_neg e];exact kJ r ⟨rfl,B⟩
theorem KV.length {h:List (κ×V)}{vs:List (κ×Value)}(r:KV h vs):h.length=vs.length:=eK r
end
theorem aU7 {P:aJ}{w:World}{k:Key}{u:Value}(r:RelV (kV k) u):(zF P w).is k u=true:=by
 cases k with
 | inl i=>obtain⟨t,e⟩:=(show ∃ t,u=Value.int i t from r);subst e;exact aN0 P w i t
 | inr x=>obtain⟨t,e⟩:=(show ∃ t,u=Value.str x t from r);subst e;exact aL7 P w x t
theorem bY9 {P:aJ}{w:World}{f:FK}{u:Value}(h:RelV (fV f) u):fIs f u=true:=by
 cases f with
 | none=>cases(show u=Value.none from h);rfl
 | some k=>exact aU7 (P:=P) (w:=w) h
theorem aB7 {P:aJ}{w:World}:∀ {ks:List FK} {us:yG},Vals (ks.map fV) us->ItemsAre (qA P w) ks us
 | [],_,r=>by rw[d7]at r;cases r;exact .nil
 | k::ks,_,r=>by
  rw[a7]at r
  cases r with
  | cons h t=>exact .cons (bY9 (P:=P) (w:=w) h) (aB7 t)
theorem bO8 {P:aJ}{w:World}{H:Hp}{h:Heap}(ok:HOk P w H h):∀ {ks:List NI} {F:List V} {us:yG},cQ (NAt H) ks F->Vals F us->cQ (NIs P w h) ks us
 | _,_,_,.nil,r=>by cases r;exact .nil
 | _,_,_,.cons (a:=k) q t,r=>by
  cases r with
  | cons B t1 =>
   refine .cons ?_ (bO8 ok t t1)
   cases k with
   | inl f=>cases q;exact bY9 (P:=P) (w:=w) B
   | inr l =>
    obtain⟨c,rfl,e⟩:=q
    cases B
    obtain⟨_,its,r,o,B,G,n,h3⟩:=(show ai3 P w H h c (.tup (l.map fV))from ok c _ e)
    exact⟨c,rfl,o,its.toArray,n,B,G,h3,by simpa using aB7 r⟩
abbrev KT (H:Hp):List (List NI×V)->List (List NI×Addr×Value)->Prop:=cQ λ p q=>p.1=q.1/\NK H p.1 q.2.1/\RelV p.2 q.2.2
theorem KT.val {H:Hp}{B:List (List NI×V)}{F:List (List NI×Addr×Value)}(r:KT H B F)(k:List NI):aT9 (aH9 B k) ((atKey F k).map (·.2)):=by
 induction r with
 | nil=>exact True.intro
 | @cons p q ps qs h t ih =>
  obtain⟨G,_,J⟩:=h
  by_cases e:p.1=k
  .have e':q.1=k:=G.symm.trans e
   have b:atKey (q::qs) k=some q.2:=by simp[atKey,c7,e']
   rw[ap8 e,b];exact J
  .have e':¬ q.1=k:=λ z=>e (G.trans z)
   have b:atKey (q::qs) k=atKey qs k:=by simp[atKey,c7,e']
   rw[aq0 e,b];exact ih
theorem KT.repl {H:Hp}{B:List (List NI×V)}{J:List (List NI×Addr×Value)}(r:KT H B J)(k:List NI){y:V}{u:Value}(Z:RelV y u) :
  KT H (B.map λ G=>if G.1=k then(G.1,y)else G) (J.map (putAt k u)):=by
 induction r with
 | nil=>exact .nil
 | @cons p q ps qs h t ih =>
  rw[a7,a7]
  refine .cons ?_ ih
  obtain⟨F,Y,h3⟩:=h
  unfold putAt
  by_cases e:p.1=k
  .rw[if_pos e,if_pos (F.symm.trans e)];exact⟨F,Y,Z⟩
  .rw[if_neg e,if_neg (λ z=>e (F.trans z))];exact⟨F,Y,h3⟩
theorem KT.put {H:Hp}{h:List (List NI×V)}{B:List (List NI×Addr×Value)}(r:KT H h B)(k:List NI){b:Addr}{y:V}{u:Value}(hb:NK H k b)(F:RelV y u) :
  KT H (av6 h k y) (storedH B k b u):=by
 have e:(h.any λ G=>decide (G.1=k))=(atKey B k).isSome:=by
  rw[az5,(r.val k).isSome_eq,fI]
 unfold av6 storedH
 rw[e]
 by_cases q:(atKey B k).isSome=true
 .rw[if_pos q,if_pos q];exact r.repl k F
 .rw[if_neg q,if_neg q];exact kJ r ⟨rfl,hb,F⟩
theorem KT.keeps {H H':Hp}{h:List (List NI×V)}{B:List (List NI×Addr×Value)}(r:KT H h B)(F:∀ b ys,H b=some (.tup ys)->H' b=some (.tup ys)):KT H' h B :=
 cQ.mapP r λ _ _ z=>⟨z.1,z.2.1.mono F,z.2.2⟩
section
variable {P:aJ} {w:World} {H:Hp} {h:Heap} {a:Addr}
theorem bY5 {u:HO}(ok:HOk P w H h)(e:Rd H a u):ai3 P w H h a u:=e.ok ok
theorem bd7 {B:List (Key×V)}(ok:HOk P w H h)(e:Rd H a (.dK B)):B.length<=aN/\(a==cV)=false/\∃ vs,KV B vs/\h.DictOf (zF P w) a vs :=
 show ai3 P w H h a (.dK B)from bY5 ok e
theorem bQ7 {B:List (Key×V)}(ok:HOk P w H h)(e:H a=some (.dK B)):B.length<=aN/\(a==cV)=false/\∃ vs,KV B vs/\h.DictOf (zF P w) a vs:=bd7 ok (.inl e)
theorem av7 {ks:List NI}(ok:HOk P w H h)(e:NK H ks a):(av0 P w).is h ks a:=by
 obtain⟨B,e,p⟩:=e
 obtain⟨_,its,r,o,F,G,n,h3⟩:=(show ai3 P w H h a (.tup B)from ok a _ e)
 exact⟨o,its.toArray,n,F,G,h3,by simpa using bO8 ok p r⟩
theorem bc9 {B:List (List NI×V)}(ok:HOk P w H h)(e:Rd H a (.dT B)):B.length<=aN/\(a==cV)=false /\
  ∃ F,KT H B F/\h.DictOfH (av0 P w) a F:=by
 obtain⟨z,y,F,r,o,es,ep,J,Z,h3,Y,G⟩:=(show ai3 P w H h a (.dT B)from bY5 ok e)
 refine⟨z,y,F,r,o,es,ep,J,Z,h3,Y,λ x hx=>?_,G⟩
 have all:∀ {l:List (List NI×V)} {m:List (List NI×Addr×Value)},KT H l m->∀ x∈m,(av0 P w).is h x.1 x.2.1:=by
  intro l m q
  induction q with
  | nil=>intro x hx;exact nomatch hx
  | @cons p q ps qs hq t ih =>
   intro x hx
   rcases aH.mp hx with e|hx
   .subst e
    exact av7 ok (by rw[<-hq.1];exact hq.2.1)
   .exact ih x hx
 exact all r x hx
theorem bX1 {B:List (List NI×V)}(ok:HOk P w H h)(e:H a=some (.dT B)):B.length<=aN/\(a==cV)=false /\
  ∃ F,KT H B F/\h.DictOfH (av0 P w) a F:=bc9 ok (.inl e)
end
def aH8 (H:Hp)(a:Addr)(y:V)(r:Option V):Prop :=
 (∃ kvs k,Rd H a (.dK kvs)/\y=kV k/\r=aH9 kvs k)\/∃ kvs k b,Rd H a (.dT kvs)/\y=.ref b/\NK H k b/\r=aH9 kvs k
def bC2 (H:Hp)(a:Addr)(y v:V)(H':Hp):Prop :=
 (∃ kvs k,H a=some (.dK kvs)/\y=kV k/\kvs.length<aN/\H'=upd H a (.dK (av6 kvs k v))) \/
 ∃ kvs k b,H a=some (.dT kvs)/\y=.ref b/\NK H k b/\kvs.length<aN/\H'=upd H a (.dT (av6 kvs k v))
theorem aH8.k {H:Hp}{a:Addr}{h:List (Key×V)}{k:Key}(e:H a=some (.dK h)):aH8 H a (kV k) (aH9 h k):=.inl ⟨h,k,.inl e,rfl,rfl⟩
theorem aH8.t {H:Hp}{a b:Addr}{h:List (List NI×V)}{k:List NI}(e:H a=some (.dT h))(eb:NK H k b):aH8 H a (.ref b) (aH9 h k):=.inr ⟨h,k,b,.inl e,rfl,eb,rfl⟩
theorem bC2.k {H:Hp}{a:Addr}{h:List (Key×V)}{k:Key}{v:V}(e:H a=some (.dK h))(hl:h.length<aN):bC2 H a (kV k) v (upd H a (.dK (av6 h k v))):=.inl ⟨h,k,e,rfl,hl,rfl⟩
theorem bC2.t {H:Hp}{a b:Addr}{h:List (List NI×V)}{k:List NI}{v:V}(e:H a=some (.dT h))(eb:NK H k b)(hl:h.length<aN) :
  bC2 H a (.ref b) v (upd H a (.dT (av6 h k v))):=.inr ⟨h,k,b,e,rfl,eb,hl,rfl⟩
section
variable {X:Cx} {pins:yA} {W:St} {H:Hp} {s:ai} {a:Addr} {y v:V} {u r:Value} {o:Option V} {A:aV} {E:Value->ai->Prop}
theorem Inv.big (I:Inv X pins W H s):cV<s.heap.objs.size:=by
 have h:bf<s.heap.objs.size:=(I.mod.glob.keeps I.bk).lt
 exact jd (by decide) h
theorem aG5 {Q:Value->ai->Prop}(hu:A.units+2<cLine)(I:Inv X pins W H s)(g:aH8 H a y (some v))(ry:RelV y u)(h:∀ G s',Inv X pins W H s'->RelV v G->Q G s') :
  wpAny (model X.prog X.w) A (gh (.ref a) u) Q E s:=by
 rcases g with⟨Z,k,e,J,l⟩|⟨Z,k,b,e,J,eb,l⟩
 .subst J
  obtain⟨z,hd,vs,F,dd⟩:=bd7 I.hok e
  obtain⟨G,hw,B⟩:=aT9.some_of (v:=v) (o:=ic vs k) (by rw[l];exact F.val k)
  exact wpAny_getItem_of (aU7 ry) dd.mapOf hw (h G _ (I.tok _) B)
 .subst J
  cases(show u=Value.ref b from ry)
  obtain⟨z,hd,xs,F,dd⟩:=bc9 I.hok e
  obtain⟨G,hw,B⟩:=aT9.some_of (v:=v) (o:=(atKey xs k).map (·.2)) (by rw[l];exact F.val k)
  obtain⟨p,hp,Y⟩:=bJ.mp hw
  refine wpAny_getItem_heap (show _<_ from hu) (av7 I.hok eb) dd hp ?_
  rw[Y]
  exact h G _ (I.tok _) B
theorem cp6 {Q:Value->ai->Prop}(hu:A.units+2<cLine)(I:Inv X pins W H s)(g:aH8 H a y o)(J:RelV y u)(h:∀ s',Inv X pins W H s'->Q (.bool o.isSome) s') :
  wpAny (model X.prog X.w) A (cJ .In u (.ref a)) Q E s:=by
 rcases g with⟨F,k,e,G,l⟩|⟨F,k,b,e,G,eb,l⟩
 .subst G
  obtain⟨z,hd,vs,B,dd⟩:=bd7 I.hok e
  refine wpAny_in_of (aU7 J) hd dd.mapOf ?_
  rw[<-(B.val k).isSome_eq,<-l]
  exact h _ (I.tok _)
 .subst G
  cases(show u=Value.ref b from J)
  obtain⟨z,hd,Y,B,dd⟩:=bc9 I.hok e
  refine wpAny_in_heap (show _<_ from hu) (av7 I.hok eb) hd dd ?_
  have q:=(B.val k).isSome_eq
  rw[fI]at q
  rw[<-q,<-l]
  exact h _ (I.tok _)
theorem bc3 {Q:Value->ai->Prop}(hu:A.units+2<cLine)(I:Inv X pins W H s)(g:aH8 H a y o)(J:RelV y u)(h:∀ s',Inv X pins W H s'->Q (.bool (!o.isSome)) s') :
  wpAny (model X.prog X.w) A (cJ .NotIn u (.ref a)) Q E s:=by
 rcases g with⟨F,k,e,G,l⟩|⟨F,k,b,e,G,eb,l⟩
 .subst G
  obtain⟨z,hd,vs,B,dd⟩:=bd7 I.hok e
  refine wpAny_notIn_of (aU7 J) hd dd.mapOf ?_
  rw[<-(B.val k).isSome_eq,<-l]
  exact h _ (I.tok _)
 .subst G
  cases(show u=Value.ref b from J)
  obtain⟨z,hd,Y,B,dd⟩:=bc9 I.hok e
  refine wpAny_notIn_heap (show _<_ from hu) (av7 I.hok eb) hd dd ?_
  have q:=(B.val k).isSome_eq
  rw[fI]at q
  rw[<-q,<-l]
  exact h _ (I.tok _)
theorem aA7 {h':Heap}{t':Nat}{ob:HO}(I:Inv X pins W H s)(mu:Mut (H a))(hs:dY a s.heap h')(he:∃ q,h'.get? a=some q)(new:ai3 X.prog X.w (upd H a ob) h' a ob) :
  Inv X pins W (upd H a ob) { s with heap:=h',toks:=t' } :=
 I.write (x:=a) (e:=a) mu (.inl rfl) (λ b q hb z=>(hs.2 b hb).trans z) he new
theorem br9 {P:aJ}{w:World}{H':Hp}{h':Heap}{h:List (Key×V)}{vs:List (Key×Value)}(z:h.length<=aN)(hd:(a==cV)=false)(B:KV h vs)(dd:h'.DictOf (zF P w) a vs) :
  ai3 P w H' h' a (.dK h):=⟨z,hd,vs,B,dd⟩
theorem aD9 {H':Hp}{Q:Unit->ai->Prop}(hu:A.units+2<cLine)(I:Inv X pins W H s)(g:bC2 H a y v H')(Z:RelV y u)(rv:RelV v r)(h:∀ s',Inv X pins W H' s'->Q () s') :
  wpAny (model X.prog X.w) A (setItem (.ref a) u r) Q E s:=by
 rcases g with⟨F,k,e,J,l,Y⟩|⟨F,k,b,e,J,eb,l,Y⟩
 .subst J Y
  obtain⟨z,hd,vs,B,dd⟩:=bQ7 I.hok e
  have hz:vs.length<=aN:=by rw[<-B.length];exact z
  have hl:(av6 F k v).length<=aN:=by have:=qQ F k v;omega
  refine wpAny_setItem_pairs (hsz:=hz) (aU7 Z) dd λ h' G hs=>h _ ?_
  have he:∃ q,h'.get? a=some q:=let⟨q,_,_,hq,_⟩:=G;⟨q,hq⟩
  exact aA7 I (by rw[e];exact True.intro) hs he (br9 hl hd (B.put k rv) G)
 .subst J Y
  cases(show u=Value.ref b from Z)
  obtain⟨z,hd,xs,B,dd⟩:=bX1 I.hok e
  have hz:xs.length<=aN:=by rw[<-eK B];exact z
  have hl:(av6 F k v).length<=aN:=by have:=qQ F k v;omega
  refine wpAny_setItem_heap (hsz:=hz) (show _<_ from hu) (av7 I.hok eb) dd λ h' G hs=>h _ ?_
  obtain⟨q,es,ep,hq,h2,h3,h4,_,h5⟩:=G
  refine aA7 I (by rw[e];exact True.intro) hs ⟨q,hq⟩ ⟨hl,hd,_,(B.put k eb rv).keeps λ c ys ec=>?_,q,es,ep,hq,h2,h3,h4,h5⟩
  rw[zn (bW4 ec e (λ z=>nomatch z))]
  exact ec
end
section
variable {X:Cx} {pins:yA} {W:St} {H:Hp} {s:ai} {a:Addr} {kvs:List (Key×V)} {k:Key} {u:Value} {A:aV} {E:Value->ai->Prop}
end
theorem aq9 {X:Cx}{h:yA}{W:St}{H:Hp}{s:ai}{a:Addr}{y:V}{o:Option V}(I:Inv X h W H s)(g:aH8 H a y o):s.TypeIs (.ref a) "dict":=by
 rcases g with⟨B,k,e,_,_⟩|⟨B,k,b,e,_,_,_⟩
 .obtain⟨_,_,vs,_,dd⟩:=bd7 I.hok e
  exact dd.typeIs
 .obtain⟨_,_,F,_,dd⟩:=bc9 I.hok e
  exact dd.typeIs
section
variable {X:Cx} {o i e value:Expr} {pos pos' tpos:Pos} {td ty tv:TE}
end
theorem aR0 {P:aJ}{w:World}{H:Hp}(h:Heap)(hb:cV<h.objs.size):ai3 P w H (h.push { cls:=.type "dict",data:=.dict #[] }) h.objs.size (.dK []) :=
 ⟨b9 _,beq_eq_false_iff_ne.mpr (cz (aL hb)),[],.nil,Heap.DictOf.new h⟩
theorem aR2 {P:aJ}{w:World}{H:Hp}(h:Heap)(hb:cV<h.objs.size):ai3 P w H (h.push { cls:=.type "dict",data:=.dict #[] }) h.objs.size (.dT []) :=
 ⟨b9 _,beq_eq_false_iff_ne.mpr (cz (aL hb)),[],.nil,_,#[],0,a9 _ rfl,⟨rfl,rfl,rfl⟩,rfl,rfl,List.nodup_nil⟩
def bs8:TE:=λ _ H Q=>∀ p,H p=none->Q (.ref p) (upd H p (.dK []))
def bs1:TE:=λ _ H Q=>∀ p,H p=none->Q (.ref p) (upd H p (.dT []))
section
variable {X:Cx} {pos:Pos}
theorem bl5:PE X (.Dict [] [] pos) bs8:=λ B s W H Q I h =>
 jt ⟨.ref s.heap.objs.size,_,I.laid (a:=s.heap.objs.size) (o:=.dK []) (t':=s.toks) (λ _ _ q=>az _ q) (aw _) (aR0 s.heap I.big),rfl,h _ (I.hok.fresh (aw _))⟩
theorem bo2:PE X (.Dict [] [] pos) bs1:=λ B s W H Q I h =>
 jt ⟨.ref s.heap.objs.size,_,I.laid (a:=s.heap.objs.size) (o:=.dT []) (t':=s.toks) (λ _ _ q=>az _ q) (aw _) (aR2 s.heap I.big),rfl,h _ (I.hok.fresh (aw _))⟩
end
noncomputable def bh6:List (TE×TE)->St->Hp->(List (V×V)->Hp->Prop)->Prop
 | [],_,H,Q=>Q [] H
 | (tk,tv)::r,W,H,Q=>tk W H λ x H1=>tv W H1 λ y H2=>bh6 r W H2 λ ps H3=>Q ((x,y)::ps) H3
abbrev VV:List (V×V)->List (Value×Value)->Prop:=cQ λ p q=>RelV p.1 q.1/\RelV p.2 q.2
def PPs (X:Cx)(pos:Pos)(keys:List (Option Expr))(values:yK)(trs:List (TE×TE)):Prop :=
 ∀(pins:yA) (s:ai) (W:St) (H:Hp) (Q:List (V×V)->Hp->Prop),Inv X pins W H s->bh6 trs W H Q ->
  wpAny (model X.prog X.w) X.A (evalPairs (pairTrees keys values X.env pos)) (λ vs s'=>∃ ps H',Inv X pins W H' s'/\VV ps vs/\Q ps H') X.xe s
theorem bh2 {X:Cx}{pos:Pos}:PPs X pos [] [] []:=λ B s W H Q I h=>pairTrees_nil_walk ⟨[],H,I,.nil,h⟩
theorem aS6 {X:Cx}{pos:Pos}{k v:Expr}{ks:List (Option Expr)}{vs:yK}{tk J:TE}{F:List (TE×TE)}(hk:PE X k tk)(hv:PE X v J)(hr:PPs X pos ks vs F) :
  PPs X pos (some k::ks) (v::vs) ((tk,J)::F):=λ B s W H Q I h =>
 pairTrees_cons_walk (thn (hk B s W H _ I h) λ u s1 ⟨x,Y,I1,rx,q1⟩=>thn (hv B s1 W Y _ I1 q1) λ w2 s2 ⟨y,H2,I2,Z,q2⟩ =>
  thn (hr B s2 W H2 _ I2 q2) λ ws s3 ⟨ps,H3,I3,G,q3⟩=>⟨(x,y)::ps,H3,I3,.cons ⟨rx,Z⟩ G,q3⟩)
noncomputable def aB8 (kvs more:List (Key×V)):List (Key×V):=more.foldl (λ acc kv=>av6 acc kv.1 kv.2) kvs
theorem KV.merge:∀ {B:List (Key×V)} {G:List (Key×Value)} {F:List (Key×V)} {vs:List (Key×Value)},KV B G->KV F vs->KV (aB8 F B) (merged vs G):=by
 intro B G F vs r
 unfold KV at r
 induction r generalizing F vs with
 | nil=>intro q;exact q
 | @cons p q ps qs h t ih =>
  intro J
  have e:KV (av6 F p.1 p.2) (stored vs q.1 q.2):=by
   have:=J.put p.1 h.2
   rw[<-h.1];exact this
  exact ih e
theorem am4:∀(B h:List (Key×V)),(aB8 h B).length<=h.length+B.length
 | [],h=>by show h.length<=h.length+0;omega
 | p::r,h=>by
  have G:=am4 r (av6 h p.1 p.2)
  have F:=qQ h p.1 p.2
  show(aB8 (av6 h p.1 p.2) r).length<=_
  rw[bc];omega
theorem aw0 {P:aJ}{w:World}:∀ {B:List (Key×V)} {ws:List (Value×Value)},VV (B.map λ G=>(kV G.1,G.2)) ws->∃ F,Carries (zF P w) ws F/\KV B F
 | [],_,r=>by rw[d7]at r;cases r;exact⟨[],True.intro,.nil⟩
 | p::B,_,r=>by
  rw[a7]at r
  cases r with
  | @cons a b as bs h t =>
   obtain⟨F,c,q⟩:=aw0 (P:=P) (w:=w) t
   obtain⟨Y,J⟩:=b
   exact⟨(p.1,J)::F,⟨aU7 h.1,rfl,c⟩,.cons ⟨rfl,h.2⟩ q⟩
def bN9 (trs:List (TE×TE)):TE:=λ W H Q=>∀ p,H p=none->bh6 trs W (upd H p (.dK [])) λ ps H2=>H2 p=some (.dK [])/\∃ kvs:List (Key×V),ps=kvs.map (λ kv=>(kV kv.1,kv.2))/\kvs.length<=15/\Q (.ref p) (upd H2 p (.dK (aB8 [] kvs)))
theorem bG1 {X:Cx}{pos:Pos}{keys:List (Option Expr)}{B:yK}{Y:List (TE×TE)}(h:PPs X pos keys B Y)(J:keys.all (·.isSome)=true)(hl:keys.length=B.length)(h0:keys≠[])
  (a0:keys.length<=15):PE X (.Dict keys B pos) (bN9 Y):=by
 intro G s W H Q I q
 have hn:=I.hok.fresh (aw s.heap.objs.size)
 have I1:=I.laid (a:=s.heap.objs.size) (o:=.dK []) (h':=s.heap.push { cls:=.type "dict",data:=.dict #[] }) (t':=s.toks) (λ _ _ q=>az _ q) (aw _) (aR0 s.heap I.big)
 refine wpAny_Dict_walk (knd:=zF X.prog X.w) J hl h0 a0 (thn (h G _ W _ _ I1 (q _ hn)) λ ws s2 ⟨ps,H2,I2,a1,e,Z,ep,lk,q2⟩=>?_)
 subst ep
 obtain⟨rs,c,rk⟩:=aw0 (P:=X.prog) (w:=X.w) a1
 obtain⟨z,hd,a2,r0,dd⟩:=bQ7 I2.hok e
 cases r0
 refine⟨rs,c,dd,λ h' F hs=>⟨.ref s.heap.objs.size,_,?_,rfl,q2⟩⟩
 have hz:(aB8 [] Z).length<=aN:=by
  have h1:=am4 Z []
  rw[eZ]at h1
  rw[eP];omega
 have he:∃ q,h'.get? s.heap.objs.size=some q:=let⟨q,_,_,hq,_⟩:=F;⟨q,hq⟩
 exact aA7 I2 (by rw[e];exact True.intro) hs he (br9 hz hd (rk.merge .nil) F)
structure M2 (X:Cx)(o:Expr)(m:Str)(apos:Pos)(e f:Expr)(cpos:Pos):Prop where
 base:eL o m X.env (eval o X.env)=eval o X.env
 few:((dZ cpos (bz [e,f] X.env)).all (λ x=>!x.1)&&(backToKw cpos (jy [] X.env)).all (λ x=>x.1.isSome)
  && decide (([e,f]:yK).length+([]:List hW).length+(if([]:List hW).isEmpty then 0 else 1)<30))=true
 line:(apos.endLine==cpos.line)=true
 trees:dZ cpos (bz [e,f] X.env)=[(false,eval e X.env),(false,eval f X.env)]
section
variable {X:Cx} {pins:yA} {W:St} {H:Hp} {s:ai} {a:Addr} {y d:V} {u r:Value} {o:Option V} {A:aV} {E:Value->ai->Prop}
end
section
variable {X:Cx} {o e f:Expr} {apos cpos:Pos} {td ty tx:TE}
end
section
variable {P:aJ} {w:World} {A:aV} {E:Value->ai->Prop} {s:ai}
end
section
variable {X:Cx} {pins:yA} {W:St} {H:Hp} {s:ai}
end
section
variable {prog:aJ} {w:World} {A:aV} {R:jS->ai->Prop} {I:Addr} {fp wr:List Addr} {n:Nat} {P:Nat->Value->Prop} {St:Nat->Heap->Prop} {kw:List (Str×Value)}
end
def XAt (h:Heap)(x Cc:Addr):Prop:=∃ ox,h.get? x=some ox/\ox.cls=Value.ref Cc
theorem XAt.type {M:Model}{h:Heap}{x Cc:Addr}(I:XAt h x Cc):PySem.W.Looks M h (kq (Value.ref x)) (Value.ref Cc):=by
 obtain⟨G,B,F⟩:=I
 exact F▸kD (kP B) kO
noncomputable def zw (h:Heap)(l:List Addr):Heap:={ h with objs:=h.objs.mapIdx λ i o=>if i∈l then { o with data:=.freed } else o }
theorem zq {h:Heap}{l:List Addr}{b:Addr}(hb:b∈l):(zw h l).get? b=none:=by
 unfold Heap.get? zw
 simp only[gM]
 cases e:h.objs[b]? with
 | none=>rfl
 | some o=>simp only[ag,if_pos hb]
theorem qj {h:Heap}{l:List Addr}{b:Addr}(hb:b ∉ l):(zw h l).get? b=h.get? b:=by
 unfold Heap.get? zw
 simp only[gM]
 cases e:h.objs[b]? with
 | none=>rfl
 | some o=>simp only[ag,if_neg hb]
theorem zT {h:Heap}{l:List Addr}:(zw h l).StaysIn h:=λ b o e=>by
 by_cases hb:b∈l
 .rw[zq hb]at e;cases e
 .rwa [qj hb]at e
theorem without_none {h:Heap}{l:List Addr}{b:Addr}(e:(zw h l).get? b=none):b∈l\/h.get? b=none:=by
 by_cases hb:b∈l
 .exact .inl hb
 .rw[qj hb]at e;exact .inr e
theorem at5 {h base B:Heap}:∀ {l:List Env},h.FunFrames base l->(∀ b∈frs l,B.get? b=none)->h.FunFrames B l
 | [],_,_=>True.intro
 | env::l,⟨k,⟨L,o,hf,_,ho,hd⟩,r⟩,hb=>by
  have hm:frs (env::l)=L::frs l:=by unfold frs;rw[aY,hf]
  rw[hm]at hb
  exact⟨k,⟨L,o,hf,hb L (aC ..),ho,hd⟩,at5 r λ b z=>hb b (aq _ z)⟩
theorem HOk.part {P:aJ}{w:World}{H:Hp}{h h':Heap}(x:HOk P w H h)(k:∀ b u o,H b=some u->h.get? b=some o->h'.get? b=some o):HOk P w H h':=λ a o e =>
 (x a o e).stay (λ b u hb q=>by
  rcases hb with rfl|hb
  .exact k _ _ _ e q
  .exact k _ _ _ hb q) (λ _ q=>q) λ _ _ q=>q
theorem ai3.at_ {P:aJ}{w:World}{H:Hp}{h:Heap}{a:Addr}{o:HO}(x:ai3 P w H h a o):∃ u,h.get? a=some u:=by
 cases o with
 | lst xs=>obtain⟨_,_,_,_,e⟩:=x;exact⟨_,e⟩
 | tup xs=>obtain⟨_,_,_,ob,e,_⟩:=x;exact⟨_,e⟩
 | dK kvs=>obtain⟨_,_,_,_,o,_,_,e,_⟩:=x;exact⟨_,e⟩
 | dT kvs=>obtain⟨_,_,_,_,o,_,_,e,_⟩:=x;exact⟨_,e⟩
 | set S n=>obtain⟨o,_,_,_,e,_⟩:=x;exact⟨_,e⟩
 | ins Cc dx fs=>obtain⟨_,_,_,e,_⟩:=x;exact⟨_,e⟩
 | own y=>exact x
 | xd fs=>obtain⟨_,⟨_,_,_,e,_⟩,_⟩:=x;exact⟨_,e⟩
 | rng lo hi=>obtain⟨_,_,_,e⟩:=x;exact⟨_,e⟩
 | frz ob u=>obtain⟨e,_⟩:=x;exact⟨_,e⟩
 | tbl ps=>exact⟨_,(show h.get? a=some _ from x)⟩
 | met f y=>exact⟨_,(show h.get? a=some _ from x)⟩
 | ext C=>obtain⟨_,e,_⟩:=x;exact e
structure Fly (h0:Heap)(H:Hp)(h:Heap)(a Cc:Addr):Prop where
 new:h0.get? a=none
 free:H a=none
 at_:∃ a0 oe vs T oT ts,h.get? a=some oe/\(oe.cls=.ref Cc/\vs[0]?=some a0)/\oe.data=.fields vs/\vs[1]?=some (.ref T)/\h0.get? T=none/\H T=none/\T≠a/\h.get? T=some oT/\oT.data=.fields ts/\ts[3]?=some .none
section
variable {X:Cx} {pins:yA} {W:St} {H:Hp} {s:ai} {a Cc:Addr} {a0:Value}
theorem be2 (I:Inv X pins W H s)(F:X.ex=[]){bs:List Addr}(a2:∀ b∈frs X.stack,b∈bs)(hb:∀ b∈bs,b∈frs X.stack\/(X.s₀.heap.get? b=none/\H b=none))(n0:X.s₀.heap.get? a=none)(nH:H a=none)(B:∀ b∈X.fs,b∈frs X.stack)
  {h':Heap} (L:Heap.LeftW (zw s.heap bs) X.stack a (.ref Cc) a0 s.heap h'):Un X.fs [] X.H₀ H X.s₀.heap h'/\HOk X.prog X.w H h'/\Fly X.s₀.heap H h' a Cc:=by
 obtain⟨st,ff,tr,sl⟩:=L
 have un:=I.base
 rw[F]at un
 have keep:∀ b o,b ∉ bs->s.heap.get? b=some o->h'.get? b=some o:=λ b o n e=>st b o (by rw[qj n];exact e)
 have slot:∀ b o,b∈frs X.stack->s.heap.get? b=some o->∃ sl,h'.get? b=some { o with slots:=sl }:=λ b o n e=>by
  obtain⟨_,Z,e',d⟩:=I.stack.mem n
  rw[e]at e';cases e'
  exact sl b o e d
 have out:∀ b o,X.s₀.heap.get? b=some o->b ∉ frs X.stack->b ∉ bs:=λ b o e n z=>by
  rcases hb b z with q|⟨q,_⟩
  .exact n q
  .rw[e]at q;cases q
 have J:∀ b o,X.s₀.heap.get? b=some o->b ∉ X.fs->b ∉ frs X.stack:=λ b o e n z=>by
  rcases aH.mp (I.stkSub b z)with q|q
  .subst q
   exact absurd (aO e) (jW.mpr I.ok.above)
  .exact n q
 refine⟨⟨λ b o e n h nx=>?_,λ b o e n h nx=>?_,un.free,λ b o e nx=>?_,un.tups,un.frzs,un.tbls⟩,I.hok.part λ b u o e q=>?_,⟨n0,nH,?_⟩⟩
 .exact keep b o (out b o e (J b o e h)) (un.keep b o e n h nx)
 .obtain⟨a1,e1⟩:=un.slot b o e n h nx
  obtain⟨G,e2⟩:=slot b _ (B b h) e1
  exact⟨G,e2⟩
 .obtain⟨o1,e1⟩:=un.there b o e nx
  by_cases z:b∈frs X.stack
  .obtain⟨_,e2⟩:=slot b _ z e1
   exact⟨_,e2⟩
  .exact⟨_,keep b o1 (out b o e z) e1⟩
 .refine keep b o (λ z=>?_) q
  rcases hb b z with y|⟨_,y⟩
  .rw[I.stkFree b y]at e;cases e
  .rw[y]at e;cases e
 .obtain⟨oe,vs,T,oT,ts,h1,h2,h3,h4,h5,h6,h7,Y,h9⟩:=tr
  have key:X.s₀.heap.get? T=none/\H T=none:=by
   rcases without_none h5 with z|z
   .rcases hb T z with y|y
    .obtain⟨_,Z,e',d⟩:=ff.mem y
     rw[h7]at e';cases e'
     exact absurd Y (d _)
    .exact y
   .refine⟨?_,?_⟩
    .cases e:X.s₀.heap.get? T with
     | none=>rfl
     | some o=>obtain⟨Z,e'⟩:=un.there T o e (by simp);rw[z]at e';cases e'
    .cases e:H T with
     | none=>rfl
     | some o=>obtain⟨u,e'⟩:=(I.hok T o e).at_;rw[z]at e';cases e'
  exact⟨a0,oe,vs,T,oT,ts,h1,h2,h3,h4,key.1,key.2,h6,h7,Y,h9⟩
theorem bg4 {Y:Obj}{vs:yJ}(I:Inv X pins W H s)(J:X.ex=[])(h:X.stack=X.env::X.outer)(F:X.env.frame=some X.env.locals)(n0:X.s₀.heap.get? a=none)(nH:H a=none)
  (h1:s.heap.get? a=some Y) (h2:Y.cls=.ref Cc) (h3:Y.data=.fields vs) (h4:vs[1]?=some .none) (h5:vs[0]?=some a0) {Q:Unit->ai->Prop} {E:Value->ai->Prop}
  (k:∀ h',Un X.fs [] X.H₀ H X.s₀.heap h'->HOk X.prog X.w H h'->Fly X.s₀.heap H h' a Cc->Q () { s with heap:=h' }):wpAny (model X.prog X.w) X.A (leaving X.env (.ref a)) Q E s:=by
 have Z:s.heap.FunFrames (zw s.heap (a::frs X.stack)) X.stack:=at5 I.stack λ b hb=>zq (aq _ hb)
 have G:∀ b∈X.fs,b∈frs X.stack:=λ b hb=>by rw[h];unfold frs;rw[aY,F];exact aq _ hb
 have B:=I.ok.frames
 rw[h]at B
 refine wpAny_leaving_firstW (base:=zw s.heap (a::frs X.stack)) B (by rw[<-h];exact Z) F h1 zT (zq (aC ..)) h3 h4 h5 λ h' L=>?_
 rw[h2,<-h]at L
 obtain⟨u,o,f⟩:=be2 I J (λ b hb=>aq _ hb) (λ b hb=>by
  rcases aH.mp hb with q|q
  .subst q;exact .inr ⟨n0,nH⟩
  .exact .inl q) n0 nH G L
 exact k h' u o f
theorem aV2 (I:Inv X pins W H s)(Y:X.ex=[])(h:X.stack=X.env::X.outer)(G:X.env.frame=some X.env.locals)(F:Fly X.s₀.heap H s.heap a Cc){Q:Unit->ai->Prop}{E:Value->ai->Prop}
  (k:∀ h',Un X.fs [] X.H₀ H X.s₀.heap h'->HOk X.prog X.w H h'->Fly X.s₀.heap H h' a Cc->Q () { s with heap:=h' }):wpAny (model X.prog X.w) X.A (leaving X.env (.ref a)) Q E s:=by
 obtain⟨n0,nH,a0,oe,vs,T,oT,ts,h1,h2,h3,h4,h5,h6,h7,h8,h9,Z⟩:=F
 have a1:s.heap.FunFrames (zw s.heap (a::T::frs X.stack)) X.stack:=at5 I.stack λ b hb=>zq (aq _ (aq _ hb))
 have J:∀ b∈X.fs,b∈frs X.stack:=λ b hb=>by rw[h];unfold frs;rw[aY,G];exact aq _ hb
 have B:=I.ok.frames
 rw[h]at B
 refine wpAny_leaving_nextW (base:=zw s.heap (a::T::frs X.stack)) B (by rw[<-h];exact a1) G ⟨oe,vs,T,oT,ts,h1,h2,h3,h4,zq (by simp),h7,h8,h9,Z⟩ zT (zq (aC ..)) λ h' L=>?_
 rw[<-h]at L
 obtain⟨u,o,f⟩:=be2 I Y (λ b hb=>aq _ (aq _ hb)) (λ b hb=>by
  rcases aH.mp hb with q|q
  .subst q;exact .inr ⟨n0,nH⟩
  .rcases aH.mp q with q|q
   .subst q;exact .inr ⟨h5,h6⟩
   .exact .inl q) n0 nH J L
 exact k h' u o f
end
noncomputable def CX1 (P:aJ)(w:World):CXT:=λ outer H s E e s'=>∃ a Cc H',e=.ref a/\s'.os=s.os/\e8 s'.gens/\Un (frs outer) [] H H' s.heap s'.heap/\HOk P w H' s'.heap/\Fly s.heap H' s'.heap a Cc/\E e (some Cc) H'
theorem CX1.inv {X:Cx}{B:yA}{W:St}{H:Hp}{s s':ai}{E:XK}{e:Value}(I:Inv X B W H s)(J:X.ex=[])(h:CX1 X.prog X.w X.stack H s E e s') :
  ∃ a Cc H',e=.ref a/\Inv X B W H' s'/\Fly X.s₀.heap H' s'.heap a Cc/\E e (some Cc) H':=by
 obtain⟨a,Cc,H',rfl,os,bare,un,hok,F,q⟩:=h
 have G:∀ b,s.heap.get? b=none->X.s₀.heap.get? b=none:=λ b z=>by
  cases e:X.s₀.heap.get? b with
  | none=>rfl
  | some o=>obtain⟨o',e'⟩:=I.base.there b o e (by rw[J];simp);rw[z]at e';cases e'
 obtain⟨n0,nH,a0,oe,vs,T,Y,ts,h1,Z,h3,h4,h5,h6,h7⟩:=F
 exact⟨a,Cc,H',rfl,I.call' os un hok bare (ch:=[]) (λ b z=>absurd z (by simp)),⟨G _ n0,nH,a0,oe,vs,T,Y,ts,h1,Z,h3,h4,G _ h5,h6,h7⟩,q⟩
section
variable {P:aJ} {w:World} {K:ah} {mg:yC} {base:Heap} {N:yH} {qual:Str} {scope:Scope} {f:Addr} {cd:Value} {A:aV} {outer:List Env} {s0:ai} {H0:Hp} {E:XK}
theorem cm8:an1 (CX1 P w) (ax0 (CX1 P w) P w K mg base N qual scope f cd A outer s0 H0 E) E:=by
 intro B W H s e s' I h
 obtain⟨a,Cc,H',rfl,J,F,q⟩:=CX1.inv I rfl h
 exact aV2 J rfl rfl rfl F λ h' u o G=>⟨a,Cc,H',rfl,J.os,J.bare,u,o,G,q⟩
def aV1 (X:Cx)(E:XK):Prop:=∀(pins:yA) (W:St) (H:Hp) (s:ai) (h':Heap) (a Cc:Addr) (args:yG),Inv X pins W H s->Heap.MadeExcOf s.heap h' a (.ref Cc) args->E (.ref a) (some Cc) H->X.xe (.ref a) { s with heap:=h' }
theorem ck8:aV1 (ax0 (CX1 P w) P w K mg base N qual scope f cd A outer s0 H0 E) E:=by
 intro h W H s h' a Cc args I M q
 have J:Inv (ax0 (CX1 P w) P w K mg base N qual scope f cd A outer s0 H0 E) h W H { s with heap:=h' }:=I.kept (t':=s.toks) M.keeps
 obtain⟨t,B,_⟩:=M.there
 refine bg4 (a0:=.ref t) J rfl rfl rfl ?_ ?_ B rfl rfl rfl rfl λ Y u o F=>⟨a,Cc,H,rfl,J.os,J.bare,u,o,F,q⟩
 .show s0.heap.get? a=none
  cases e:s0.heap.get? a with
  | none=>rfl
  | some o =>
   obtain⟨G,e'⟩:=I.base.there a o e (by show a ∉ ([]:List Addr);simp)
   rw[M.new]at e';cases e'
 .cases e:H a with
  | none=>rfl
  | some o =>
   obtain⟨u,e'⟩:=(I.hok a o e).at_
   rw[M.new]at e';cases e'
end
noncomputable def excTail:List Value:=[.type "ValueError",.type "Exception",.type "BaseException",.type "object"]
noncomputable def nsQ (K:ah)(N:Addr):Bool:=match K.lookup N with
 | some ⟨_,_,.dict es _,_⟩=>(es.all λ e=>match e.key with|.str _ _=>true|_=>false)&&jZ.all λ n=>(nsFind es n).isNone
 | _=>false
noncomputable def bn6 (K:ah):List Value->Bool
 | .ref A::tl=>(match K.lookup A with|some ⟨_,_,.cls cd,_⟩=>nsQ K cd.ns|_=>false)&&bn6 K tl
 | l=>l==excTail
noncomputable def ci2 (K:ah)(Cc:Addr):Bool:=match K.lookup Cc with
 | some ⟨c,_,.cls cd,⟨[_,_,_,_,k4,_]⟩⟩=>c==.type "type"&&(!cd.hasDel&&(nsQ K cd.ns&&((match cd.mro with|m::tl=>m==.ref Cc&&bn6 K tl|[]=>false)&&k4==some (.builtin "ValueError.__new__"))))
 | _=>false
theorem bu7 {K:ah}{N:Addr}(h:nsQ K N=true):∃ B:Str->Option Value,(∀ n∈jZ,B n=none)/\∀ h:Heap,K.In h->h.Ns N B:=by
 unfold nsQ at h
 split at h
 .rename_i c d es ep sl e
  rw[ao]at h
  refine⟨nsFind es,λ n hn=>?_,λ hp hK=>⟨_,es,ep,hK _ _ e,rfl,λ x hx=>?_,λ _=>rfl⟩⟩
  .have:=aX.mp h.2 n hn
   exact Option.isNone_iff_eq_none.mp this
  .have:=Array.all_eq_true'.mp h.1 x hx
   split at this
   .rename_i q;exact⟨_,_,q⟩
   .cases this
 .cases h
theorem aQ9 {K:ah}:∀ {l:yG},bn6 K l=true->∀ h:Heap,K.In h->OwnTailQ h excTail l
 | l,h,hp,hK=>by
  unfold bn6 at h
  split at h
  .rename_i A Y
   rw[ao]at h
   obtain⟨B,F⟩:=h
   split at B
   .rename_i c d G sl e
    obtain⟨J,q,n⟩:=bu7 B
    exact .own (hK _ _ e) (n hp hK) q (aQ9 F hp hK)
   .cases B
  .have:=eq_of_beq h
   subst this
   exact .base
structure ExcCls (K:ah)(Cc:Addr):Prop where
 obj:∃ bm N nm q bs hdct sn sub ab col dd k0 k1 k2 k3 k5 mN,K.lookup Cc=some (excClassObj nm q Cc N bs bm hdct sn sub ab col dd k0 k1 k2 k3 k5 "ValueError.__new__")/\(∀ n∈jZ,mN n=none)/\∀ h:Heap,K.In h->h.Ns N mN/\OwnTailQ h excTail bm
theorem bK3 {K:ah}{Cc:Addr}(h:ci2 K Cc=true):ExcCls K Cc:=by
 unfold ci2 at h
 split at h
 .rename_i c dd cd k0 k1 k2 k3 k4 k5 e
  obtain⟨nm,bs,J,N,q,hdct,sn,sub,ab,col,F⟩:=cd
  simp only[ao,je]at h
  obtain⟨h1,G,h3,B,h5⟩:=h
  split at B
  .rename_i m tl
   rw[ao]at B
   have e1:=eq_of_beq h1
   have e5:=eq_of_beq h5
   have Z:=eq_of_beq B.1
   subst e1 e5 Z
   have G:F=false:=G
   subst G
   obtain⟨mN,Y,n⟩:=bu7 h3
   exact⟨tl,N,nm,q,bs,hdct,sn,sub,ab,col,dd,k0,k1,k2,k3,k5,mN,e,Y,λ hp hK=>⟨n hp hK,aQ9 B.2 hp hK⟩⟩
  .cases B
 .cases h
noncomputable def excI (K:ah)(Cc:Addr):Bool:=dr K (.ref Cc) (bH "__getattribute__")==some (some (.builtin "BaseException.__getattribute__"))&&(dr K (.ref Cc) (bH "__getattr__")==some none&&(dr K (.ref Cc) (bH "__class__")==some (some (.builtin "object.__class__"))&&(iY K (.builtin "object.__class__") (bH "__get__")==some (some (.builtin "getset_descriptor.__get__"))&&(jD K (.builtin "object.__class__")==some true&&j7 K Cc (.type "object")==some true))))
section
variable {X:Cx} {E:XK} {Cc:Addr} {x:Str}
theorem bm0 {np B pos p:Pos}{y:Str}{j:Nat}(T:aV1 X E)(hc:ExcCls X.K Cc)(hg:Gl X x)(hm:X.mg x=some (.ref Cc))(hh:X.A.handled=none)(hd:(x==("__debug__":Str))=false) :
  PS X (.Raise (some (.Call (.Name x np) [.Constant (.str y) j p] [] B)) none pos) (λ D W H=>∀ a,E (.ref a) (some Cc) H):=by
 intro h s W H D I q
 obtain⟨bm,N,nm,Z,bs,hdct,sn,sub,ab,col,dd,k0,k1,k2,k3,k5,mN,e,hq,hN⟩:=hc.obj
 have Y:=hN _ I.kIn
 refine wpAny_Raise_call_subT (nm:=nm) (q:=Z) (C:=Cc) (N:=N) (bs:=bs) (hdct:=hdct) (sn:=sn) (sub:=sub) (ab:=ab) (col:=col) (dd:=dd) (k0:=k0) (k1:=k1) (k2:=k2) (k3:=k3) (k5:=k5) g8 (OwnTail.hasType Y.2.tail g8.hasBase) hh rfl (hq _ (aC ..)) ?_
 refine thn (aM2 (v:=.ref Cc) hg hm rfl hd h s W H (λ v F=>v=.ref Cc/\F=H) I ⟨rfl,rfl⟩) λ u s1 ⟨v,F,I1,r,e1,e2⟩=>?_
 subst e1 e2
 refine⟨r,gW ?_⟩
 have pa:PA X [.Constant (.str y) j p] (aD8 (tC (.str y)) bp7):=z7 bt0 ak2
 refine thn (pa B h s1 W F (λ vs J=>vs.length=1/\J=F) I1 ⟨rfl,rfl⟩) λ us s2 ⟨vs,J,G,r2,e3,e4⟩=>?_
 subst e4
 have hl:us.length=1:=by rw[<-r2.length];exact e3
 refine⟨rfl,by show us.length<=_;rw[hl];decide,G.kIn _ _ e,(hN _ G.kIn).1,(hN _ G.kIn).2.tail,λ h' a M=>?_⟩
 exact T h W J s2 h' a Cc us G M (q a)
end
structure Tr (X:Cx)(pins:yA)(W:St)(H:Hp)(s:ai)(a Cc:Addr)(fl:Value):Prop where
 inv:Inv X pins W H s
 n0:X.s₀.heap.get? a=none
 nH:H a=none
 np:∀ p∈X.pn++pins,p.1≠a
 tr:∃ a0 oe vs T oT ts,s.heap.get? a=some oe/\(oe.cls=.ref Cc/\vs[0]?=some a0)/\oe.data=.fields vs/\vs[1]?=some (.ref T)/\X.s₀.heap.get? T=none/\H T=none/\(∀ p∈X.pn++pins,p.1≠T)/\T≠a/\s.heap.get? T=some oT/\oT.data=.fields ts/\ts[3]?=some fl
section
variable {X:Cx} {pins:yA} {W:St} {H:Hp} {s:ai} {a Cc T:Addr} {fl fl' a0:Value} {h':Heap}
theorem Tr.stk (h:X.stack=X.env::X.outer)(B:X.env.frame=some X.env.locals):∀ b∈X.fs,b∈frs X.stack:=λ b hb=>by rw[h];unfold frs;rw[aY,B];exact aq _ hb
theorem Tr.moved (t:Tr X pins W H s a Cc fl)(G:X.ex=[])(b5:X.stack=X.env::X.outer)(b4:X.env.frame=some X.env.locals){oT:Obj}{ts:yJ}(a4:X.s₀.heap.get? T=none)(a3:H T=none)(J:∀ p∈X.pn++pins,p.1≠T)(b6:s.heap.get? T=some oT)(b2:oT.data=.fields ts)
  (st:(zw s.heap (a::T::frs X.stack)).StaysIn h') (ff:h'.FunFrames (zw s.heap (a::T::frs X.stack)) X.stack) (tr:h'.TracedAtW (zw s.heap (a::T::frs X.stack)) a (.ref Cc) a0 fl')
  (sl:∀ b o,s.heap.get? b=some o->(∀ vs,o.data≠.fields vs)->∃ sl,h'.get? b=some { o with slots:=sl }):Tr X pins W H { s with heap:=h' } a Cc fl':=by
 have I:=t.inv
 have un:=I.base
 rw[G]at un
 have a2:=Tr.stk b5 b4
 obtain⟨b0,oe,vs,_,_,_,g1,_,g3,_⟩:=t.tr
 have Y:∀ b,b∈a::T::frs X.stack->b=a\/b=T\/b∈frs X.stack:=λ b hb=>by
  rcases aH.mp hb with q|q
  .exact .inl q
  .exact .inr (aH.mp q)
 have keep:∀ b o,b≠a->b≠T->b ∉ frs X.stack->s.heap.get? b=some o->h'.get? b=some o:=λ b o n1 n2 n3 e=>st b o (by
  rw[qj λ z=>(Y b z).elim n1 λ z=>z.elim n2 n3];exact e)
 have slot:∀ b o,b∈frs X.stack->s.heap.get? b=some o->∃ sl,h'.get? b=some { o with slots:=sl }:=λ b o n e=>by
  obtain⟨_,o',e',d⟩:=I.stack.mem n
  rw[e]at e';cases e'
  exact sl b o e d
 have c2:∀ b o,X.s₀.heap.get? b=some o->b ∉ X.fs->b ∉ frs X.stack:=λ b o e n z=>by
  rcases aH.mp (I.stkSub b z)with q|q
  .subst q
   exact absurd (aO e) (jW.mpr I.ok.above)
  .exact n q
 have B:∀ b o,X.s₀.heap.get? b=some o->b≠a/\b≠T:=λ b o e=>⟨λ z=>(by rw[z,t.n0]at e;cases e),λ z=>(by rw[z,a4]at e;cases e)⟩
 have c3:∀ b o,s.heap.get? b=some o->(∀ vs,o.data≠.fields vs)->b≠a/\b≠T:=λ b o e d=>⟨λ z=>(by rw[z,g1]at e;cases e;exact d _ g3),λ z=>(by rw[z,b6]at e;cases e;exact d _ b2)⟩
 have up:∀ b o,s.heap.get? b=some o->(∀ vs,o.data≠.fields vs)->∃ sl,h'.get? b=some { o with slots:=sl }:=sl
 have a1:Inv X pins W H { s with heap:=h' }:=by
  refine⟨I.ok,I.os,I.bare,?_,?_,λ x c e=>?_,I.free,I.freeC,λ p hp=>?_,I.hok.part λ b u o e q=>?_,I.len⟩
  .rw[G]
   refine⟨λ b o e n Z nx=>?_,λ b o e n Z nx=>?_,un.free,λ b o e nx=>?_,un.tups,un.frzs,un.tbls⟩
   .exact keep b o (B b o e).1 (B b o e).2 (c2 b o e Z) (un.keep b o e n Z nx)
   .obtain⟨a5,e1⟩:=un.slot b o e n Z nx
    obtain⟨F,e2⟩:=slot b _ (a2 b Z) e1
    exact⟨F,e2⟩
   .obtain⟨o1,e1⟩:=un.there b o e nx
    by_cases z:b∈frs X.stack
    .obtain⟨_,e2⟩:=slot b _ z e1
     exact⟨_,e2⟩
    .exact⟨_,keep b o1 (B b o e).1 (B b o e).2 z e1⟩
  .obtain⟨m,⟨o,es,ep,ho,hd,hr⟩,hl⟩:=I.loc
   obtain⟨a5,e1⟩:=up _ o ho (λ vs z=>by rw[hd]at z;cases z)
   refine⟨m,⟨_,es,ep,e1,hd,hr⟩,λ i x v h1 h2 h3=>?_⟩
   obtain⟨u,r,lk⟩:=hl i x v h1 h2 h3
   refine⟨u,r,?_⟩
   rcases lk with z|⟨z1,c,z2,oc,z3,z4⟩
   .exact .inl z
   .obtain⟨F,e2⟩:=up c oc z3 (λ vs z=>by rw[z4]at z;cases z)
    exact .inr ⟨z1,c,z2,_,e2,z4⟩
  .obtain⟨v,oc,z3,z4⟩:=I.cell x c e
   obtain⟨F,e2⟩:=up c oc z3 (λ vs z=>by rw[z4]at z;cases z)
   exact⟨v,_,e2,z4⟩
  .obtain⟨q1,q2,q3,q4,q5⟩:=I.pin p hp
   refine⟨keep _ _ (t.np p hp) (J p hp) (λ z=>?_) q1,q2,q3,q4,q5⟩
   rcases aH.mp (I.stkSub _ z)with q|q
   .exact q3 q
   .exact q4 q
  .refine keep b o (λ z=>?_) (λ z=>?_) (λ z=>?_) q
   .rw[z,t.nH]at e;cases e
   .rw[z,a3]at e;cases e
   .rw[I.stkFree b z]at e;cases e
 refine⟨a1,t.n0,t.nH,t.np,?_⟩
 obtain⟨b3,c1,h,b1,a6,h1,h2,h3,h4,h5,h6,h7,h8,h9⟩:=tr
 have key:X.s₀.heap.get? h=none/\H h=none/\∀ p∈X.pn++pins,p.1≠h:=by
  rcases without_none h5 with z|z
  .rcases Y h z with y|y|y
   .exact absurd y h6
   .subst y;exact⟨a4,a3,J⟩
   .obtain⟨_,o',e',d⟩:=ff.mem y
    rw[h7]at e';cases e'
    exact absurd h8 (d _)
  .refine⟨?_,?_,λ p hp y=>?_⟩
   .cases e:X.s₀.heap.get? h with
    | none=>rfl
    | some o=>obtain⟨o',e'⟩:=un.there h o e (by simp);rw[z]at e';cases e'
   .cases e:H h with
    | none=>rfl
    | some o=>obtain⟨u,e'⟩:=(I.hok h o e).at_;rw[z]at e';cases e'
   .have:=(I.pin p hp).1
    rw[y,z]at this;cases this
 exact⟨a0,b3,c1,h,b1,a6,h1,h2,h3,h4,key.1,key.2.1,key.2.2,h6,h7,h8,h9⟩
theorem Tr.noted (t:Tr X pins W H s a Cc .none)(G:X.ex=[])(h:X.stack=X.env::X.outer)(F:X.env.frame=some X.env.locals){Q:Unit->ai->Prop}{E:Value->ai->Prop}
  (k:∀ h' fl,Tr X pins W H { s with heap:=h' } a Cc fl->Q () { s with heap:=h' }):wpAny (model X.prog X.w) X.A (jp (.ref a) X.env) Q E s:=by
 have I:=t.inv
 obtain⟨a0,oe,vs,T,oT,ts,h1,h2,h3,h4,h5,h6,Z,h7,h8,h9,J⟩:=t.tr
 have Y:s.heap.FunFrames (zw s.heap (a::T::frs X.stack)) X.stack:=at5 I.stack λ b hb=>zq (aq _ (aq _ hb))
 have B:=I.ok.frames
 rw[h]at B
 refine wpAny_noteFrame_onW (base:=zw s.heap (a::T::frs X.stack)) B (by rw[<-h];exact Y) F ⟨oe,vs,T,oT,ts,h1,h2,h3,h4,zq (by simp),h7,h8,h9,J⟩ zT (zq (aC ..)) λ h' L=>?_
 rw[<-h]at L
 obtain⟨st,ff,tr,sl⟩:=L
 exact k h' _ (t.moved G h F h5 h6 Z h8 h9 st ff tr sl)
theorem Tr.down (t:Tr X pins W H s a Cc fl)(h:X.ex=[])(G:X.stack=X.env::X.outer)(F:X.env.frame=some X.env.locals){A:aV}{Q:Unit->ai->Prop}{E:Value->ai->Prop}
  (k:∀ h',Tr X pins W H { s with heap:=h' } a Cc .none->Q () { s with heap:=h' }):wpAny (model X.prog X.w) A (kg (.ref a) none) Q E s:=by
 have I:=t.inv
 obtain⟨a0,oe,vs,T,oT,ts,h1,h2,h3,h4,h5,h6,Y,h7,Z,h9,B⟩:=t.tr
 have J:s.heap.FunFrames (zw s.heap (a::T::frs X.stack)) X.stack:=at5 I.stack λ b hb=>zq (aq _ (aq _ hb))
 refine wpAny_setFlight_noneW (base:=zw s.heap (a::T::frs X.stack)) zT J ⟨oe,vs,T,oT,ts,h1,h2,h3,h4,zq (by simp),h7,Z,h9,B⟩ λ h' st ff tr sl=>?_
 exact k h' (t.moved h G F h5 h6 Y Z h9 st ff tr.at λ b o e d=>⟨o.slots,sl b o e d⟩)
theorem CX1.tr {s':ai}{E:XK}{e:Value}(I:Inv X pins W H s)(B:X.ex=[])(h:CX1 X.prog X.w X.stack H s E e s') :
  ∃ a Cc H',e=.ref a/\Tr X pins W H' s' a Cc .none/\E e (some Cc) H':=by
 have h0:=h
 obtain⟨a,Cc,H',rfl,os,bare,un,hok,F,q⟩:=h
 obtain⟨a',Cc',a1,e,J,G,q'⟩:=CX1.inv I B h0
 have Y:∀ b,s.heap.get? b=none->X.s₀.heap.get? b=none:=λ b z=>by
  cases e:X.s₀.heap.get? b with
  | none=>rfl
  | some o=>obtain⟨o',e'⟩:=I.base.there b o e (by rw[B];simp);rw[z]at e';cases e'
 have pn:∀ b,s.heap.get? b=none->∀ p∈X.pn++pins,p.1≠b:=λ b z p hp y=>by
  have:=(I.pin p hp).1
  rw[y,z]at this;cases this
 obtain⟨n0,nH,a0,oe,vs,T,oT,ts,h1,h2,h3,h4,Z,h6,h7⟩:=F
 exact⟨a,Cc,H',rfl,⟨I.call' os un hok bare (ch:=[]) (λ b z=>absurd z (by simp)),Y _ n0,nH,pn _ n0,a0,oe,vs,T,oT,ts,h1,h2,h3,h4,Y _ Z,h6,pn _ Z,h7⟩,q⟩
end
noncomputable abbrev Cx.hnd (X:Cx)(a:Addr)(oe:Obj):Cx:={ X with A:=X.A.mark (some (.ref a)),calm:=false,pn:=(a,oe)::X.pn,xe:=λ _ _=>False }
section
variable {X:Cx} {pins:yA} {W:St} {H:Hp} {s:ai} {a Cc:Addr} {oe:Obj} {fl:Value}
theorem Cx.Ok.hnd (ok:X.Ok)(a:Addr)(h:Obj):(X.hnd a h).Ok:=⟨ok.mod,ok.kind,ok.glob,ok.blt,ok.above,ok.inj,ok.has,ok.cab,(λ z=>by cases z),ok.frames,ok.stk,ok.exf,ok.bs,ok.bsz,ok.noex,ok.exfs,ok.funs,ok.frf⟩
theorem Inv.apart (I:Inv X pins W H s){b:Addr}{o:Obj}{vs:yJ}(e:s.heap.get? b=some o)(d:o.data=.fields vs):b≠X.env.locals/\b ∉ X.fs/\∀ v,o.data≠.cell v:=by
 refine⟨λ z=>?_,λ z=>?_,λ v z=>by rw[d]at z;cases z⟩
 .obtain⟨m,⟨h,es,ep,ho,hd,_⟩,_⟩:=I.loc
  rw[<-z,e]at ho;cases ho
  rw[d]at hd;cases hd
 .obtain⟨_,h,e',d'⟩:=I.funs.mem z
  rw[e]at e';cases e'
  exact d' _ d
theorem Inv.hnd {vs:yJ}(I:Inv X pins W H s)(e:s.heap.get? a=some oe)(n:H a=none)(d:oe.data=.fields vs):Inv (X.hnd a oe) pins W H s :=
 ⟨I.ok.hnd a oe,I.os,I.bare,I.base,I.loc,I.cell,I.free,I.freeC,λ p hp=>by
  rcases aH.mp hp with z|z
  .subst z;exact⟨e,n,I.apart e d⟩
  .exact I.pin p z,I.hok,I.len⟩
theorem Inv.unhnd (ok:X.Ok)(I:Inv (X.hnd a oe) pins W H s):Inv X pins W H s:=⟨ok,I.os,I.bare,I.base,I.loc,I.cell,I.free,I.freeC,λ p hp=>I.pin p (aq _ hp),I.hok,I.len⟩
theorem Tr.own (t:Tr X pins W H s a Cc fl):∃ h vs,s.heap.get? a=some h/\h.cls=.ref Cc/\h.data=.fields vs:=by
 obtain⟨a0,h,vs,T,G,ts,B,F,h3,_⟩:=t.tr
 exact⟨h,vs,B,F.1,h3⟩
theorem Tr.again (t:Tr X pins W H s a Cc fl){Q:V->Hp->Prop}{e:Expr}{v:V}(he:∀ h,PE (X.hnd a h) e (tC v)){E:Value->ai->Prop}{R:Value->ai->Prop}
  (k:∀ u s',RelV v u->Tr X pins W H s' a Cc fl->R u s'):wpAny (model X.prog X.w) (X.A.mark (some (.ref a))) (eval e X.env) R E s:=by
 obtain⟨a0,h,vs,T,B,ts,h1,h2,h3,h4,h5,h6,Y,h7,h8,h9,G⟩:=t.tr
 have I:=t.inv
 have J:Inv (X.hnd a h) ((T,B)::pins) W H s:=(I.hnd h1 t.nH h3).pins_of λ p hp=>by
  rcases aH.mp hp with z|z
  .subst z;exact⟨h8,h6,I.apart h8 h9⟩
  .exact I.pin p (aM _ z)
 refine bq (he h ((T,B)::pins) s W H (λ w Z=>w=v/\Z=H) J ⟨rfl,rfl⟩) (λ u s1 ⟨w,Z,F,r,e1,e2⟩=>?_) (λ _ _ z=>bA z)
 subst e1 e2
 refine k u s1 r ⟨(F.pins_of λ p hp=>F.pin p (aM _ (aq _ hp))).unhnd I.ok,t.n0,t.nH,t.np,a0,h,vs,T,B,ts,(F.pin (a,h) (aC ..)).1,h2,h3,h4,h5,h6,Y,h7,(F.pin (T,B) (aM _ (aC ..))).1,h9,G⟩
end
section
variable {prog:aJ} {w:World} {A:aV} {R:jS->ai->Prop} {I:Addr} {fp wr:List Addr} {n:Nat} {P:Nat->Value->Prop} {St:Nat->Heap->Prop} {h₀:Heap}
end
def bs6 (tk tv:TE):TE:=λ W H Q=>∀ p,H p=none->tk W (upd H p (.dT [])) λ x H1=>tv W H1 λ y H2=>H2 p=some (.dT [])/\∃ b k,x=.ref b/\NK H2 k b/\Q (.ref p) (upd H2 p (.dT [(k,y)]))
theorem br8 {X:Cx}{pos:Pos}{e f:Expr}{tk Y:TE}(hu:X.A.units+1<cLine)(hk:PE X e tk)(hv:PE X f Y):PE X (.Dict [some e] [f] pos) (bs6 tk Y):=by
 intro F s W H Q I q
 have hn:=I.hok.fresh (aw s.heap.objs.size)
 have I1:=I.laid (a:=s.heap.objs.size) (o:=.dT []) (h':=s.heap.push { cls:=.type "dict",data:=.dict #[] }) (t':=s.toks) (λ _ _ q=>az _ q) (aw _) (aR2 s.heap I.big)
 refine wpAny_Dict_any rfl rfl (by nofun) (by show 1<=15;decide) (thn (aS6 hk hv bh2 F _ W _ (λ ps h=>match ps with
  | [(x,y)]=>h s.heap.objs.size=some (.dT [])/\∃ b k,x=.ref b/\NK h k b/\Q (.ref s.heap.objs.size) (upd h s.heap.objs.size (.dT [(k,y)]))
  | _=>False) I1 (q _ hn)) λ ws s2 ⟨ps,h,J,B,r⟩=>?_)
 obtain⟨x,y,eps,e2,b,k,ex,Z,r2⟩:∃ x y,ps=[(x,y)]/\h s.heap.objs.size=some (.dT [])/\∃ b k,x=.ref b/\NK h k b/\Q (.ref s.heap.objs.size) (upd h s.heap.objs.size (.dT [(k,y)])):=by
  split at r
  .exact⟨_,_,rfl,r⟩
  .exact r.elim
 subst eps ex
 cases B with
 | @cons _ w _ _ h1 t =>
  cases t
  obtain⟨w1,w2⟩:=w
  cases(show w1=Value.ref b from h1.1)
  unfold storeAll
  rw[jF]
  obtain⟨z,hd,xs,B,dd⟩:=bX1 J.hok e2
  cases B
  refine ak (ak (wpAny_dictSet_heap (knd:=av0 X.prog X.w) (show _<_ from hu) (av7 J.hok Z) dd λ h' G hs=>?_))
  refine aD ?_
  show wpAny _ _ (forIn ([]:List (Value×Value)) _ _) _ _ _
  rw[gY]
  refine aD ⟨.ref _,_,?_,rfl,r2⟩
  obtain⟨qo,es,ep,hq,h2,h3,h4,_,h5⟩:=G
  refine aA7 J (by rw[e2];exact True.intro) hs ⟨qo,hq⟩ ⟨by show 1<=aN;rw[eP];omega,hd,_,.cons ⟨rfl,Z.mono λ c ys ec=>?_,h1.2⟩ .nil,qo,es,ep,hq,h2,h3,h4,h5⟩
  rw[zn (bW4 ec e2 (λ z=>nomatch z))]
  exact ec
section
variable {X:Cx} {pins:yA} {W:St} {H:Hp} {s:ai} {a Cc:Addr} {oe:Obj} {fl:Value}
theorem bh8 {x:Str}{np pos:Pos}{b₀:Stmt}{h:yL}{rest:List fR}{th:TS}{D:Ends}(t:Tr X pins W H s a Cc .none)(B:X.ex=[])(G:X.stack=X.env::X.outer)(F:X.env.frame=some X.env.locals)
  (hc:ExcCls X.K Cc) (hg:Gl X x) (hm:X.mg x=some (.ref Cc)) (hd:(x==("__debug__":Str))=false)
  (hb:∀ Z,Z.cls=.ref Cc->PSs (X.hnd a Z) (b₀::h) th) (hq:th { nx:=λ _ _=>False,rt:=D.rt } W H) :
  wpAny (model X.prog X.w) X.A (jp (.ref a) X.env) (λ _ s₂=>wpAny (model X.prog X.w) X.A (kg (.ref a) none) (λ _ s₃=>wpAny (model X.prog X.w) X.A (handleBy (.ref a) X.env (.ExceptHandler (some (.Name x np)) none (b₀::h) pos::rest)) (SP X pins D) X.xe s₃) X.xe s₂) X.xe s:=by
 obtain⟨bm,N,nm,q,bs,hdct,sn,sub,ab,col,dd,k0,k1,k2,k3,k5,mN,e,a0,b0⟩:=hc.obj
 refine t.noted B G F λ h2 fl t2=>t2.down B G F λ h3 t3=>?_
 refine handleBy_own (bmB:=excTail) (newId := "ValueError.__new__") (mg:=X.mg) (x:=x) (C:=Cc) rfl ?_
 refine t3.again (Q:=λ _ _=>True) (v:=.ref Cc) (λ Z=>aM2 (X:=X.hnd a Z) hg hm rfl hd) λ u s4 r Y=>?_
 have K4:=b0 _ Y.inv.kIn
 obtain⟨a1,b1,a3,a4,b2⟩:=Y.own
 refine⟨r,⟨hm,bm,N,nm,q,bs,hdct,sn,sub,ab,col,dd,k0,k1,k2,k3,k5,mN,Y.inv.kIn _ _ e,K4.1,a0,K4.2⟩,⟨a1,a3,a4⟩,?_⟩
 refine Y.down B G F λ h5 t5=>?_
 obtain⟨J,b3,a2,a5,a6⟩:=t5.own
 have J7:Inv (X.hnd a J) pins W H { s4 with heap:=h5 }:=t5.inv.hnd a2 t5.nH a6
 refine bq (hb J a5 pins _ _ H { nx:=λ _ _=>False,rt:=D.rt } J7 hq) (λ f s8 z=>?_) (λ _ _ z=>bA z)
 cases f with
 | next=>obtain⟨_,_,_,z⟩:=z;exact bA z
 | brk=>obtain⟨_,_,_,z⟩:=z;exact bA z
 | cont=>obtain⟨_,_,_,z⟩:=z;exact bA z
 | ret u8 =>
  obtain⟨v8,W8,H8,J8,r8,q8⟩:=z
  exact⟨v8,W8,H8,J8.unhnd t5.inv.ok,r8,q8⟩
end
theorem PG.nox {X:Cx}{e:Expr}{t:TG}(h:PG X.nox e t):PG X e t:=λ B s W H v u Q I r hw =>
 bq (h B s W H v u Q (I.wish _) r hw) (λ _ _ ⟨W',H',F,q⟩=>⟨W',H',F.unwish,q⟩) λ _ _ z=>bA z
theorem PI.nox {X:Cx}{tg e:Expr}{t:TI}(h:PI X.nox tg e t):PI X tg e t:=λ B s W H R I hw =>
 bq (h B s W H R (I.wish _) hw) (λ _ _ z=>bq z (λ _ _ z=>by
  obtain⟨it,Y,tn,J,Z,e,G,T,F,f2,q⟩:=z
  exact⟨it,Y,tn,J,Z,e,G.unwish,T,F,f2,q⟩) λ _ _ z=>bA z) λ _ _ z=>bA z
section
variable {X:Cx} {pins:yA} {W:St} {H:Hp} {s:ai} {a Cc D':Addr} {oe:Obj} {fl:Value}
end
def ap1 (op:CmpOp)(A:aV)(s:ai)(y x:Value)(b:Bool):Prop :=
 ∀(prog:aJ) (w:World) (E:Value->ai->Prop) (Q:Value->ai->Prop),Q (.bool b) s->wpAny (model prog w) A (richCompare op y x) Q E s
section
open PySem.AutoSeq1 (wpAny_loadPart')
open PySem.MeetsSeq PySem.MeetsSeq2 PySem.MeetsSeq3 PySem.SeqAt
theorem bi3 (l b:Addr)(J G x1 F:Value)(n n2:Nat)(dd a5:yI)(sl a0:yE)(e1 e2 r1 r2:Bool) :
  Meets (Builtin.«tuple.__gt__» ⟨[.ref l,.ref b],[]⟩)
   (λ A R s=>s.heap.get? l=some { cls:=.type "tuple",dict:=dd,data:=.seq #[J,x1] n,slots:=sl }/\s.heap.get? b=some { cls:=.type "tuple",dict:=a5,data:=.seq #[G,F] n2,slots:=a0 } /\
    EqAt A.in1 s J G e1/\EqAt A.in1 s x1 F e2/\ap1 .Gt A.in1 s J G r1/\ap1 .Gt A.in1 s x1 F r2 /\
    R (.ok (.ret (.bool (if e1 then(if e2 then false else r2)else r1)))) s) :=
 .of_wp λ prog w A R s h=>by
  obtain⟨hp,g,d,tk,os⟩:=s;obtain⟨hl,hb,a3,Z,Y,a4,h⟩:=h
  have f2:=fS
  wp_walk using e6 hl,e6 hb,dA _ (λ rest b s'=>b.1=none/\s'=⟨hp,g,d,tk,os⟩/\(rest=[(J,G),(x1,F)]\/(rest=[(x1,F)]/\e1=true)\/(rest=[]/\e1=true/\e2=true))) _
  case turn =>
   rintro⟨y,x⟩ rest b s' ⟨B,rfl,hz⟩
   rcases hz with hz|⟨hz,rfl⟩|⟨hz,_⟩
   .cases hz
    refine ak (a3 prog w _ _ ?_)
    cases e1 with
    | true =>
     wp_walk
     exact⟨rfl,rfl,.inr (.inl ⟨rfl,rfl⟩)⟩
    | false =>
     simp only[aj,if_true]
     refine ak (dq (ak (Y prog w _ _ ?_)))
     wp_walk
     exact⟨_,rfl,by simpa using h⟩
   .cases hz
    refine ak (Z prog w _ _ ?_)
    cases e2 with
    | true =>
     wp_walk
     exact⟨rfl,rfl,.inr (.inr ⟨rfl,rfl,rfl⟩)⟩
    | false =>
     simp only[aj,if_true]
     refine ak (dq (ak (a4 prog w _ _ ?_)))
     wp_walk
     exact⟨_,rfl,by simpa using h⟩
   .cases hz
  case fin =>
   rintro⟨b1,b2⟩ s' ⟨B,rfl,hz⟩
   simp only at B
   subst B
   rcases hz with hz|⟨hz,_⟩|⟨_,rfl,rfl⟩
   .cases hz
   .cases hz
   wp_walk
   exact⟨_,rfl,by simpa [eB]using h⟩
  case h =>
   exact⟨rfl,rfl,.inl rfl⟩
theorem bb8 (l b:Addr)(J G x1 F:Value)(n n2:Nat)(dd a5:yI)(sl a0:yE)(e1 e2 r1 r2:Bool) :
  Meets (Builtin.«tuple.__ge__» ⟨[.ref l,.ref b],[]⟩)
   (λ A R s=>s.heap.get? l=some { cls:=.type "tuple",dict:=dd,data:=.seq #[J,x1] n,slots:=sl }/\s.heap.get? b=some { cls:=.type "tuple",dict:=a5,data:=.seq #[G,F] n2,slots:=a0 } /\
    EqAt A.in1 s J G e1/\EqAt A.in1 s x1 F e2/\ap1 .GtE A.in1 s J G r1/\ap1 .GtE A.in1 s x1 F r2 /\
    R (.ok (.ret (.bool (if e1 then(if e2 then true else r2)else r1)))) s) :=
 .of_wp λ prog w A R s h=>by
  obtain⟨hp,g,d,tk,os⟩:=s;obtain⟨hl,hb,a3,Z,Y,a4,h⟩:=h
  have f2:=fS
  wp_walk using e6 hl,e6 hb,dA _ (λ rest b s'=>b.1=none/\s'=⟨hp,g,d,tk,os⟩/\(rest=[(J,G),(x1,F)]\/(rest=[(x1,F)]/\e1=true)\/(rest=[]/\e1=true/\e2=true))) _
  case turn =>
   rintro⟨y,x⟩ rest b s' ⟨B,rfl,hz⟩
   rcases hz with hz|⟨hz,rfl⟩|⟨hz,_⟩
   .cases hz
    refine ak (a3 prog w _ _ ?_)
    cases e1 with
    | true =>
     wp_walk
     exact⟨rfl,rfl,.inr (.inl ⟨rfl,rfl⟩)⟩
    | false =>
     simp only[aj,if_true]
     refine ak (dq (ak (Y prog w _ _ ?_)))
     wp_walk
     exact⟨_,rfl,by simpa using h⟩
   .cases hz
    refine ak (Z prog w _ _ ?_)
    cases e2 with
    | true =>
     wp_walk
     exact⟨rfl,rfl,.inr (.inr ⟨rfl,rfl,rfl⟩)⟩
    | false =>
     simp only[aj,if_true]
     refine ak (dq (ak (a4 prog w _ _ ?_)))
     wp_walk
     exact⟨_,rfl,by simpa using h⟩
   .cases hz
  case fin =>
   rintro⟨b1,b2⟩ s' ⟨B,rfl,hz⟩
   simp only at B
   subst B
   rcases hz with hz|⟨hz,_⟩|⟨_,rfl,rfl⟩
   .cases hz
   .cases hz
   wp_walk
   exact⟨_,rfl,by simpa [eB]using h⟩
  case h =>
   exact⟨rfl,rfl,.inl rfl⟩
end
section
variable {A:aV} {s:ai}
theorem bI3 {l b:Addr}{a1 Y x1 Z:Value}{e1 e2 r1 r2:Bool}(hl:s.heap.IsTuple l #[a1,x1])(hb:s.heap.IsTuple b #[Y,Z])(hu:A.units<cLine)
  (h1:dv A.in1 s a1 Y e1) (h2:dv A.in1 s x1 Z e2) (h3:ap1 .Gt A.in1 s a1 Y r1) (h4:ap1 .Gt A.in1 s x1 Z r2):ap1 .Gt A s (.ref l) (.ref b) (if e1 then(if e2 then false else r2)else r1):=λ prog w E Q h=>by
 obtain⟨⟨cls,dd,data,sl⟩,ho,hc,n,hd⟩:=id hl
 obtain⟨⟨a5,a4,a3,a0⟩,J,G,n2,B⟩:=id hb
 simp only at hc hd G B
 subst hc hd G B
 exact gz (op:=.Gt) ⟨_,ho,rfl⟩ ⟨_,J,rfl⟩ F.slot_tuple_gt F.entry_tuple_gt (F.args_tuple_gt_2 _ _) (bi3 l b a1 Y x1 Z n n2 dd a4 sl a0 e1 e2 r1 r2)
  ⟨ho,J,h1,h2,h3,h4,show Value.bool _≠Value.notImplemented/\Q (.bool _) s from⟨(λ x=>nomatch x),h⟩⟩ hu
theorem bz7 {l b:Addr}{a1 Y x1 Z:Value}{e1 e2 r1 r2:Bool}(hl:s.heap.IsTuple l #[a1,x1])(hb:s.heap.IsTuple b #[Y,Z])(hu:A.units<cLine)
  (h1:dv A.in1 s a1 Y e1) (h2:dv A.in1 s x1 Z e2) (h3:ap1 .GtE A.in1 s a1 Y r1) (h4:ap1 .GtE A.in1 s x1 Z r2):ap1 .GtE A s (.ref l) (.ref b) (if e1 then(if e2 then true else r2)else r1):=λ prog w E Q h=>by
 obtain⟨⟨cls,dd,data,sl⟩,ho,hc,n,hd⟩:=id hl
 obtain⟨⟨a5,a4,a3,a0⟩,J,G,n2,B⟩:=id hb
 simp only at hc hd G B
 subst hc hd G B
 exact gz (op:=.GtE) ⟨_,ho,rfl⟩ ⟨_,J,rfl⟩ F.slot_tuple_ge F.entry_tuple_ge (F.args_tuple_ge_2 _ _) (bb8 l b a1 Y x1 Z n n2 dd a4 sl a0 e1 e2 r1 r2)
  ⟨ho,J,h1,h2,h3,h4,show Value.bool _≠Value.notImplemented/\Q (.bool _) s from⟨(λ x=>nomatch x),h⟩⟩ hu
end
section
variable {prog:aJ} {w:World} {A:aV} {E:Value->ai->Prop} {s:ai} {x y:Str} {t u:Tok}
theorem bB3 {Q:Value->ai->Prop}(h:Q (.bool (y.cps.toList<x.cps.toList)) s):wpAny (model prog w) A (cJ .Gt (.str x t) (.str y u)) Q E s :=
 compareOp_gives (op:=.Gt) (eI s x t) (eI s y u) F.slot_str_gt F.entry_str_gt (F.args_str_gt_2 _ _) (gives_str_gt x y t u) (λ e=>nomatch e) h
theorem bI8 {Q:Value->ai->Prop}(h:Q (.bool (!(x.cps.toList<y.cps.toList))) s):wpAny (model prog w) A (cJ .GtE (.str x t) (.str y u)) Q E s :=
 compareOp_gives (op:=.GtE) (eI s x t) (eI s y u) F.slot_str_ge F.entry_str_ge (F.args_str_ge_2 _ _) (gives_str_ge x y t u) (λ e=>nomatch e) h
end
end L2
end
noncomputable section
namespace DV
inductive D where
 | non|bl (b:Bool)|int (i:Int)|str (x:List Nat)|tup (l:List D)|ref (n:Nat)|fn (f:String)|clo (f:String) (cs:List D)
noncomputable instance:DecidableEq D:=λ a b=>f6 (a=b)
noncomputable instance (x:D):Decidable (x=.non):=match x with
 | .non=>.isTrue rfl
 | .bl _=>.isFalse nofun
 | .int _=>.isFalse nofun
 | .str _=>.isFalse nofun
 | .tup _=>.isFalse nofun
 | .ref _=>.isFalse nofun
 | .fn _=>.isFalse nofun
 | .clo _ _=>.isFalse nofun
inductive O where
 | lst (l:List D)|ro (l:List D)|dic (l:List (D×D))|ins (c:String) (fs:List (String×D))|dit (l:List (D×D))
noncomputable instance:DecidableEq O:=λ a b=>f6 (a=b)
noncomputable abbrev Sto:=List O
noncomputable def O.kd:O->Nat
 | .lst _=>0|.ro _=>1|.dic _=>2|.ins _ _=>3|.dit _=>4
inductive R (α:Type) where
 | ok (a:α) (s:Sto)|exc (e:D) (s:Sto)|bad
noncomputable abbrev M (α:Type):=Sto->R α
noncomputable def R.bind {α β:Type}(r:R α)(f:α->Sto->R β):R β:=match r with
 | .ok a s=>f a s
 | .exc e s=>.exc e s
 | .bad=>.bad
@[simp] theorem R.bind_ok {α β:Type} (a:α) (s:Sto) (f:α->Sto->R β):(R.ok a s).bind f=f a s:=rfl
@[simp] theorem R.bind_bad {α β:Type} (f:α->Sto->R β):(R.bad:R α).bind f=.bad:=rfl
@[simp] theorem R.bind_exc {α β:Type} (e:D) (s:Sto) (f:α->Sto->R β):(R.exc e s:R α).bind f=.exc e s:=rfl
theorem R.bind_inv {α β:Type}{r:R α}{f:α->Sto->R β}{b:β}{t:Sto}(h:r.bind f=.ok b t):∃ a s,r=.ok a s/\f a s=.ok b t:=by
 cases r with
 | ok a s=>exact⟨a,s,rfl,h⟩
 | exc e s=>cases h
 | bad=>cases h
@[simp] theorem R.bind_assoc {α β γ:Type} (r:R α) (f:α->Sto->R β) (g:β->Sto->R γ):(r.bind f).bind g=r.bind λ a s=>(f a s).bind g:=by cases r<;>rfl
mutual
noncomputable def D.bnd (n:Nat):D->Bool
 | .tup l=>D.bndL n l
 | .ref k=>decide (k<n)
 | .clo _ l=>D.bndL n l
 | _=>true
noncomputable def D.bndL (n:Nat):List D->Bool
 | []=>true
 | d::l=>D.bnd n d&&D.bndL n l
end
noncomputable def O.bnd (n:Nat):O->Bool
 | .lst l=>D.bndL n l
 | .ro l=>D.bndL n l
 | .dic l=>D.bndL n (l.map (·.1))&&D.bndL n (l.map (·.2))
 | .ins _ fs=>D.bndL n (fs.map (·.2))
 | .dit l=>D.bndL n (l.map (·.1))&&D.bndL n (l.map (·.2))
mutual
noncomputable def D.plain:D->Bool
 | .non=>true|.int _=>true|.str _=>true
 | .tup l=>D.plainL l
 | _=>false
noncomputable def D.plainL:List D->Bool
 | []=>true
 | d::l=>D.plain d&&D.plainL l
end
mutual
noncomputable def D.ncl:D->Bool
 | .tup l=>D.nclL l
 | .clo _ _=>false
 | _=>true
noncomputable def D.nclL:List D->Bool
 | []=>true
 | d::l=>D.ncl d&&D.nclL l
end
noncomputable def O.ncl:O->Bool
 | .lst l=>D.nclL l
 | .ro l=>D.nclL l
 | .dic l=>D.nclL (l.map (·.2))
 | .dit l=>D.nclL (l.map (·.2))
 | _=>false
noncomputable def D.key:D->Bool
 | .int _=>true|.str _=>true|_=>false
noncomputable def D.hdI:List D->Bool
 | .int _::_=>true|.non::_=>true|.tup _::_=>true|_=>false
noncomputable def D.keyF:D->Bool
 | .int _=>true|.non=>true|.str x=>decide (x.length<=1000)|_=>false
noncomputable def D.keyS:D->Bool
 | .tup l=>D.hdI l&&(l.all D.keyF&&decide (l.length<=1000))|d=>D.keyF d
noncomputable def D.keyT:D->Bool
 | .tup l=>D.hdI l&&(l.all D.keyS&&decide (l.length<=1000))|_=>false
noncomputable def LIM:Nat:=1000000
@[irreducible] noncomputable def BIG:Nat:=2^60000
@[irreducible] noncomputable def DIVL:Nat:=2^4096
inductive BOp where
 | add|sub|mul|fdiv|mod|pow|shl|shr|band|bor
 deriving DecidableEq
inductive COp where
 | eq|ne|lt|le|gt|ge|isin|notin
 deriving DecidableEq
inductive Cn where
 | non|bl (b:Bool)|int (i:Int)|str (x:List Nat)
 deriving DecidableEq
noncomputable def Cn.d:Cn->D
 | .non=>.non|.bl b=>.bl b|.int i=>.int i|.str x=>.str x
inductive Bi where
 | len|abs|int|str|min2|max2|max3|min3|isInt|isBool|isStr|isTup|isList|ord
 deriving DecidableEq
inductive Mk where
 | tuple|list|all|any|sum|min|max|sorted|lenset
 deriving DecidableEq
inductive Mt where
 | append|pop|index|count|reverse|clear|bitlen|get1|get2|setdefault|update|split|partition
 deriving DecidableEq
inductive Tg where
 | one (i:Nat)|tup (is:List Nat)
 deriving DecidableEq
mutual
inductive E where
 | var (i:Nat)|cst (c:Cn)|glob (x:String)
 | bin (op:BOp) (a b:E)|neg (a:E)|not (a:E)
 | cmp (op:COp) (a b:E)|chain (o p:COp) (a b c:E)
 | isN (a:E)|notN (a:E)|isB (a:E) (b:Bool)|notB (a:E) (b:Bool)
 | and (a b:E)|or (a b:E)|ite (c a b:E)
 | tup (es:Es)|lst (es:Es)|dic (ks vs:Es)|dicT|dicU (k v:E)|get2 (o k d:E)|bitl (a:E)|lrng (a:E)|fstr (es:Es)|inC (e:E) (c:String)|getC (c:String) (e:E)
 | ix (a b:E)|slL (a lo:E)|slU (a hi:E)|slLU (a lo hi:E)|rev (a:E)
 | call (f:String) (as:As)|callC (f:String) (as:As)|callV (i:Nat) (es:Es)
 | bi (b:Bi) (es:Es)|mk (k:Mk) (l:L)|mkD (k:Mk) (l:L) (d:E)
 | meth (m:Mt) (o:E) (es:Es)|ext (o:E) (l:L)|extS (o e:E)|join (o e:E)|mks (k:Mk) (e:E)|mkDs (k:Mk) (e d:E)|minK (id:String) (e:E) (j:Int)|spl (o:E) (c:Nat)
inductive Es where
 | nil|cons (e:E) (es:Es)
inductive As where
 | nil|ex (e:E) (as:As)|lam (id:String) (caps:List Nat) (as:As)|fn (f:String) (as:As)
inductive I where
 | seq (e:E)|rng1 (a:E)|rng2 (a b:E)|rng3 (a b:E) (c:Int)|rngD (a:E)|enum (it:I)|zip (a b:I)|items (e:E)
inductive L where
 | comp (tg:Tg) (it:I) (e:E) (caps:yD)|compIf (tg:Tg) (it:I) (c e:E) (caps:yD)|disp (es:Es)|seq (e:E)|itm (e:E)
end
mutual
inductive S where
 | asg (tg:Tg) (e:E)|setIx (o i e:E)|aug (i:Nat) (e:E)|ex (e:E)|ret (e:E)|retN
 | ite (c:E) (a b:Ss)|whl (c:E) (b:Ss)|for_ (tg:Tg) (it:I) (b:Ss)|pass|cont|brk|raise|und (i:Nat)
inductive Ss where
 | nil|cons (s:S) (ss:Ss)
end
noncomputable abbrev Env:=List (Option D)
noncomputable def aj1 (o:O):M D:=λ s=>.ok (.ref s.length) (s++[o])
noncomputable def pur (d:D):M D:=λ s=>.ok d s
noncomputable def bad {α:Type}:M α:=λ _=>.bad
noncomputable def mulOk (a b:Int):Bool:=decide (a.natAbs<2^64)||decide (b.natAbs<2^64)||(decide (a.natAbs<BIG)&&decide (b.natAbs<BIG))
noncomputable def rep:Nat->List Nat->List Nat
 | 0,_=>[]
 | n+1,a=>a++rep n a
noncomputable def aX4:Nat->List D->List D
 | 0,_=>[]
 | n+1,a=>a++aX4 n a
noncomputable def ao3:BOp->D->D->M D
 | .add,.int a,.int b=>pur (.int (a+b))
 | .add,.str a,.str b=>if a.length+b.length<=LIM then pur (.str (a++b))else bad
 | .add,.tup a,.tup b=>if a.length+b.length<=LIM then pur (.tup (a++b))else bad
 | .add,.ref a,.ref b=>λ s=>match s[a]?,s[b]? with
  | some (.lst l),some (.lst m)=>if l.length+m.length<=LIM then aj1 (.lst (l++m)) s else .bad
  | _,_=>.bad
 | .sub,.int a,.int b=>pur (.int (a - b))
 | .mul,.int a,.int b=>if mulOk a b then pur (.int (a*b))else bad
 | .mul,.str a,.int n=>if 0<=n/\n<=1000000/\a.length*n.toNat<=LIM then pur (.str (rep n.toNat a))else bad
 | .mul,.tup a,.int n=>if 0<=n/\n<=1000000/\a.length*n.toNat<=LIM then pur (.tup (aX4 n.toNat a))else bad
 | .mul,.ref a,.int n=>λ s=>match s[a]? with
  | some (.lst l)=>if 0<=n/\n<=1000000/\l.length*n.toNat<=LIM then aj1 (.lst (aX4 n.toNat l)) s else .bad
  | _=>.bad
 | .fdiv,.int a,.int b=>if 0<b/\b<(DIVL:Int)then pur (.int (a / b))else bad
 | .mod,.int a,.int b=>if 0<b then pur (.int (a % b))else bad
 | .pow,.int a,.int b=>if 0<=b/\b<=1000000/\a.natAbs<2^64 then pur (.int (a^b.toNat))else bad
 | .shl,.int a,.int b=>if 0<=b/\b<=1000000/\a.natAbs<2^64 then pur (.int (a*2^b.toNat))else bad
 | _,_,_=>bad
noncomputable def kd (s:Sto):D->Nat
 | .non=>0|.bl _=>1|.int _=>1|.str _=>2|.tup _=>3
 | .ref r=>match s[r]? with|some (.lst _)=>4|_=>9
 | _=>9
noncomputable def aK0 (a b:Nat):Bool:=a==9||b==9||a==b
noncomputable def b2i (b:Bool):Int:=if b then 1 else 0
noncomputable def bg7:D->D->Option Bool
 | .non,.non=>some true
 | .bl a,.bl b=>some (a==b)
 | .int a,.int b=>some (a==b)
 | .bl a,.int b=>some (b2i a==b)
 | .int a,.bl b=>some (a==b2i b)
 | .str a,.str b=>some (a==b)
 | _,_=>none
noncomputable def aj8 (s:Sto)(a b:D):Option Bool:=match bg7 a b with
 | some z=>some z
 | none=>if aK0 (kd s a) (kd s b)then none else some false
noncomputable def eqL (f:D->D->Option Bool):List D->List D->Option Bool
 | [],[]=>some true
 | [],_::_=>some false
 | _::_,[]=>some false
 | a::l,b::m=>match f a b,eqL f l m with
  | some x,some y=>some (x&&y)
  | _,_=>none
noncomputable def eqv (s:Sto):Nat->D->D->Option Bool
 | 0,a,b=>aj8 s a b
 | n+1,a,b=>match a,b with
  | .tup l,.tup m=>eqL (eqv s n) l m
  | .ref x,.ref y=>match s[x]?,s[y]? with
   | some (.lst l),some (.lst m)=>if l.length=m.length then eqL (eqv s n) l m else some false
   | _,_=>none
  | a,b=>aj8 s a b
noncomputable def DEEP:Nat:=30
noncomputable def eqM (a b:D):M D:=λ s=>match eqv s DEEP a b with
 | some r=>.ok (.bl r) s
 | none=>.bad
noncomputable def inL (s:Sto)(x:D):List D->Option Bool
 | []=>some false
 | y::l=>match eqv s DEEP y x,inL s x l with
  | some a,some b=>some (a||b)
  | _,_=>none
noncomputable def look (k:D):List (D×D)->Option D
 | []=>none
 | (a,v)::l=>if a=k then some v else look k l
noncomputable def inM (a b:D):M Bool:=λ s=>match b with
 | .tup l=>match inL s a l with|some r=>.ok r s|none=>.bad
 | .ref r=>match s[r]? with
  | some (.lst l)=>match inL s a l with|some r=>.ok r s|none=>.bad
  | some (.dic l)=>if a.key then .ok (look a l).isSome s else .bad
  | some (.dit l)=>if a.keyT then .ok (look a l).isSome s else .bad
  | _=>.bad
 | .str y=>match a with|.str [c]=>.ok (decide (c∈y)) s|_=>.bad
 | _=>.bad
noncomputable def bm2:D->Option (Int×List Nat)
 | .tup [.int i,.str x]=>some (i,x)
 | _=>none
noncomputable def gtP (i:Int)(x:List Nat)(j:Int)(y:List Nat):Bool:=if i=j then decide (y<x)else decide (j<i)
noncomputable def geP (i:Int)(x:List Nat)(j:Int)(y:List Nat):Bool:=if i=j then !decide (x<y)else decide (j<=i)
noncomputable def bL5 (f:Int->List Nat->Int->List Nat->Bool)(a b:D):M D:=λ s=>match bm2 a,bm2 b with
 | some (i,x),some (j,y)=>.ok (.bl (f i x j y)) s
 | _,_=>.bad
noncomputable def zK:COp->D->D->M D
 | .eq,a,b=>eqM a b
 | .ne,a,b=>λ s=>match eqv s DEEP a b with|some r=>.ok (.bl (!r)) s|none=>.bad
 | .lt,.int a,.int b=>pur (.bl (decide (a<b)))
 | .le,.int a,.int b=>pur (.bl (decide (a<=b)))
 | .gt,.int a,.int b=>pur (.bl (decide (b<a)))
 | .gt,.tup l,.tup m=>bL5 gtP (.tup l) (.tup m)
 | .ge,.int a,.int b=>pur (.bl (decide (b<=a)))
 | .ge,.tup l,.tup m=>bL5 geP (.tup l) (.tup m)
 | .isin,a,b=>λ s=>(inM a b s).bind λ r s=>.ok (.bl r) s
 | .notin,a,b=>λ s=>(inM a b s).bind λ r s=>.ok (.bl (!r)) s
 | _,_,_=>bad
noncomputable def ixn (n:Nat)(i:Int):Option Nat:=if 0<=i then(if i<n then some i.toNat else none)else if -(n:Int)<=i then some (i+n).toNat else none
noncomputable def sbd (n:Nat)(i:Int):Nat:=if 0<=i then min i.toNat n else(i+n).toNat
noncomputable def loB (n:Nat):Option Int->Nat
 | none=>0
 | some i=>sbd n i
noncomputable def hiB (n:Nat):Option Int->Nat
 | none=>n
 | some i=>sbd n i
noncomputable def aB6 {α:Type}(l:List α)(lo hi:Option Int):List α:=(l.drop (loB l.length lo)).take (hiB l.length hi - loB l.length lo)
noncomputable def ixM (a b:D):M D:=λ s=>match a,b with
 | .tup l,.int i=>match(ixn l.length i).bind λ j=>l[j]? with|some d=>.ok d s|none=>.bad
 | .str l,.int i=>match(ixn l.length i).bind λ j=>l[j]? with|some c=>.ok (.str [c]) s|none=>.bad
 | .ref r,b=>match s[r]? with
  | some (.lst l)=>match b with
   | .int i=>match(ixn l.length i).bind λ j=>l[j]? with|some d=>.ok d s|none=>.bad
   | _=>.bad
  | some (.ro l)=>match b with
   | .int i=>match(ixn l.length i).bind λ j=>l[j]? with|some d=>.ok d s|none=>.bad
   | _=>.bad
  | some (.dic l)=>if b.key then match look b l with|some d=>.ok d s|none=>.bad else .bad
  | some (.dit l)=>if b.keyT then match look b l with|some d=>.ok d s|none=>.bad else .bad
  | _=>.bad
 | _,_=>.bad
noncomputable def slM (a:D)(lo hi:Option Int):M D:=λ s=>match a with
 | .tup l=>.ok (.tup (aB6 l lo hi)) s
 | .str l=>.ok (.str (aB6 l lo hi)) s
 | .ref r=>match s[r]? with
  | some (.lst l)=>aj1 (.lst (aB6 l lo hi)) s
  | _=>.bad
 | _=>.bad
noncomputable def cl8 (a:D):M D:=λ s=>match a with
 | .str l=>.ok (.str l.reverse) s
 | .ref r=>match s[r]? with
  | some (.lst l)=>aj1 (.lst l.reverse) s
  | _=>.bad
 | _=>.bad
noncomputable def au7:List D->Option (List Bool)
 | []=>some []
 | .bl b::l=>(au7 l).map (b::·)
 | _=>none
noncomputable def qg:List D->Option (List Int)
 | []=>some []
 | .int i::l=>(qg l).map (i::·)
 | _=>none
noncomputable def am2:List D->Option (List (List Nat))
 | []=>some []
 | .str i::l=>(am2 l).map (i::·)
 | _=>none
noncomputable def bD9 (d:D):M D:=λ s=>match d with
 | .tup l=>.ok (.int l.length) s
 | .str l=>.ok (.int l.length) s
 | .ref r=>match s[r]? with
  | some (.lst l)=>.ok (.int l.length) s
  | some (.ro l)=>.ok (.int l.length) s
  | _=>.bad
 | _=>.bad
noncomputable def isK (k:Nat)(d:D):M D:=λ s=>match d with
 | .non=>.ok (.bl false) s
 | .bl _=>.ok (.bl (k==1||k==2)) s
 | .int _=>.ok (.bl (k==1)) s
 | .str _=>.ok (.bl (k==3)) s
 | .tup _=>.ok (.bl (k==4)) s
 | .ref r=>match s[r]? with
  | some (.lst _)=>.ok (.bl (k==5)) s
  | _=>.bad
 | _=>.bad
noncomputable def bi1 (f:D->M D):List D->M D
 | [d]=>f d
 | _=>bad
noncomputable def aS7:List D->M D
 | [.str [c]]=>λ s=>if 48<=c/\c<=57 then .ok (.int ((c - 48:Nat):Int)) s else .bad
 | _=>bad
noncomputable def bc5:List D->M D
 | [.int i]=>λ s=>if 0<=i/\i<=9 then .ok (.str [48+i.toNat]) s else .bad
 | [.str w]=>λ s=>.ok (.str w) s
 | _=>bad
noncomputable def bi:Bi->List D->M D
 | .len,l=>bi1 bD9 l
 | .abs,l=>λ s=>match qg l with|some [i]=>.ok (.int (if i<0 then -i else i)) s|_=>.bad
 | .int,l=>λ s=>match au7 l with|some [b]=>.ok (.int (if b then 1 else 0)) s|some _=>.bad|none=>aS7 l s
 | .str,l=>bc5 l
 | .min2,l=>λ s=>match qg l with|some [a,b]=>.ok (.int (if b<a then b else a)) s|_=>.bad
 | .max2,l=>λ s=>match qg l with|some [a,b]=>.ok (.int (if b > a then b else a)) s|_=>.bad
 | .max3,l=>λ s=>match qg l with|some [a,b,c]=>.ok (.int (max (max a b) c)) s|_=>.bad
 | .isInt,l=>bi1 (isK 1) l
 | .isBool,l=>bi1 (isK 2) l
 | .isStr,l=>bi1 (isK 3) l
 | .isTup,l=>bi1 (isK 4) l
 | .isList,l=>bi1 (isK 5) l
 | _,_=>bad
noncomputable def minI:List Int->Option Int
 | []=>none
 | a::l=>some (l.foldl min a)
noncomputable def cp5:List Int->Option Int
 | []=>none
 | a::l=>some (l.foldl max a)
noncomputable def ins (a:Int):List Int->List Int
 | []=>[a]
 | b::l=>if a<=b then a::b::l else b::ins a l
noncomputable def bZ9:List Int->List Int
 | []=>[]
 | a::l=>ins a (bZ9 l)
noncomputable def cs6 (is:List Int):Bool:=is.all (λ i=>decide (-1000000000<=i/\i<=1000000000))&&decide (is.length<=1000000)
noncomputable def mk:Mk->List D->M D
 | .tuple,l=>λ s=>.ok (.tup l) s
 | .list,l=>aj1 (.lst l)
 | .all,l=>λ s=>match au7 l with|some bs=>.ok (.bl (bs.all id)) s|none=>.bad
 | .any,l=>λ s=>match au7 l with|some bs=>.ok (.bl (bs.any id)) s|none=>.bad
 | .sum,l=>λ s=>match qg l with|some is=>if cs6 is then .ok (.int is.sum) s else .bad|none=>.bad
 | .min,l=>λ s=>match(qg l).bind minI with|some m=>.ok (.int m) s|none=>.bad
 | .max,l=>λ s=>match(qg l).bind cp5 with|some m=>.ok (.int m) s|none=>.bad
 | .sorted,l=>λ s=>match qg l with|some is=>aj1 (.lst ((bZ9 is).map D.int)) s|none=>.bad
 | .lenset,l=>bad
noncomputable def mkD (k:Mk)(l:List D)(d:D):M D:=λ s=>match k with
 | .min=>match qg l with|some is=>(match minI is with|some m=>.ok (.int m) s|none=>.ok d s)|none=>.bad
 | .max=>match qg l with|some is=>(match cp5 is with|some m=>.ok (.int m) s|none=>.ok d s)|none=>.bad
 | _=>.bad
noncomputable def as2 (k v:D)(l:List (D×D)):List (D×D):=if(look k l).isSome then l.map (λ p=>if p.1=k then(p.1,v)else p)else l++[(k,v)]
noncomputable def setIx (o i v:D):Sto->R Unit:=λ s=>match o with
 | .ref r=>match s[r]? with
  | some (.lst l)=>match i with
   | .int i=>match ixn l.length i with|some j=>.ok () (s.set r (.lst (l.set j v)))|none=>.bad
   | _=>.bad
  | some (.dic l)=>if i.key&&decide (l.length<LIM)then .ok () (s.set r (.dic (as2 i v l)))else .bad
  | some (.dit l)=>if i.keyT&&decide (l.length<LIM)then .ok () (s.set r (.dit (as2 i v l)))else .bad
  | _=>.bad
 | _=>.bad
noncomputable def ch0 (o k e:D):M D:=λ s=>match o with
 | .ref r=>match s[r]? with
  | some (.dit l)=>if k.keyT then .ok ((look k l).getD e) s else .bad
  | _=>.bad
 | _=>.bad
noncomputable def idx (s:Sto)(x:D):Nat->List D->Option Nat
 | _,[]=>none
 | n,y::l=>match eqv s DEEP y x with
  | some true=>some n
  | some false=>idx s x (n+1) l
  | none=>none
noncomputable def meth:Mt->D->List D->M D
 | .append,.ref r,[d]=>λ s=>match s[r]? with
  | some (.lst l)=>if l.length<LIM then .ok .non (s.set r (.lst (l++[d])))else .bad
  | _=>.bad
 | .pop,.ref r,[]=>λ s=>match s[r]? with
  | some (.lst l)=>match l.getLast? with|some d=>.ok d (s.set r (.lst l.dropLast))|none=>.bad
  | _=>.bad
 | .reverse,.ref r,[]=>λ s=>match s[r]? with
  | some (.lst l)=>.ok .non (s.set r (.lst l.reverse))
  | _=>.bad
 | .clear,.ref r,[]=>λ s=>match s[r]? with
  | some (.lst l)=>.ok .non (s.set r (.lst []))
  | _=>.bad
 | .index,.ref r,[d]=>λ s=>match s[r]? with
  | some (.lst l)=>match inL s d l,idx s d 0 l with|some true,some n=>.ok (.int n) s|_,_=>.bad
  | _=>.bad
 | _,_,_=>bad
noncomputable def bS6 (o:D)(l:List D):M D:=λ s=>match o with
 | .ref r=>match s[r]? with
  | some (.lst m)=>if m.length+l.length<=LIM then .ok .non (s.set r (.lst (m++l)))else .bad
  | _=>.bad
 | _=>.bad
noncomputable def ca0 (sep:List Nat):List (List Nat)->List Nat
 | []=>[]
 | [p]=>p
 | p::q::ps=>p++(sep++ca0 sep (q::ps))
noncomputable def bi5 (c:Nat):List Nat->List (List Nat)
 | []=>[[]]
 | x::l=>if x=c then[]::bi5 c l else match bi5 c l with
  | p::ps=>(x::p)::ps
  | []=>[[x]]
noncomputable def ci1 (c:Nat)(x:D):M D:=λ s=>match x with
 | .str w=>if w.length+2<=LIM then aj1 (.lst ((bi5 c w).map D.str)) s else .bad
 | _=>.bad
noncomputable def bz6 (x y:D):M D:=λ s=>match x with
 | .str []=>match y with
  | .ref r=>match s[r]? with
   | some (.lst l)=>match am2 l with
    | some ss=>if ss.flatten.length<=LIM then .ok (.str ss.flatten) s else .bad
    | none=>.bad
   | _=>.bad
  | _=>.bad
 | .str (c::sep)=>match y with
  | .ref r=>match s[r]? with
   | some (.lst l)=>match am2 l with
    | some ss=>if(ss.map λ w=>w.length+(c::sep).length).sum<=LIM then .ok (.str (ca0 (c::sep) ss)) s else .bad
    | none=>.bad
   | _=>.bad
  | _=>.bad
 | _=>.bad
noncomputable def extS (o d:D):M D:=λ s=>match d with
 | .ref k=>match s[k]? with
  | some (.lst l)=>bS6 o l s
  | _=>.bad
 | _=>.bad
structure Fns where
 call:String->List D->M D
 lam:String->List D->List D->M D
 con:String->Option D
 xcall:String->List D->Sto->Option (String×Sto)
 xc:String->Bool
 xt:String->Bool
 cdc:String->Option (List (List Nat×List Nat))
noncomputable def aJ8 (U:Env)(i:Nat):M D:=λ s=>match U[i]? with|some (some d)=>.ok d s|_=>.bad
noncomputable def bA0 (U:Env):List Nat->Option (List D)
 | []=>some []
 | i::is=>match U[i]?,bA0 U is with|some (some d),some l=>some (d::l)|_,_=>none
noncomputable def qf (U:Env)(caps:yD):Env:=caps.map λ o=>match o with|none=>none|some j=>(U[j]?).join
noncomputable def au6 (U:Env)(i:Nat)(d:D):Option Env:=if i < U.length then some (U.set i (some d))else none
noncomputable def as9 (U:Env)(i:Nat):Option Env:=if i < U.length then some (U.set i none)else none
noncomputable def ar8 (U:Env):List Nat->List D->Option Env
 | [],[]=>some U
 | i::is,d::l=>(au6 U i d).bind λ U=>ar8 U is l
 | _,_=>none
noncomputable def zQ (U:Env):Tg->D->Option Env
 | .one i,d=>au6 U i d
 | .tup is,.tup l=>ar8 U is l
 | _,_=>none
structure Sq where
 its:List D
 src:List Nat
noncomputable def aF7 (d:D):M Sq:=λ s=>match d with
 | .tup l=>.ok ⟨l,[]⟩ s
 | .str l=>.ok ⟨l.map λ c=>.str [c],[]⟩ s
 | .ref r=>match s[r]? with
  | some (.lst l)=>.ok ⟨l,[r]⟩ s
  | some (.ro l)=>.ok ⟨l,[]⟩ s
  | _=>.bad
 | _=>.bad
noncomputable def aU4 (d:D):M Sq:=λ s=>match d with
 | .tup l=>.ok ⟨l,[]⟩ s
 | .str l=>.ok ⟨l.map λ c=>.str [c],[]⟩ s
 | .ref r=>match s[r]? with
  | some (.lst l)=>.ok ⟨l,[r]⟩ s
  | some (.ro l)=>.ok ⟨l,[]⟩ s
  | _=>.bad
 | _=>.bad
noncomputable def bn9 (d:D):M Sq:=λ s=>match d with
 | .tup l=>.ok ⟨l,[]⟩ s
 | .ref r=>match s[r]? with
  | some (.lst l)=>.ok ⟨l,[r]⟩ s
  | some (.ro l)=>.ok ⟨l,[]⟩ s
  | _=>.bad
 | _=>.bad
noncomputable def cq9 (p:D×D):D:=match p.1 with
 | .tup l=>.tup (l++[p.2])
 | _=>.non
noncomputable def cl5 (d:D):Sto->R (List D):=λ s=>match d with
 | .ref r=>match s[r]? with
  | some (.dit l)=>if l.length<=LIM then .ok (l.map cq9) s else .bad
  | _=>.bad
 | _=>.bad
noncomputable def bj6 (d:D):Sto->R (List D):=λ s=>match d with
 | .tup l=>.ok l s
 | .str l=>.ok (l.map λ c=>.str [c]) s
 | .ref r=>match s[r]? with
  | some (.lst l)=>.ok l s
  | some (.ro l)=>.ok l s
  | _=>.bad
 | _=>.bad
noncomputable def bu2 (d:D):Sto->R (List D):=λ s=>match d with
 | .ref r=>match s[r]? with
  | some (.lst l)=>.ok l s
  | _=>.bad
 | _=>.bad
noncomputable def cr3 (j:Int):D->Option Int
 | .tup l=>match(ixn l.length j).bind λ k=>l[k]? with|some (.int z)=>some z|_=>none
 | _=>none
noncomputable def bY7 (j:Int):List D->Option (List Int)
 | []=>some []
 | d::l=>match cr3 j d with
  | some z=>(match bY7 j l with|some zs=>some (z::zs)|none=>none)
  | none=>none
noncomputable def cg6 (f:Nat->Int):Nat->Nat
 | 0=>0
 | k+1=>if f (k+1)<f (cg6 f k)then k+1 else cg6 f k
noncomputable def bD4 (j:Int)(l:List D):M D:=λ s=>match bY7 j l with
 | some ks=>(match l[cg6 (λ i=>ks.getD i 0) (l.length - 1)]? with|some d=>.ok d s|none=>.bad)
 | none=>.bad
noncomputable def Ww62:Int:=4611686018427387904
noncomputable def qN (a b:Int):List D:=(a8 (b - a).toNat).map λ(k:Nat)=>.int (a+k)
noncomputable def bitsN (i:Int):Nat:=if i=0 then 0 else i.natAbs.log2+1
noncomputable def bZ3 (x:D):M D:=λ s=>match x with|.int i=>.ok (.int (bitsN i:Nat)) s|_=>.bad
noncomputable def bL7 (x:D):M D:=λ s=>match x with|.int i=>if 0<=i/\i<=1000000 then aj1 (.lst (qN 0 i)) s else .bad|_=>.bad
noncomputable def ck1 (a:Int):List D:=(a8 (a+1).toNat).map λ(k:Nat)=>.int (a+(k:Int)*(-1))
noncomputable def cr6 (a b c:Int):List D:=if 0<c then(a8 ((b - a+c - 1) / c).toNat).map λ(k:Nat)=>.int (a+c*k)else(a8 ((a - b+(-c) - 1) / (-c)).toNat).map λ(k:Nat)=>.int (a+c*k)
noncomputable def bJ5 (n:Nat):List D->List D
 | []=>[]
 | d::l=>.tup [.int n,d]::bJ5 (n+1) l
noncomputable def cf3:List D->List D->List D
 | a::l,b::m=>.tup [a,b]::cf3 l m
 | _,_=>[]
noncomputable def chk (s0 s:Sto)(src:List Nat):Bool:=src.all λ r=>decide (s[r]?=s0[r]?)
noncomputable def tru {α:Type}(r:R D)(f:Bool->Sto->R α):R α:=r.bind λ d s=>match d with|.bl b=>f b s|_=>.bad
@[simp] theorem ad4 {α:Type} (b:Bool) (s:Sto) (f:Bool->Sto->R α):tru (.ok (.bl b) s) f=f b s:=rfl
noncomputable def ak5 (ok:Sto->Bool)(g:D->Env->Sto->R (Option D×Env)):List D->Env->Sto->R (List D)
 | [],_,s=>if ok s then .ok [] s else .bad
 | d::l,U,s=>if ok s then(g d U s).bind λ p s=>(ak5 ok g l p.2 s).bind λ r s=>.ok (match p.1 with|some v=>v::r|none=>r) s else .bad
noncomputable def bU4 (l:List D):M D:=λ s=>match am2 l with|some ws=>if ws.flatten.length<=LIM then .ok (.str ws.flatten) s else .bad|none=>.bad
noncomputable def co1 (F:Fns)(c:String)(x:D):M D:=λ s=>match F.cdc c,x with|some kvs,.str w=>.ok (.bl (kvs.lookup w).isSome) s|_,_=>.bad
noncomputable def bO6 (F:Fns)(c:String)(x:D):M D:=λ s=>match F.cdc c,x with|some kvs,.str w=>(match kvs.lookup w with|some v=>if v.length<=LIM then .ok (.str v) s else .bad|none=>.bad)|_,_=>.bad
mutual
noncomputable def ev (F:Fns):E->Env->Sto->R D
 | .var i,U,s=>aJ8 U i s
 | .cst c,_,s=>.ok c.d s
 | .glob x,_,s=>match F.con x with|some d=>.ok d s|none=>.bad
 | .bin op a b,U,s=>(ev F a U s).bind λ x s=>(ev F b U s).bind λ y s=>ao3 op x y s
 | .neg a,U,s=>(ev F a U s).bind λ x s=>match x with|.int i=>.ok (.int (-i)) s|_=>.bad
 | .not a,U,s=>tru (ev F a U s) λ b s=>.ok (.bl (!b)) s
 | .cmp op a b,U,s=>(ev F a U s).bind λ x s=>(ev F b U s).bind λ y s=>zK op x y s
 | .chain o p a b c,U,s=>(ev F a U s).bind λ x s=>(ev F b U s).bind λ y s=>tru (zK o x y s) λ k s=>if k then(ev F c U s).bind λ z s=>zK p y z s else .ok (.bl false) s
 | .isN a,U,s=>(ev F a U s).bind λ x s=>.ok (.bl (decide (x=.non))) s
 | .notN a,U,s=>(ev F a U s).bind λ x s=>.ok (.bl (!decide (x=.non))) s
 | .isB a b,U,s=>(ev F a U s).bind λ x s=>match x with|.bl c=>.ok (.bl (c==b)) s|_=>.bad
 | .notB a b,U,s=>(ev F a U s).bind λ x s=>match x with|.bl c=>.ok (.bl (!(c==b))) s|_=>.bad
 | .and a b,U,s=>tru (ev F a U s) λ c s=>if c then tru (ev F b U s) λ c s=>.ok (.bl c) s else .ok (.bl false) s
 | .or a b,U,s=>tru (ev F a U s) λ c s=>if c then .ok (.bl true) s else tru (ev F b U s) λ c s=>.ok (.bl c) s
 | .ite c a b,U,s=>tru (ev F c U s) λ k s=>if k then ev F a U s else ev F b U s
 | .tup es,U,s=>(evs F es U s).bind λ l s=>.ok (.tup l) s
 | .lst es,U,s=>(evs F es U s).bind λ l s=>aj1 (.lst l) s
 | .dic .nil .nil,U,s=>aj1 (.dic []) s
 | .dic (.cons k .nil) (.cons v .nil),U,s=>(ev F k U (s++[.dic []])).bind λ kd s1=>(ev F v U s1).bind λ vd s2=>if kd.key=true/\s2[s.length]?=some (.dic [])then .ok (.ref s.length) (s2.set s.length (.dic [(kd,vd)]))else .bad
 | .dic _ _,U,s=>.bad
 | .dicT,_,s=>aj1 (.dit []) s
 | .dicU k v,U,s=>(ev F k U (s++[.dit []])).bind λ kd s1=>(ev F v U s1).bind λ vd s2=>if kd.keyT=true/\s2[s.length]?=some (.dit [])then .ok (.ref s.length) (s2.set s.length (.dit [(kd,vd)]))else .bad
 | .get2 o k d,U,s=>(ev F o U s).bind λ x s=>(ev F k U s).bind λ y s=>(ev F d U s).bind λ z s=>ch0 x y z s
 | .bitl a,U,s=>(ev F a U s).bind λ x s=>bZ3 x s
 | .lrng a,U,s=>(ev F a U s).bind λ x s=>bL7 x s
 | .fstr es,U,s=>(evs F es U s).bind λ l s=>bU4 l s
 | .inC e c,U,s=>(ev F e U s).bind λ x s=>co1 F c x s
 | .getC c e,U,s=>(ev F e U s).bind λ x s=>bO6 F c x s
 | .ix a b,U,s=>(ev F a U s).bind λ x s=>(ev F b U s).bind λ y s=>ixM x y s
 | .slL a lo,U,s=>(ev F a U s).bind λ x s=>(ev F lo U s).bind λ y s=>match y with|.int i=>slM x (some i) none s|_=>.bad
 | .slU a hi,U,s=>(ev F a U s).bind λ x s=>(ev F hi U s).bind λ y s=>match y with|.int i=>slM x none (some i) s|_=>.bad
 | .slLU a lo hi,U,s=>(ev F a U s).bind λ x s=>(ev F lo U s).bind λ y s=>match y with|.int i=>(ev F hi U s).bind (λ z s=>match z with|.int j=>slM x (some i) (some j) s|_=>.bad)|_=>.bad
 | .rev a,U,s=>(ev F a U s).bind λ x s=>cl8 x s
 | .call f as,U,s=>(an3 F as U s).bind λ l s=>F.call f l s
 | .callC f as,U,s=>(an3 F as U s).bind λ l s=>(F.call f l s).bind λ d s'=>if(d.ncl&&s'.all O.ncl)=true then .ok d s' else .bad
 | .callV i es,U,s=>(evs F es U s).bind λ l s=>match U[i]? with
  | some (some (.fn f))=>F.call f l s
  | some (some (.clo id cs))=>F.lam id cs l s
  | _=>.bad
 | .bi b es,U,s=>(evs F es U s).bind λ l s=>bi b l s
 | .mk k it,U,s=>(evL F it U s).bind λ q s=>mk k q s
 | .mkD k it d,U,s=>(evL F it U s).bind λ q s=>(ev F d U s).bind λ d s=>mkD k q d s
 | .meth m o es,U,s=>(ev F o U s).bind λ x s=>(evs F es U s).bind λ l s=>meth m x l s
 | .ext o it,U,s=>(ev F o U s).bind λ x s=>(evL F it U s).bind λ q s=>bS6 x q s
 | .extS o e,U,s=>(ev F o U s).bind λ x s=>(ev F e U s).bind λ y s=>extS x y s
 | .join o e,U,s=>(ev F o U s).bind λ x s=>(ev F e U s).bind λ y s=>bz6 x y s
 | .mks k e,U,s=>(ev F e U s).bind λ x s=>(bu2 x s).bind λ q s=>mk k q s
 | .mkDs k e d,U,s=>(ev F e U s).bind λ x s=>(ev F d U s).bind λ z s=>(bu2 x s).bind λ q s=>mkD k q z s
 | .minK _ e j,U,s=>(ev F e U s).bind λ x s=>(bu2 x s).bind λ q s=>bD4 j q s
 | .spl o c,U,s=>(ev F o U s).bind λ x s=>ci1 c x s
noncomputable def evs (F:Fns):Es->Env->Sto->R (List D)
 | .nil,_,s=>.ok [] s
 | .cons e es,U,s=>(ev F e U s).bind λ d s=>(evs F es U s).bind λ l s=>.ok (d::l) s
noncomputable def an3 (F:Fns):As->Env->Sto->R (List D)
 | .nil,_,s=>.ok [] s
 | .ex e as,U,s=>(ev F e U s).bind λ d s=>(an3 F as U s).bind λ l s=>.ok (d::l) s
 | .lam id caps as,U,s=>match bA0 U caps with
  | some cs=>(an3 F as U s).bind λ l s=>.ok (.clo id cs::l) s
  | none=>.bad
 | .fn f as,U,s=>(an3 F as U s).bind λ l s=>.ok (.fn f::l) s
noncomputable def evI (F:Fns):I->Env->Sto->R Sq
 | .seq e,U,s=>(ev F e U s).bind λ d s=>aF7 d s
 | .rng1 a,U,s=>(ev F a U s).bind λ x s=>match x with|.int i=>if -Ww62<=i/\i<Ww62 then .ok ⟨qN 0 i,[]⟩ s else .bad|_=>.bad
 | .rng2 a b,U,s=>(ev F a U s).bind λ x s=>(ev F b U s).bind λ y s=>match x,y with|.int i,.int j=>if(-Ww62<=i/\i<Ww62)/\-Ww62<=j/\j<Ww62 then .ok ⟨qN i j,[]⟩ s else .bad|_,_=>.bad
 | .rng3 a b c,U,s=>(ev F a U s).bind λ x s=>(ev F b U s).bind λ y s=>match x,y with|.int i,.int j=>if c=2/\(0<=i/\i<1048576)/\0<=j/\j<1048576 then .ok ⟨cr6 i j c,[]⟩ s else .bad|_,_=>.bad
 | .rngD a,U,s=>(ev F a U s).bind λ x s=>match x with|.int i=>if 0<=i/\i<1048576 then .ok ⟨ck1 i,[]⟩ s else .bad|_=>.bad
 | .enum (.seq e),U,s=>(ev F e U s).bind λ d s=>(bn9 d s).bind λ q s=>.ok ⟨bJ5 0 q.its,q.src⟩ s
 | .zip (.seq a) (.seq b),U,s=>(ev F a U s).bind λ x s=>(ev F b U s).bind λ y s=>(aU4 x s).bind λ p s=>(aU4 y s).bind λ q s=>.ok ⟨cf3 p.its q.its,p.src++q.src⟩ s
 | .enum _,_,_=>.bad
 | .zip _ _,_,_=>.bad
 | .items e,U,s=>.bad
noncomputable def evL (F:Fns):L->Env->Sto->R (List D)
 | .comp tg it e caps,U,s=>(evI F it U s).bind λ q s0=>if q.its.length<=LIM then ak5 (λ s=>chk s0 s q.src) (λ d U s=>match zQ U tg d with
   | some U=>(ev F e U s).bind λ v s=>.ok (some v,U) s
   | none=>.bad) q.its (qf U caps) s0 else .bad
 | .compIf tg it c e caps,U,s=>(evI F it U s).bind λ q s0=>if q.its.length<=LIM then ak5 (λ s=>chk s0 s q.src) (λ d U s=>match zQ U tg d with
   | some U=>tru (ev F c U s) λ k s=>if k then(ev F e U s).bind λ v s=>.ok (some v,U) s else .ok (none,U) s
   | none=>.bad) q.its (qf U caps) s0 else .bad
 | .disp es,U,s=>evs F es U s
 | .seq e,U,s=>(ev F e U s).bind λ d s=>bj6 d s
 | .itm e,U,s=>(ev F e U s).bind λ d s=>cl5 d s
end
inductive Ct where
 | next (U:Env)|ret (d:D)|cont (U:Env)|brk (U:Env)
noncomputable def au8 (ok:Sto->Bool)(g:D->Env->Sto->R Ct):List D->Env->Sto->R Ct
 | [],U,s=>if ok s then .ok (.next U) s else .bad
 | d::l,U,s=>if ok s then(g d U s).bind λ c s=>match c with
   | .next U=>au8 ok g l U s
   | .cont U=>au8 ok g l U s
   | .brk U=>.ok (.next U) s
   | .ret d=>.ok (.ret d) s
  else .bad
noncomputable def qS (c:Env->Sto->R D)(g:Env->Sto->R Ct):Nat->Env->Sto->R Ct
 | 0,_,_=>.bad
 | n+1,U,s=>tru (c U s) λ b s=>if b then(g U s).bind λ c' s=>match c' with
   | .next U=>qS c g n U s
   | .cont U=>qS c g n U s
   | .brk U=>.ok (.next U) s
   | .ret d=>.ok (.ret d) s
  else .ok (.next U) s
open Classical in
noncomputable def whl (c:Env->Sto->R D)(g:Env->Sto->R Ct)(U:Env)(s:Sto):R Ct :=
 if h:∃ n,qS c g n U s≠.bad then qS c g h.choose U s else .bad
mutual
noncomputable def ex (F:Fns):S->Env->Sto->R Ct
 | .asg tg e,U,s=>(ev F e U s).bind λ d s=>match zQ U tg d with|some U=>.ok (.next U) s|none=>.bad
 | .setIx o i e,U,s=>(ev F e U s).bind λ d s=>(ev F o U s).bind λ x s=>(ev F i U s).bind λ y s=>(setIx x y d s).bind λ _ s=>.ok (.next U) s
 | .aug i e,U,s=>(aJ8 U i s).bind λ x s=>(ev F e U s).bind λ y s=>match x,y with
  | .int a,.int b=>match au6 U i (.int (a+b))with|some U=>.ok (.next U) s|none=>.bad
  | _,_=>.bad
 | .ex e,U,s=>(ev F e U s).bind λ _ s=>.ok (.next U) s
 | .ret e,U,s=>(ev F e U s).bind λ d s=>.ok (.ret d) s
 | .retN,_,s=>.ok (.ret .non) s
 | .ite c a b,U,s=>tru (ev F c U s) λ k s=>if k then exs F a U s else exs F b U s
 | .whl c b,U,s=>whl (ev F c) (exs F b) U s
 | .for_ tg it b,U,s=>(evI F it U s).bind λ q s0=>au8 (λ s=>chk s0 s q.src) (λ d U s=>match zQ U tg d with
   | some U=>exs F b U s
   | none=>.bad) q.its U s0
 | .pass,U,s=>.ok (.next U) s
 | .cont,U,s=>.ok (.cont U) s
 | .brk,U,s=>.ok (.brk U) s
 | .raise,_,_=>.bad
 | .und i,U,s=>match as9 U i with|some U=>.ok (.next U) s|none=>.bad
noncomputable def exs (F:Fns):Ss->Env->Sto->R Ct
 | .nil,U,s=>.ok (.next U) s
 | .cons st ss,U,s=>(ex F st U s).bind λ c s=>match c with|.next U=>exs F ss U s|c=>.ok c s
end
structure Df where
 name:String
 ps:Nat
 vs:Nat
 body:Ss
structure Lm where
 id:String
 ps:Nat
 cs:Nat
 body:E
inductive HT where
 | ve
 | isi (cs:List String)|one (c:String)|not (t:HT)|or (a b:HT)
inductive Hd where
 | ret (t:HT)|iff (t:HT) (b:Bool) (h:Hd)|nob (b:Bool)|noe|iffN (t:HT) (h:Hd)|aoN (a b:HT)|sup (x:String) (h:Hd)
noncomputable def subC (c d:String):Bool:=c==d||(d == "TollError"||d == "ValueError")
noncomputable def HT.val (c:String):HT->Bool
 | .isi cs=>cs.any (subC c)
 | .one d=>subC c d
 | .not t=>!t.val c
 | .or a b=>if a.val c then true else b.val c
 | .ve=>true
noncomputable def HT.ok (p:String->Bool):HT->Bool
 | .isi cs=>cs.all p
 | .one d=>p d
 | .not t=>t.ok p
 | .or a b=>a.ok p&&b.ok p
 | .ve=>true
noncomputable def Hd.val (c:String):Hd->Bool
 | .ret t=>t.val c
 | .iff t b h=>if t.val c then b else h.val c
 | .nob b=>b
 | .noe=>false
 | .iffN _ h=>h.val c
 | .aoN a b=>a.val c&&b.val c
 | .sup _ h=>h.val c
noncomputable def Hd.ok (p:String->Bool):Hd->Bool
 | .ret t=>t.ok p
 | .iff t _ h=>t.ok p&&h.ok p
 | .nob _=>true
 | .noe=>true
 | .iffN t h=>t.ok p&&h.ok p
 | .aoN a b=>a.ok p&&b.ok p
 | .sup x h=>p x&&h.ok p
noncomputable def Hd.vD (c:String):Hd->D
 | .ret t=>.bl (t.val c)
 | .iff t b h=>if t.val c then .bl b else h.vD c
 | .nob b=>.bl b
 | .noe=>.non
 | .iffN t h=>if t.val c then .non else h.vD c
 | .aoN a b=>if a.val c then(if b.val c then .bl true else .non)else .non
 | .sup _ h=>h.vD c
noncomputable def Hd.cls (c:String):Hd->String
 | .sup x _=>x|_=>c
noncomputable def am5 (ok:Sto->Bool)(g:D->Env->Sto->R Ct)(gx:D->Env->Sto->Option (String×Sto)):List D->Env->Sto->Option (String×Sto)
 | [],_,_=>none
 | d::l,U,s=>if ok s then match g d U s with
   | .ok (.next U1) s1=>am5 ok g gx l U1 s1
   | .ok (.cont U1) s1=>am5 ok g gx l U1 s1
   | .ok _ _=>none
   | _=>gx d U s
  else none
noncomputable def zI (c:Env->Sto->R D)(g:Env->Sto->R Ct)(gx:Env->Sto->Option (String×Sto)):Nat->Env->Sto->Option (String×Sto)
 | 0,_,_=>none
 | n+1,U,s=>match c U s with
  | .ok (.bl true) s1=>match g U s1 with
   | .ok (.next U1) s2=>zI c g gx n U1 s2
   | .ok (.cont U1) s2=>zI c g gx n U1 s2
   | .ok _ _=>none
   | _=>gx U s1
  | _=>none
open Classical in
noncomputable def whlX (c:Env->Sto->R D)(g:Env->Sto->R Ct)(gx:Env->Sto->Option (String×Sto))(U:Env)(s:Sto):Option (String×Sto):=if h:∃ n,(zI c g gx n U s).isSome=true then zI c g gx h.choose U s else none
inductive XB where
 | no|rais (c:String)|call (f:String) (as:As)|iteT (c:E) (a r:XB)|seq (s:S) (b:XB)
 | iteE (c:E) (a r:XB)|forX (tg:Tg) (it:I) (b:Ss) (x:XB)|whlX (c:E) (b:Ss) (x:XB)
noncomputable def xB (F:Fns):XB->Env->Sto->Option (String×Sto)
 | .no,_,_=>none
 | .rais c,_,s=>if F.xc c=true then some (c,s)else none
 | .call f as,U,s=>match an3 F as U s with|.ok l s1=>F.xcall f l s1|_=>none
 | .iteT c a r,U,s=>match ev F c U s with|.ok (.bl b) s1=>if b then xB F a U s1 else xB F r U s1|_=>none
 | .seq st b,U,s=>match ex F st U s with|.ok (.next U1) s1=>xB F b U1 s1|_=>none
 | .forX tg it b x,U,s=>match evI F it U s with
  | .ok q s0=>am5 (λ s=>chk s0 s q.src) (λ d U s=>match zQ U tg d with
   | some U=>exs F b U s
   | none=>.bad) (λ d U s=>match zQ U tg d with
   | some U=>xB F x U s
   | none=>none) q.its U s0
  | _=>none
 | .iteE c a r,U,s=>match ev F c U s with|.ok (.bl b) s1=>if b then xB F a U s1 else xB F r U s1|_=>none
 | .whlX c b x,U,s=>DV.whlX (ev F c) (exs F b) (xB F x) U s
structure Xf where
 ps:Nat
 vs:Nat
 body:XB
structure Tf where
 ps:Nat
 vs:Nat
 body:Ss
 xb:XB
 c:String
 i:Nat
 h:Hd
 tl:Ss
 pre:Ss
structure Pr where
 df:String->Option Df
 lm:String->Option Lm
 con:String->Option D
 xf:String->Option Xf
 tf:String->Option Tf
 xc:String->Bool
 xt:String->Bool
 cdc:String->Option (List (List Nat×List Nat))
noncomputable def at6 (st st':Sto):Bool:=(a8 st.length).all λ i=>decide (st'[i]?=st[i]?)||(match st'[i]? with|some o=>o.bnd st.length|none=>false)
noncomputable def zr (st:Sto)(d:D)(st':Sto):R D :=
 if at6 st st' then
  match d with
  | .ref r=>if r<st.length then .ok d (st'.take st.length)else match st'[r]? with
   | some o=>if o.bnd st.length then .ok (.ref st.length) (st'.take st.length++[o])else .ok d st'
   | none=>.bad
  | d=>if d.bnd st.length then .ok d (st'.take st.length)else .ok d st'
 else .ok d st'
noncomputable def Hd.out (h:Hd)(c:String)(s s':Sto):R D:=match h with
 | .noe=>zr s (.ref s'.length) (s'++[.lst []])
 | h=>zr s (h.vD c) s'
noncomputable def aJ6 (F:Fns)(d:Tf)(s:Sto)(U0:Env)(s0:Sto):R D:=match xB F d.xb U0 s0 with
 | some (c,s')=>if c=d.c/\F.xc c=true/\d.h.ok F.xt=true then d.h.out c s s' else .bad
 | none=>(exs F d.body U0 s0).bind λ c s1=>match c with
  | .ret v=>zr s v s1
  | .next U=>(exs F d.tl U s1).bind λ c s2=>match c with
   | .ret v=>zr s v s2
   | .next _=>zr s .non s2
   | _=>.bad
  | _=>.bad
noncomputable def bm7 (F:Fns)(d:Tf)(l:List D)(s:Sto):R D:=match exs F d.pre (l.map some++aA d.vs none) s with
 | .ok (.next U0) s0=>aJ6 F d s U0 s0
 | _=>.bad
noncomputable def aa4 (P:Pr):Nat->Fns
 | 0=>⟨λ _ _ _=>.bad,λ _ _ _ _=>.bad,P.con,λ _ _ _=>none,P.xc,P.xt,P.cdc⟩
 | n+1=>⟨λ f l s=>match P.df f with
   | some d=>if l.length=d.ps then(exs (aa4 P n) d.body (l.map some++aA d.vs none) s).bind λ c s'=>match c with
     | .ret v=>zr s v s'
     | .next _=>zr s .non s'
     | _=>.bad else .bad
   | none=>match P.tf f with
    | some d=>if l.length=d.ps then bm7 (aa4 P n) d l s else .bad
    | none=>.bad,
  λ id cs l s=>match P.lm id with
   | some d=>if l.length=d.ps/\cs.length=d.cs/\(D.nclL l&&D.nclL cs&&s.all O.ncl)=true then(ev (aa4 P n) d.body (l.map some++cs.map some) s).bind λ v s'=>zr s v s' else .bad
   | none=>.bad,P.con,
  λ f l s=>match P.xf f with
   | some d=>if l.length=d.ps then xB (aa4 P n) d.body (l.map some++aA d.vs none) s else none
   | none=>none,P.xc,P.xt,P.cdc⟩
def KP (s s':Sto):Prop:=∀(i:Nat) (o:O),s[i]?=some o->∃ o',s'[i]?=some o'/\o'.kd=o.kd
theorem KP.refl (s:Sto):KP s s:=λ i o h=>⟨o,h,rfl⟩
theorem KP.trans {a b c:Sto}(h:KP a b)(g:KP b c):KP a c:=λ i o e=>by
 obtain⟨B,e1,k1⟩:=h i o e
 obtain⟨F,e2,k2⟩:=g i B e1
 exact⟨F,e2,k2.trans k1⟩
theorem KP.app (s t:Sto):KP s (s++t):=λ i o e=>⟨o,by rw[aI (ae.mp e).1];exact e,rfl⟩
theorem KP.set {s:Sto}{r:Nat}{o B:O}(h:s[r]?=some B)(k:o.kd=B.kd):KP s (s.set r o):=λ i u e=>by
 by_cases z:r=i
 .subst z
  rw[h]at e;cases e
  exact⟨o,aZ (ae.mp h).1,k⟩
 .exact⟨u,by rw[aU z];exact e,rfl⟩
def KR {α:Type}(s:Sto)(r:R α):Prop:=∀ a s',r=.ok a s'->KP s s'
theorem KR.bad {α:Type}{s:Sto}:KR s (.bad:R α):=λ _ _ h=>by cases h
theorem KR.ok {α:Type}{s:Sto}{a:α}:KR s (.ok a s):=λ _ _ h=>by cases h;exact KP.refl _
theorem KR.bind {α β:Type}{s:Sto}{r:R α}{f:α->Sto->R β}(h:KR s r)(g:∀ a s1,KR s1 (f a s1)):KR s (r.bind f):=λ b s' e=>by
 obtain⟨a,s1,e1,e2⟩:=R.bind_inv e
 exact(h a s1 e1).trans (g a s1 b s' e2)
theorem KR.tru {α:Type}{s:Sto}{r:R D}{f:Bool->Sto->R α}(h:KR s r)(g:∀ a s1,KR s1 (f a s1)):KR s (tru r f):=KR.bind h λ a s1=>by
 cases a with
 | bl b=>exact g b s1
 | _=>exact KR.bad
theorem KR.if {α:Type}{s:Sto}{c:Prop}[Decidable c]{a b:R α}(h:KR s a)(g:KR s b):KR s (if c then a else b):=by split;exact h;exact g
theorem KR.al {s:Sto}{o:O}:KR s (aj1 o s):=λ _ _ h=>by cases h;exact KP.app _ _
theorem KR.pu {s:Sto}{d:D}:KR s (pur d s):=λ _ _ h=>by cases h;exact KP.refl _
theorem KR.bd {s:Sto}:KR s ((DV.bad:M D) s):=λ _ _ h=>by cases h
theorem KR.im {s:Sto}{c:Prop}{_:Decidable c}{d:D}:KR s ((if c then pur d else DV.bad:M D) s):=by split;exact KR.pu;exact KR.bd
theorem KR.ia {s:Sto}{c:Prop}{_:Decidable c}{o:O}:KR s (if c then aj1 o s else .bad):=KR.if KR.al KR.bd
theorem bk0 (op:BOp)(x y:D)(s:Sto):KR s (ao3 op x y s):=by
 cases op with
 | add=>cases x with
  | int a=>cases y with
   | int b=>exact KR.pu
   | _=>exact KR.bd
  | str a=>cases y with
   | str b=>exact KR.im
   | _=>exact KR.bd
  | tup a=>cases y with
   | tup b=>exact KR.im
   | _=>exact KR.bd
  | ref a=>cases y with
   | ref b =>
    show KR s (match s[a]?,s[b]? with|some (.lst l),some (.lst m)=>if l.length+m.length<=LIM then aj1 (.lst (l++m)) s else .bad|_,_=>.bad)
    split
    .exact KR.ia
    .exact KR.bd
   | _=>exact KR.bd
  | _=>exact KR.bd
 | sub=>cases x with
  | int a=>cases y with
   | int b=>exact KR.pu
   | _=>exact KR.bd
  | _=>exact KR.bd
 | mul=>cases x with
  | int a=>cases y with
   | int b=>exact KR.im
   | _=>exact KR.bd
  | str a=>cases y with
   | int b=>exact KR.im
   | _=>exact KR.bd
  | tup a=>cases y with
   | int b=>exact KR.im
   | _=>exact KR.bd
  | ref a=>cases y with
   | int n =>
    show KR s (match s[a]? with|some (.lst l)=>if 0<=n/\n<=1000000/\l.length*n.toNat<=LIM then aj1 (.lst (aX4 n.toNat l)) s else .bad|_=>.bad)
    split
    .exact KR.ia
    .exact KR.bd
   | _=>exact KR.bd
  | _=>exact KR.bd
 | fdiv=>cases x with
  | int a=>cases y with
   | int b=>exact KR.im
   | _=>exact KR.bd
  | _=>exact KR.bd
 | mod=>cases x with
  | int a=>cases y with
   | int b=>exact KR.im
   | _=>exact KR.bd
  | _=>exact KR.bd
 | pow=>cases x with
  | int a=>cases y with
   | int b=>exact KR.im
   | _=>exact KR.bd
  | _=>exact KR.bd
 | shl=>cases x with
  | int a=>cases y with
   | int b=>exact KR.im
   | _=>exact KR.bd
  | _=>exact KR.bd
 | shr=>intro a s' h;exact absurd h (by nofun)
 | band=>intro a s' h;exact absurd h (by nofun)
 | _=>exact KR.bd
theorem bA9 (f:Int->List Nat->Int->List Nat->Bool)(x y:D)(s:Sto):KR s (bL5 f x y s):=by
 intro a s' h
 unfold bL5 at h
 split at h<;>cases h
 exact KP.refl _
theorem aY1 (op:COp)(x y:D)(s:Sto):KR s (zK op x y s):=by
 have B:∀ a b:D,KR s (inM a b s):=λ a b=>by
  intro r s' h
  unfold inM at h
  split at h
  .split at h<;>cases h;exact KP.refl _
  .split at h
   .split at h<;>cases h;exact KP.refl _
   .split at h<;>cases h;exact KP.refl _
   .split at h<;>cases h;exact KP.refl _
   .cases h
  .split at h<;>cases h;exact KP.refl _
  .cases h
 cases op with
 | isin=>exact KR.bind (B x y) λ _ _=>KR.ok
 | notin=>exact KR.bind (B x y) λ _ _=>KR.ok
 | eq=>intro a s' h;change eqM x y s=_ at h;unfold eqM at h;split at h<;>cases h;exact KP.refl _
 | ne =>
  intro a s' h
  change(match eqv s DEEP x y with|some r=>R.ok (D.bl (!r)) s|none=>.bad)=_ at h
  split at h<;>cases h;exact KP.refl _
 | _ =>
  intro a s' h
  cases x with
  | int i=>(cases y with
   | int j=>cases h;exact KP.refl _
   | _=>cases h)
  | tup l=>(cases y with
   | tup m=>first|exact bA9 _ _ _ _ _ _ h|cases h
   | _=>cases h)
  | _=>cases h
theorem ck2 (x y:D)(s:Sto):KR s (ixM x y s):=by
 intro a s' h
 unfold ixM at h
 repeat' split at h
 all_goals first|(cases h;exact KP.refl _;done)|(cases h;done)
theorem bG2 (x:D)(B F:Option Int)(s:Sto):KR s (slM x B F s):=by
 intro a s' h
 unfold slM at h
 repeat' split at h
 all_goals first|(cases h;exact KP.refl _;done)|(cases h;exact KP.app _ _;done)|(cases h;done)
theorem bK2 (x:D)(s:Sto):KR s (bj6 x s):=by
 intro a s' h
 unfold bj6 at h
 repeat' split at h
 all_goals first|(cases h;exact KP.refl _;done)|(cases h;done)
theorem aI8 (x:D)(s:Sto):KR s (bu2 x s):=by
 intro a s' h
 unfold bu2 at h
 repeat' split at h
 all_goals first|(cases h;exact KP.refl _;done)|(cases h;done)
theorem bF6 (x:D)(s:Sto):KR s (aF7 x s):=by
 intro a s' h
 unfold aF7 at h
 repeat' split at h
 all_goals first|(cases h;exact KP.refl _;done)|(cases h;done)
theorem aN7 (x:D)(s:Sto):KR s (aU4 x s):=by
 intro a s' h
 unfold aU4 at h
 repeat' split at h
 all_goals first|(cases h;exact KP.refl _;done)|(cases h;done)
theorem bo5 (x:D)(s:Sto):KR s (bn9 x s):=by
 intro a s' h
 unfold bn9 at h
 repeat' split at h
 all_goals first|(cases h;exact KP.refl _;done)|(cases h;done)
theorem bz4 (x y:D)(s:Sto):KR s (bz6 x y s):=by
 intro a s' h
 unfold bz6 at h
 repeat' split at h
 all_goals first|(cases h;exact KP.refl _;done)|(cases h;done)
theorem bI9 (l:List D)(s:Sto):KR s (bc5 l s):=by
 intro a s' h
 unfold bc5 at h
 split at h
 .split at h<;>cases h;exact KP.refl _
 .cases h;exact KP.refl _
 .cases h
theorem bI6 (l:List D)(s:Sto):KR s (aS7 l s):=by
 intro a s' h
 unfold aS7 at h
 split at h
 .split at h<;>cases h;exact KP.refl _
 .cases h
theorem cm7 (b:Bi)(l:List D)(s:Sto):KR s (bi b l s):=by
 have k1:∀ f:D->M D,(∀ d,KR s (f d s))->KR s (bi1 f l s):=λ f B=>by
  cases l with
  | nil=>exact KR.bad
  | cons d t=>(cases t with
   | nil=>exact B d
   | cons _ _=>exact KR.bad)
 have k2:∀ k d,KR s (isK k d s):=λ k d=>by
  intro a s' h
  unfold isK at h
  repeat' split at h
  all_goals first|(cases h;exact KP.refl _;done)|(cases h;done)
 have k3:∀ d,KR s (bD9 d s):=λ d=>by
  intro a s' h
  unfold bD9 at h
  repeat' split at h
  all_goals first|(cases h;exact KP.refl _;done)|(cases h;done)
 cases b with
 | len=>exact k1 _ k3
 | isInt=>exact k1 _ (k2 1)
 | isBool=>exact k1 _ (k2 2)
 | isStr=>exact k1 _ (k2 3)
 | isTup=>exact k1 _ (k2 4)
 | isList=>exact k1 _ (k2 5)
 | str=>exact bI9 l s
 | int =>
  intro a s' h
  have h:(match au7 l with|some [b]=>R.ok (D.int (if b then 1 else 0)) s|some _=>.bad|none=>aS7 l s)=.ok a s':=h
  split at h
  .cases h;exact KP.refl _
  .cases h
  .exact bI6 l s a s' h
 | _ =>
  intro a s' h
  unfold bi at h
  first|(cases h;done)|(simp only at h;split at h<;>first|(cases h;exact KP.refl _;done)|(cases h;done))
theorem bN2 (k:Mk)(l:List D)(s:Sto):KR s (mk k l s):=by
 cases k with
 | tuple=>exact KR.ok
 | list=>exact KR.al
 | lenset=>exact KR.bad
 | _ =>
  intro a s' h
  unfold mk at h
  simp only at h
  repeat' split at h
  all_goals first|(cases h;exact KP.refl _;done)|(cases h;exact KP.app _ _;done)|(cases h;done)
theorem bs0 (k:Mk)(l:List D)(d:D)(s:Sto):KR s (mkD k l d s):=by
 intro a s' h
 unfold mkD at h
 repeat' split at h
 all_goals first|(cases h;exact KP.refl _;done)|(cases h;done)
theorem bF9 (m : Mt) (o : D) (l : List D) (s : Sto) : KR s (meth m o l s) := by
  have lc : ∀ {r : Nat} {f : List D -> R D}, (∀ l, s[r]? = some (.lst l) -> KR s (f l)) -> KR s (match s[r]? with|some (.lst l) => f l|_ => .bad : R D) := λ {r f} h => by
    cases e : s[r]? with
    | none => exact KR.bad
    | some ob => cases ob with
      | lst l => exact h l e
      | _ => exact KR.bad
  cases o with
  | ref r => cases m with
    | append => match l with
      | [d] => exact lc λ l e => KR.if (λ _ _ h => by cases h; exact KP.set e rfl) KR.bad
      | [] => exact KR.bd
      | _ :: _ :: _ => exact KR.bd
    | pop => match l with
      | [] => exact lc λ l e => by
                show KR s (match l.getLast? with|some d => R.ok d (s.set r (.lst l.dropLast))|none => .bad : R D)
                split
                . exact λ _ _ h => by cases h; exact KP.set e rfl
                . exact KR.bad
      | _ :: _ => exact KR.bd
    | reverse => match l with
      | [] => exact lc λ l e => λ _ _ h => by cases h; exact KP.set e rfl
      | _ :: _ => exact KR.bd
    | clear => match l with
      | [] => exact lc λ l e => λ _ _ h => by cases h; exact KP.set e rfl
      | _ :: _ => exact KR.bd
    | index => match l with
      | [d] => exact lc λ l e => by
                show KR s (match inL s d l, idx s d 0 l with|some true, some n => R.ok (.int n) s|_, _ => .bad : R D)
                split
                . exact λ _ _ h => by cases h; exact KP.refl _
                . exact KR.bad
      | [] => exact KR.bd
      | _ :: _ :: _ => exact KR.bd
    | _ => exact KR.bd
  | _ => cases m <;> exact KR.bd
theorem bh9 (o:D)(l:List D)(s:Sto):KR s (bS6 o l s):=by
 intro a s' h
 unfold bS6 at h
 repeat' split at h
 all_goals first|(cases h;done)|(rename_i e _;cases h;exact KP.set e rfl;done)
theorem bl3 (o i v:D)(s:Sto):KR s (setIx o i v s):=by
 intro a s' h
 unfold setIx at h
 cases o with
 | ref r =>
  simp only at h
  cases e:s[r]? with
  | none=>rw[e]at h;cases h
  | some ob =>
   rw[e]at h
   cases ob with
   | lst l =>
    cases i with
    | int k=>simp only at h;split at h<;>cases h;exact KP.set e rfl
    | _=>cases h
   | dic l=>simp only at h;split at h<;>cases h;exact KP.set e rfl
   | dit l=>simp only at h;split at h<;>cases h;exact KP.set e rfl
   | _=>cases h
 | _=>cases h
theorem bH6 (o k e:D)(s:Sto):KR s (ch0 o k e s):=by
 intro a s' h
 unfold ch0 at h
 repeat' split at h
 all_goals first|(cases h;exact KP.refl _;done)|(cases h;done)
theorem bK8 (d:D)(s:Sto):KR s (cl5 d s):=by
 intro a s' h
 unfold cl5 at h
 repeat' split at h
 all_goals first|(cases h;exact KP.refl _;done)|(cases h;done)
structure FK (F:Fns):Prop where
 call:∀ f l s,KR s (F.call f l s)
 lam:∀ id cs l s,KR s (F.lam id cs l s)
 xcall:∀ f l s c s',F.xcall f l s=some (c,s')->KP s s'
theorem ay6 {ok:Sto->Bool}{g:D->Env->Sto->R (Option D×Env)}(hg:∀ d U s,KR s (g d U s)):∀(l:List D) (U:Env) (s:Sto),KR s (ak5 ok g l U s)
 | [],U,s=>KR.if KR.ok KR.bad
 | d::l,U,s=>KR.if (KR.bind (hg d U s) λ p s1=>KR.bind (ay6 hg l p.2 s1) λ r s2=>KR.ok) KR.bad
section
variable {F:Fns} (hF:FK F)
theorem bg0 (U:Env)(i:Nat)(s:Sto):KR s (aJ8 U i s):=by
 intro a s' h
 unfold aJ8 at h
 split at h<;>cases h;exact KP.refl _
include hF
mutual
theorem zc:∀(e:E) (U:Env) (s:Sto),KR s (ev F e U s)
 | .var i,U,s=>bg0 U i s
 | .cst c,U,s=>KR.ok
 | .glob x,U,s=>by
  intro a s' h
  change(match F.con x with|some d=>R.ok d s|none=>.bad)=_ at h
  split at h<;>cases h;exact KP.refl _
 | .bin op a b,U,s=>KR.bind (zc a U s) λ x s=>KR.bind (zc b U s) λ y s=>bk0 op x y s
 | .neg a,U,s=>KR.bind (zc a U s) λ x s=>by
  cases x with
  | int i=>exact KR.ok
  | _=>exact KR.bad
 | .not a,U,s=>KR.tru (zc a U s) λ b s=>KR.ok
 | .cmp op a b,U,s=>KR.bind (zc a U s) λ x s=>KR.bind (zc b U s) λ y s=>aY1 op x y s
 | .chain o p a b c,U,s=>KR.bind (zc a U s) λ x s=>KR.bind (zc b U s) λ y s=>KR.tru (aY1 o x y s) λ k s=>KR.if (KR.bind (zc c U s) λ z s=>aY1 p y z s) KR.ok
 | .isN a,U,s=>KR.bind (zc a U s) λ x s=>KR.ok
 | .notN a,U,s=>KR.bind (zc a U s) λ x s=>KR.ok
 | .isB a b,U,s=>KR.bind (zc a U s) λ x s=>by
  cases x with
  | bl i=>exact KR.ok
  | _=>exact KR.bad
 | .notB a b,U,s=>KR.bind (zc a U s) λ x s=>by
  cases x with
  | bl i=>exact KR.ok
  | _=>exact KR.bad
 | .and a b,U,s=>KR.tru (zc a U s) λ c s=>KR.if (KR.tru (zc b U s) λ c s=>KR.ok) KR.ok
 | .or a b,U,s=>KR.tru (zc a U s) λ c s=>KR.if KR.ok (KR.tru (zc b U s) λ c s=>KR.ok)
 | .ite c a b,U,s=>KR.tru (zc c U s) λ k s=>KR.if (zc a U s) (zc b U s)
 | .tup es,U,s=>KR.bind (al0 es U s) λ l s=>KR.ok
 | .lst es,U,s=>KR.bind (al0 es U s) λ l s=>KR.al
 | .dic .nil .nil,U,s=>KR.al
 | .dic (.cons k .nil) (.cons v .nil),U,s=>by
  intro a s' h
  obtain⟨kd,s1,e1,h⟩:=R.bind_inv (show(ev F k U (s++[.dic []])).bind _=_ from h)
  obtain⟨B,s2,e2,h⟩:=R.bind_inv h
  split at h
  case isFalse=>cases h
  rename_i hc
  cases h
  exact((KP.app _ _).trans ((zc k U _ _ _ e1).trans (zc v U _ _ _ e2))).trans (KP.set hc.2 rfl)
 | .dic .nil (.cons _ _),U,s=>KR.bad
 | .dic (.cons _ .nil) .nil,U,s=>KR.bad
 | .dic (.cons _ .nil) (.cons _ (.cons _ _)),U,s=>KR.bad
 | .dic (.cons _ (.cons _ _)) _,U,s=>KR.bad
 | .dicT,U,s=>KR.al
 | .dicU k v,U,s=>by
  intro a s' h
  obtain⟨kd,s1,e1,h⟩:=R.bind_inv (show(ev F k U (s++[.dit []])).bind _=_ from h)
  obtain⟨B,s2,e2,h⟩:=R.bind_inv h
  split at h
  case isFalse=>cases h
  rename_i hc
  cases h
  exact((KP.app _ _).trans ((zc k U _ _ _ e1).trans (zc v U _ _ _ e2))).trans (KP.set hc.2 rfl)
 | .fstr es,U,s=>KR.bind (al0 es U s) λ x s=>by
  intro a s' h
  unfold bU4 at h
  split at h
  .split at h<;>cases h;exact KP.refl _
  .cases h
 | .inC e c,U,s=>KR.bind (zc e U s) λ x s=>by
  intro a s' h
  unfold co1 at h
  split at h<;>cases h;exact KP.refl _
 | .getC c e,U,s=>KR.bind (zc e U s) λ x s=>by
  intro a s' h
  unfold bO6 at h
  split at h
  .split at h
   .split at h<;>cases h;exact KP.refl _
   .cases h
  .cases h
 | .bitl a,U,s=>KR.bind (zc a U s) λ x s=>by
  intro a s' h
  unfold bZ3 at h
  repeat' split at h
  all_goals first|(cases h;exact KP.refl _;done)|(cases h;done)
 | .lrng a,U,s=>KR.bind (zc a U s) λ x s=>by
  intro a s' h
  unfold bL7 at h
  repeat' split at h
  all_goals first|(cases h;exact KP.app _ _;done)|(cases h;done)
 | .get2 o k d,U,s=>KR.bind (zc o U s) λ x s=>KR.bind (zc k U s) λ y s=>KR.bind (zc d U s) λ z s=>bH6 x y z s
 | .ix a b,U,s=>KR.bind (zc a U s) λ x s=>KR.bind (zc b U s) λ y s=>ck2 x y s
 | .slL a lo,U,s=>KR.bind (zc a U s) λ x s=>KR.bind (zc lo U s) λ y s=>by
  cases y with
  | int i=>exact bG2 _ _ _ _
  | _=>exact KR.bad
 | .slU a hi,U,s=>KR.bind (zc a U s) λ x s=>KR.bind (zc hi U s) λ y s=>by
  cases y with
  | int i=>exact bG2 _ _ _ _
  | _=>exact KR.bad
 | .slLU a lo hi,U,s=>KR.bind (zc a U s) λ x s=>KR.bind (zc lo U s) λ y s=>by
  cases y with
  | int i =>
   refine KR.bind (zc hi U s) λ z s=>?_
   cases z with
   | int j=>exact bG2 _ _ _ _
   | _=>exact KR.bad
  | _=>exact KR.bad
 | .rev a,U,s=>KR.bind (zc a U s) λ x s=>by
  cases x with
  | str l=>exact KR.ok
  | ref r =>
   intro a s' h
   unfold cl8 at h
   repeat' split at h
   all_goals first|(cases h;exact KP.refl _;done)|(cases h;exact KP.app _ _;done)|(cases h;done)
  | _=>exact KR.bad
 | .call f as,U,s=>KR.bind (an9 as U s) λ l s=>hF.call f l s
 | .callC f as,U,s=>KR.bind (an9 as U s) λ l s=>KR.bind (hF.call f l s) λ d s'=>KR.if KR.ok KR.bad
 | .callV i es,U,s=>KR.bind (al0 es U s) λ l s=>by
  intro a s' h
  split at h
  .exact hF.call _ _ _ _ _ h
  .exact hF.lam _ _ _ _ _ _ h
  .cases h
 | .bi b es,U,s=>KR.bind (al0 es U s) λ l s=>cm7 b l s
 | .mk k it,U,s=>KR.bind (bi2 it U s) λ q s=>bN2 k q s
 | .mkD k it d,U,s=>KR.bind (bi2 it U s) λ q s=>KR.bind (zc d U s) λ d s=>bs0 k q d s
 | .meth m o es,U,s=>KR.bind (zc o U s) λ x s=>KR.bind (al0 es U s) λ l s=>bF9 m x l s
 | .ext o it,U,s=>KR.bind (zc o U s) λ x s=>KR.bind (bi2 it U s) λ q s=>bh9 x q s
 | .extS o e,U,s=>KR.bind (zc o U s) λ x s=>KR.bind (zc e U s) λ y s=>by
  intro a s' h
  unfold extS at h
  repeat' split at h
  all_goals first|(cases h;done)|exact bh9 _ _ _ _ _ h
 | .join o e,U,s=>KR.bind (zc o U s) λ x s=>KR.bind (zc e U s) λ y s=>bz4 x y s
 | .mks k e,U,s=>KR.bind (zc e U s) λ x s=>KR.bind (aI8 x s) λ q s=>bN2 k q s
 | .mkDs k e d,U,s=>KR.bind (zc e U s) λ x s=>KR.bind (zc d U s) λ z s=>KR.bind (aI8 x s) λ q s=>bs0 k q z s
 | .minK _ e j,U,s=>KR.bind (zc e U s) λ x s=>KR.bind (aI8 x s) λ q s=>by
  intro a s' h
  unfold bD4 at h
  split at h
  .split at h<;>cases h;exact KP.refl _
  .cases h
 | .spl o c,U,s=>KR.bind (zc o U s) λ x s=>by
  intro a s' h
  unfold ci1 at h
  split at h
  .split at h<;>cases h;exact KP.app _ _
  .cases h
theorem al0:∀(es:Es) (U:Env) (s:Sto),KR s (evs F es U s)
 | .nil,U,s=>KR.ok
 | .cons e es,U,s=>KR.bind (zc e U s) λ d s=>KR.bind (al0 es U s) λ l s=>KR.ok
theorem an9:∀(B:As) (U:Env) (s:Sto),KR s (an3 F B U s)
 | .nil,U,s=>KR.ok
 | .ex e B,U,s=>KR.bind (zc e U s) λ d s=>KR.bind (an9 B U s) λ l s=>KR.ok
 | .lam id caps B,U,s=>by
  intro a s' h
  change(match bA0 U caps with|some G=>(an3 F B U s).bind λ l s=>R.ok (D.clo id G::l) s|none=>.bad)=_ at h
  split at h
  .exact KR.bind (an9 B U s) (λ l s=>KR.ok) _ _ h
  .cases h
 | .fn f B,U,s=>KR.bind (an9 B U s) λ l s=>KR.ok
theorem aN8:∀(it:I) (U:Env) (s:Sto),KR s (evI F it U s)
 | .seq e,U,s=>KR.bind (zc e U s) λ d s=>bF6 d s
 | .rng1 a,U,s=>KR.bind (zc a U s) λ x s=>by
  cases x with
  | int i=>exact KR.if KR.ok KR.bad
  | _=>exact KR.bad
 | .rng2 a b,U,s=>KR.bind (zc a U s) λ x s=>KR.bind (zc b U s) λ y s=>by
  cases x with
  | int i=>(cases y with
   | int j=>exact KR.if KR.ok KR.bad
   | _=>exact KR.bad)
  | _=>exact KR.bad
 | .rngD a,U,s=>KR.bind (zc a U s) λ x s=>by
  cases x with
  | int i=>exact KR.if KR.ok KR.bad
  | _=>exact KR.bad
 | .rng3 a b c,U,s=>KR.bind (zc a U s) λ x s=>KR.bind (zc b U s) λ y s=>by
  cases x with
  | int i=>(cases y with
   | int j=>exact KR.if KR.ok KR.bad
   | _=>exact KR.bad)
  | _=>exact KR.bad
 | .enum (.seq e),U,s=>KR.bind (zc e U s) λ d s=>KR.bind (bo5 d s) λ q s=>KR.ok
 | .zip (.seq a) (.seq b),U,s=>KR.bind (zc a U s) λ x s=>KR.bind (zc b U s) λ y s=>KR.bind (aN7 x s) λ p s=>KR.bind (aN7 y s) λ q s=>KR.ok
 | .enum (.rng1 _),U,s=>KR.bad
 | .enum (.rng2 _ _),U,s=>KR.bad
 | .enum (.rng3 _ _ _),U,s=>KR.bad
 | .enum (.rngD _),U,s=>KR.bad
 | .enum (.enum _),U,s=>KR.bad
 | .enum (.zip _ _),U,s=>KR.bad
 | .enum (.items _),U,s=>KR.bad
 | .zip (.rng1 _) _,U,s=>KR.bad
 | .zip (.rng2 _ _) _,U,s=>KR.bad
 | .zip (.rng3 _ _ _) _,U,s=>KR.bad
 | .zip (.rngD _) _,U,s=>KR.bad
 | .zip (.enum _) _,U,s=>KR.bad
 | .zip (.zip _ _) _,U,s=>KR.bad
 | .zip (.items _) _,U,s=>KR.bad
 | .zip (.seq _) (.rng1 _),U,s=>KR.bad
 | .zip (.seq _) (.rng2 _ _),U,s=>KR.bad
 | .zip (.seq _) (.rng3 _ _ _),U,s=>KR.bad
 | .zip (.seq _) (.rngD _),U,s=>KR.bad
 | .zip (.seq _) (.enum _),U,s=>KR.bad
 | .zip (.seq _) (.zip _ _),U,s=>KR.bad
 | .zip (.seq _) (.items _),U,s=>KR.bad
 | .items e,U,s=>KR.bad
theorem bi2:∀(it:L) (U:Env) (s:Sto),KR s (evL F it U s)
 | .comp tg it e caps,U,s=>KR.bind (aN8 it U s) λ q s0=>KR.if (ay6 (λ d U s=>by
   intro a s' h
   split at h
   .exact KR.bind (zc e _ s) (λ v s=>KR.ok) _ _ h
   .cases h) _ _ _) KR.bad
 | .compIf tg it c e caps,U,s=>KR.bind (aN8 it U s) λ q s0=>KR.if (ay6 (λ d U s=>by
   intro a s' h
   split at h
   .exact KR.tru (zc c _ s) (λ k s=>KR.if (KR.bind (zc e _ s) λ v s=>KR.ok) KR.ok) _ _ h
   .cases h) _ _ _) KR.bad
 | .disp es,U,s=>al0 es U s
 | .seq e,U,s=>KR.bind (zc e U s) λ d s=>bK2 d s
 | .itm e,U,s=>KR.bind (zc e U s) λ d s=>bK8 d s
end
theorem aI1 {ok:Sto->Bool}{g:D->Env->Sto->R Ct}(hg:∀ d U s,KR s (g d U s)):∀(l:List D) (U:Env) (s:Sto),KR s (au8 ok g l U s)
 | [],U,s=>KR.if KR.ok KR.bad
 | d::l,U,s=>KR.if (KR.bind (hg d U s) λ c s=>by
   cases c with
   | next U=>exact aI1 hg l U s
   | cont U=>exact aI1 hg l U s
   | brk U=>exact KR.ok
   | ret d=>exact KR.ok) KR.bad
theorem aL6 {c:Env->Sto->R D}{g:Env->Sto->R Ct}(hc:∀ U s,KR s (c U s))(hg:∀ U s,KR s (g U s)):∀(n:Nat) (U:Env) (s:Sto),KR s (qS c g n U s)
 | 0,U,s=>KR.bad
 | n+1,U,s=>KR.tru (hc U s) λ b s=>KR.if (KR.bind (hg U s) λ h s=>by
   cases h with
   | next U=>exact aL6 hc hg n U s
   | cont U=>exact aL6 hc hg n U s
   | brk U=>exact KR.ok
   | ret d=>exact KR.ok) KR.ok
mutual
theorem bV9:∀(st:S) (U:Env) (s:Sto),KR s (ex F st U s)
 | .asg tg e,U,s=>KR.bind (zc hF e U s) λ d s=>by
  intro a s' h
  split at h<;>cases h;exact KP.refl _
 | .setIx o i e,U,s=>KR.bind (zc hF e U s) λ d s=>KR.bind (zc hF o U s) λ x s=>KR.bind (zc hF i U s) λ y s=>KR.bind (bl3 x y d s) λ _ s=>KR.ok
 | .aug i e,U,s=>KR.bind (bg0 U i s) λ x s=>KR.bind (zc hF e U s) λ y s=>by
  intro a s' h
  repeat' split at h
  all_goals first|(cases h;exact KP.refl _;done)|(cases h;done)
 | .ex e,U,s=>KR.bind (zc hF e U s) λ d s=>KR.ok
 | .ret e,U,s=>KR.bind (zc hF e U s) λ d s=>KR.ok
 | .retN,U,s=>KR.ok
 | .ite c a b,U,s=>KR.tru (zc hF c U s) λ k s=>KR.if (ak6 a U s) (ak6 b U s)
 | .whl c b,U,s=>by
  intro r s' h
  change whl (ev F c) (exs F b) U s=_ at h
  unfold whl at h
  split at h
  .exact aL6 hF (λ U s=>zc hF c U s) (λ U s=>ak6 b U s) _ U s _ _ h
  .cases h
 | .for_ tg it b,U,s=>KR.bind (aN8 hF it U s) λ q s0=>aI1 hF (λ d U s=>by
   intro a s' h
   split at h
   .exact ak6 b _ _ _ _ h
   .cases h) _ _ _
 | .pass,U,s=>KR.ok
 | .cont,U,s=>KR.ok
 | .brk,U,s=>KR.ok
 | .raise,U,s=>KR.bad
 | .und i,U,s=>by
  intro a s' h
  change(match as9 U i with|some U=>R.ok (Ct.next U) s|none=>.bad)=_ at h
  split at h<;>cases h;exact KP.refl _
theorem ak6:∀(h:Ss) (U:Env) (s:Sto),KR s (exs F h U s)
 | .nil,U,s=>KR.ok
 | .cons st h,U,s=>KR.bind (bV9 st U s) λ c s=>by
  cases c with
  | next U=>exact ak6 h U s
  | _=>exact KR.ok
end
end
theorem qa {s st:Sto}{d:D}(h:KP s st):KR s (zr s d st):=by
 have tk:∀ t,KP s (st.take s.length++t):=λ t i o e=>by
  obtain⟨G,e',k⟩:=h i o e
  have J:=(ae.mp e).1
  have F:=(ae.mp e').1
  refine⟨G,?_,k⟩
  rw[aI (by rw[bD];omega),iQ,if_pos J];exact e'
 have B:KP s (st.take s.length):=by have:=tk [];rwa [bw]at this
 intro a s' e
 unfold zr at e
 repeat' split at e
 all_goals first|(cases e;exact B;done)|(cases e;exact tk _;done)|(cases e;exact h;done)|(cases e;done)
theorem aA9 {ok:Sto->Bool}{g:D->Env->Sto->R Ct}{B:D->Env->Sto->Option (String×Sto)}(hg:∀ d U s,KR s (g d U s))(hx:∀ d U s c s',B d U s=some (c,s')->KP s s'):∀(l:List D) (U:Env) (s:Sto) (c:String) (s':Sto),am5 ok g B l U s=some (c,s')->KP s s'
 | [],U,s,c,s',h=>by cases h
 | d::l,U,s,c,s',h=>by
  unfold am5 at h
  split at h
  .split at h
   .rename_i e;exact(hg d U s _ _ e).trans (aA9 hg hx l _ _ _ _ h)
   .rename_i e;exact(hg d U s _ _ e).trans (aA9 hg hx l _ _ _ _ h)
   .cases h
   .exact hx _ _ _ _ _ h
  .cases h
theorem ax4 {t:Env->Sto->R D}{g:Env->Sto->R Ct}{F:Env->Sto->Option (String×Sto)}(B:∀ U s,KR s (t U s))(hg:∀ U s,KR s (g U s))(hx:∀ U s c s',F U s=some (c,s')->KP s s'):∀(n:Nat) (U:Env) (s:Sto) (c:String) (s':Sto),zI t g F n U s=some (c,s')->KP s s'
 | 0,U,s,c,s',h=>by cases h
 | n+1,U,s,c,s',h=>by
  unfold zI at h
  split at h
  .rename_i s1 e1
   have k:=B U s _ _ e1
   split at h
   .rename_i e;exact k.trans ((hg U s1 _ _ e).trans (ax4 B hg hx n _ _ _ _ h))
   .rename_i e;exact k.trans ((hg U s1 _ _ e).trans (ax4 B hg hx n _ _ _ _ h))
   .cases h
   .exact k.trans (hx _ _ _ _ h)
  .cases h
theorem aA5 {F:Fns}(B:FK F):∀(b:XB) (U:Env) (s:Sto) (c:String) (s':Sto),xB F b U s=some (c,s')->KP s s'
 | .no,U,s,c,s',h=>by cases h
 | .rais d,U,s,c,s',h=>by
  change(if F.xc d=true then some (d,s)else none)=_ at h
  split at h
  .cases h;exact KP.refl _
  .cases h
 | .call f as,U,s,c,s',h=>by
  change(match an3 F as U s with|.ok l s1=>F.xcall f l s1|_=>none)=_ at h
  split at h
  .rename_i l s1 e;exact(an9 B as U s _ _ e).trans (B.xcall _ _ _ _ _ h)
  .cases h
 | .iteT d a r,U,s,c,s',h=>by
  change(match ev F d U s with|.ok (.bl b) s1=>if b then xB F a U s1 else xB F r U s1|_=>none)=_ at h
  split at h
  .rename_i b s1 e
   have k:=zc B d U s _ _ e
   split at h
   .exact k.trans (aA5 B a _ _ _ _ h)
   .exact k.trans (aA5 B r _ _ _ _ h)
  .cases h
 | .seq st b,U,s,c,s',h=>by
  change(match ex F st U s with|.ok (.next U1) s1=>xB F b U1 s1|_=>none)=_ at h
  split at h
  .rename_i U1 s1 e;exact(bV9 B st U s _ _ e).trans (aA5 B b _ _ _ _ h)
  .cases h
 | .iteE d a r,U,s,c,s',h=>by
  change(match ev F d U s with|.ok (.bl b) s1=>if b then xB F a U s1 else xB F r U s1|_=>none)=_ at h
  split at h
  .rename_i b s1 e
   have k:=zc B d U s _ _ e
   split at h
   .exact k.trans (aA5 B a _ _ _ _ h)
   .exact k.trans (aA5 B r _ _ _ _ h)
  .cases h
 | .forX tg it b x,U,s,c,s',h=>by
  change(match evI F it U s with
   | .ok q s0=>am5 (λ s=>chk s0 s q.src) (λ d U s=>match zQ U tg d with
    | some U=>exs F b U s
    | none=>.bad) (λ d U s=>match zQ U tg d with
    | some U=>xB F x U s
    | none=>none) q.its U s0
   | _=>none)=_ at h
  split at h
  .rename_i q s0 e
   refine(aN8 B it U s _ _ e).trans (aA9 ?_ ?_ _ _ _ _ _ h)
   .intro d U s
    split
    .exact ak6 B _ _ _
    .exact KR.bad
   .intro d U s c s' h
    split at h
    .exact aA5 B x _ _ _ _ h
    .cases h
  .cases h
 | .whlX d b x,U,s,c,s',h=>by
  change whlX (ev F d) (exs F b) (xB F x) U s=_ at h
  unfold whlX at h
  split at h
  .exact ax4 (zc B d) (ak6 B b) (λ U s c s' h=>aA5 B x _ _ _ _ h) _ _ _ _ _ h
  .cases h
theorem bR4 {h:Hd}{c:String}{s st:Sto}(k:KP s st):KR s (h.out c s st):=by
 unfold Hd.out
 split
 .exact qa (k.trans (KP.app _ _))
 .exact qa k
theorem bn0 {F:Fns}(B:FK F)(d:Tf){s s0:Sto}(k0:KP s s0)(U0:Env):KR s (aJ6 F d s U0 s0):=by
 intro a s' h
 unfold aJ6 at h
 split at h
 .rename_i c s1 e
  have k:=k0.trans (aA5 B _ _ _ _ _ e)
  split at h
  .exact bR4 k _ _ h
  .cases h
 .obtain⟨c,s1,e1,h⟩:=R.bind_inv h
  have k1:=k0.trans (ak6 B _ _ _ _ _ e1)
  cases c with
  | ret v=>exact qa k1 _ _ h
  | next U =>
   obtain⟨c,s2,e2,h⟩:=R.bind_inv h
   have k2:=k1.trans (ak6 B _ _ _ _ _ e2)
   cases c with
   | ret v=>exact qa k2 _ _ h
   | next U=>exact qa k2 _ _ h
   | _=>cases h
  | _=>cases h
theorem bI4 {F:Fns}(B:FK F)(d:Tf)(l:List D)(s:Sto):KR s (bm7 F d l s):=by
 intro a s' h
 unfold bm7 at h
 split at h
 .rename_i U0 s0 e
  exact bn0 B d (ak6 B _ _ _ _ _ e) U0 _ _ h
 .cases h
theorem am8 (P:Pr):∀ n,FK (aa4 P n)
 | 0=>⟨λ _ _ _=>KR.bad,λ _ _ _ _=>KR.bad,λ _ _ _ _ _ h=>by cases h⟩
 | n+1=>by
  refine⟨λ f l s=>?_,λ id B l s=>?_,λ f l s c s' h=>?_⟩
  .intro a s' h
   unfold aa4 at h
   simp only at h
   split at h
   case h_2 =>
    split at h
    case h_2=>cases h
    split at h
    case isFalse=>cases h
    exact bI4 (am8 P n) _ _ _ _ _ h
   split at h
   case isFalse=>cases h
   obtain⟨c,s1,e1,h⟩:=R.bind_inv h
   have k1:=ak6 (am8 P n) _ _ _ _ _ e1
   cases c with
   | ret v=>exact qa k1 _ _ h
   | next U=>exact qa k1 _ _ h
   | _=>cases h
  .intro a s' h
   unfold aa4 at h
   simp only at h
   split at h
   case h_2=>cases h
   split at h
   case isFalse=>cases h
   obtain⟨v,s1,e1,h⟩:=R.bind_inv h
   exact qa (zc (am8 P n) _ _ _ _ _ e1) _ _ h
  .unfold aa4 at h
   simp only at h
   split at h
   case h_2=>cases h
   split at h
   case isFalse=>cases h
   exact aA5 (am8 P n) _ _ _ _ _ h
end DV
end
open DV renaming Sto->kQ,D->kR,Env->kS,R->kU,ev->kW,aa4->kZ,LIM->k6,eqv->k8,tru->k9,Fns->la,as2->lb,DEEP->lf,Pr->lh,eqL->lp,rep->lq,kd->lr,zQ->lu,subC->lv,aj8->lx,Es->ly,aB6->lz,O->lA,Ct->lB,look->lC,chk->lD,evs->lE,Tg->lF,au6->lG,exs->lH,Bi->lI,aX4->lJ,aj1->lK,sbd->lL,an3->lM,xB->lN,loB->lO,inL->lP,ixn->lQ,minI->lR,aK0->lS,qg->lT,Sq->lU,ak5->lV,qf->lW,As->lX,Df->lY,M->lZ,hiB->l6,slM->l7,au7->l8,ar8->l9,meth->ma,evI->mf,am2->mn,bi->mq,qN->mr,Mk->mw,Mt->my,E->mz,mk->mB,bg7->mD,COp->mF,pur->mG,inM->mH,bi1->mJ,aJ8->mK,au8->mM,zr->mO,BOp->mQ,isK->mR,Ww62->mU,Ss->mV,XB->mW,am5->mY,at6->mZ,Tf->m6
open DV.D renaming bndL->kT,bnd->kX,hdI->k7,keyS->lw,keyF->mP
open DV.O renaming bnd->kY
noncomputable section
namespace L2
theorem fb {α:Type}{d:α}{s:kQ}{p:Prop}(h:(DV.R.bad:kU α)=.ok d s):p:=nomatch h
open PySem PySem.Spec PyProof.Rows
structure LamI where
 qual:Str
 params:eF
 body:Expr
 scope:Scope
 ps:List Str
 fr:List Str
 nm:Option (Str×Pos)
def aC8 (H:Hp)(f:Addr)(J:LamI)(cap:List V)(clos:yB):Prop:=match J.nm with
 | none=>aY5 H f J.qual J.params J.body J.scope J.fr cap clos
 | some p=>aH6 H f p.1 J.qual J.params [.Return (some J.body) p.2] J.scope J.fr cap clos
def aE2 (H:Hp)(f:Addr)(J:LamI)(clos:yB):Prop:=match J.nm with
 | none=>∃ pm c' ctv,H f=some (bL3 f (jX "<lambda>" J.qual J.params J.body J.scope clos pm (.ref c') ctv))/\H c'=some (aW9 c' J.qual)
 | some p=>∃ doc pm c' ctv,H f=some (bL3 f (kI p.1 J.qual J.params [.Return (some J.body) p.2] J.scope clos .none .none doc pm none (.ref c') ctv))/\H c'=some (aW9 c' J.qual)
structure Gm where
 K:ah
 fa:String->Option Addr
 lg:String->LamI->Prop
 T:List (Addr×Str)
variable (Γ:Gm)
mutual
noncomputable def RV (C:Nat->Addr)(H:Hp):kR->V->Prop
 | .non,v=>v=.non
 | .bl b,v=>v=.bl b
 | .int i,v=>v=.int i
 | .str x,v=>v=.str ⟨x.toArray⟩/\x.length<=k6
 | .tup l,v=>∃ a xs,v=.ref a/\(SqT Γ.K H a xs/\(k7 l=true->H a=some (.tup xs)))/\RVL C H l xs
 | .ref n,v=>v=.ref (C n)
 | .fn f,v=>∃ a,Γ.fa f=some a/\v=.ref a
 | .clo id cs,v=>∃ f cap J clos,v=.ref f/\Γ.lg id J/\aC8 H f J cap clos/\cap.length=J.fr.length/\RVL C H cs cap
noncomputable def RVL (C:Nat->Addr)(H:Hp):List kR->List V->Prop
 | [],xs=>xs=[]
 | d::l,xs=>∃ x r,xs=x::r/\RV C H d x/\RVL C H l r
end
noncomputable def ce8:HO->Bool
 | .tup _=>true
 | .frz _ _=>true
 | .ext _=>true
 | _=>false
def Kp (H H':Hp):Prop:=∀ b o,H b=some o->ce8 o=true->H' b=some o
theorem Kp.refl (H:Hp):Kp H H:=λ _ _ h _=>h
theorem Kp.trans {H B F:Hp}(a:Kp H B)(b:Kp B F):Kp H F:=λ c o h f=>b c o (a c o h f) f
theorem Kp.new {H B:Hp}{p:Addr}{o:HO}(a:Kp H B)(h:B p=none):Kp H (upd B p o):=λ c u e f=>by
 have e1:=a c u e f
 rw[zn (zu e1 h)];exact e1
theorem Kp.put {H B:Hp}{p:Addr}{o u:HO}(a:Kp H B)(h:B p=some u)(hu:ce8 u=false):Kp H (upd B p o):=λ c v e f=>by
 have e1:=a c v e f
 rw[zn (λ z=>by subst z;rw[h]at e1;cases e1;rw[hu]at f;cases f)];exact e1
theorem Kp.sqT {K:ah}{H H':Hp}{a:Addr}{B:List V}(e:Kp H H')(h:SqT K H a B):SqT K H' a B:=by
 rcases h with(h|⟨o,h⟩)|h
 .exact .inl (.inl (e _ _ h rfl))
 .exact .inl (.inr ⟨o,e _ _ h rfl⟩)
 .exact .inr h
theorem aY5.kp {H H':Hp}{f:Addr}{qual:Str}{params:eF}{body:Expr}{scope:Scope}{fr:yH}{cap:List V}{B:yB}(h:aY5 H f qual params body scope fr cap B)(e:Kp H H'):aY5 H' f qual params body scope fr cap B:=by
 obtain⟨J,Y,F,h1,Z,h3,h4,h5,h6⟩:=h
 refine⟨J,Y,F,e _ _ h1 rfl,e _ _ Z rfl,λ x c q=>?_,h4,h5,λ i x v a b=>?_⟩
 .obtain⟨o,v,z,d⟩:=h3 x c q
  exact⟨o,v,e _ _ z rfl,d⟩
 .obtain⟨c,o,u,z1,z2,G⟩:=h6 i x v a b
  exact⟨c,o,u,z1,e _ _ z2 rfl,G⟩
theorem aH6.kp {H H':Hp}{f:Addr}{name qual:Str}{params:eF}{body:yL}{scope:Scope}{fr:yH}{cap:List V}{B:yB}(h:aH6 H f name qual params body scope fr cap B)(e:Kp H H'):aH6 H' f name qual params body scope fr cap B:=by
 obtain⟨G,Y,Z,F,h1,h2,h3,h4,h5,h6⟩:=h
 refine⟨G,Y,Z,F,e _ _ h1 rfl,e _ _ h2 rfl,λ x c q=>?_,h4,h5,λ i x v a b=>?_⟩
 .obtain⟨o,v,z,d⟩:=h3 x c q
  exact⟨o,v,e _ _ z rfl,d⟩
 .obtain⟨c,o,u,z1,z2,J⟩:=h6 i x v a b
  exact⟨c,o,u,z1,e _ _ z2 rfl,J⟩
theorem aC8.kp {H H':Hp}{f:Addr}{J:LamI}{cap:List V}{B:yB}(h:aC8 H f J cap B)(e:Kp H H'):aC8 H' f J cap B:=by
 unfold aC8 at h ⊢
 cases q:J.nm with
 | none=>rw[q]at h;exact aY5.kp h e
 | some p=>rw[q]at h;exact aH6.kp h e
theorem aE2.kp {H H':Hp}{f:Addr}{J:LamI}{B:yB}(h:aE2 H f J B)(e:Kp H H'):aE2 H' f J B:=by
 unfold aE2 at h ⊢
 cases q:J.nm with
 | none =>
  rw[q]at h
  obtain⟨Y,G,F,h1,h2⟩:=h
  exact⟨Y,G,F,e _ _ h1 rfl,e _ _ h2 rfl⟩
 | some p =>
  rw[q]at h
  obtain⟨Z,Y,G,F,h1,h2⟩:=h
  exact⟨Z,Y,G,F,e _ _ h1 rfl,e _ _ h2 rfl⟩
theorem aC8.fn {K:ah}{H:Hp}{f:Addr}{J:LamI}{cap:List V}{B:yB}(h:aC8 H f J cap B):cd5 K H f:=by
 unfold aC8 at h
 cases q:J.nm with
 | none=>rw[q]at h;obtain⟨Z,Y,F,G,_⟩:=h;exact .inl ⟨_,G⟩
 | some p=>rw[q]at h;exact aH6.fn h
structure Gw (C:Nat->Addr)(n:Nat)(H:Hp)(C':Nat->Addr)(H':Hp):Prop where
 map:∀ i,i<n->C' i=C i
 kp:Kp H H'
variable {Γ:Gm}
mutual
theorem RV.monoW {C C':Nat->Addr}{n:Nat}{H H':Hp}(g:Gw C n H C' H'):∀(d:kR) (v:V),d.bnd n=true->RV Γ C H d v->RV Γ C' H' d v
 | .non,_,_,h=>by unfold RV at h ⊢;exact h
 | .bl _,_,_,h=>by unfold RV at h ⊢;exact h
 | .int _,_,_,h=>by unfold RV at h ⊢;exact h
 | .str _,_,_,h=>by unfold RV at h ⊢;exact h
 | .tup l,_,b,h=>by
  unfold RV at h ⊢
  unfold kX at b
  obtain⟨a,F,e,q,r⟩:=h
  exact⟨a,F,e,⟨g.kp.sqT q.1,λ z=>g.kp _ _ (q.2 z) rfl⟩,RVL.monoW g l F b r⟩
 | .ref k,_,b,h=>by
  unfold RV at h ⊢
  unfold kX at b
  rw[g.map k (of_decide_eq_true b)];exact h
 | .fn _,_,_,h=>by unfold RV at h ⊢;exact h
 | .clo id cs,_,b,h=>by
  unfold RV at h ⊢
  unfold kX at b
  obtain⟨f,cap,J,B,e,Z,G,h3,Y⟩:=h
  exact⟨f,cap,J,B,e,Z,G.kp g.kp,h3,RVL.monoW g cs cap b Y⟩
theorem RVL.monoW {C C':Nat->Addr}{n:Nat}{H H':Hp}(g:Gw C n H C' H'):∀(l:List kR) (B:List V),kT n l=true->RVL Γ C H l B->RVL Γ C' H' l B
 | [],_,_,h=>by unfold RVL at h ⊢;exact h
 | d::l,_,b,h=>by
  unfold RVL at h ⊢
  unfold kT at b
  rw[ao]at b
  obtain⟨x,r,e,q,t⟩:=h
  exact⟨x,r,e,RV.monoW g d x b.1 q,RVL.monoW g l r b.2 t⟩
end
mutual
theorem zg {n m:Nat}(h:n<=m):∀ d:kR,d.bnd n=true->d.bnd m=true
 | .non,_=>rfl
 | .bl _,_=>rfl
 | .int _,_=>rfl
 | .str _,_=>rfl
 | .tup l,b=>by unfold kX at b ⊢;exact ah5 h l b
 | .ref k,b=>by unfold kX at b ⊢;exact decide_eq_true (aF (of_decide_eq_true b) h)
 | .fn _,_=>rfl
 | .clo _ l,b=>by unfold kX at b ⊢;exact ah5 h l b
theorem ah5 {n m:Nat}(h:n<=m):∀ l:List kR,kT n l=true->kT m l=true
 | [],_=>rfl
 | d::l,b=>by
  unfold kT at b ⊢
  rw[ao]at b ⊢
  exact⟨zg h d b.1,ah5 h l b.2⟩
end
theorem ah4 {n:Nat}:∀ {l:List kR},kT n l=true↔∀ d∈l,d.bnd n=true
 | []=>by unfold kT;simp
 | d::l=>by
  unfold kT
  rw[ao,ah4 (l:=l)]
  simp
theorem zY {n:Nat}{l m:List kR}(h:kT n l=true)(h':kT n m=true):kT n (l++m)=true :=
 ah4.mpr λ d hd=>(aP.mp hd).elim (ah4.mp h d) (ah4.mp h' d)
theorem az4 {n:Nat}{l m:List kR}(h:kT n l=true)(s:∀ d∈m,d∈l):kT n m=true:=ah4.mpr λ d hd=>ah4.mp h d (s d hd)
theorem ap9 {n:Nat}{l:List kR}{i:Nat}{d:kR}(h:kT n l=true)(e:l[i]?=some d):d.bnd n=true:=ah4.mp h d (aR e)
section
variable {C:Nat->Addr} {H:Hp}
theorem RVL.nil:RVL Γ C H [] []:=by unfold RVL;rfl
theorem RVL.cons {d:kR}{l:List kR}{x:V}{h:List V}(a:RV Γ C H d x)(b:RVL Γ C H l h):RVL Γ C H (d::l) (x::h):=by unfold RVL;exact⟨x,h,rfl,a,b⟩
theorem RVL.unnil {B:List V}(h:RVL Γ C H [] B):B=[]:=by unfold RVL at h;exact h
theorem RVL.uncons {d:kR}{l:List kR}{B:List V}(h:RVL Γ C H (d::l) B):∃ x r,B=x::r/\RV Γ C H d x/\RVL Γ C H l r:=by unfold RVL at h;exact h
theorem RVL.length:∀ {l:List kR} {B:List V},RVL Γ C H l B->B.length=l.length
 | [],_,h=>by rw[h.unnil];rfl
 | d::l,_,h=>by
  obtain⟨x,r,rfl,_,t⟩:=h.uncons
  rw[bc,bc,RVL.length t]
theorem RVL.get:∀ {l:List kR} {B:List V} {i:Nat} {d:kR},RVL Γ C H l B->l[i]?=some d->∃ x,B[i]?=some x/\RV Γ C H d x
 | [],_,_,_,_,e=>by simp at e
 | d::l,_,0,d',h,e=>by
  obtain⟨x,r,rfl,q,t⟩:=h.uncons
  have e':d=d':=by simpa using e
  subst e'
  exact⟨x,rfl,q⟩
 | d::l,_,i+1,_,h,e=>by
  obtain⟨x,r,rfl,q,t⟩:=h.uncons
  obtain⟨y,e1,e2⟩:=RVL.get (i:=i) t (by simpa using e)
  exact⟨y,by simpa using e1,e2⟩
theorem RVL.append:∀ {l m:List kR} {B ys:List V},RVL Γ C H l B->RVL Γ C H m ys->RVL Γ C H (l++m) (B++ys)
 | [],_,_,_,h,h'=>by rw[h.unnil];exact h'
 | d::l,_,_,_,h,h'=>by
  obtain⟨x,r,rfl,q,t⟩:=h.uncons
  exact .cons q (RVL.append t h')
theorem RVL.drop:∀ {l:List kR} {B:List V} (n:Nat),RVL Γ C H l B->RVL Γ C H (l.drop n) (B.drop n)
 | _,_,0,h=>h
 | [],_,n+1,h=>by rw[h.unnil];exact .nil
 | d::l,_,n+1,h=>by
  obtain⟨x,r,rfl,q,t⟩:=h.uncons
  exact RVL.drop n t
theorem RVL.take:∀ {l:List kR} {B:List V} (n:Nat),RVL Γ C H l B->RVL Γ C H (l.take n) (B.take n)
 | _,_,0,h=>.nil
 | [],_,n+1,h=>by rw[h.unnil];exact .nil
 | d::l,_,n+1,h=>by
  obtain⟨x,r,rfl,q,t⟩:=h.uncons
  exact .cons q (RVL.take n t)
theorem RVL.set:∀ {l:List kR} {B:List V} {d:kR} {x:V} (i:Nat),RVL Γ C H l B->RV Γ C H d x->RVL Γ C H (l.set i d) (B.set i x)
 | [],_,_,_,_,h,_=>by rw[h.unnil];exact .nil
 | d::l,_,_,_,0,h,q=>by
  obtain⟨x,r,rfl,_,t⟩:=h.uncons
  exact .cons q t
 | d::l,_,_,_,i+1,h,q=>by
  obtain⟨x,r,rfl,F,t⟩:=h.uncons
  exact .cons F (RVL.set i t q)
theorem RVL.reverse:∀ {l:List kR} {B:List V},RVL Γ C H l B->RVL Γ C H l.reverse B.reverse
 | [],_,h=>by rw[h.unnil];exact .nil
 | d::l,_,h=>by
  obtain⟨x,r,rfl,q,t⟩:=h.uncons
  rw[d6,d6]
  exact(RVL.reverse t).append (.cons q .nil)
theorem RV.intE {i:Int}{v:V}(h:RV Γ C H (.int i) v):v=.int i:=by unfold RV at h;exact h
theorem RV.blE {i:Bool}{v:V}(h:RV Γ C H (.bl i) v):v=.bl i:=by unfold RV at h;exact h
theorem RV.nonE {v:V}(h:RV Γ C H .non v):v=.non:=by unfold RV at h;exact h
theorem RV.strE {x:List Nat}{v:V}(h:RV Γ C H (.str x) v):v=.str ⟨x.toArray⟩:=by unfold RV at h;exact h.1
theorem RV.strL {x:List Nat}{v:V}(h:RV Γ C H (.str x) v):x.length<=k6:=by unfold RV at h;exact h.2
theorem RV.tupE {l:List kR}{v:V}(h:RV Γ C H (.tup l) v):∃ a B,v=.ref a/\SqT Γ.K H a B/\RVL Γ C H l B:=by unfold RV at h;obtain⟨a,B,e,q,r⟩:=h;exact⟨a,B,e,q.1,r⟩
theorem RV.tupZ {l:List kR}{v:V}(h:RV Γ C H (.tup l) v):∃ a B,(v=.ref a/\(k7 l=true->H a=some (.tup B)))/\SqT Γ.K H a B/\RVL Γ C H l B:=by unfold RV at h;obtain⟨a,B,e,q,r⟩:=h;exact⟨a,B,⟨e,q.2⟩,q.1,r⟩
theorem RVL.tonil {l:List kR}(h:RVL Γ C H l []):l=[]:=bU.mp h.length.symm
theorem RV.tupK {l:List kR}{v:V}(h:RV Γ C H (.tup l) v)(z:k7 l=true):∃ a B,v=.ref a/\H a=some (.tup B)/\RVL Γ C H l B:=by unfold RV at h;obtain⟨a,B,e,q,r⟩:=h;exact⟨a,B,e,q.2 z,r⟩
theorem RV.refE {n:Nat}{v:V}(h:RV Γ C H (.ref n) v):v=.ref (C n):=by unfold RV at h;exact h
theorem RV.intI {i:Int}:RV Γ C H (.int i) (.int i):=by unfold RV;rfl
theorem RV.blI {i:Bool}:RV Γ C H (.bl i) (.bl i):=by unfold RV;rfl
theorem RV.nonI:RV Γ C H .non .non:=by unfold RV;rfl
theorem RV.strI {x:List Nat}(h:x.length<=k6):RV Γ C H (.str x) (.str ⟨x.toArray⟩):=by unfold RV;exact⟨rfl,h⟩
theorem RV.tupI {l:List kR}{a:Addr}{B:List V}(h:H a=some (.tup B))(q:RVL Γ C H l B):RV Γ C H (.tup l) (.ref a):=by unfold RV;exact⟨a,B,rfl,⟨SqT.of h,λ _=>h⟩,q⟩
theorem RV.tupC {l:List kR}{a:Addr}{B:List V}(h:SqT Γ.K H a B)(z:k7 l=true->H a=some (.tup B))(q:RVL Γ C H l B):RV Γ C H (.tup l) (.ref a):=by unfold RV;exact⟨a,B,rfl,⟨h,z⟩,q⟩
theorem RV.refI {n:Nat}:RV Γ C H (.ref n) (.ref (C n)):=by unfold RV;rfl
end
theorem bF8 {n:Nat}{l:List kR}(h:k7 (lJ n l)=true):k7 l=true:=by
 cases n with
 | zero=>cases h
 | succ n =>
  cases l with
  | nil => 
   have:∀ k,lJ k ([]:List kR)=[]:=λ k=>by
    induction k with
    | zero=>rfl
    | succ k ih=>show[]++lJ k []=[];rw[ih];rfl
   rw[this]at h;cases h
  | cons a l =>
   have e:lJ (n+1) (a::l)=a::(l++lJ n (a::l)):=rfl
   rw[e]at h
   cases a with
   | int _=>rfl
   | non=>rfl
   | tup _=>rfl
   | _=>cases h
theorem bd9 {α:Type}{l:List α}{B F:Option Int}(h:(lz l B F).length=l.length):lz l B F=l:=by
 unfold lz at h ⊢
 rw[bD,eG]at h
 by_cases z:l=[]
 .subst z;simp
 .have hp:=iw.mpr z
  have e1:lO l.length B=0:=by omega
  rw[e1]at h ⊢
  rw[dw]
  exact ed (by omega)
def SqF (K:ah)(H:Hp)(a:Addr)(xs:List V):Prop:=SqL K H a xs/\∀ H',Kp H H'->SqL K H' a xs
noncomputable def be8:kR->Option Key
 | .int i=>some (.inl i)
 | .str x=>some (.inr ⟨x.toArray⟩)
 | _=>none
noncomputable def fOf:kR->Option FK
 | .non=>some none
 | .int i=>some (some (.inl i))
 | .str x=>some (some (.inr ⟨x.toArray⟩))
 | _=>none
noncomputable def qL {κ:Type}(f:kR->Option κ):List kR->Option (List κ)
 | []=>some []
 | d::l=>match f d,qL f l with
  | some k,some r=>some (k::r)
  | _,_=>none
noncomputable def nOf:kR->Option NI
 | .tup l=>(qL fOf l).map .inr
 | d=>(fOf d).map .inl
noncomputable def au9:List kR->Option (List NI):=qL nOf
noncomputable def bP1:kR->Option (List NI)
 | .tup l=>if(k7 l&&(l.all lw&&decide (l.length<=1000)))=true then au9 l else none
 | _=>none
noncomputable def RVD {κ:Type}(kf:kR->Option κ)(Γ:Gm)(C:Nat->Addr)(H:Hp):List (kR×kR)->List (κ×V)->Prop
 | [],kvs=>kvs=[]
 | (d,e)::l,kvs=>∃ k v r,kvs=(k,v)::r/\kf d=some k/\RV Γ C H e v/\RVD kf Γ C H l r
variable (Γ)
noncomputable def RO (C:Nat->Addr)(H:Hp)(a:Addr):lA->Prop
 | .lst l=>∃ xs,H a=some (.lst xs)/\RVL Γ C H l xs
 | .ro l=>∃ xs,SqF Γ.K H a xs/\RVL Γ C H l xs
 | .dic l=>∃ kvs,H a=some (.dK kvs)/\RVD be8 Γ C H l kvs
 | .dit l=>∃ kvs,H a=some (.dT kvs)/\RVD bP1 Γ C H l kvs
 | .ins _ _=>False
noncomputable abbrev okd:lA->Nat:=DV.O.kd
noncomputable def isMut:lA->Bool
 | .ro _=>false
 | _=>true
structure Rp (C:Nat->Addr)(H:Hp)(s:kQ):Prop where
 inj:∀(i j:Nat) (o o':lA),s[i]?=some o->s[j]?=some o'->isMut o=true->isMut o'=true->C i=C j->i=j
 obj:∀(i:Nat) (o:lA),s[i]?=some o->RO Γ C H (C i) o
 wf:∀(i:Nat) (o:lA),s[i]?=some o->o.bnd s.length=true
 tab:TabsH Γ.T H
structure RE (C:Nat->Addr)(H:Hp)(n:Nat)(U:kS)(W:St):Prop where
 len:U.length=W.length
 val:∀(i:Nat) (d:kR),U[i]?=some (some d)->d.bnd n=true/\∃ v,W[i]?=some (some v)/\RV Γ C H d v
structure Gr (C:Nat->Addr)(s:kQ)(H:Hp)(C':Nat->Addr)(s':kQ)(H':Hp):Prop where
 w:Gw C s.length H C' H'
 le:s.length<=s'.length
 new:∀ i:Nat,s.length<=i->i<s'.length->H (C' i)=none
 kd:∀(i:Nat) (o o':lA),s[i]?=some o->s'[i]?=some o'->okd o'=okd o
 st:∀ b,H b≠none->H' b≠none
 fr:∀ b o,H b=some o->(∀ ps,o≠.tbl ps)->(∀(i:Nat) (ob:lA),s[i]?=some ob->isMut ob=true->C i≠b)->H' b=some o
variable {Γ}
theorem bJ2 {o B:lA}(h:okd B=okd o)(m:isMut B=true):isMut o=true:=by
 cases o with
 | ro _=>cases B with
  | ro _=>cases m
  | _=>cases h
 | _=>rfl
theorem Gr.mu {C C':Nat->Addr}{s s':kQ}{H H':Hp}(g:Gr C s H C' s' H')(i:Nat)(o h:lA)(e:s[i]?=some o)(e':s'[i]?=some h)(m:isMut h=true):isMut o=true:=bJ2 (g.kd i o h e e') m
theorem Gr.refl (C:Nat->Addr)(s:kQ)(H:Hp):Gr C s H C s H:=⟨⟨λ _ _=>rfl,Kp.refl H⟩,aw _,λ i G B=>absurd B (by omega),λ i o F e e'=>by rw[e]at e';cases e';rfl,λ _ h=>h,λ _ _ h _ _=>h⟩
theorem Gr.trans {C C1 C2:Nat->Addr}{s s1 s2:kQ}{H J Z:Hp}(a:Gr C s H C1 s1 J)(b:Gr C1 s1 J C2 s2 Z)(_h:s.length<=s1.length):Gr C s H C2 s2 Z:=by
 refine⟨⟨λ i B=>(b.w.map i (aF B a.le)).trans (a.w.map i B),a.w.kp.trans b.w.kp⟩,av a.le b.le,λ i h1 h2=>?_,λ i o o' e e'=>?_,λ c h=>b.st c (a.st c h),λ c o h Y ne=>?_⟩
 .by_cases B:i<s1.length
  .rw[b.w.map i B];exact a.new i h1 B
  .have e:=b.new i (by omega) h2
   cases q:H (C2 i)with
   | none=>rfl
   | some o=>exact absurd e (a.st _ (by rw[q];simp))
 .have hl:i<s1.length:=aF (ae.mp e).1 a.le
  obtain⟨F,e1⟩:∃ F,s1[i]?=some F:=⟨s1[i],au hl⟩
  exact(b.kd i F o' e1 e').trans (a.kd i o F e e1)
 .refine b.fr c o (a.fr c o h Y ne) Y λ i ob e m z=>?_
  by_cases B:i<s.length
  .obtain⟨G,e0⟩:∃ G,s[i]?=some G:=⟨s[i],au B⟩
   exact ne i G e0 (a.mu i G ob e0 e m) (by rw[<-a.w.map i B];exact z)
  .have:=a.new i (by omega) (ae.mp e).1
   rw[z,h]at this;cases this
theorem RV.mono {C C':Nat->Addr}{s s':kQ}{H H':Hp}(g:Gr C s H C' s' H')(d:kR)(v:V)(b:d.bnd s.length=true)(h:RV Γ C H d v):RV Γ C' H' d v:=RV.monoW g.w d v b h
theorem RVL.mono {C C':Nat->Addr}{s s':kQ}{H H':Hp}(g:Gr C s H C' s' H')(d:List kR)(v:List V)(b:kT s.length d=true)(h:RVL Γ C H d v):RVL Γ C' H' d v:=RVL.monoW g.w d v b h
theorem RE.mono {C C':Nat->Addr}{s s':kQ}{H H':Hp}{U:kS}{W:St}(h:RE Γ C H s.length U W)(g:Gr C s H C' s' H')(hn:s.length<=s'.length):RE Γ C' H' s'.length U W :=
 ⟨h.len,λ i d e=>by
  obtain⟨b,v,e1,e2⟩:=h.val i d e
  exact⟨zg hn d b,v,e1,RV.mono g d v b e2⟩⟩
def ak4 (Γ:Gm)(C:Nat->Addr)(s:kQ)(H:Hp)(d:kR)(s':kQ)(Q:VK):Prop :=
 ∀ v C' H',Gr C s H C' s' H'->s.length<=s'.length->d.bnd s'.length=true->RV Γ C' H' d v->Rp Γ C' H' s'->Q v H'
theorem ak4.trans {C C1:Nat->Addr}{s s1 s':kQ}{H B:Hp}{d:kR}{Q:VK}(h:ak4 Γ C s H d s' Q)(g:Gr C s H C1 s1 B)(l:s.length<=s1.length):ak4 Γ C1 s1 B d s' Q :=
 λ v C' H' g' F b r p=>h v C' H' (g.trans g' l) (av l F) b r p
theorem ak4.here {C:Nat->Addr}{s:kQ}{H:Hp}{d:kR}{Q:VK}{v:V}(h:ak4 Γ C s H d s Q)(p:Rp Γ C H s)(b:d.bnd s.length=true)(r:RV Γ C H d v):Q v H :=
 h v C H (Gr.refl C s H) (aw _) b r p
theorem RVD.monoW {κ:Type}{F:kR->Option κ}{C C':Nat->Addr}{n:Nat}{H H':Hp}(g:Gw C n H C' H'):∀(l:List (kR×kR)) (B:List (κ×V)),kT n (l.map (·.2))=true->RVD F Γ C H l B->RVD F Γ C' H' l B
 | [],_,_,h=>h
 | (d,e)::l,_,b,h=>by
  obtain⟨k,v,r,e1,e2,e3,G⟩:=h
  rw[a7]at b
  unfold kT at b
  rw[ao]at b
  exact⟨k,v,r,e1,e2,RV.monoW g e v b.1 e3,RVD.monoW g l r b.2 G⟩
theorem RO.mono {C C':Nat->Addr}{n:Nat}{H H':Hp}{a:Addr}{o:lA}(h:RO Γ C H a o)(g:Gw C n H C' H')(b:o.bnd n=true)(hl:isMut o=true->∀ u,H a=some u->H' a=some u):RO Γ C' H' a o:=by
 cases o with
 | lst l =>
  unfold kY at b
  obtain⟨F,e,r⟩:=h
  exact⟨F,hl rfl _ e,RVL.monoW g l F b r⟩
 | ro l =>
  unfold kY at b
  obtain⟨F,e,r⟩:=h
  exact⟨F,⟨e.2 _ g.kp,λ G k=>e.2 _ (g.kp.trans k)⟩,RVL.monoW g l F b r⟩
 | dic l =>
  unfold kY at b
  rw[ao]at b
  obtain⟨B,e,r⟩:=h
  exact⟨B,hl rfl _ e,RVD.monoW g l B b.2 r⟩
 | dit l =>
  unfold kY at b
  rw[ao]at b
  obtain⟨B,e,r⟩:=h
  exact⟨B,hl rfl _ e,RVD.monoW g l B b.2 r⟩
 | ins _ _=>exact h.elim
theorem RO.there {C:Nat->Addr}{H:Hp}{a:Addr}{o:lA}(h:RO Γ C H a o)(m:isMut o=true):∃ u,H a=some u/\ce8 u=false/\∀ ps,u≠.tbl ps:=by
 cases o with
 | lst l=>obtain⟨B,e,_⟩:=h;exact⟨_,e,rfl,by nofun⟩
 | ro l=>cases m
 | dic l=>obtain⟨B,e,_⟩:=h;exact⟨_,e,rfl,by nofun⟩
 | dit l=>obtain⟨B,e,_⟩:=h;exact⟨_,e,rfl,by nofun⟩
 | ins _ _=>exact h.elim
theorem Rp.addr {C:Nat->Addr}{H:Hp}{s:kQ}(p:Rp Γ C H s){i:Nat}{l:List kR}(e:s[i]?=some (.lst l)):∃ h,H (C i)=some (.lst h)/\RVL Γ C H l h:=p.obj i _ e
theorem zV {n m:Nat}(h:n<=m)(o:lA)(b:o.bnd n=true):o.bnd m=true:=by
 cases o with
 | lst l=>unfold kY at b ⊢;exact ah5 h l b
 | ro l=>unfold kY at b ⊢;exact ah5 h l b
 | dic l =>
  unfold kY at b ⊢
  rw[ao]at b ⊢
  exact⟨ah5 h _ b.1,ah5 h _ b.2⟩
 | dit l =>
  unfold kY at b ⊢
  rw[ao]at b ⊢
  exact⟨ah5 h _ b.1,ah5 h _ b.2⟩
 | ins c l=>unfold kY at b ⊢;exact ah5 h _ b
theorem TabsH.keepF {T:List (Addr×Str)}{H H':Hp}(h:TabsH T H)(k:∀ b o,(ce8 o=true\/∃ ps,o=.tbl ps)->H b=some o->H' b=some o):TabsH T H':=λ y hy=>by
 obtain⟨ps,e,t,c⟩:=h y hy
 refine⟨ps,k _ _ (.inr ⟨_,rfl⟩) e,t,λ pos F q=>?_⟩
 obtain⟨B,e1,e2⟩:=c pos F q
 exact⟨B,e1,k _ _ (.inl rfl) e2⟩
theorem Rp.new {C:Nat->Addr}{H:Hp}{s:kQ}{p:Addr}{u:HO}{o:lA}(r:Rp Γ C H s)(hp:H p=none)(hb:o.bnd s.length=true)
  (ho:∀ C' H',Gw C s.length H C' H'->H' p=some u->RO Γ C' H' p o):Gr C s H (λ i=>if i=s.length then p else C i) (s++[o]) (upd H p u)/\Rp Γ (λ i=>if i=s.length then p else C i) (upd H p u) (s++[o]):=by
 have g:Gw C s.length H (λ i=>if i=s.length then p else C i) (upd H p u):=⟨λ i B=>if_neg (aL B),(Kp.refl H).new hp⟩
 have key:∀ i F,(s++[o])[i]?=some F->(i<s.length/\s[i]?=some F)\/(i=s.length/\F=o):=λ i F e=>by
  rcases ee i s.length with h|h|h
  .rw[aI h]at e;exact .inl ⟨h,e⟩
  .subst h;simp at e;exact .inr ⟨rfl,e.symm⟩
  .rw[bR (by simp;omega)]at e;cases e
 refine⟨⟨g,by simp,λ i h1 h2=>?_,λ i o1 o2 e1 e2=>?_,λ b hb=>?_,λ b ob hb _ _=>by rw[zn (zu hb hp)];exact hb⟩,λ i j J Y G ej Z mj e=>?_,λ i F e=>?_,λ i F e=>?_,r.tab.new hp⟩
 .rw[ax,dh]at h2
  rw[if_pos (by omega)];exact hp
 .rcases key i o2 e2 with⟨_,e⟩|⟨B,_⟩
  .rw[e1]at e;cases e;rfl
  .have:=(ae.mp e1).1;omega
 .unfold upd;split
  .simp
  .exact hb
 .rcases key i J G with⟨B,G⟩|⟨B,rfl⟩<;>rcases key j Y ej with⟨hj,ej⟩|⟨hj,ej'⟩
  .rw[if_neg (aL B),if_neg (aL hj)]at e
   exact r.inj i j J Y G ej Z mj e
  .rw[if_neg (aL B),if_pos hj]at e
   obtain⟨u,hu,_,_⟩:=(r.obj i J G).there Z
   rw[e,hp]at hu;cases hu
  .rw[if_neg (aL hj),if_pos B]at e
   obtain⟨u,hu,_,_⟩:=(r.obj j Y ej).there mj
   rw[<-e,hp]at hu;cases hu
  .rw[B,hj]
 .rcases key i F e with⟨B,e⟩|⟨B,rfl⟩
  .show RO Γ _ _ (if i=s.length then p else C i) F
   rw[if_neg (aL B)]
   exact(r.obj i F e).mono g (r.wf i F e) λ _ v hv=>by rw[zn (zu hv hp)];exact hv
  .show RO Γ _ _ (if i=s.length then p else C i) F
   rw[if_pos B]
   exact ho _ _ g zy
 .rw[ax,dh]
  rcases key i F e with⟨B,e⟩|⟨B,rfl⟩
  .exact zV (dt _) _ (r.wf i F e)
  .exact zV (dt _) _ hb
theorem Rp.set {C:Nat->Addr}{H:Hp}{s:kQ}{k:Nat}{u:HO}{o F:lA}(r:Rp Γ C H s)(hk:s[k]?=some F)(Y:isMut F=true)(hb:o.bnd s.length=true)
  (ho:∀ H',Gw C s.length H C H'->H' (C k)=some u->RO Γ C H' (C k) o) (a1:okd o=okd F:=by rfl):Gr C s H C (s.set k o) (upd H (C k) u)/\Rp Γ C (upd H (C k) u) (s.set k o):=by
 obtain⟨v0,J,f0,a0⟩:=(r.obj k F hk).there Y
 have a2:k<s.length:=(ae.mp hk).1
 have g:Gw C s.length H C (upd H (C k) u):=⟨λ _ _=>rfl,(Kp.refl H).put J f0⟩
 have key:∀ i B,(s.set k o)[i]?=some B->(i≠k/\s[i]?=some B)\/(i=k/\B=o):=λ i B e=>by
  by_cases h:i=k
  .subst h;rw[aZ a2]at e;exact .inr ⟨rfl,(aG e).symm⟩
  .rw[aU (cz h)]at e;exact .inl ⟨h,e⟩
 have mm:∀ i B,(s.set k o)[i]?=some B->isMut B=true->∃ G,s[i]?=some G/\isMut G=true:=λ i B e m=>by
  rcases key i B e with⟨_,e⟩|⟨h,_⟩
  .exact⟨B,e,m⟩
  .exact⟨F,by rw[h];exact hk,Y⟩
 refine⟨⟨g,by simp,λ i h1 h2=>by rw[bp]at h2;omega,λ i o1 Z e1 e2=>?_,λ b hb=>?_,λ b ob hb nt ne=>by rw[zn (cz (ne k F hk Y))];exact hb⟩,λ i j oi oj ei ej mi mj e=>?_,λ i B e=>?_,λ i B e=>?_,r.tab.keepF λ b v hv q=>?_⟩
 .rcases key i Z e2 with⟨_,e⟩|⟨h,rfl⟩
  .rw[e1]at e;cases e;rfl
  .subst h;rw[hk]at e1;cases e1;exact a1
 .unfold upd;split
  .simp
  .exact hb
 .obtain⟨o1,e1,m1⟩:=mm i oi ei mi
  obtain⟨Z,e2,m2⟩:=mm j oj ej mj
  exact r.inj i j o1 Z e1 e2 m1 m2 e
 .rcases key i B e with⟨h,e⟩|⟨h,rfl⟩
  .refine(r.obj i B e).mono g (r.wf i B e) λ m v hv=>?_
   rw[zn λ z=>h (r.inj i k B F e hk m Y z)];exact hv
  .subst h
   exact ho _ g zy
 .rw[bp]
  rcases key i B e with⟨_,e⟩|⟨_,rfl⟩
  .exact r.wf i B e
  .exact hb
 .rw[zn λ z=>by
   subst z;rw[J]at q;cases q
   rcases hv with h|⟨ps,h⟩
   .rw[f0]at h;cases h
   .exact a0 _ h]
  exact q
theorem Rp.same {C:Nat->Addr}{H H':Hp}{s:kQ}(r:Rp Γ C H s)(e:ak9 H H'):Gr C s H C s H'/\Rp Γ C H' s:=by
 have g:Gw C s.length H C H':=⟨λ _ _=>rfl,λ b o h _=>e b o h⟩
 exact⟨⟨g,aw _,λ i G B=>absurd B (by omega),λ i o F e e'=>by rw[e]at e';cases e';rfl,λ b hb=>by
  cases q:H b with
  | none=>exact absurd q hb
  | some o=>rw[e b o q];simp,λ b o h _ _=>e b o h⟩,r.inj,λ i o h=>(r.obj i o h).mono g (r.wf i o h) λ _ u hu=>e _ u hu,r.wf,r.tab.same e⟩
section
variable {C:Nat->Addr} {H:Hp} {s:kQ} {Q:VK}
theorem ak4.alloc {l:List kR}{B:List V}(h:ak4 Γ C s H (.ref s.length) (s++[.lst l]) Q)(r:Rp Γ C H s)(hl:RVL Γ C H l B)(hb:kT s.length l=true){p:Addr}(hp:H p=none):Q (.ref p) (upd H p (.lst B)):=by
 obtain⟨g,F⟩:=r.new (o:=.lst l) (u:=.lst B) hp hb λ C' H' g e=>⟨B,e,RVL.monoW g l B hb hl⟩
 have:=h (.ref p) _ _ g (by simp) (by unfold kX;simp) (by unfold RV;simp) F
 exact this
theorem ak4.tup {l:List kR}{B:List V}(h:ak4 Γ C s H (.tup l) s Q)(r:Rp Γ C H s)(hl:RVL Γ C H l B)(hb:kT s.length l=true){p:Addr}(hp:H p=none):Q (.ref p) (upd H p (.tup B)):=by
 obtain⟨g,F⟩:=r.same (H':=upd H p (.tup B)) ((ak9.refl H).new hp)
 exact h _ _ _ g (aw _) (by unfold kX;exact hb) (RV.tupI zy (RVL.mono g l B hb hl)) F
theorem ak4.put {k:Nat}{l l0:List kR}{B:List V}{d:kR}{v:V}(h:ak4 Γ C s H d (s.set k (.lst l)) Q)(r:Rp Γ C H s)(hk:s[k]?=some (.lst l0))(hl:RVL Γ C H l B)(hb:kT s.length l=true)
  (hd:d.bnd s.length=true) (hv:RV Γ C H d v):Q v (upd H (C k) (.lst B)):=by
 obtain⟨g,F⟩:=r.set (o:=.lst l) (u:=.lst B) hk rfl hb λ H' g e=>⟨B,e,RVL.monoW g l B hb hl⟩
 exact h _ _ _ g (by simp) (by rw[bp];exact hd) (RV.mono g d v hd hv) F
end
variable {Γ:Gm}
theorem keyOf_inj {a b:kR}{k:Key}(ha:be8 a=some k)(hb:be8 b=some k):a=b:=by
 cases a with
 | int i =>
  cases ha
  cases b with
  | int j=>cases hb;rfl
  | str y=>cases hb
  | _=>cases hb
 | str x =>
  cases ha
  cases b with
  | int j=>cases hb
  | str y =>
   have h:=aG hb
   injection h with h
   injection h with h
   have B:y=x:=by simpa using h
   rw[B]
  | _=>cases hb
 | _=>cases ha
theorem ap7 {d:kR}(h:d.key=true):∃ k,be8 d=some k:=by
 cases d with
 | int i=>exact⟨_,rfl⟩
 | str x=>exact⟨_,rfl⟩
 | _=>cases h
theorem aN5 {C:Nat->Addr}{H:Hp}{d:kR}{k:Key}{v:V}(h:be8 d=some k)(r:RV Γ C H d v):v=kV k:=by
 cases d with
 | int i=>cases h;exact r.intE
 | str x=>cases h;exact r.strE
 | _=>cases h
def bv5 {κ:Type}(kf:kR->Option κ):Prop:=∀ {a b:kR} {k:κ},kf a=some k->kf b=some k->a=b
theorem aZ4:bv5 fOf:=λ {a b k} ha hb=>by
 cases a with
 | non=>cases ha;cases b with|non=>rfl|_=>cases hb
 | int i=>cases ha;cases b with|int j=>cases hb;rfl|_=>cases hb
 | str x=>cases ha;cases b with|str y=>cases hb;rfl|_=>cases hb
 | _=>cases ha
theorem at8 {κ:Type}{f:kR->Option κ}(h:bv5 f):∀ {a b:List kR} {k:List κ},qL f a=some k->qL f b=some k->a=b
 | [],[],k,_,_=>rfl
 | [],y::b,k,ha,hb=>by
  cases ha
  unfold qL at hb
  split at hb<;>cases hb
 | x::a,[],k,ha,hb=>by
  cases hb
  unfold qL at ha
  split at ha<;>cases ha
 | x::a,y::b,k,ha,hb=>by
  unfold qL at ha hb
  split at ha
  .rename_i k1 r1 e1 e2
   cases ha
   split at hb
   .rename_i k2 r2 e3 B
    cases hb
    rw[h e1 e3,at8 h e2 B]
   .cases hb
  .cases ha
theorem nOf_cases {d:kR}{k:NI}(h:nOf d=some k):(∃ l r,d=.tup l/\qL fOf l=some r/\k=.inr r)\/∃ f,fOf d=some f/\k=.inl f:=by
 cases d with
 | tup l =>
  obtain⟨r,e,q⟩:=bJ.mp (show(qL fOf l).map .inr=some k from h)
  exact .inl ⟨l,r,rfl,e,q.symm⟩
 | non=>obtain⟨r,e,q⟩:=bJ.mp (show(fOf .non).map .inl=some k from h);exact .inr ⟨r,e,q.symm⟩
 | int i=>obtain⟨r,e,q⟩:=bJ.mp (show(fOf (.int i)).map .inl=some k from h);exact .inr ⟨r,e,q.symm⟩
 | str i=>obtain⟨r,e,q⟩:=bJ.mp (show(fOf (.str i)).map .inl=some k from h);exact .inr ⟨r,e,q.symm⟩
 | _=>cases h
theorem bC8:bv5 nOf:=λ {a b k} ha hb=>by
 rcases nOf_cases ha with⟨l,r,rfl,e,rfl⟩|⟨f,e,rfl⟩
 .rcases nOf_cases hb with⟨m,h,rfl,e',q⟩|⟨f,e',q⟩
  .cases q;rw[at8 aZ4 e e']
  .cases q
 .rcases nOf_cases hb with⟨m,h,rfl,e',q⟩|⟨f',e',q⟩
  .cases q
  .cases q;exact aZ4 e e'
theorem aA4 {d:kR}{k:List NI}(h:bP1 d=some k):∃ l,d=.tup l/\(k7 l=true/\l.all lw=true/\l.length<=1000)/\au9 l=some k:=by
 cases d with
 | tup l =>
  have h:(if(k7 l&&(l.all lw&&decide (l.length<=1000)))=true then au9 l else none)=some k:=h
  by_cases z:(k7 l&&(l.all lw&&decide (l.length<=1000)))=true
  .rw[if_pos z]at h;rw[ao,ao]at z;exact⟨l,rfl,⟨z.1,z.2.1,of_decide_eq_true z.2.2⟩,h⟩
  .rw[if_neg z]at h;cases h
 | _=>cases h
theorem keyT_inj:bv5 bP1:=λ ha hb=>by
 obtain⟨l,rfl,_,B⟩:=aA4 ha
 obtain⟨m,rfl,_,h⟩:=aA4 hb
 rw[at8 bC8 B h]
theorem an7 {κ:Type}{f:kR->Option κ}{p:kR->Bool}(hp:∀ d,p d=true->∃ k,f d=some k):∀ {l:List kR},l.all p=true->∃ k,qL f l=some k
 | [],_=>⟨[],rfl⟩
 | d::l,h=>by
  rw[dG,ao]at h
  obtain⟨k,hk⟩:=hp d h.1
  obtain⟨r,hr⟩:=an7 hp h.2
  exact⟨k::r,by unfold qL;rw[hk,hr]⟩
theorem bb0 (d:kR)(h:d.keyF=true):∃ k,fOf d=some k:=by
 cases d with
 | int i=>exact⟨_,rfl⟩
 | str x=>exact⟨_,rfl⟩
 | non=>exact⟨_,rfl⟩
 | _=>cases h
theorem aS5 {l:List kR}(h:(DV.D.tup l).keyS=true):k7 l=true/\l.all mP=true/\l.length<=1000:=by
 have h:(k7 l&&(l.all mP&&decide (l.length<=1000)))=true:=h
 rw[ao,ao]at h
 exact⟨h.1,h.2.1,of_decide_eq_true h.2.2⟩
theorem bb3 (d:kR)(h:d.keyS=true):∃ k,nOf d=some k:=by
 cases d with
 | tup l=>obtain⟨r,e⟩:=an7 bb0 (aS5 h).2.1;exact⟨.inr r,by show(qL fOf l).map _=_;rw[e];rfl⟩
 | int i=>exact⟨_,rfl⟩
 | str x=>exact⟨_,rfl⟩
 | non=>exact⟨_,rfl⟩
 | _=>cases h
theorem an2 {d:kR}(h:d.keyT=true):∃ k,bP1 d=some k:=by
 cases d with
 | tup l =>
  have h:(k7 l&&(l.all lw&&decide (l.length<=1000)))=true:=h
  have h':=h
  rw[ao,ao]at h'
  obtain⟨k,hk⟩:=an7 bb3 h'.2.1
  exact⟨k,by show(if(k7 l&&(l.all lw&&decide (l.length<=1000)))=true then au9 l else none)=some k;rw[if_pos h];exact hk⟩
 | _=>cases h
theorem cp0 {C:Nat->Addr}{H:Hp}{d:kR}{k:FK}{v:V}(h:fOf d=some k)(r:RV Γ C H d v):v=fV k:=by
 cases d with
 | non=>cases h;exact r.nonE
 | int i=>cases h;exact r.intE
 | str x=>cases h;exact r.strE
 | _=>cases h
theorem bM6 {C:Nat->Addr}{H:Hp}:∀ {l:List kR} {k:List FK} {B:List V},qL fOf l=some k->RVL Γ C H l B->B=k.map fV
 | [],k,B,h,r=>by cases h;exact r.unnil
 | d::l,k,B,h,r=>by
  unfold qL at h
  split at h
  .rename_i k1 r1 e1 e2
   cases h
   obtain⟨x,ys,rfl,F,G⟩:=r.uncons
   rw[cp0 e1 F,bM6 e2 G,a7]
  .cases h
theorem bh4 {C:Nat->Addr}{H:Hp}:∀ {l:List kR} {k:List NI} {F:List V},au9 l=some k->l.all lw=true->RVL Γ C H l F->cQ (NAt H) k F
 | [],k,F,h,_,r=>by cases h;cases r.unnil;exact .nil
 | d::l,k,F,h,z,r=>by
  unfold au9 qL at h
  rw[dG,ao]at z
  split at h
  .rename_i k1 r1 e1 e2
   cases h
   obtain⟨x,ys,rfl,B,G⟩:=r.uncons
   refine .cons ?_ (bh4 e2 z.2 G)
   rcases nOf_cases e1 with⟨m,q,rfl,e,rfl⟩|⟨f,e,rfl⟩
   .obtain⟨a,F,e',J,Y⟩:=B.tupK (aS5 z.1).1
    rw[bM6 e Y]at J
    exact⟨a,e',J⟩
   .exact cp0 e B
  .cases h
theorem az6 {C:Nat->Addr}{H:Hp}{d:kR}{k:List NI}{v:V}(h:bP1 d=some k)(r:RV Γ C H d v):∃ b,v=.ref b/\NK H k b:=by
 obtain⟨l,rfl,z,hk⟩:=aA4 h
 obtain⟨a,B,e,F,G⟩:=r.tupK z.1
 exact⟨a,e,B,F,bh4 hk z.2.1 G⟩
section
variable {κ:Type} [DecidableEq κ] {kf:kR->Option κ}
theorem RVD.val {C:Nat->Addr}{H:Hp}{d:kR}{k:κ}(G:bv5 kf)(hk:kf d=some k):∀ {l:List (kR×kR)} {B:List (κ×V)},RVD kf Γ C H l B->(lC d l=none/\aH9 B k=none)\/∃ e v,lC d l=some e/\aH9 B k=some v/\RV Γ C H e v/\e∈l.map (·.2)
 | [],B,h=>by
  have h:B=[]:=h
  subst h
  exact .inl ⟨rfl,rfl⟩
 | (a,e)::l,B,h=>by
  obtain⟨F,v,r,rfl,e2,e3,J⟩:=h
  by_cases z:a=d
  .subst z
   rw[hk]at e2;cases e2
   exact .inr ⟨e,v,by unfold lC;rw[if_pos rfl],ap8 rfl,e3,by simp⟩
  .have Z:¬ F=k:=λ q=>z (G e2 (by rw[q];exact hk))
   have Y:lC d ((a,e)::l)=lC d l:=by
    conv=>lhs;unfold lC
    rw[if_neg z]
   rw[Y,aq0 (show ¬(F,v).1=k from Z)]
   rcases RVD.val G hk J with q|⟨e',v',q1,q2,q3,q4⟩
   .exact .inl q
   .exact .inr ⟨e',v',q1,q2,q3,by simp at q4 ⊢;exact .inr q4⟩
theorem RVD.repl {C:Nat->Addr}{H:Hp}{d e:kR}{k:κ}{v:V}(G:bv5 kf)(hk:kf d=some k)(hv:RV Γ C H e v):∀ {l:List (kR×kR)} {B:List (κ×V)},RVD kf Γ C H l B->RVD kf Γ C H (l.map λ p=>if p.1=d then(p.1,e)else p) (B.map λ F=>if F.1=k then(F.1,v)else F)
 | [],B,h=>by
  have h:B=[]:=h
  subst h;exact(rfl:([]:List (κ×V))=[])
 | (a,e0)::l,B,h=>by
  obtain⟨Y,v0,r,rfl,e2,e3,J⟩:=h
  rw[a7,a7]
  by_cases z:a=d
  .subst z
   rw[hk]at e2;cases e2
   rw[if_pos rfl,if_pos rfl]
   exact⟨k,v,_,rfl,hk,hv,RVD.repl G hk hv J⟩
  .have Z:¬ Y=k:=λ q=>z (G e2 (by rw[q];exact hk))
   rw[if_neg z,if_neg Z]
   exact⟨Y,v0,_,rfl,e2,e3,RVD.repl G hk hv J⟩
theorem RVD.snoc {C:Nat->Addr}{H:Hp}{d e:kR}{k:κ}{v:V}(J:bv5 kf)(hk:kf d=some k)(hv:RV Γ C H e v):∀ {l:List (kR×kR)} {B:List (κ×V)},RVD kf Γ C H l B->RVD kf Γ C H (l++[(d,e)]) (B++[(k,v)])
 | [],B,h=>by
  have h:B=[]:=h
  subst h;exact⟨k,v,[],rfl,hk,hv,rfl⟩
 | (a,e0)::l,B,h=>by
  obtain⟨G,v0,r,rfl,e2,e3,F⟩:=h
  exact⟨G,v0,_,rfl,e2,e3,RVD.snoc J hk hv F⟩
theorem RVD.put {C:Nat->Addr}{H:Hp}{d e:kR}{k:κ}{v:V}{l:List (kR×kR)}{B:List (κ×V)}(F:bv5 kf)(hk:kf d=some k)(hv:RV Γ C H e v)(h:RVD kf Γ C H l B):RVD kf Γ C H (lb d e l) (av6 B k v):=by
 unfold lb av6
 rw[az5]
 rcases h.val F hk with⟨q1,q2⟩|⟨e',v',q1,q2,_⟩
 .rw[q1,q2];exact h.snoc F hk hv
 .rw[q1,q2];exact h.repl F hk hv
theorem RVD.get {C:Nat->Addr}{H:Hp}:∀ {l:List (kR×kR)} {B:List (κ×V)} {i:Nat} {d e:kR},RVD kf Γ C H l B->l[i]?=some (d,e)->∃ k v,B[i]?=some (k,v)/\kf d=some k/\RV Γ C H e v
 | [],_,_,_,_,_,h=>by cases h
 | (a,b)::l,B,0,d,e,h,q=>by
  obtain⟨k,v,r,rfl,e2,e3,F⟩:=h
  cases q
  exact⟨k,v,rfl,e2,e3⟩
 | (a,b)::l,B,i+1,d,e,h,q=>by
  obtain⟨k,v,r,rfl,e2,e3,F⟩:=h
  exact RVD.get (i:=i) F (show l[i]?=some (d,e)from q)
theorem RVD.keys {C:Nat->Addr}{H:Hp}:∀ {l:List (kR×kR)} {B:List (κ×V)},RVD kf Γ C H l B->∀ kv∈B,∃ d,kf d=some kv.1
 | [],B,h,kv,hk=>by
  have h:B=[]:=h
  subst h;cases hk
 | (a,b)::l,B,h,kv,hk=>by
  obtain⟨k,v,r,rfl,e2,e3,F⟩:=h
  rcases aH.mp hk with z|z
  .subst z;exact⟨a,e2⟩
  .exact RVD.keys F kv z
theorem RVD.length {C:Nat->Addr}{H:Hp}:∀ {l:List (kR×kR)} {B:List (κ×V)},RVD kf Γ C H l B->B.length=l.length
 | [],B,h=>by
  have h:B=[]:=h
  subst h;rfl
 | (a,e)::l,B,h=>by
  obtain⟨G,v,r,rfl,e2,e3,F⟩:=h
  rw[bc,bc,RVD.length F]
end
theorem aQ5 {n:Nat}{d e:kR}{l:List (kR×kR)}(h:(DV.O.dic l).bnd n=true)(hd:d.bnd n=true)(he:e.bnd n=true):(DV.O.dic (lb d e l)).bnd n=true:=by
 unfold kY at h ⊢
 rw[ao]at h ⊢
 obtain⟨F,G⟩:=h
 have g1:=ah4.mp F
 have B:=ah4.mp G
 unfold lb
 refine⟨ah4.mpr λ x hx=>?_,ah4.mpr λ x hx=>?_⟩
 .obtain⟨p,hp,rfl⟩:=aQ.mp hx
  split at hp
  .obtain⟨q,hq,rfl⟩:=aQ.mp hp
   split
   .exact g1 _ (bQ (f:=(·.1)) hq)
   .exact g1 _ (bQ (f:=(·.1)) hq)
  .rcases aP.mp hp with q|q
   .exact g1 _ (bQ (f:=(·.1)) q)
   .rw[ay.mp q];exact hd
 .obtain⟨p,hp,rfl⟩:=aQ.mp hx
  split at hp
  .obtain⟨q,hq,rfl⟩:=aQ.mp hp
   split
   .exact he
   .exact B _ (bQ (f:=(·.2)) hq)
  .rcases aP.mp hp with q|q
   .exact B _ (bQ (f:=(·.2)) q)
   .rw[ay.mp q];exact he
theorem bj8 {n:Nat}{d e:kR}{l:List (kR×kR)}(h:(DV.O.dit l).bnd n=true)(hd:d.bnd n=true)(he:e.bnd n=true):(DV.O.dit (lb d e l)).bnd n=true:=aQ5 h hd he
theorem ap5 {f:kR->kR->Option Bool}{a b:kR}{l m:List kR}{z:Bool}(h:lp f (a::l) (b::m)=some z):∃ x y,f a b=some x/\lp f l m=some y/\z=(x&&y):=by
 unfold lp at h
 cases e1:f a b with
 | none=>rw[e1]at h;cases h
 | some x =>
  cases e2:lp f l m with
  | none=>rw[e1,e2]at h;cases h
  | some y=>rw[e1,e2]at h;exact⟨x,y,rfl,rfl,(aG h).symm⟩
theorem ba0 {f:kR->kR->Option Bool}:∀ {l m:List kR} {z:Bool},lp f l m=some z->∃ e:Nat->Bool,(∀ j d d',l[j]?=some d->m[j]?=some d'->f d d'=some (e j))/\((l.length==m.length)&&(a8 (min l.length m.length)).all e)=z
 | [],[],z,h=>by
  unfold lp at h
  cases h
  exact⟨λ _=>true,λ j d d' h=>by simp at h,by simp⟩
 | [],b::m,z,h=>by
  unfold lp at h
  cases h
  exact⟨λ _=>true,λ j d d' h=>by simp at h,by simp⟩
 | a::l,[],z,h=>by
  unfold lp at h
  cases h
  exact⟨λ _=>true,λ j d d' G F=>by simp at F,by simp⟩
 | a::l,b::m,z,h=>by
  obtain⟨x,y,e1,e2,J⟩:=ap5 h
  obtain⟨e,G,F⟩:=ba0 e2
  refine⟨λ j=>match j with|0=>x|j+1=>e j,λ j d d' g1 B=>?_,?_⟩
  .cases j with
   | zero=>simp at g1 B;subst g1;subst B;exact e1
   | succ j=>exact G j d d' (by simpa using g1) (by simpa using B)
  .rw[bc,bc,show min (l.length+1) (m.length+1)=min l.length m.length+1 by omega,ga,dG,kj,J,<-F]
   have:((l.length+1==m.length+1)=(l.length==m.length)):=by
    by_cases q:l.length=m.length
    .simp[q]
    .have:¬ l.length+1=m.length+1:=by omega
     simp[q]
   rw[this]
   show((l.length==m.length)&&(x&&(a8 _).all e))=_
   cases x<;>cases(l.length==m.length)<;>simp
section
variable {X:Cx} {pins:yA} {W:St} {H:Hp} {sh:ai} {C:Nat->Addr} {s:kQ}
theorem as5 (I:Inv X pins W H sh){a:Addr}{B ys:List V}(h:H a=some (.lst B))(h':SqT X.K H a ys):False:=by
 rcases h' with(z|⟨o,z⟩)|⟨o,its,n,hk,_⟩
 .rw[h]at z;cases z
 .rw[h]at z;cases z
 .have:=(I.bs a o (I.mod.kin a o hk)).2
  rw[h]at this;cases this
theorem rv_two (I:Inv X pins W H sh)(hK:X.K=Γ.K)(R:Rp Γ C H s){a b:kR}{x:V}(J:RV Γ C H a x)(B:RV Γ C H b x)(Z:lr s a≠9)(F:lr s b≠9):a=b\/∃ l m p Y,a=.tup l/\b=.tup m/\x=.ref p/\RVL Γ C H l Y/\RVL Γ C H m Y:=by
 have G:∀ {r:Nat},lr s (.ref r)≠9->∃ l,s[r]?=some (.lst l):=λ {r} h=>by
  have h:(match s[r]? with|some (DV.O.lst l)=>4|_=>9:Nat)≠9:=h
  cases hs:s[r]? with
  | none=>rw[hs]at h;exact absurd rfl h
  | some o =>
   rw[hs]at h
   cases o with
   | lst l=>exact⟨l,rfl⟩
   | _=>exact absurd rfl h
 cases a with
 | non=>have e:=J.nonE;subst e;cases b with
  | non=>exact .inl rfl
  | bl _=>cases B.blE
  | int _=>cases B.intE
  | str _=>cases B.strE
  | tup _=>obtain⟨_,_,e,_⟩:=B.tupE;cases e
  | ref _=>cases B.refE
  | fn _=>exact absurd rfl F
  | clo _ _=>exact absurd rfl F
 | bl p=>have e:=J.blE;subst e;cases b with
  | non=>cases B.nonE
  | bl _=>cases B.blE;exact .inl rfl
  | int _=>cases B.intE
  | str _=>cases B.strE
  | tup _=>obtain⟨_,_,e,_⟩:=B.tupE;cases e
  | ref _=>cases B.refE
  | fn _=>exact absurd rfl F
  | clo _ _=>exact absurd rfl F
 | int p=>have e:=J.intE;subst e;cases b with
  | non=>cases B.nonE
  | bl _=>cases B.blE
  | int _=>cases B.intE;exact .inl rfl
  | str _=>cases B.strE
  | tup _=>obtain⟨_,_,e,_⟩:=B.tupE;cases e
  | ref _=>cases B.refE
  | fn _=>exact absurd rfl F
  | clo _ _=>exact absurd rfl F
 | str p=>have e:=J.strE;subst e;cases b with
  | non=>cases B.nonE
  | bl _=>cases B.blE
  | int _=>cases B.intE
  | str q =>
   have e':p.toArray=q.toArray:=Str.mk.inj (V.str.inj B.strE)
   have a0:p=q:=by simpa using congrArg iW e'
   subst a0;exact .inl rfl
  | tup _=>obtain⟨_,_,e,_⟩:=B.tupE;cases e
  | ref _=>cases B.refE
  | fn _=>exact absurd rfl F
  | clo _ _=>exact absurd rfl F
 | tup l =>
  obtain⟨p,Y,e,q1,d1⟩:=J.tupE;subst e;cases b with
  | non=>cases B.nonE
  | bl _=>cases B.blE
  | int _=>cases B.intE
  | str _=>cases B.strE
  | tup m =>
   obtain⟨p',ys,e,q2,d2⟩:=B.tupE
   cases e
   rw[<-hK]at q1 q2
   rw[I.tuple_inj q2 q1]at d2
   exact .inr ⟨l,m,p,Y,rfl,rfl,rfl,d1,d2⟩
  | ref r =>
   cases B.refE
   obtain⟨m,hm⟩:=G F
   obtain⟨ys,hy,_⟩:=R.addr hm
   rw[<-hK]at q1
   exact(as5 I hy q1).elim
  | fn _=>exact absurd rfl F
  | clo _ _=>exact absurd rfl F
 | ref r =>
  have e:=J.refE;subst e
  obtain⟨l,hl⟩:=G Z
  obtain⟨Y,hx,_⟩:=R.addr hl
  cases b with
  | non=>cases B.nonE
  | bl _=>cases B.blE
  | int _=>cases B.intE
  | str _=>cases B.strE
  | tup m =>
   obtain⟨p',ys,e,q2,d2⟩:=B.tupE
   cases e
   rw[<-hK]at q2
   exact(as5 I hx q2).elim
  | ref r' =>
   obtain⟨m,hm⟩:=G F
   have e:C r=C r':=V.ref.inj B.refE
   rw[R.inj r r' _ _ hl hm rfl rfl e]
   exact .inl rfl
  | fn _=>exact absurd rfl F
  | clo _ _=>exact absurd rfl F
 | fn _=>exact absurd rfl Z
 | clo _ _=>exact absurd rfl Z
theorem qG {a b:kR}{z:Bool}(h:lx s a b=some z):mD a b=some z\/(mD a b=none/\lS (lr s a) (lr s b)=false/\z=false):=by
 unfold lx at h
 cases e:mD a b with
 | some w=>rw[e]at h;exact .inl h
 | none =>
  rw[e]at h
  cases q:lS (lr s a) (lr s b)with
  | true=>rw[q]at h;cases h
  | false=>rw[q]at h;exact .inr ⟨rfl,rfl,(aG h).symm⟩
theorem bm5 {a b:kR}{z:Bool}(h:mD a b=some z):lr s a≠9/\lr s b≠9:=by
 cases a<;>cases b<;>first|(cases h;done)|(constructor<;>(intro z;cases z))
theorem al9 {a b:kR}{z:Bool}(h:lx s a b=some z):lr s a≠9/\lr s b≠9:=by
 rcases qG h with h|⟨_,h,_⟩
 .exact bm5 h
 .unfold lS at h
  simp only[eR,beq_eq_false_iff_ne]at h
  exact⟨h.1.1,h.1.2⟩
theorem aM1 {a:kR}{z:Bool}(h:lx s a a=some z):z=true:=by
 rcases qG h with h|⟨_,h,_⟩
 .cases a<;>cases h<;>first|rfl|exact beq_self_eq_true _
 .unfold lS at h;simp at h
theorem aO8 (I:Inv X pins W H sh)(hK:X.K=Γ.K)(R:Rp Γ C H s):∀(n:Nat) (a b:kR) (x:V) (z:Bool),k8 s n a b=some z->RV Γ C H a x->RV Γ C H b x->z=true:=by
 have J:∀(a b:kR) (x:V) (z:Bool),lx s a b=some z->RV Γ C H a x->RV Γ C H b x->z=true:=by
  intro a b x z h F B
  rcases rv_two I hK R F B (al9 h).1 (al9 h).2 with e|⟨l,m,_,_,rfl,rfl,_⟩
  .subst e;exact aM1 h
  .rcases qG h with h|⟨_,h,_⟩
   .cases h
   .unfold lS at h;simp[lr]at h
 intro n
 induction n with
 | zero=>intro a b x z h;unfold k8 at h;exact J a b x z h
 | succ n ih =>
  have Z:∀(l m:List kR) (G:List V) (z:Bool),lp (k8 s n) l m=some z->RVL Γ C H l G->RVL Γ C H m G->z=true:=by
   intro l
   induction l with
   | nil =>
    intro m G z h F B
    cases m with
    | nil=>unfold lp at h;exact(aG h).symm
    | cons b m=>obtain⟨x,r,e,_⟩:=B.uncons;rw[F.unnil]at e;cases e
   | cons a l ihl =>
    intro m G z h F B
    cases m with
    | nil=>obtain⟨x,r,e,_⟩:=F.uncons;rw[B.unnil]at e;cases e
    | cons b m =>
     obtain⟨p,q,e1,e2,ez⟩:=ap5 h
     obtain⟨v,r,rfl,g1,g2⟩:=F.uncons
     obtain⟨v',r',e,g3,g4⟩:=B.uncons
     cases e
     rw[ez,ih a b v p e1 g1 g3,ihl m r q e2 g2 g4];rfl
  intro a b x z h F B
  unfold k8 at h
  split at h
  .rename_i l m
   obtain⟨a,G,rfl,q1,d1⟩:=F.tupE
   obtain⟨b,ys,e,q2,d2⟩:=B.tupE
   cases e
   rw[<-hK]at q1 q2
   rw[I.tuple_inj q2 q1]at d2
   exact Z l m G z h d1 d2
  .rename_i p q
   split at h
   .rename_i l m hl hm
    obtain⟨G,e1,d1⟩:=R.addr hl
    obtain⟨ys,e2,d2⟩:=R.addr hm
    have e:=F.refE.symm.trans B.refE
    have e':C p=C q:=V.ref.inj e
    rw[e',e2]at e1
    have e3:ys=G:=by injection (aG e1)
    subst e3
    split at h
    .exact Z l m ys z h d1 d2
    .rename_i Y;exact absurd (d1.length.symm.trans d2.length) Y
   .cases h
  .exact J a b x z h F B
end
variable {Γ:Gm}
inductive Vw (sh:ai):Nat->Value->Prop where
 | non:Vw sh 0 .none
 | bl (b:Bool):Vw sh 1 (.bool b)
 | int (i:Int) (t:Tok):Vw sh 1 (.int i t)
 | str (x:Str) (t:Tok):Vw sh 2 (.str x t)
 | tup {l:Addr} {items:yJ} (h:sh.heap.IsTuple l items):Vw sh 3 (.ref l)
 | lst {l:Addr} {items:yJ} (h:sh.heap.IsList l items):Vw sh 4 (.ref l)
theorem Vw.eq {A:aV}{sh:ai}{k F:Nat}{u v:Value}(a:Vw sh k u)(b:Vw sh F v)(B:k≠F)(hu:A.units<cLine):dv A sh u v false:=by
 cases a with
 | non=>cases b with
  | non=>exact absurd rfl B
  | bl b=>exact SeqAt.EqAt.none_bool b
  | int i t=>exact ie i t
  | str x t=>exact ig x t
  | tup h=>exact gH h hu
  | lst h=>exact SeqAt.EqAt.none_list h hu
 | bl a=>cases b with
  | non=>exact SeqAt.EqAt.bool_none a
  | bl b=>exact absurd rfl B
  | int i t=>exact absurd rfl B
  | str x t=>exact SeqAt.EqAt.bool_str a x t
  | tup h=>exact SeqAt.EqAt.bool_tuple a h hu
  | lst h=>exact SeqAt.EqAt.bool_list a h hu
 | int a q=>cases b with
  | non=>exact ii a q
  | bl b=>exact absurd rfl B
  | int i t=>exact absurd rfl B
  | str x t=>exact iH a q x t
  | tup h=>exact gO a q h hu
  | lst h=>exact SeqAt.EqAt.int_list a q h hu
 | str a q=>cases b with
  | non=>exact ik a q
  | bl b=>exact SeqAt.EqAt.str_bool a q b
  | int i t=>exact iI a q i t
  | str x t=>exact absurd rfl B
  | tup h=>exact gP a q h hu
  | lst h=>exact SeqAt.EqAt.str_list a q h hu
 | tup g=>cases b with
  | non=>exact gI g hu
  | bl b=>exact SeqAt.EqAt.tuple_bool b g hu
  | int i t=>exact gQ i t g hu
  | str x t=>exact gR x t g hu
  | tup h=>exact absurd rfl B
  | lst h=>exact SeqAt.EqAt.tuple_list g h hu
 | lst g=>cases b with
  | non=>exact SeqAt.EqAt.list_none g hu
  | bl b=>exact SeqAt.EqAt.list_bool b g hu
  | int i t=>exact SeqAt.EqAt.list_int i t g hu
  | str x t=>exact SeqAt.EqAt.list_str x t g hu
  | tup h=>exact SeqAt.EqAt.list_tuple g h hu
  | lst h=>exact absurd rfl B
theorem Vw.rc {A:aV}{sh:ai}{k F:Nat}{u v:Value}(a:Vw sh k u)(b:Vw sh F v)(B:k≠F)(hu:A.units<cLine):kN A sh u v false:=by
 cases a with
 | non=>cases b with
  | non=>exact absurd rfl B
  | bl b=>exact SeqAt.RcAt.none_bool b
  | int i t=>exact SeqAt.RcAt.none_int i t
  | str x t=>exact SeqAt.RcAt.none_str x t
  | tup h=>exact SeqAt.RcAt.none_tuple h hu
  | lst h=>exact SeqAt.RcAt.none_list h hu
 | bl a=>cases b with
  | non=>exact SeqAt.RcAt.bool_none a
  | bl b=>exact absurd rfl B
  | int i t=>exact absurd rfl B
  | str x t=>exact SeqAt.RcAt.bool_str a x t
  | tup h=>exact SeqAt.RcAt.bool_tuple a h hu
  | lst h=>exact SeqAt.RcAt.bool_list a h hu
 | int a q=>cases b with
  | non=>exact SeqAt.RcAt.int_none a q
  | bl b=>exact absurd rfl B
  | int i t=>exact absurd rfl B
  | str x t=>exact SeqAt.RcAt.int_str a q x t
  | tup h=>exact SeqAt.RcAt.int_tuple a q h hu
  | lst h=>exact SeqAt.RcAt.int_list a q h hu
 | str a q=>cases b with
  | non=>exact SeqAt.RcAt.str_none a q
  | bl b=>exact SeqAt.RcAt.str_bool a q b
  | int i t=>exact SeqAt.RcAt.str_int a q i t
  | str x t=>exact absurd rfl B
  | tup h=>exact SeqAt.RcAt.str_tuple a q h hu
  | lst h=>exact SeqAt.RcAt.str_list a q h hu
 | tup g=>cases b with
  | non=>exact SeqAt.RcAt.tuple_none g hu
  | bl b=>exact SeqAt.RcAt.tuple_bool b g hu
  | int i t=>exact SeqAt.RcAt.tuple_int i t g hu
  | str x t=>exact SeqAt.RcAt.tuple_str x t g hu
  | tup h=>exact absurd rfl B
  | lst h=>exact SeqAt.RcAt.tuple_list g h hu
 | lst g=>cases b with
  | non=>exact SeqAt.RcAt.list_none g hu
  | bl b=>exact SeqAt.RcAt.list_bool b g hu
  | int i t=>exact SeqAt.RcAt.list_int i t g hu
  | str x t=>exact SeqAt.RcAt.list_str x t g hu
  | tup h=>exact SeqAt.RcAt.list_tuple g h hu
  | lst h=>exact absurd rfl B
theorem Vw.ne {A:aV}{sh:ai}{k F:Nat}{u v:Value}(a:Vw sh k u)(b:Vw sh F v)(B:k≠F)(hu:A.units<cLine):ku A sh u v true:=by
 cases a with
 | non=>cases b with
  | non=>exact absurd rfl B
  | bl b=>exact SeqAt.RcNeAt.none_bool b
  | int i t=>exact SeqAt.RcNeAt.none_int i t
  | str x t=>exact SeqAt.RcNeAt.none_str x t
  | tup h=>exact SeqAt.RcNeAt.none_tuple h hu
  | lst h=>exact SeqAt.RcNeAt.none_list h hu
 | bl a=>cases b with
  | non=>exact SeqAt.RcNeAt.bool_none a
  | bl b=>exact absurd rfl B
  | int i t=>exact absurd rfl B
  | str x t=>exact SeqAt.RcNeAt.bool_str a x t
  | tup h=>exact SeqAt.RcNeAt.bool_tuple a h hu
  | lst h=>exact SeqAt.RcNeAt.bool_list a h hu
 | int a q=>cases b with
  | non=>exact SeqAt.RcNeAt.int_none a q
  | bl b=>exact absurd rfl B
  | int i t=>exact absurd rfl B
  | str x t=>exact SeqAt.RcNeAt.int_str a q x t
  | tup h=>exact SeqAt.RcNeAt.int_tuple a q h hu
  | lst h=>exact SeqAt.RcNeAt.int_list a q h hu
 | str a q=>cases b with
  | non=>exact SeqAt.RcNeAt.str_none a q
  | bl b=>exact SeqAt.RcNeAt.str_bool a q b
  | int i t=>exact SeqAt.RcNeAt.str_int a q i t
  | str x t=>exact absurd rfl B
  | tup h=>exact SeqAt.RcNeAt.str_tuple a q h hu
  | lst h=>exact SeqAt.RcNeAt.str_list a q h hu
 | tup g=>cases b with
  | non=>exact SeqAt.RcNeAt.tuple_none g hu
  | bl b=>exact SeqAt.RcNeAt.tuple_bool b g hu
  | int i t=>exact SeqAt.RcNeAt.tuple_int i t g hu
  | str x t=>exact SeqAt.RcNeAt.tuple_str x t g hu
  | tup h=>exact absurd rfl B
  | lst h=>exact SeqAt.RcNeAt.tuple_list g h hu
 | lst g=>cases b with
  | non=>exact SeqAt.RcNeAt.list_none g hu
  | bl b=>exact SeqAt.RcNeAt.list_bool b g hu
  | int i t=>exact SeqAt.RcNeAt.list_int i t g hu
  | str x t=>exact SeqAt.RcNeAt.list_str x t g hu
  | tup h=>exact SeqAt.RcNeAt.list_tuple g h hu
  | lst h=>exact absurd rfl B
theorem bO4 (a b:List Nat):((⟨a.toArray⟩:Str)==⟨b.toArray⟩)=(a==b):=by
 by_cases e:a=b
 .subst e;simp
 .have:(⟨a.toArray⟩:Str)≠⟨b.toArray⟩:=λ q=>e (by simpa using congrArg (λ z=>z.cps.toList) q)
  rw[beq_eq_false_iff_ne.mpr this,beq_eq_false_iff_ne.mpr e]
structure Cmp (A:aV)(sh:ai)(u v:Value)(z:Bool):Prop where
 rc:kN A sh u v z
 ne:ku A sh u v (!z)
section
variable {X:Cx} {pins:yA} {W:St} {H:Hp} {sh:ai} {C:Nat->Addr} {s:kQ}
theorem bR7 (I:Inv X pins W H sh)(hK:X.K=Γ.K)(R:Rp Γ C H s){d:kR}{x:V}{u:Value}(h:RV Γ C H d x)(r:RelV x u)(hk:lr s d≠9):Vw sh (lr s d) u:=by
 cases d with
 | non=>have e:=h.nonE;subst e;cases r;exact .non
 | bl b=>have e:=h.blE;subst e;cases r;exact .bl b
 | int i=>have e:=h.intE;subst e;obtain⟨t,rfl⟩:=r;exact .int i t
 | str y=>have e:=h.strE;subst e;obtain⟨t,rfl⟩:=r;exact .str _ t
 | tup l =>
  obtain⟨a,B,e,q,_⟩:=h.tupE
  subst e;cases r
  rw[<-hK]at q
  obtain⟨its,_,t,_⟩:=I.tuple q
  exact .tup t
 | ref n =>
  have e:=h.refE;subst e;cases r
  have hk:(match s[n]? with|some (DV.O.lst l)=>4|_=>9:Nat)≠9:=hk
  show Vw sh (match s[n]? with|some (DV.O.lst l)=>4|_=>9:Nat) _
  cases hs:s[n]? with
  | none=>rw[hs]at hk;exact absurd rfl hk
  | some o =>
   rw[hs]at hk
   cases o with
   | lst l =>
    obtain⟨B,e,_⟩:=R.addr hs
    obtain⟨its,_,t,_⟩:=I.list (SqL.of e)
    exact .lst t.isList
   | _=>exact absurd rfl hk
 | fn _=>exact absurd rfl hk
 | clo _ _=>exact absurd rfl hk
theorem aD5 (I:Inv X pins W H sh)(hK:X.K=Γ.K)(R:Rp Γ C H s){a b:kR}{x y:V}{u v:Value}{A:aV}{z:Bool}(h:lx s a b=some z)(B:RV Γ C H a x)(F:RV Γ C H b y)(r1:RelV x u)(r2:RelV y v)(hu:A.units<cLine) :
  dv A sh u v z/\Cmp A sh u v z:=by
 rcases qG h with h|⟨_,hn,hz⟩
 .cases a<;>cases b<;>try cases h
  .cases B.nonE;cases F.nonE;cases r1;cases r2
   exact⟨dL _,SeqAt.RcAt.none_none,SeqAt.RcNeAt.none_none⟩
  .cases B.blE;cases F.blE;cases r1;cases r2
   exact⟨SeqAt.EqAt.bool_bool _ _,SeqAt.RcAt.bool_bool _ _,SeqAt.RcNeAt.bool_bool _ _⟩
  .cases B.blE;cases F.intE;cases r1;obtain⟨t',rfl⟩:=r2
   exact⟨SeqAt.EqAt.bool_int _ _ _,SeqAt.RcAt.bool_int _ _ _,SeqAt.RcNeAt.bool_int _ _ _⟩
  .cases B.intE;cases F.blE;obtain⟨t,rfl⟩:=r1;cases r2
   exact⟨SeqAt.EqAt.int_bool _ _ _,SeqAt.RcAt.int_bool _ _ _,SeqAt.RcNeAt.int_bool _ _ _⟩
  .cases B.intE;cases F.intE;obtain⟨t,rfl⟩:=r1;obtain⟨t',rfl⟩:=r2
   exact⟨fy _ _ _ _,SeqAt.RcAt.int_int _ _ _ _,SeqAt.RcNeAt.int_int _ _ _ _⟩
  .cases B.strE;cases F.strE;obtain⟨t,rfl⟩:=r1;obtain⟨t',rfl⟩:=r2
   rw[<-bO4]
   exact⟨fz _ _ _ _,SeqAt.RcAt.str_str _ _ _ _,SeqAt.RcNeAt.str_str _ _ _ _⟩
 .subst hz
  unfold lS at hn
  simp only[eR,beq_eq_false_iff_ne]at hn
  have G:=bR7 I hK R B r1 hn.1.1
  have w2:=bR7 I hK R F r2 hn.1.2
  exact⟨G.eq w2 hn.2 hu,G.rc w2 hn.2 hu,G.ne w2 hn.2 hu⟩
theorem bg3 (I:Inv X pins W H sh)(hK:X.K=Γ.K)(R:Rp Γ C H s):∀(n:Nat) (a b:kR) (x y:V) (u v:Value) (A:aV) (z:Bool),k8 s n a b=some z->RV Γ C H a x->RV Γ C H b y->RelV x u->RelV y v->Room n A ->
  dv A sh u v z/\Cmp A sh u v z:=by
 intro n
 induction n with
 | zero=>intro a b x y u v A z h Z Y r1 r2 hr;unfold k8 at h;exact aD5 I hK R h Z Y r1 r2 hr.units0
 | succ n ih =>
  have B:∀ {l m:List kR} {xs ys:List V} {its its':yG} {A:aV} {e:Nat->Bool},RVL Γ C H l xs->RVL Γ C H m ys->Vals xs its->Vals ys its'->Room n A->(∀ j d d',l[j]?=some d->m[j]?=some d'->k8 s n d d'=some (e j)) ->
    ∀ j (Z:j<its.toArray.size) (Y:j<its'.toArray.size),dv A sh its.toArray[j] its'.toArray[j] (e j):=by
   intro l m xs ys its its' A e d1 d2 v1 J hr he j Z Y
   have l1:=v1.length
   have l2:=J.length
   have e1:=d1.length
   have e2:=d2.length
   have a4:j<its.length:=by simpa using Z
   have a3:j<its'.length:=by simpa using Y
   have hj:j<l.length:=by omega
   have a1:j<m.length:=by omega
   obtain⟨x,ex,dx⟩:=d1.get (au hj)
   obtain⟨y,ey,dy⟩:=d2.get (au a1)
   obtain⟨u,eu,ru⟩:=v1.get ex
   obtain⟨w,ew,a2⟩:=J.get ey
   have g1:its.toArray[j]=u:=by
    have:=au a4
    rw[eu]at this
    simpa using(aG this).symm
   have g2:its'.toArray[j]=w:=by
    have:=au a3
    rw[ew]at this
    simpa using(aG this).symm
   rw[g1,g2]
   exact(ih _ _ x y u w A (e j) (he j _ _ (au hj) (au a1)) dx dy ru a2 hr).1
  intro a b x y u v A z h Z Y r1 r2 hr
  have hz:=h
  unfold k8 at h
  split at h
  .rename_i l m
   obtain⟨p,xs,ex,q1,d1⟩:=id Z.tupE
   obtain⟨q,ys,ey,q2,d2⟩:=id Y.tupE
   subst ex;subst ey
   cases r1;cases r2
   rw[<-hK]at q1 q2
   obtain⟨its,v1,t1,_⟩:=I.tuple q1
   obtain⟨its',J,t2,_⟩:=I.tuple q2
   obtain⟨e,he,F⟩:=ba0 h
   have l1:=v1.length
   have l2:=J.length
   have e1:=d1.length
   have e2:=d2.length
   have sz:((a8 (min its.toArray.size its'.toArray.size)).all e&&its.toArray.size==its'.toArray.size)=z:=by
    rw[<-F,Bool.and_comm,show its.toArray.size=l.length by simp;omega,show its'.toArray.size=m.length by simp;omega]
   have key:=iT (A:=A) (s:=sh) (e:=e) t1 t2 hr.units0 (B d1 d2 v1 J hr.in1 he)
   have G:=SeqAt.RcNeAt.tuples (A:=A) (s:=sh) (e:=e) t1 t2 hr.units0 (B d1 d2 v1 J hr.in1 he)
   rw[sz]at key G
   refine⟨?_,key,G⟩
   by_cases hab:p=q
   .subst hab
    rw[aO8 I hK R _ _ _ _ _ hz Z Y]
    exact dL _
   .exact fj hab key
  .rename_i p q
   split at h
   .rename_i l m hl hm
    obtain⟨xs,e1,d1⟩:=R.addr hl
    obtain⟨ys,e2,d2⟩:=R.addr hm
    have ex:=Z.refE
    have ey:=Y.refE
    subst ex;subst ey
    cases r1;cases r2
    obtain⟨its,v1,t1,_⟩:=I.list (SqL.of e1)
    obtain⟨its',J,t2,_⟩:=I.list (SqL.of e2)
    have l1:=v1.length
    have l2:=J.length
    have c1:=d1.length
    have c2:=d2.length
    have fin:Cmp A sh (.ref (C p)) (.ref (C q)) z:=by
     split at h
     .rename_i a0
      obtain⟨e,he,F⟩:=ba0 h
      have sz:(a8 its.toArray.size).all e=z:=by
       rw[<-F,show its.toArray.size=l.length by simp;omega,a0]
       simp
      have key:=SeqAt.RcAt.lists (A:=A) (s:=sh) (e:=e) t1.isList t2.isList (by simp;omega) hr.units0 (B d1 d2 v1 J hr.in1 he)
      have G:=SeqAt.RcNeAt.lists (A:=A) (s:=sh) (e:=e) t1.isList t2.isList (by simp;omega) hr.units0 (B d1 d2 v1 J hr.in1 he)
      rw[sz]at key G
      exact⟨key,G⟩
     .rename_i a0
      cases h
      have hs:(its.toArray.size != its'.toArray.size)=true:=by simp;omega
      exact⟨SeqAt.RcAt.lists_lengths t1.isList t2.isList hs hr.units0,SeqAt.RcNeAt.lists_lengths t1.isList t2.isList hs hr.units0⟩
    refine⟨?_,fin⟩
    by_cases hab:C p=C q
    .rw[aO8 I hK R _ _ _ _ _ hz RV.refI (by rw[hab];exact RV.refI),hab]
     exact dL _
    .exact fj hab fin.rc
   .cases h
  .exact aD5 I hK R h Z Y r1 r2 hr.units0
end
variable {Γ:Gm} {X:Cx}
noncomputable def cg8:mQ->jQ
 | .add=>.Add|.sub=>.Sub|.mul=>.Mult|.fdiv=>.FloorDiv|.mod=>.Mod|.pow=>.Pow|.shl=>.LShift|.shr=>.RShift|.band=>.BitAnd|.bor=>.BitOr
noncomputable def bD0:mF->CmpOp
 | .eq=>.Eq|.ne=>.NotEq|.lt=>.Lt|.le=>.LtE|.gt=>.Gt|.ge=>.GtE|.isin=>.In|.notin=>.NotIn
def rOp (Γ:Gm)(f:kR->kR->kQ->kU kR):R2:=λ x y H Q=>∃ C s a b d s',Rp Γ C H s/\RV Γ C H a x/\RV Γ C H b y/\a.bnd s.length=true/\b.bnd s.length=true/\f a b s=.ok d s'/\ak4 Γ C s H d s' Q
theorem zW {d e:kR}{s t:kQ}(h:mG d s=.ok e t):d=e/\s=t:=by
 unfold mG at h
 cases h
 exact⟨rfl,rfl⟩
theorem zR {o:lA}{e:kR}{s t:kQ}(h:lK o s=.ok e t):e=.ref s.length/\t=s++[o]:=by
 unfold lK at h
 cases h
 exact⟨rfl,rfl⟩
theorem bg9 (a b:List Nat):(⟨a.toArray⟩:Str)++⟨b.toArray⟩=⟨(a++b).toArray⟩:=by
 show Str.append _ _=_
 unfold Str.append
 simp
theorem zJ:k6<=aN:=by rw[eP];decide
theorem bG7:OpR X (cj .Mult) (rI (λ i j=>DV.mulOk i j=true) λ i j=>.int (i*j)):=opI λ i j _ _ _ _ _ hc q=>mul_int q (by
 unfold DV.mulOk at hc
 simp only[cb,ao,decide_eq_true_eq]at hc
 rcases hc with(h|h)|⟨F,B⟩
 .exact ce1.ok (.inl (by omega))
 .exact ce1.ok (.inr (by omega))
 .unfold DV.BIG at F B
  exact IntMulOk.of_le (m:=60000) (n:=60000) (intBits_le_iff.mpr F) (intBits_le_iff.mpr B) (by decide))
theorem aP8 (l:List Nat):∀(n:Nat) (h:Array Nat),(aA n l.toArray).foldl (·++·) h=h++(lq n l).toArray
 | 0,h=>by simp[lq]
 | n+1,h=>by
  rw[bL,c6,aP8 l n]
  simp[lq,iJ]
theorem bG5 (l:List Nat):lq 1 l=l:=by simp[lq]
theorem bh5:∀ n,lq n []=[]
 | 0=>rfl
 | n+1=>by simp[lq,bh5 n]
theorem rep_len (l:List Nat):∀ n,(lq n l).length=l.length*n
 | 0=>by simp[lq]
 | n+1=>by simp[lq,rep_len l n,jA];omega
theorem bK9:OpR X (cj .Mult) (λ x y H Q=>∃(l:List Nat) (n:Int),x=.str ⟨l.toArray⟩/\y=.int n/\(0<=n/\n<=1000000/\l.length*n.toNat<=k6)/\Q (.str ⟨(lq n.toNat l).toArray⟩) H):=by
 intro G s W H x y v u Q I rx J h
 obtain⟨l,n,rfl,rfl,⟨h0,h1,Y⟩,q⟩:=h
 obtain⟨t,rfl⟩:=rx
 obtain⟨t',rfl⟩:=J
 have B:(⟨l.toArray⟩:Str).length=l.length:=by show l.toArray.size=_;simp
 have hL:=zJ
 have Z:=ar0
 refine SB.mul ⟨?_,λ hn _=>?_,λ hn _=>?_⟩ λ t2 k=>?_
 .rw[decide_eq_false (by omega),decide_eq_false (by omega)];rfl
 .rw[B]
  have F:1<=n:=by omega
  intro a0
  have h3:(l.length:Int)*n<=1000000:=by
   have:((l.length*n.toNat:Nat):Int)<=(k6:Nat):=Int.ofNat_le.mpr Y
   rw[jG,e7 h0]at this
   have e:((k6:Nat):Int)=1000000:=by unfold k6;rfl
   omega
  have h4:(l.length:Int)<=1000000:=by
   have:(l.length:Int)*1<=(l.length:Int)*n:=eS F (by omega)
   omega
  have h5:(1000000:Int)<=(2^63 - 1) / n:=by
   rw[Int.le_ediv_iff_mul_le (by omega)]
   have:(1000000:Int)*n<=1000000*1000000:=eS h1 (by omega)
   omega
  omega
 .rw[B]
  unfold j3
  exact decide_eq_false (by omega)
 .have e:Txt.mul ⟨l.toArray⟩ n=⟨(lq n.toNat l).toArray⟩:=by
   unfold Txt.mul
   split
   .have:n.toNat=0:=by omega
    rw[this];rfl
   .split
    .rename_i hc
     rw[cb]at hc
     rcases hc with hc|hc
     .have:n=1:=by simpa using hc
      subst this
      show(⟨l.toArray⟩:Str)=⟨(lq 1 l).toArray⟩
      rw[bG5]
     .have:l=[]:=by
       have:=eq_of_beq hc
       rw[B]at this
       exact bU.mp this
      subst this
      rw[bh5]
    .show(⟨(aA n.toNat l.toArray).foldl (·++·) #[]⟩:Str)=_
     rw[aP8];simp
  rw[e]
  exact⟨.str _,H,I.tok _,⟨_,rfl⟩,q⟩
theorem aq6 {n:Nat}{l:List kR}(h:kT n l=true):∀ k,kT n (lJ k l)=true
 | 0=>rfl
 | k+1=>zY h (aq6 h k)
theorem RVL.repD {C:Nat->Addr}{H:Hp}{l:List kR}{B:List V}(h:RVL Γ C H l B):∀ k,RVL Γ C H (lJ k l) (au1 k B)
 | 0=>RVL.nil
 | k+1=>h.append (RVL.repD h k)
theorem aC1 {α:Type}(h:List α):∀ k,au1 k h=(aA k h).flatten
 | 0=>rfl
 | k+1=>by rw[bL,cM,<-aC1 h k];rfl
theorem bN1 (hK:X.K=Γ.K)(op:mQ):OpR X (cj (cg8 op)) (rOp Γ (DV.ao3 op)):=by
 intro F s W H x y v u Q I Y J h
 obtain⟨C,st,a,b,d,a0,R,ha,hb,na,nb,B,q⟩:=h
 cases op with
 | add =>
  cases a with
  | int a =>
   cases b with
   | int b =>
    change(mG _) st=_ at B
    obtain⟨rfl,rfl⟩:=zW B
    have ex:=ha.intE;have G:=hb.intE;subst ex;subst G
    exact bO9 F s W H _ _ v u Q I Y J ⟨_,_,rfl,rfl,q.here R rfl RV.intI⟩
   | _=>exact fb B
  | str a =>
   cases b with
   | str b =>
    change(if _ then _ else _:lZ kR) st=_ at B
    split at B
    .rename_i hl
     obtain⟨rfl,rfl⟩:=zW B
     have ex:=ha.strE;have G:=hb.strE;subst ex;subst G
     refine aT1 F s W H _ _ v u Q I Y J ⟨_,_,rfl,rfl,?_,?_⟩
     .show a.toArray.size+b.toArray.size<=_
      simp only[aB]
      exact av hl zJ
     .rw[bg9];exact q.here R rfl (RV.strI (by rw[ax];exact hl))
    .exact fb B
   | _=>exact fb B
  | tup a =>
   cases b with
   | tup b =>
    change(if _ then _ else _:lZ kR) st=_ at B
    split at B
    .rename_i hl
     obtain⟨rfl,rfl⟩:=zW B
     obtain⟨p,xs,⟨rfl,z1⟩,Z,d1⟩:=ha.tupZ
     obtain⟨p',ys,⟨rfl,z2⟩,h2,d2⟩:=hb.tupZ
     refine bC3 hK F s W H _ _ v u Q I Y J ⟨p,p',xs,ys,rfl,rfl,Z,h2,?_,λ t H' e ht hn=>?_⟩
     .rw[d1.length,d2.length];exact av hl zJ
     .obtain⟨g,r'⟩:=R.same e
      unfold kX at na nb
      refine q _ _ _ g (aw _) (by unfold kX;exact zY na nb) (RV.tupC ht (λ z=>?_) ((RVL.mono g _ _ na d1).append (RVL.mono g _ _ nb d2))) r'
      rcases hn with hn|⟨rfl,rfl⟩|⟨rfl,rfl⟩
      .exact hn
      .rw[d2.tonil,bw]at z;rw[bw];exact e _ _ (z1 z)
      .rw[d1.tonil]at z;exact e _ _ (z2 z)
    .exact fb B
   | _=>exact fb B
  | ref a =>
   cases b with
   | ref b =>
    change(match st[a]?,st[b]? with|some (DV.O.lst l),some (DV.O.lst m)=>if l.length+m.length<=k6 then lK (.lst (l++m)) st else .bad|_,_=>.bad:kU kR)=_ at B
    split at B
    .rename_i l m Z h2
     split at B
     .rename_i hl
      obtain⟨rfl,rfl⟩:=zR B
      obtain⟨xs,e1,d1⟩:=R.addr Z
      obtain⟨ys,e2,d2⟩:=R.addr h2
      have ex:=ha.refE;have G:=hb.refE;subst ex;subst G
      have b1:=R.wf _ _ Z
      have b2:=R.wf _ _ h2
      unfold kY at b1 b2
      refine bZ2 F s W H _ _ v u Q I Y J ⟨C a,C b,xs,ys,rfl,rfl,e1,e2,?_,λ p hp=>?_⟩
      .rw[d1.length,d2.length];exact av hl zJ
      .exact q.alloc R (d1.append d2) (zY b1 b2) hp
     .exact fb B
    .exact fb B
   | _=>exact fb B
  | _=>exact fb B
 | sub =>
  cases a with
  | int a =>
   cases b with
   | int b =>
    change(mG _) st=_ at B
    obtain⟨rfl,rfl⟩:=zW B
    have ex:=ha.intE;have G:=hb.intE;subst ex;subst G
    exact bX6 F s W H _ _ v u Q I Y J ⟨_,_,rfl,rfl,q.here R rfl RV.intI⟩
   | _=>exact fb B
  | _=>exact fb B
 | mul =>
  cases a with
  | int a =>
   cases b with
   | int b =>
    change(if _ then _ else _:lZ kR) st=_ at B
    split at B
    .rename_i hc
     obtain⟨rfl,rfl⟩:=zW B
     have ex:=ha.intE;have G:=hb.intE;subst ex;subst G
     exact bG7 F s W H _ _ v u Q I Y J ⟨_,_,rfl,rfl,hc,q.here R rfl RV.intI⟩
    .exact fb B
   | _=>exact fb B
  | str a =>
   cases b with
   | int b =>
    change(if _ then _ else _:lZ kR) st=_ at B
    split at B
    .rename_i hc
     obtain⟨rfl,rfl⟩:=zW B
     have ex:=ha.strE;have G:=hb.intE;subst ex;subst G
     exact bK9 F s W H _ _ v u Q I Y J ⟨_,_,rfl,rfl,hc,q.here R rfl (RV.strI (by rw[rep_len];exact hc.2.2))⟩
    .exact fb B
   | _=>exact fb B
  | tup a =>
   cases b with
   | int b =>
    change(if _ then _ else _:lZ kR) st=_ at B
    split at B
    .rename_i hc
     obtain⟨rfl,rfl⟩:=zW B
     obtain⟨p,xs,⟨rfl,z1⟩,Z,d1⟩:=ha.tupZ
     have G:=hb.intE;subst G
     refine bB8 hK F s W H _ _ v u Q I Y J ⟨p,xs,_,rfl,rfl,Z,⟨hc.1,hc.2.1,by rw[d1.length];exact hc.2.2⟩,λ t H' e ht hn=>?_⟩
     obtain⟨g,r'⟩:=R.same e
     unfold kX at na
     refine q _ _ _ g (aw _) (by unfold kX;exact aq6 na _) (RV.tupC ht (λ z=>?_) (RVL.repD (RVL.mono g _ _ na d1) _)) r'
     rcases hn with hn|⟨rfl,ex⟩
     .exact hn
     .rw[ex];exact e _ _ (z1 (bF8 z))
    .exact fb B
   | _=>exact fb B
  | ref a =>
   cases b with
   | int b =>
    change(match st[a]? with|some (DV.O.lst l)=>if 0<=b/\b<=1000000/\l.length*b.toNat<=k6 then lK (.lst (lJ b.toNat l)) st else .bad|_=>.bad:kU kR)=_ at B
    split at B
    .rename_i l Z
     split at B
     .rename_i hc
      obtain⟨rfl,rfl⟩:=zR B
      obtain⟨xs,e1,d1⟩:=R.addr Z
      have ex:=ha.refE;have G:=hb.intE;subst ex;subst G
      have b1:=R.wf _ _ Z
      unfold kY at b1
      refine bV7 F s W H _ _ v u Q I Y J ⟨C a,b,xs,rfl,rfl,e1,by omega,by omega,?_,λ p hp=>?_⟩
      .rw[d1.length];exact av hc.2.2 zJ
      .rw[<-aC1];exact q.alloc R (RVL.repD d1 _) (aq6 b1 _) hp
     .exact fb B
    .exact fb B
   | _=>exact fb B
  | _=>exact fb B
 | fdiv =>
  cases a with
  | int a =>
   cases b with
   | int b =>
    change(if _ then _ else _:lZ kR) st=_ at B
    split at B
    .rename_i hc
     obtain⟨rfl,rfl⟩:=zW B
     have ex:=ha.intE;have G:=hb.intE;subst ex;subst G
     refine bn1 F s W H _ _ v u Q I Y J ⟨_,_,rfl,rfl,⟨hc.1,?_⟩,q.here R rfl RV.intI⟩
     have:=hc.2
     unfold DV.DIVL at this
     simpa using this
    .exact fb B
   | _=>exact fb B
  | _=>exact fb B
 | mod =>
  cases a with
  | int a =>
   cases b with
   | int b =>
    change(if _ then _ else _:lZ kR) st=_ at B
    split at B
    .rename_i hc
     obtain⟨rfl,rfl⟩:=zW B
     have ex:=ha.intE;have G:=hb.intE;subst ex;subst G
     exact cb3 F s W H _ _ v u Q I Y J ⟨_,_,rfl,rfl,hc,q.here R rfl RV.intI⟩
    .exact fb B
   | _=>exact fb B
  | _=>exact fb B
 | pow =>
  cases a with
  | int a =>
   cases b with
   | int b =>
    change(if _ then _ else _:lZ kR) st=_ at B
    split at B
    .rename_i hc
     obtain⟨rfl,rfl⟩:=zW B
     have ex:=ha.intE;have G:=hb.intE;subst ex;subst G
     exact bQ4 F s W H _ _ v u Q I Y J ⟨_,_,rfl,rfl,hc,q.here R rfl RV.intI⟩
    .exact fb B
   | _=>exact fb B
  | _=>exact fb B
 | shl =>
  cases a with
  | int a =>
   cases b with
   | int b =>
    change(if _ then _ else _:lZ kR) st=_ at B
    split at B
    .rename_i hc
     obtain⟨rfl,rfl⟩:=zW B
     have ex:=ha.intE;have G:=hb.intE;subst ex;subst G
     exact bT4 F s W H _ _ v u Q I Y J ⟨_,_,rfl,rfl,hc,q.here R rfl RV.intI⟩
    .exact fb B
   | _=>exact fb B
  | _=>exact fb B
 | shr=>exact fb B
 | band=>exact fb B
 | bor=>exact fb B
variable {Γ:Gm} {X:Cx} {pins:yA} {W:St} {H:Hp} {sh:ai} {C:Nat->Addr} {s:kQ}
theorem aP7 {n:Nat}{a b:kR}{z:Bool}(h:k8 s n a b=some z):lr s a≠9:=by
 cases n with
 | zero=>unfold k8 at h;exact(al9 h).1
 | succ n =>
  unfold k8 at h
  split at h
  .simp[lr]
  .split at h
   .rename_i B _;simp[lr,B]
   .cases h
  .exact(al9 h).1
theorem bi9 (I:Inv X pins W H sh)(hK:X.K=Γ.K)(R:Rp Γ C H s):∀(n:Nat) (a b c:kR) (x:V) (p q:Bool),RV Γ C H a x->RV Γ C H b x->k8 s n a c=some p->k8 s n b c=some q->p=q:=by
 intro n
 induction n with
 | zero =>
  intro a b c x p q B h e1 e2
  rcases rv_two I hK R B h (aP7 e1) (aP7 e2)with e|⟨l,m,_,_,rfl,rfl,_⟩
  .subst e;rw[e1]at e2;exact aG e2
  .unfold k8 at e1 e2
   have:lx s (.tup l) c=lx s (.tup m) c:=by unfold lx;cases c<;>rfl
   rw[this,e2]at e1;exact(aG e1).symm
 | succ n ih =>
  have G:∀(l m k:List kR) (F:List V) (p q:Bool),RVL Γ C H l F->RVL Γ C H m F->lp (k8 s n) l k=some p->lp (k8 s n) m k=some q->p=q:=by
   intro l
   induction l with
   | nil =>
    intro m k F p q B h e1 e2
    have:=B.unnil;subst this
    have hm:m=[]:=by have:=h.length;exact bU.mp this.symm
    subst hm
    rw[e1]at e2;exact aG e2
   | cons a l ihl =>
    intro m k F p q B h e1 e2
    obtain⟨x,r,rfl,g1,g2⟩:=B.uncons
    cases m with
    | nil=>have:=h.unnil;cases this
    | cons b m =>
     obtain⟨x',r',e,g3,Y⟩:=h.uncons
     cases e
     cases k with
     | nil=>unfold lp at e1 e2;rw[<-aG e1,<-aG e2]
     | cons c k =>
      obtain⟨p1,p2,a1,Z,a3⟩:=ap5 e1
      obtain⟨q1,q2,b1,b2,J⟩:=ap5 e2
      rw[a3,J,ih a b c x p1 q1 g1 g3 a1 b1,ihl m k r p2 q2 g2 Y Z b2]
  intro a b c x p q B h e1 e2
  rcases rv_two I hK R B h (aP7 e1) (aP7 e2)with e|⟨l,m,_,F,rfl,rfl,_,d1,d2⟩
  .subst e;rw[e1]at e2;exact aG e2
  .cases c with
   | tup k=>unfold k8 at e1 e2;exact G l m k F p q d1 d2 e1 e2
   | _ =>
    unfold k8 at e1 e2
    simp only at e1 e2
    have e3:lx s (.tup l)=lx s (.tup m):=by funext c;unfold lx;cases c<;>rfl
    rw[e3]at e1
    exact aG (e1.symm.trans e2)
theorem bs9 {x:kR}:∀ {l:List kR} {z:Bool},lP s x l=some z->∃ e:Nat->Bool,(∀ j d,l[j]?=some d->k8 s lf d x=some (e j))/\(z=true↔∃ j,j<l.length/\e j=true)
 | [],z,h=>by
  unfold lP at h
  cases h
  exact⟨λ _=>true,λ j d h=>by simp at h,by simp⟩
 | y::l,z,h=>by
  unfold lP at h
  cases e1:k8 s lf y x with
  | none=>rw[e1]at h;cases h
  | some a =>
   cases e2:lP s x l with
   | none=>rw[e1,e2]at h;cases h
   | some b =>
    rw[e1,e2]at h
    obtain⟨e,B,F⟩:=bs9 e2
    refine⟨λ j=>match j with|0=>a|j+1=>e j,λ j d g=>?_,?_⟩
    .cases j with
     | zero=>simp at g;subst g;exact e1
     | succ j=>exact B j d (by simpa using g)
    .have hz:(a||b)=z:=aG h
     rw[<-hz,cb,F]
     constructor
     .rintro(q|⟨j,hj,q⟩)
      .exact⟨0,by simp,q⟩
      .exact⟨j+1,by simpa using hj,q⟩
     .rintro⟨j,hj,q⟩
      cases j with
      | zero=>exact .inl q
      | succ j=>exact .inr ⟨j,by simpa using hj,q⟩
theorem bv6 (I:Inv X pins W H sh)(hK:X.K=Γ.K)(R:Rp Γ C H s){x:kR}{Z:V}{xu:Value}(hx:RV Γ C H x Z)(rx:RelV Z xu){l:List kR}{ys:List V}{its:yG}(hl:RVL Γ C H l ys)(hv:Vals ys its){z:Bool}(h:lP s x l=some z){A:aV}(hr:Room lf A) :
  ∃ e:Value->Bool,(∀ y,y∈its.toArray->dv A sh y xu (e y))/\its.toArray.any e=z:=by
 obtain⟨e,h1,h2⟩:=bs9 h
 have len:its.length=l.length:=by rw[<-hv.length];exact hl.length
 have B:∀ j u,its[j]?=some u->∃ d y,l[j]?=some d/\ys[j]?=some y/\RV Γ C H d y/\RelV y u:=λ j u g=>by
  have hj:j<l.length:=by rw[<-len];exact(ae.mp g).1
  obtain⟨y,g1,Y⟩:=hl.get (au hj)
  obtain⟨u',F,G⟩:=hv.get g1
  rw[g]at F;cases F
  exact⟨_,y,au hj,g1,Y,G⟩
 classical
 let f:Value->Bool:=λ u=>decide (∃ j,its[j]?=some u/\e j=true)
 have hf:∀ j u,its[j]?=some u->f u=e j:=λ j u g=>by
  obtain⟨d,y,g1,Y,F,G⟩:=B j u g
  cases q:e j with
  | true=>exact decide_eq_true ⟨j,g,q⟩
  | false =>
   refine decide_eq_false λ⟨k,g',q'⟩=>?_
   obtain⟨d',y',k1,k2,k3,k4⟩:=B k u g'
   have ey:y'=y:=k4.inj G
   subst ey
   have:=bi9 I hK R _ d d' x _ _ _ F k3 (h1 j d g1) (h1 k d' k1)
   rw[q,q']at this;cases this
 refine⟨f,λ u hu=>?_,?_⟩
 .obtain⟨j,hj,g⟩:=du.mp (by simpa using hu:u∈its)
  have g':its[j]?=some u:=by rw[au hj,g]
  obtain⟨d,y,g1,Y,F,G⟩:=B j u g'
  rw[hf j u g']
  exact(bg3 I hK R _ d x y Z u xu A _ (h1 j d g1) F hx G rx hr).1
 .have e1:its.toArray.any f=true↔z=true:=by
   rw[h2,List.any_toArray,jq]
   constructor
   .rintro⟨u,hu,q⟩
    obtain⟨j,hj,g⟩:=du.mp hu
    have g':its[j]?=some u:=by rw[au hj,g]
    exact⟨j,by omega,by rw[<-hf j u g'];exact q⟩
   .rintro⟨j,hj,q⟩
    have J:j<its.length:=by omega
    exact⟨its[j],List.getElem_mem J,by rw[hf j _ (au J)];exact q⟩
  cases z<;>cases q:its.toArray.any f
  .rfl
  .have:=e1.mp q;cases this
  .rw[q]at e1;have:=e1.mpr rfl;cases this
  .rfl
variable {Γ:Gm} {X:Cx}
theorem ac9 {α β:Type}{r:kU α}{f:α->kQ->kU β}{b:β}{t:kQ}(h:r.bind f=.ok b t):∃ a s,r=.ok a s/\f a s=.ok b t:=DV.R.bind_inv h
theorem bt8 (hK:X.K=Γ.K)(hr:Room (lf+1) X.A)(B:Bool){G:yA}{sh:ai}{W:St}{H:Hp}{x y:V}{v u:Value}{C:Nat->Addr}{st a2:kQ}{a b:kR}{z:Bool}
  (I:Inv X G W H sh) (J:RelV x v) (ry:RelV y u) (R:Rp Γ C H st) (ha:RV Γ C H a x) (hb:RV Γ C H b y) (h:mH a b st=.ok z a2) :
  a2=st/\∀ Q:Value->ai->Prop,(∀ a3,Inv X G W H a3->Q (.bool (if B then !z else z)) a3)->wpAny (model X.prog X.w) X.A (cJ (if B then .NotIn else .In) v u) Q X.xe sh:=by
 unfold mH at h
 cases b with
 | tup l =>
  simp only at h
  cases e:lP st a l with
  | none=>rw[e]at h;cases h
  | some w =>
   rw[e]at h
   cases h
   obtain⟨p,ys,rfl,q,d⟩:=hb.tupE
   cases ry
   rw[<-hK]at q
   obtain⟨its,rv,t,_⟩:=I.tuple q
   obtain⟨f,h1,h2⟩:=bv6 I hK R ha J d rv e (A:=X.A.in1) hr.in1
   refine⟨rfl,λ Q hq=>?_⟩
   cases B with
   | false=>exact SeqAt.in_tupleAt f t h1 (by rw[h2];exact hq _ I)
   | true=>exact SeqAt.notIn_tupleAt f t h1 (by rw[h2];exact hq _ I)
 | str y0 =>
  simp only at h
  split at h
  case h_2=>exact fb h
  rename_i c
  cases h
  refine⟨rfl,λ Q hq=>?_⟩
  have e1:=ha.strE
  have e2:=hb.strE
  subst e1 e2
  obtain⟨t1,rfl⟩:=J
  obtain⟨t2,rfl⟩:=ry
  have a1:=kh (⟨y0.toArray⟩:Str) c
  cases B with
  | false=>exact in_str (by rw[show(⟨[c].toArray⟩:Str)=⟨#[c]⟩from rfl,a1];simpa using hq _ I)
  | true=>exact notIn_str (by rw[show(⟨[c].toArray⟩:Str)=⟨#[c]⟩from rfl,a1];simpa using hq _ I)
 | ref r =>
  simp only at h
  cases hs:st[r]? with
  | none=>rw[hs]at h;cases h
  | some o =>
   rw[hs]at h
   cases o with
   | lst l =>
    simp only at h
    cases e:lP st a l with
    | none=>rw[e]at h;cases h
    | some w =>
     rw[e]at h
     cases h
     obtain⟨ys,e1,d⟩:=R.addr hs
     have Z:=hb.refE;subst Z
     cases ry
     obtain⟨its,rv,t,_⟩:=I.list (SqL.of e1)
     obtain⟨f,h1,h2⟩:=bv6 I hK R ha J d rv e (A:=X.A.in1) hr.in1
     refine⟨rfl,λ Q hq=>?_⟩
     cases B with
     | false=>exact SeqAt.in_listAt f t.isList h1 (by rw[h2];exact hq _ I)
     | true=>exact SeqAt.notIn_listAt f t.isList h1 (by rw[h2];exact hq _ I)
   | dic l =>
    simp only at h
    split at h
    case isFalse=>exact fb h
    rename_i F
    cases h
    obtain⟨k,hk⟩:=ap7 F
    obtain⟨Y,e1,d⟩:=R.obj r _ hs
    have Z:=hb.refE;subst Z
    cases ry
    have ex:=aN5 hk ha;subst ex
    have ez:(lC a l).isSome=(aH9 Y k).isSome:=by
     rcases d.val keyOf_inj hk with⟨q1,q2⟩|⟨_,_,q1,q2,_⟩<;>rw[q1,q2]<;>rfl
    refine⟨rfl,λ Q hq=>?_⟩
    rw[ez]at hq
    cases B with
    | false=>exact cp6 (at9 hr) I (aH8.k e1) J hq
    | true=>exact bc3 (at9 hr) I (aH8.k e1) J hq
   | dit l =>
    simp only at h
    split at h
    case isFalse=>exact fb h
    rename_i F
    cases h
    obtain⟨k,hk⟩:=an2 F
    obtain⟨Y,e1,d⟩:=R.obj r _ hs
    have Z:=hb.refE;subst Z
    cases ry
    obtain⟨kb,ex,a0⟩:=az6 hk ha;subst ex
    have ez:(lC a l).isSome=(aH9 Y k).isSome:=by
     rcases d.val keyT_inj hk with⟨q1,q2⟩|⟨_,_,q1,q2,_⟩<;>rw[q1,q2]<;>rfl
    refine⟨rfl,λ Q hq=>?_⟩
    rw[ez]at hq
    cases B with
    | false=>exact cp6 (at9 hr) I (aH8.t e1 a0) J hq
    | true=>exact bc3 (at9 hr) I (aH8.t e1 a0) J hq
   | ro l=>exact fb h
   | ins c l=>exact fb h
 | _=>exact fb h
theorem bX2 {a b d:kR}{st B:kQ}(h:DV.zK .le a b st=.ok d B):∃ i j,a=.int i/\b=.int j:=by
 cases a with
 | int i =>
  (cases b with
  | int j=>exact⟨i,j,rfl,rfl⟩
  | _=>exact fb h)
 | _=>exact fb h
theorem aG0 {a:kR}{i:Int}{x:List Nat}(h:DV.bm2 a=some (i,x)):a=.tup [.int i,.str x]:=by
 unfold DV.bm2 at h
 split at h
 .cases h;rfl
 .cases h
theorem br4 {f:Int->List Nat->Int->List Nat->Bool}{a b d:kR}{st B:kQ}(h:DV.bL5 f a b st=.ok d B):∃ i x j y,a=.tup [.int i,.str x]/\b=.tup [.int j,.str y]:=by
 unfold DV.bL5 at h
 split at h
 .rename_i i x j y e1 e2
  exact⟨i,x,j,y,aG0 e1,aG0 e2⟩
 .exact fb h
theorem ord_inv {op:mF}{a b d:kR}{st B:kQ}(ho:op=.lt\/op=.gt\/op=.ge)(h:DV.zK op a b st=.ok d B):(∃ i j,a=.int i/\b=.int j)\/∃ i x j y,a=.tup [.int i,.str x]/\b=.tup [.int j,.str y]:=by
 rcases ho with rfl|rfl|rfl <;>
 (cases a with
 | int i =>
  (cases b with
  | int j=>exact .inl ⟨i,j,rfl,rfl⟩
  | _=>exact fb h)
 | tup l =>
  (cases b with
  | tup m=>first|exact .inr (br4 h)|exact fb h
  | _=>exact fb h)
 | _=>exact fb h)
section
variable {pins:yA} {sh:ai} {W:St} {H:Hp} {C:Nat->Addr} {st:kQ}
theorem az0 (I:Inv X pins W H sh)(hK:X.K=Γ.K){i:Int}{x:List Nat}{F:V}{v:Value}(ha:RV Γ C H (.tup [.int i,.str x]) F)(J:RelV F v):∃ p h B,v=.ref p/\sh.heap.IsTuple p #[.int i h,.str ⟨x.toArray⟩ B]:=by
 obtain⟨p,ys,rfl,q,d⟩:=ha.tupE
 cases J
 rw[<-hK]at q
 obtain⟨its,G,t,_⟩:=I.tuple q
 obtain⟨y1,r1,rfl,d1,d⟩:=d.uncons
 obtain⟨Y,r2,rfl,d2,d⟩:=d.uncons
 have e:=d.unnil
 have e1:=d1.intE
 have e2:=d2.strE
 subst e e1 e2
 obtain⟨Z,u2,rfl,⟨h,rfl⟩,⟨B,rfl⟩⟩:=bI5 G
 exact⟨p,h,B,rfl,t⟩
theorem aZ5 (x y:List Nat):((⟨x.toArray⟩:Str)==(⟨y.toArray⟩:Str))=decide (x=y):=by
 by_cases h:x=y
 .subst h;simp
 .rw[decide_eq_false h]
  refine beq_eq_false_iff_ne.mpr λ e=>h ?_
  have:=congrArg (λ s:Str=>s.cps.toList) e
  simpa using this
theorem ci7 {A:aV}{i j:Int}{x y:List Nat}{p q:Addr}{F G B J:Tok}(hu:A.units<cLine)(Z:sh.heap.IsTuple p #[.int i F,.str ⟨x.toArray⟩ G])(Y:sh.heap.IsTuple q #[.int j B,.str ⟨y.toArray⟩ J]) :
  ap1 .Gt A sh (.ref p) (.ref q) (if i=j then decide (y<x)else decide (j<i)):=by
 have k:=bI3 Z Y hu (fy i F j B) (fz _ G _ J) (r1:=decide (j<i)) (r2:=decide (y<x)) (λ prog w E Q h=>gt_int h) (λ prog w E Q h=>bB3 h)
 rw[aZ5]at k
 have e:(if(i==j)=true then(if decide (x=y)=true then false else decide (y<x))else decide (j<i))=(if i=j then decide (y<x)else decide (j<i)):=by
  by_cases h:i=j
  .subst h
   by_cases h':x=y
   .subst h';simp
   .simp[h']
  .simp[h]
 rw[e]at k
 exact k
theorem ck5 {A:aV}{i j:Int}{x y:List Nat}{p q:Addr}{F G B J:Tok}(hu:A.units<cLine)(Z:sh.heap.IsTuple p #[.int i F,.str ⟨x.toArray⟩ G])(Y:sh.heap.IsTuple q #[.int j B,.str ⟨y.toArray⟩ J]) :
  ap1 .GtE A sh (.ref p) (.ref q) (if i=j then !decide (x<y)else decide (j<=i)):=by
 have k:=bz7 Z Y hu (fy i F j B) (fz _ G _ J) (r1:=decide (j<=i)) (r2:=!decide (x<y)) (λ prog w E Q h=>ge_int h) (λ prog w E Q h=>bI8 h)
 rw[aZ5]at k
 have e:(if(i==j)=true then(if decide (x=y)=true then true else !decide (x<y))else decide (j<=i))=(if i=j then !decide (x<y)else decide (j<=i)):=by
  by_cases h:i=j
  .subst h
   by_cases h':x=y
   .subst h';simp
   .simp[h']
  .simp[h]
 rw[e]at k
 exact k
end
theorem bY0 (hK:X.K=Γ.K)(hr:Room (lf+1) X.A)(op:mF):OpR X (cJ (bD0 op)) (rOp Γ (DV.zK op)):=by
 intro F s W H x y v u Q I J G h
 obtain⟨C,st,a,b,d,Y,R,ha,hb,na,nb,B,q⟩:=h
 cases op with
 | eq =>
  have B:DV.eqM a b st=.ok d Y:=B
  unfold DV.eqM at B
  cases e:k8 st lf a b with
  | none=>rw[e]at B;cases B
  | some z =>
   rw[e]at B;cases B
   exact(bg3 I hK R _ a b x y v u X.A z e ha hb J G (hr.mono (by omega))).2.rc X.prog X.w X.xe _ ⟨.bl z,H,I,rfl,q.here R rfl RV.blI⟩
 | ne =>
  have B:(match k8 st lf a b with|some r=>.ok (.bl (!r)) st|none=>.bad:kU kR)=.ok d Y:=B
  cases e:k8 st lf a b with
  | none=>rw[e]at B;cases B
  | some z =>
   rw[e]at B;cases B
   exact(bg3 I hK R _ a b x y v u X.A z e ha hb J G (hr.mono (by omega))).2.ne X.prog X.w X.xe _ ⟨.bl (!z),H,I,rfl,q.here R rfl RV.blI⟩
 | lt =>
  rcases ord_inv (.inl rfl) B with⟨i,j,rfl,rfl⟩|⟨i,x0,j,y0,rfl,rfl⟩
  .cases B
   have ex:=ha.intE;have Z:=hb.intE;subst ex;subst Z
   exact cg1 F s W H _ _ v u Q I J G ⟨_,_,rfl,rfl,q.here R rfl RV.blI⟩
  .exact fb B
 | le =>
  obtain⟨i,j,rfl,rfl⟩:=bX2 B
  cases B
  have ex:=ha.intE;have Z:=hb.intE;subst ex;subst Z
  exact cl3 F s W H _ _ v u Q I J G ⟨_,_,rfl,rfl,q.here R rfl RV.blI⟩
 | gt =>
  rcases ord_inv (.inr (.inl rfl)) B with⟨i,j,rfl,rfl⟩|⟨i,x0,j,y0,rfl,rfl⟩
  .cases B
   have ex:=ha.intE;have Z:=hb.intE;subst ex;subst Z
   exact ch1 F s W H _ _ v u Q I J G ⟨_,_,rfl,rfl,q.here R rfl RV.blI⟩
  .cases B
   obtain⟨p1,t1,t2,rfl,h1⟩:=az0 I hK ha J
   obtain⟨p2,u1,u2,rfl,h2⟩:=az0 I hK hb G
   exact ci7 hr.units0 h1 h2 X.prog X.w X.xe _ ⟨.bl _,H,I,rfl,q.here R rfl RV.blI⟩
 | ge =>
  rcases ord_inv (.inr (.inr rfl)) B with⟨i,j,rfl,rfl⟩|⟨i,x0,j,y0,rfl,rfl⟩
  .cases B
   have ex:=ha.intE;have Z:=hb.intE;subst ex;subst Z
   exact cm9 F s W H _ _ v u Q I J G ⟨_,_,rfl,rfl,q.here R rfl RV.blI⟩
  .cases B
   obtain⟨p1,t1,t2,rfl,h1⟩:=az0 I hK ha J
   obtain⟨p2,u1,u2,rfl,h2⟩:=az0 I hK hb G
   exact ck5 hr.units0 h1 h2 X.prog X.w X.xe _ ⟨.bl _,H,I,rfl,q.here R rfl RV.blI⟩
 | isin =>
  have B:(mH a b st).bind (λ r s=>.ok (.bl r) s)=.ok d Y:=B
  obtain⟨z,s1,e1,e2⟩:=ac9 B
  obtain⟨rfl,w⟩:=bt8 hK hr false I J G R ha hb e1
  cases e2
  exact w _ λ s' I'=>⟨.bl z,H,I',rfl,q.here R rfl RV.blI⟩
 | notin =>
  have B:(mH a b st).bind (λ r s=>.ok (.bl (!r)) s)=.ok d Y:=B
  obtain⟨z,s1,e1,e2⟩:=ac9 B
  obtain⟨rfl,w⟩:=bt8 hK hr true I J G R ha hb e1
  cases e2
  exact w _ λ s' I'=>⟨.bl (!z),H,I',rfl,q.here R rfl RV.blI⟩
theorem bd8 {C:Nat->Addr}{H:Hp}{l:List kR}{B:List V}{i:Int}{d:kR}(h:RVL Γ C H l B)(e:((lQ l.length i).bind λ j=>l[j]?)=some d):∃ v,atI B i=some v/\RV Γ C H d v:=by
 cases hj:lQ l.length i with
 | none=>rw[hj]at e;cases e
 | some j =>
  rw[hj]at e
  obtain⟨v,e1,e2⟩:=h.get (show l[j]?=some d from e)
  refine⟨v,?_,e2⟩
  unfold atI
  have:ixN B.length i=some j:=by rw[h.length];exact hj
  rw[this];exact e1
theorem aI6 {l:List kR}{i:Int}{d:kR}(e:((lQ l.length i).bind λ j=>l[j]?)=some d):d∈l:=by
 cases hj:lQ l.length i with
 | none=>rw[hj]at e;cases e
 | some j=>rw[hj]at e;exact aR (show l[j]?=some d from e)
theorem cg4 (hK:X.K=Γ.K)(hu:X.A.units+2<cLine):IxR X (rOp Γ DV.ixM):=by
 intro F G J s W H x y v u Q I rx ry h hs
 obtain⟨C,st,a,b,d,a3,R,ha,hb,na,nb,B,q⟩:=h
 unfold DV.ixM at B
 cases a with
 | tup l =>
  cases b with
  | int i =>
   simp only at B
   split at B
   .rename_i d' e
    cases B
    obtain⟨p,xs,rfl,h1,d1⟩:=ha.tupE
    have Y:=hb.intE;subst Y
    obtain⟨w,e1,e2⟩:=bd8 d1 e
    unfold kX at na
    exact bF0 hK F G J s W H _ _ v u Q I rx ry ⟨p,xs,i,w,rfl,rfl,h1,e1,q.here R (ah4.mp na _ (aI6 e)) e2⟩ hs
   .exact fb B
  | _=>exact fb B
 | str l =>
  cases b with
  | int i =>
   simp only at B
   split at B
   .rename_i c e
    cases B
    have hl:=ha.strL
    have ex:=ha.strE;have Y:=hb.intE;subst ex;subst Y
    exact ix_str F G J s W H _ _ v u Q I rx ry ⟨⟨l.toArray⟩,i,c,rfl,rfl,by show l.toArray.size<=_;rw[aB];exact av hl zJ,e,q.here R rfl (RV.strI (by simp;decide))⟩ hs
   .exact fb B
  | _=>exact fb B
 | ref r =>
  have ex:=ha.refE;subst ex
  simp only at B
  cases hsr:st[r]? with
  | none=>rw[hsr]at B;cases B
  | some o =>
   rw[hsr]at B
   cases o with
   | lst l =>
    cases b with
    | int i =>
     simp only at B
     split at B
     .rename_i d' e
      cases B
      have Y:=hb.intE;subst Y
      obtain⟨xs,e1,d1⟩:=R.addr hsr
      obtain⟨w,e2,e3⟩:=bd8 d1 e
      have wf:=R.wf _ _ hsr
      unfold kY at wf
      exact aR1 hK F G J s W H _ _ v u Q I rx ry ⟨C r,xs,i,w,rfl,rfl,SqL.of e1,e2,q.here R (ah4.mp wf _ (aI6 e)) e3⟩ hs
     .exact fb B
    | _=>exact fb B
   | ro l =>
    cases b with
    | int i =>
     simp only at B
     split at B
     .rename_i d' e
      cases B
      have Y:=hb.intE;subst Y
      obtain⟨xs,e1,d1⟩:=R.obj _ _ hsr
      obtain⟨w,e2,e3⟩:=bd8 d1 e
      have wf:=R.wf _ _ hsr
      unfold kY at wf
      exact aR1 hK F G J s W H _ _ v u Q I rx ry ⟨C r,xs,i,w,rfl,rfl,e1.1,e2,q.here R (ah4.mp wf _ (aI6 e)) e3⟩ hs
     .exact fb B
    | _=>exact fb B
   | dic l =>
    simp only at B
    split at B
    case isFalse=>exact fb B
    rename_i Z
    obtain⟨k,hk⟩:=ap7 Z
    obtain⟨a2,e1,d1⟩:=R.obj r _ hsr
    have Y:=aN5 hk hb;subst Y
    cases rx
    rcases d1.val keyOf_inj hk with⟨q1,_⟩|⟨e,v',q1,q2,q3,q4⟩
    .rw[q1]at B;cases B
    .rw[q1]at B
     cases B
     have wf:=R.wf _ _ hsr
     unfold kY at wf
     rw[ao]at wf
     have g:aH8 H (C r) (kV k) (some v'):=by rw[<-q2];exact aH8.k e1
     exact jT (aq9 I g) fB.lookup (aG5 hu I g ry λ w' s' I' a0=>⟨v',H,I',a0,q.here R (ah4.mp wf.2 _ q4) q3⟩) hs
   | dit l =>
    simp only at B
    split at B
    case isFalse=>exact fb B
    rename_i Z
    obtain⟨k,hk⟩:=an2 Z
    obtain⟨a2,e1,d1⟩:=R.obj r _ hsr
    obtain⟨kb,Y,a1⟩:=az6 hk hb;subst Y
    cases rx
    rcases d1.val keyT_inj hk with⟨q1,_⟩|⟨e,v',q1,q2,q3,q4⟩
    .rw[q1]at B;cases B
    .rw[q1]at B
     cases B
     have wf:=R.wf _ _ hsr
     unfold kY at wf
     rw[ao]at wf
     have g:aH8 H (C r) (.ref kb) (some v'):=by rw[<-q2];exact aH8.t e1 a1
     exact jT (aq9 I g) fB.lookup (aG5 hu I g ry λ w' s' I' a0=>⟨v',H,I',a0,q.here R (ah4.mp wf.2 _ q4) q3⟩) hs
   | ins c l=>cases b<;>cases B
 | _=>cases b<;>cases B
theorem ba8 (n d:Nat)(i:Int):HT.sIx n d (some i)=lL n i:=by
 show(if i<0 then(i+(n:Int)).toNat else min i.toNat n)=_
 unfold lL
 by_cases h:i<0
 .rw[if_pos h,if_neg (by omega)]
 .rw[if_neg h,if_pos (by omega)]
theorem bv7 {C:Nat->Addr}{H:Hp}{l:List kR}{F:List V}(h:RVL Γ C H l F)(B G:Option Int):RVL Γ C H (lz l B G) (aW7 F B G):=by
 unfold lz aW7
 have e1:HT.sIx F.length 0 B=lO l.length B:=by
  cases B with
  | none=>rfl
  | some i=>rw[ba8,h.length];rfl
 have e2:HT.sIx F.length F.length G=l6 l.length G:=by
  cases G with
  | none=>exact h.length
  | some i=>rw[ba8,h.length];rfl
 rw[e1,e2]
 exact(h.drop _).take _
theorem aQ8 {α:Type}{l:List α}{h B:Option Int}:∀ d∈lz l h B,d∈l:=λ d hd=>List.mem_of_mem_drop (List.mem_of_mem_take hd)
theorem bl4 {α:Type}(l:List α)(h B:Option Int):(lz l h B).length<=l.length:=by
 unfold lz
 rw[bD,eG]
 omega
theorem cj1 (B F:Option Int)(n:Nat):bC B F 1 n=(a8 (l6 n F - lO n B)).map (lO n B+·):=by
 rw[<-sliceRange_one]
 unfold bC
 have cl:∀ i:Int,max 0 (min (if i<0 then i+(n:Int)else i) (n:Int))=((lL n i:Nat):Int):=λ i=>by
  unfold lL
  by_cases h:i<0
  .rw[if_pos h,if_neg (by omega)];omega
  .rw[if_neg h,if_pos (by omega)];omega
 simp only[show((1:Int) > 0)=True by simp,if_true]
 cases B<;>cases F<;>simp only[cl,lO,l6]<;>rfl
theorem aN9 {l:List Nat}:∀(a k:Nat),a+k<=l.length->((a8 k).map (a+·)).filterMap (λ x=>l.toArray[x]?)=(l.drop a).take k
 | a,0,_=>by simp
 | a,k+1,h=>by
  rw[List.range_succ,bN,List.filterMap_append,aN9 a k (by omega)]
  have hk:a+k<l.length:=by omega
  rw[List.take_add_one,List.getElem?_drop]
  simp[hk]
theorem bc1 (l:List Nat)(h B:Option Int):eX ⟨l.toArray⟩ h B=⟨(lz l h B).toArray⟩:=by
 unfold eX
 have hn:(⟨l.toArray⟩:Str).length=l.length:=by show l.toArray.size=_;simp
 rw[hn,cj1]
 have hb:l6 l.length B<=l.length:=by
  cases B with
  | none=>exact aw _
  | some i=>show lL l.length i<=_;unfold lL;split<;>omega
 have ha:lO l.length h<=l.length:=by
  cases h with
  | none=>exact b9 _
  | some i=>show lL l.length i<=_;unfold lL;split<;>omega
 unfold lz
 generalize l6 l.length B=b at *
 generalize lO l.length h=a at *
 by_cases hc:((1:Int)==1&&((a8 (b - a)).map (a+·)).length==l.length)=true
 .rw[if_pos hc]
  have:b - a=l.length:=by simpa using hc
  have h0:a=0\/l.length=0:=by omega
  rcases h0 with h0|h0
  .subst h0
   rw[this];simp
  .have:l=[]:=bU.mp h0
   subst this;simp
 .rw[if_neg hc]
  by_cases hab:a<=b
  .have e:=aN9 (l:=l) a (b - a) (by omega)
   show(⟨(g6 (λ x=>l.toArray[x]?) _).toArray⟩:Str)=_
   rw[e]
  .rw[show b - a=0 by omega];simp
def rSl (Γ:Gm):V->Option Int->Option Int->Hp->VK->Prop:=λ x lo hi H Q=>∃ C s a d s',Rp Γ C H s/\RV Γ C H a x/\a.bnd s.length=true/\l7 a lo hi s=.ok d s'/\ak4 Γ C s H d s' Q
theorem cf4 (hK:X.K=Γ.K):SlR X (rSl Γ):=by
 intro B s W H x v vl vu J G sl Q I Z hs pl pu h
 obtain⟨C,st,a,d,a0,R,ha,na,F,q⟩:=h
 unfold l7 at F
 cases a with
 | tup l =>
  cases F
  obtain⟨p,Y,⟨rfl,z1⟩,h1,d1⟩:=ha.tupZ
  unfold kX at na
  refine bE8 hK B s W H _ v vl vu J G sl Q I Z hs pl pu ⟨p,Y,rfl,h1,λ t H' e ht hn=>?_⟩
  obtain⟨g,r'⟩:=R.same e
  have d2:=bv7 (RVL.mono g _ _ na d1) J G
  refine q _ _ _ g (aw _) (by unfold kX;exact az4 na aQ8) (RV.tupC ht (λ z=>?_) d2) r'
  rcases hn with hn|⟨rfl,ex⟩
  .exact hn
  .rw[ex]
   refine e _ _ (z1 ?_)
   have hl:(lz l J G).length=l.length:=by rw[<-d2.length,ex,d1.length]
   rwa [bd9 hl]at z
 | str l =>
  cases F
  have hl:=ha.strL
  have ex:=ha.strE;subst ex
  refine bO0 B s W H _ v vl vu J G sl Q I Z hs pl pu ⟨_,rfl,by show l.toArray.size<=_;rw[aB];exact av hl zJ,?_⟩
  rw[bc1]
  exact q.here R rfl (RV.strI (av (bl4 l J G) hl))
 | ref r =>
  have ex:=ha.refE;subst ex
  simp only at F
  cases hsr:st[r]? with
  | none=>rw[hsr]at F;cases F
  | some o =>
   rw[hsr]at F
   cases o with
   | lst l =>
    obtain⟨rfl,rfl⟩:=zR F
    obtain⟨Y,e1,d1⟩:=R.addr hsr
    have wf:=R.wf _ _ hsr
    unfold kY at wf
    exact br3 hK B s W H _ v vl vu J G sl Q I Z hs pl pu ⟨C r,Y,rfl,SqL.of e1,λ p hp=>q.alloc R (bv7 d1 J G) (az4 wf aQ8) hp⟩
   | _=>exact fb F
 | _=>exact fb F
variable {Γ:Gm} {X:Cx}
def rCl (Γ:Gm)(f:List kR->kQ->kU kR):List V->Hp->VK->Prop:=λ xs H Q=>∃ C s l d s',Rp Γ C H s/\RVL Γ C H l xs/\kT s.length l=true/\f l s=.ok d s'/\ak4 Γ C s H d s' Q
theorem RVL.one {C:Nat->Addr}{H:Hp}{d:kR}{B:List V}(h:RVL Γ C H [d] B):∃ x,B=[x]/\RV Γ C H d x:=by
 obtain⟨x,r,rfl,F,G⟩:=h.uncons
 rw[G.unnil];exact⟨x,rfl,F⟩
noncomputable def biN:lI->Option (String×Nat)
 | .len=>some ("len",1)|.abs=>some ("abs",1)|.min2=>some ("min",2)|_=>none
theorem qe:∀ {l:List kR} {is:List Int},lT l=some is->l=is.map DV.D.int
 | [],is,h=>by unfold lT at h;cases h;rfl
 | d::l,is,h=>by
  cases d with
  | int i =>
   have h:(lT l).map (i::·)=some is:=h
   cases e:lT l with
   | none=>rw[e]at h;cases h
   | some m=>rw[e]at h;cases h;rw[qe e];rfl
  | _=>cases h
theorem aF0:∀ {l:List kR} {is:List Bool},l8 l=some is->l=is.map DV.D.bl
 | [],is,h=>by unfold l8 at h;cases h;rfl
 | d::l,is,h=>by
  cases d with
  | bl i =>
   have h:(l8 l).map (i::·)=some is:=h
   cases e:l8 l with
   | none=>rw[e]at h;cases h
   | some m=>rw[e]at h;cases h;rw[aF0 e];rfl
  | _=>cases h
theorem RVL.ints {C:Nat->Addr}{H:Hp}:∀ {is:List Int} {B:List V},RVL Γ C H (is.map DV.D.int) B->B=is.map V.int
 | [],_,h=>h.unnil
 | i::is,_,h=>by
  obtain⟨x,r,rfl,F,G⟩:=RVL.uncons h
  rw[F.intE,RVL.ints G];rfl
theorem RVL.bls {C:Nat->Addr}{H:Hp}:∀ {is:List Bool} {B:List V},RVL Γ C H (is.map DV.D.bl) B->B=is.map V.bl
 | [],_,h=>h.unnil
 | i::is,_,h=>by
  obtain⟨x,r,rfl,F,G⟩:=RVL.uncons h
  rw[F.blE,RVL.bls G];rfl
theorem bh3 {f:kR->lZ kR}{l:List kR}{s s':kQ}{d:kR}(h:mJ f l s=.ok d s'):∃ a,l=[a]/\f a s=.ok d s':=by
 match l,h with
 | [a],h=>exact⟨a,rfl,h⟩
 | [],h=>exact fb h
 | _::_::_,h=>exact fb h
theorem bD5 (hK:X.K=Γ.K)(hc:X.calm=true){b:lI}{nm:String}{k:Nat}(hn:biN b=some (nm,k)):aj3 X (.builtin nm) (rCl Γ (mq b)):=by
 intro B s W H Z us Q I r h
 obtain⟨C,st,l,d,G,R,hl,nl,F,q⟩:=h
 cases b with
 | len =>
  cases hn
  have F:mJ DV.bD9 l st=.ok d G:=F
  obtain⟨a,rfl,hg⟩:=bh3 F
  clear F
  obtain⟨x,rfl,hx⟩:=hl.one
  unfold DV.bD9 at hg
  cases a with
  | tup l =>
   cases hg
   obtain⟨p,ys,rfl,Y,d1⟩:=hx.tupE
   refine at0 hK B s W H _ us Q I r ⟨p,ys,rfl,.inr Y,?_⟩
   rw[d1.length];exact q.here R rfl RV.intI
  | str l =>
   cases hg
   have J:=hx.strL
   have e:=hx.strE;subst e
   refine aD2 B s W H _ us Q I r ⟨_,rfl,by show l.toArray.size<=_;rw[aB];exact av J zJ,?_⟩
   show Q (.int ((l.toArray.size:Nat):Int)) H
   rw[aB]
   exact q.here R rfl RV.intI
  | ref n =>
   have e:=hx.refE;subst e
   simp only at hg
   cases hs:st[n]? with
   | none=>rw[hs]at hg;cases hg
   | some o =>
    rw[hs]at hg
    cases o with
    | lst l =>
     cases hg
     obtain⟨ys,e1,d1⟩:=R.addr hs
     refine at0 hK B s W H _ us Q I r ⟨C n,ys,rfl,.inl (SqL.of e1),?_⟩
     rw[d1.length];exact q.here R rfl RV.intI
    | ro l =>
     cases hg
     obtain⟨ys,e1,d1⟩:=R.obj _ _ hs
     refine at0 hK B s W H _ us Q I r ⟨C n,ys,rfl,.inl e1.1,?_⟩
     rw[d1.length];exact q.here R rfl RV.intI
    | dic l=>exact fb hg
    | dit l=>exact fb hg
    | ins c l=>exact fb hg
  | _=>exact fb hg
 | abs =>
  cases hn
  have F:(match lT l with|some [i]=>.ok (.int (if i<0 then -i else i)) st|_=>.bad:kU kR)=.ok d G:=F
  split at F
  .rename_i i e
   cases F
   have:=qe e;subst this
   have:=RVL.ints hl;subst this
   exact bo0 B s W H _ us Q I r ⟨i,rfl,q.here R rfl RV.intI⟩
  .exact fb F
 | min2 =>
  cases hn
  have F:(match lT l with|some [a,b]=>.ok (.int (if b<a then b else a)) st|_=>.bad:kU kR)=.ok d G:=F
  split at F
  .rename_i a b e
   cases F
   have:=qe e;subst this
   have:=RVL.ints hl;subst this
   exact bf9 hc B s W H _ us Q I r ⟨_,_,rfl,q.here R rfl RV.intI⟩
  .exact fb F
 | _=>cases hn
theorem aN6:∀ j:Nat,j<=9->bH (toString (j:Int))=(⟨[48+j].toArray⟩:Str):=by decide
theorem bT5:aj3 X (.type "int") (rCl Γ (mq .int)):=by
 intro F s W H Y us Q I r h
 obtain⟨C,st,l,d,J,R,hl,Z,B,q⟩:=h
 have B:(match l8 l with|some [b]=>.ok (.int (if b then 1 else 0)) st|some _=>.bad|none=>DV.aS7 l st:kU kR)=.ok d J:=B
 split at B
 .rename_i b e
  cases B
  have:=aF0 e;subst this
  have:=RVL.bls hl;subst this
  exact bg6 F s W H _ us Q I r (.inr ⟨b,rfl,q.here R rfl RV.intI⟩)
 .exact fb B
 .unfold DV.aS7 at B
  split at B
  .rename_i c _ _
   split at B
   .rename_i hc
    cases B
    obtain⟨x,G,rfl,r1,r2⟩:=hl.uncons
    cases(show G=[]from r2)
    have:=r1.strE
    subst this
    obtain⟨u,rfl,t,rfl⟩:=am3 r
    obtain⟨j,hj,rfl⟩:∃ j:Nat,j<=9/\c=48+j:=⟨c - 48,by omega,by omega⟩
    rw[show(⟨[48+j].toArray⟩:Str)=bH (toString (j:Int))from(aN6 j hj).symm]
    refine PySem.W.KIN.call_num (by omega) (by omega) ⟨.int (j:Int),H,I.tok _,⟨_,rfl⟩,?_⟩
    have:=q.here R rfl (RV.intI (i:=((48+j - 48:Nat):Int)))
    rw[show 48+j - 48=j by omega]at this
    exact this
   .exact fb B
  .exact fb B
theorem ca4:aj3 X (.type "str") (rCl Γ (mq .str)):=by
 intro J s W H Z us Q I r h
 obtain⟨C,st,l,d,G,R,hl,Y,B,q⟩:=h
 have B:DV.bc5 l st=.ok d G:=B
 unfold DV.bc5 at B
 split at B
 .rename_i i _
  split at B
  .rename_i hi
   cases B
   obtain⟨x,F,rfl,r1,r2⟩:=hl.uncons
   cases(show F=[]from r2)
   have:=r1.intE
   subst this
   obtain⟨u,rfl,t,rfl⟩:=am3 r
   obtain⟨j,rfl⟩:∃ j:Nat,i=(j:Int):=⟨i.toNat,by omega⟩
   have hj:j<=9:=by omega
   refine PySem.P.str_of_int ?_ ⟨.str ⟨[48+j].toArray⟩,H,I.tok _,⟨s.toks,?_⟩,?_⟩
   .have:(j:Int).natAbs.log2<=(j:Int).natAbs:=Nat.log2_le_self _
    omega
   .rw[<-aN6 j hj]
   .have:=q.here R rfl (RV.strI (x:=[48+(j:Int).toNat]) (by show 1<=k6;decide))
    rw[bZ]at this
    exact this
  .exact fb B
 .rename_i w _
  cases B
  obtain⟨x,F,rfl,r1,r2⟩:=hl.uncons
  cases(show F=[]from r2)
  have e:=r1.strE
  subst e
  obtain⟨u,rfl,t,rfl⟩:=am3 r
  refine PySem.P.str_of_str ⟨.str ⟨w.toArray⟩,H,I,⟨_,rfl⟩,?_⟩
  unfold kT at Y
  exact q.here R rfl r1
 .exact fb B
noncomputable def au5:Nat->String
 | 1 => "int" | 2 => "bool" | 3 => "str" | 4 => "tuple" | _ => "list"
theorem bB4 {K:ah}(k:Nat)(hk:1<=k/\k<=5):bj K (.type "NoneType") (.type (au5 k))=some false/\bj K (.type "bool") (.type (au5 k))=some (k==1||k==2) /\
  bj K (.type "int") (.type (au5 k))=some (k==1)/\bj K (.type "str") (.type (au5 k))=some (k==3)/\bj K (.type "tuple") (.type (au5 k))=some (k==4)/\bj K (.type "list") (.type (au5 k))=some (k==5):=by
 obtain⟨F,B⟩:=hk
 rcases(by omega:k=1\/k=2\/k=3\/k=4\/k=5)with h|h|h|h|h<;>subst h<;>refine⟨?_,?_,?_,?_,?_,?_⟩<;>with_unfolding_all rfl
theorem aT5 {B:yA}{W:St}{H:Hp}{s:ai}{A:aV}{E:Value->ai->Prop}{Q:Value->ai->Prop}{c:Value}{b:Bool}{a:Addr}{F:List V}(I:Inv X B W H s)(J:SqT X.K H a F)(e:bj X.K (.type "tuple") c=some b)
  (h:∀ tk,Q (.bool b) { s with toks:=tk }):wpAny (model X.prog X.w) A (call (.builtin "isinstance") [.ref a,c]) Q E s:=by
 obtain⟨its,_,⟨o,g1,G,_⟩,_⟩:=I.tuple J
 exact bK iL I.kIn ⟨o,g1,G⟩ e (λ z=>nomatch z) h
theorem bY3 (hK:X.K=Γ.K){k:Nat}(hk:1<=k/\k<=5):aj3 X (.builtin "isinstance") (λ F H Q=>∃ x,F=[x,.ty (au5 k)]/\rCl Γ (mJ (mR k)) [x] H Q):=by
 intro G s W H F us Q I r h
 obtain⟨x,rfl,C,st,l,d,B,R,hl,nl,J,q⟩:=h
 obtain⟨a,rfl,hg⟩:=bh3 J
 clear J
 obtain⟨u,w',rfl,r1,r2⟩:=bI5 r
 cases r2
 obtain⟨x',e',hx⟩:=hl.one
 cases e'
 obtain⟨k0,k1,k2,k3,Z,k5⟩:=bB4 (K:=X.K) k hk
 unfold mR at hg
 cases a with
 | non=>cases hg;have e:=hx.nonE;subst e;exact qz I r1 .non k0 λ tk=>⟨.bl _,H,I.tok _,rfl,q.here R rfl RV.blI⟩
 | bl b=>cases hg;have e:=hx.blE;subst e;exact qz I r1 (.bl b) k1 λ tk=>⟨.bl _,H,I.tok _,rfl,q.here R rfl RV.blI⟩
 | int b=>cases hg;have e:=hx.intE;subst e;exact qz I r1 (.int b) k2 λ tk=>⟨.bl _,H,I.tok _,rfl,q.here R rfl RV.blI⟩
 | str b=>cases hg;have e:=hx.strE;subst e;exact qz I r1 (.str _) k3 λ tk=>⟨.bl _,H,I.tok _,rfl,q.here R rfl RV.blI⟩
 | tup l =>
  cases hg
  obtain⟨p,ys,rfl,Y,d1⟩:=hx.tupE
  cases r1
  rw[<-hK]at Y
  exact aT5 I Y Z λ tk=>⟨.bl _,H,I.tok _,rfl,q.here R rfl RV.blI⟩
 | ref n =>
  have e:=hx.refE;subst e
  have hg:(match st[n]? with|some (.lst _)=>.ok (.bl (k==5)) st|_=>.bad:kU kR)=.ok d B:=hg
  cases hs:st[n]? with
  | none=>rw[hs]at hg;cases hg
  | some o =>
   rw[hs]at hg
   cases o with
   | lst l =>
    cases hg
    obtain⟨ys,e1,d1⟩:=R.addr hs
    exact qz I r1 (.lst e1) k5 λ tk=>⟨.bl _,H,I.tok _,rfl,q.here R rfl RV.blI⟩
   | _=>exact fb hg
 | _=>exact fb hg
variable {X:Cx}
noncomputable def sgV (x:List Nat):List V:=x.map λ c=>.str ⟨#[c]⟩
theorem bA4 {vs:List V}{B:yG}(hl:vs.length=B.length)(h:∀(i:Nat) (x:V) (u:Value),vs[i]?=some x->B[i]?=some u->RelV x u):Vals vs B:=by
 induction vs generalizing B with
 | nil=>cases B with
  | nil=>exact .nil
  | cons _ _=>cases hl
 | cons v vs ih=>cases B with
  | nil=>cases hl
  | cons a B=>exact .cons (h 0 v a rfl rfl) (ih (by simpa using hl) λ i x u e1 e2=>h (i+1) x u e1 e2)
theorem aw1 {x:List Nat}{B:yJ}(h:ItemsOf (SignAt ⟨x.toArray⟩) B x.length):Vals (sgV x) B.toList:=by
 have hl:(sgV x).length=B.toList.length:=by unfold sgV;rw[aE];simpa using h.1.symm
 refine bA4 hl λ i v u e1 e2=>?_
 obtain⟨c,t,F,G⟩:=h.2 i u (by rw[<-Array.getElem?_toList];exact e2)
 unfold sgV at e1
 rw[aS]at e1
 have F:x[i]?=some c:=by simpa using F
 rw[F]at e1
 cases e1
 exact⟨t,G⟩
theorem aL8 (hc:X.calm=true):aj3 X (.type "tuple") (λ J H Q=>∃ x:List Nat,J=[.str ⟨x.toArray⟩]/\x.length<=k6/\∀ l,H l=none->Q (.ref l) (upd H l (.tup (sgV x)))):=by
 intro B s W H J us Q I r h
 obtain⟨x,rfl,hl,q⟩:=h
 obtain⟨u,rfl,rx⟩:=am3 r
 obtain⟨t,rfl⟩:=rx
 have hz:(sgV x).length<=aN:=by unfold sgV;rw[aE];exact av hl zJ
 refine call_tuple_str (I.ok.hd hc) _ t (λ h' tk F kp G=>?_) (by show x.toArray.size<=_;rw[aB];exact av hl zJ)
 have G:ItemsOf (SignAt ⟨x.toArray⟩) F x.length:=by simpa using G
 have rv:=aw1 G
 have Y:Inv X B W H { s with heap:=h',toks:=tk }:=I.kept (t':=tk) kp
 have Z:Inv X B W (upd H h'.objs.size (.tup (sgV x))) { s with heap:=h'.push { cls:=.type "tuple",data:=.seq F },toks:=tk } :=
  Y.laid (t':=tk) (λ b o e=>az _ e) (aw _) (show ai3 X.prog X.w _ _ _ (.tup (sgV x))from⟨hz,F.toList,rv,jm _ _⟩)
 exact⟨.ref h'.objs.size,_,Z,rfl,q _ (Y.hok.fresh (aw _))⟩
theorem aT2 (hc:X.calm=true):aj3 X (.type "list") (λ G H Q=>∃ x:List Nat,G=[.str ⟨x.toArray⟩]/\x.length<=k6/\∀ l,H l=none->Q (.ref l) (upd H l (.lst (sgV x)))):=by
 intro J s W H G us Q I r h
 obtain⟨x,rfl,hl,q⟩:=h
 obtain⟨u,rfl,Z⟩:=am3 r
 obtain⟨t,rfl⟩:=Z
 have hz:(sgV x).length<=aN:=by unfold sgV;rw[aE];exact av hl zJ
 refine call_list_str (I.ok.hd hc) _ t (λ h' tk B Y kp e F=>?_) (by show x.toArray.size<=_;rw[aB];exact av hl zJ)
 have F:ItemsOf (SignAt ⟨x.toArray⟩) B x.length:=by simpa using F
 have rv:=aw1 F
 exact⟨.ref s.heap.objs.size,_,I.laid (t':=tk) kp (aw _) (show ai3 X.prog X.w _ h' _ (.lst (sgV x))from⟨hz,B.toList,Y,rv,e⟩),rfl,q _ (I.hok.fresh (aw _))⟩
section
variable {Γ:Gm} {C C':Nat->Addr} {H H' H1 H2 H3:Hp} {clos:yB} {s s':kQ}
theorem Gr.put (hc:Cells clos H)(B:∀ b,isC clos b=true->H' b=none)(hK:∀ b o,Γ.K.lookup b=some o->H b=none)(Y:Rp Γ C' H' s')(g:Gr C s (az3 clos H) C' s' H'):Gr C s H C' s' (Put clos H H'):=by
 refine⟨⟨g.w.map,λ b o e f=>?_⟩,g.le,λ i h1 G=>?_,g.kd,λ b e=>?_,λ b o e Z no=>?_⟩
 .by_cases z:isC clos b=true
  .rw[Put.cell z];exact e
  .rw[Put.ne z];exact g.w.kp b o (by rw[az3.ne z];exact e) f
 .have hd:=g.new i h1 G
  by_cases z:isC clos (C' i)=true
  .have hg:=B _ z
   obtain⟨o,J⟩:∃ o,s'[i]?=some o:=⟨s'[i],au G⟩
   have h:=Y.obj i o J
   cases o with
   | lst l=>obtain⟨F,e,_⟩:=h;rw[hg]at e;cases e
   | ro l =>
    obtain⟨F,e,_⟩:=h
    rcases e.1 with(e|⟨_,e⟩)|⟨ob,its,n,e,_⟩
    .rw[hg]at e;cases e
    .rw[hg]at e;cases e
    .exact hK _ _ e
   | dic l=>obtain⟨F,e,_⟩:=h;rw[hg]at e;cases e
   | dit l=>obtain⟨F,e,_⟩:=h;rw[hg]at e;cases e
   | ins _ _=>exact h.elim
  .rw[az3.ne z]at hd;exact hd
 .by_cases z:isC clos b=true
  .rw[Put.cell z];exact e
  .rw[Put.ne z];exact g.st b (by rw[az3.ne z];exact e)
 .by_cases z:isC clos b=true
  .rw[Put.cell z];exact e
  .rw[Put.ne z];exact g.fr b o (by rw[az3.ne z];exact e) Z no
theorem Cells.kp {H H':Hp}(h:Cells clos H)(k:Kp H H'):Cells clos H':=λ x c e=>by
 obtain⟨o,v,q,d⟩:=h x c e
 exact⟨o,v,k _ _ q rfl,d⟩
def PVp (Γ:Gm)(cells:yB)(N:yH)(W:St)(C:Nat->Addr)(H:Hp)(d:kR)(v:V):Prop:=RV Γ C H d v\/∃ id cs,d=.clo id cs/\∃ f J,v=.ref f/\Γ.lg id J/\aE2 H f J (au3 cells J.scope.names []) /\
  cs.length=J.fr.length/\(∀ x,J.scope.names.lookup x=some .free->∃ c,cells.lookup x=some c) /\
  ∃ cap,RVL Γ C H cs cap/\∀(i:Nat) (x:Str) (v:V),J.fr[i]?=some x->cap[i]?=some v->J.scope.names.lookup x=some .free/\∃ j:Nat,N[j]?=some x/\W[j]?=some (some v)
inductive PVL (Γ:Gm)(cells:yB)(N:yH)(W:St)(C:Nat->Addr)(H:Hp):List kR->List V->Prop where
 | nil:PVL Γ cells N W C H [] []
 | cons {d v l vs} (a:PVp Γ cells N W C H d v) (b:PVL Γ cells N W C H l vs):PVL Γ cells N W C H (d::l) (v::vs)
theorem PVp.mono {cells:yB}{N:yH}{W:St}{C C':Nat->Addr}{s s':kQ}{H H':Hp}(g:Gr C s H C' s' H'){d:kR}{v:V}(b:d.bnd s.length=true)(h:PVp Γ cells N W C H d v):PVp Γ cells N W C' H' d v:=by
 rcases h with h|⟨id,B,rfl,h⟩
 .exact .inl (RV.mono g _ _ b h)
 .obtain⟨f,J,e,h1,F,Z,G,cap,Y,h7⟩:=h
  unfold kX at b
  exact .inr ⟨id,B,rfl,f,J,e,h1,F.kp g.w.kp,Z,G,cap,RVL.mono g B cap b Y,h7⟩
end
variable {Γ:Gm} {X:Cx}
def TEv (Γ:Gm)(m:kS->kQ->kU kR):TE:=λ W H Q=>∃ C U s d s',RE Γ C H s.length U W/\Rp Γ C H s/\m U s=.ok d s'/\ak4 Γ C s H d s' Q
def bW5 (Γ:Gm)(C:Nat->Addr)(s:kQ)(H:Hp)(l:List kR)(s':kQ)(Q:List V->Hp->Prop):Prop :=
 ∀ vs C' H',Gr C s H C' s' H'->s.length<=s'.length->kT s'.length l=true->RVL Γ C' H' l vs->Rp Γ C' H' s'->Q vs H'
def TAv (Γ:Gm)(m:kS->kQ->kU (List kR)):TA:=λ W H Q=>∃ C U s l s',RE Γ C H s.length U W/\Rp Γ C H s/\m U s=.ok l s'/\bW5 Γ C s H l s' Q
def aO2 (Γ:Gm)(C:Nat->Addr)(s:kQ)(H:Hp)(b:Bool)(s':kQ)(Q:Bool->Hp->Prop):Prop :=
 ∀ C' H',Gr C s H C' s' H'->s.length<=s'.length->Rp Γ C' H' s'->Q b H'
def TTv (Γ:Gm)(m:kS->kQ->kU kR):TT:=λ W H Q=>∃ C U s b s',RE Γ C H s.length U W/\Rp Γ C H s/\m U s=.ok (.bl b) s'/\aO2 Γ C s H b s' Q
theorem PE.imp {e:Expr}{t t':TE}(h:PE X e t)(i:∀ W H Q,t' W H Q->t W H Q):PE X e t':=λ B s W H Q I q=>h B s W H Q I (i W H Q q)
theorem PT.imp {e:Expr}{t t':TT}(h:PT X e t)(i:∀ W H Q,t' W H Q->t W H Q):PT X e t':=λ B s W H Q I q=>h B s W H Q I (i W H Q q)
theorem PA.imp {e:yK}{t t':TA}(h:PA X e t)(i:∀ W H Q,t' W H Q->t W H Q):PA X e t':=λ pos B s W H Q I q=>h pos B s W H Q I (i W H Q q)
theorem aO2.trans {C C1:Nat->Addr}{s s1 s':kQ}{H B:Hp}{b:Bool}{Q:Bool->Hp->Prop}(h:aO2 Γ C s H b s' Q)(g:Gr C s H C1 s1 B)(l:s.length<=s1.length):aO2 Γ C1 s1 B b s' Q :=
 λ C' H' g' F p=>h C' H' (g.trans g' l) (av l F) p
theorem bW7 (i:Nat){W:St}{H:Hp}{Q:VK}(h:TEv Γ (λ U s=>mK U i s) W H Q):cp1 i W H Q:=by
 obtain⟨C,U,s,d,s',E,R,hm,q⟩:=h
 simp only[mK]at hm
 split at hm
 .rename_i d' e
  cases hm
  obtain⟨b,v,e1,e2⟩:=E.val i _ e
  exact⟨v,e1,q.here R b e2⟩
 .exact fb hm
theorem aC5 {c:kR}{v:V}(hb:∀ n,c.bnd n=true)(hv:∀ C H,RV Γ C H c v){W:St}{H:Hp}{Q:VK}(h:TEv Γ (λ U s=>.ok c s) W H Q):tC v W H Q:=by
 obtain⟨C,U,s,d,s',E,R,hm,q⟩:=h
 cases hm
 exact q.here R (hb _) (hv _ _)
theorem bj9 {Y J:kS->kQ->kU kR}{f:kR->kR->kQ->kU kR}{W:St}{H:Hp}{Q:VK}(h:TEv Γ (λ U s=>(Y U s).bind λ x s=>(J U s).bind λ y s=>f x y s) W H Q):tOp (rOp Γ f) (TEv Γ Y) (TEv Γ J) W H Q:=by
 obtain⟨C,U,s,d,s',E,R,hm,q⟩:=h
 obtain⟨x,s1,e1,hm⟩:=ac9 hm
 obtain⟨y,s2,e2,hm⟩:=ac9 hm
 refine⟨C,U,s,x,s1,E,R,e1,λ v1 C1 H1 g1 l1 G r1 R1=>?_⟩
 refine⟨C1,U,s1,y,s2,E.mono g1 l1,R1,e2,λ v2 C2 H2 B F Z r2 R2=>?_⟩
 exact⟨C2,s2,x,y,d,s',R2,RV.mono B x v1 G r1,r2,zg F x G,Z,hm,q.trans (g1.trans B l1) (av l1 F)⟩
theorem cn2 {m:kS->kQ->kU kR}{f:kR->kQ->kU kR}{r:V->Hp->VK->Prop}{W:St}{H:Hp}{Q:VK}(h:TEv Γ (λ U s=>(m U s).bind λ x s=>f x s) W H Q)
  (hr:∀ C s x d s' v H',Rp Γ C H' s->RV Γ C H' x v->x.bnd s.length=true->f x s=.ok d s'->ak4 Γ C s H' d s' Q->r v H' Q):tUn r (TEv Γ m) W H Q:=by
 obtain⟨C,U,s,d,s',E,R,hm,q⟩:=h
 obtain⟨x,s1,e1,hm⟩:=ac9 hm
 exact⟨C,U,s,x,s1,E,R,e1,λ v1 C1 B g1 l1 F r1 R1=>hr C1 s1 x d s' v1 B R1 r1 F hm (q.trans g1 l1)⟩
theorem zE {α:Type}{r:kU kR}{f:Bool->kQ->kU α}{a:α}{t:kQ}(h:k9 r f=.ok a t):∃ b s,r=.ok (.bl b) s/\f b s=.ok a t:=by
 unfold k9 at h
 obtain⟨d,s,e,h⟩:=ac9 h
 cases d with
 | bl b=>exact⟨b,s,e,h⟩
 | _=>exact fb h
theorem aQ4 {m:kS->kQ->kU kR}{W:St}{H:Hp}{Q:Bool->Hp->Prop}(h:TTv Γ m W H Q):tB (TEv Γ m) W H Q:=by
 obtain⟨C,U,s,b,s',E,R,hm,q⟩:=h
 refine⟨C,U,s,.bl b,s',E,R,hm,λ v C' H' g l F r B=>?_⟩
 exact⟨b,r.blE,q C' H' g l B⟩
theorem by9 {m:kS->kQ->kU kR}{W:St}{H:Hp}{Q:Bool->Hp->Prop}(h:TTv Γ m W H Q):cc5 (TEv Γ m) W H Q:=aQ4 h
theorem bM9 {m:kS->kQ->kU kR}{W:St}{H:Hp}{Q:Bool->Hp->Prop}(h:TTv Γ (λ U s=>k9 (m U s) λ b s=>.ok (.bl (!b)) s) W H Q):cp3 (TTv Γ m) W H Q:=by
 obtain⟨C,U,s,b,s',E,R,hm,q⟩:=h
 obtain⟨c,s1,e1,hm⟩:=zE hm
 cases hm
 exact⟨C,U,s,c,_,E,R,e1,q⟩
theorem bw0 {F B:kS->kQ->kU kR}{W:St}{H:Hp}{Q:Bool->Hp->Prop}(h:TTv Γ (λ U s=>k9 (F U s) λ c s=>if c then k9 (B U s) λ c s=>.ok (.bl c) s else .ok (.bl false) s) W H Q):cn3 (TTv Γ F) (TTv Γ B) W H Q:=by
 obtain⟨C,U,s,b,s',E,R,hm,q⟩:=h
 obtain⟨c,s1,e1,hm⟩:=zE hm
 refine⟨C,U,s,c,s1,E,R,e1,λ C1 G g1 l1 R1=>?_⟩
 cases c with
 | true =>
  rw[if_pos rfl]at hm ⊢
  obtain⟨J,s2,e2,hm⟩:=zE hm
  cases hm
  exact⟨C1,U,s1,_,_,E.mono g1 l1,R1,e2,q.trans g1 l1⟩
 | false =>
  rw[if_neg aW]at hm ⊢
  cases hm
  exact q C1 G g1 l1 R1
theorem bR5 {F B:kS->kQ->kU kR}{W:St}{H:Hp}{Q:Bool->Hp->Prop}(h:TTv Γ (λ U s=>k9 (F U s) λ c s=>if c then .ok (.bl true) s else k9 (B U s) λ c s=>.ok (.bl c) s) W H Q):tOr (TTv Γ F) (TTv Γ B) W H Q:=by
 obtain⟨C,U,s,b,s',E,R,hm,q⟩:=h
 obtain⟨c,s1,e1,hm⟩:=zE hm
 refine⟨C,U,s,c,s1,E,R,e1,λ C1 G g1 l1 R1=>?_⟩
 cases c with
 | true =>
  rw[if_pos rfl]at hm ⊢
  cases hm
  exact q C1 G g1 l1 R1
 | false =>
  rw[if_neg aW]at hm ⊢
  obtain⟨J,s2,e2,hm⟩:=zE hm
  cases hm
  exact⟨C1,U,s1,_,_,E.mono g1 l1,R1,e2,q.trans g1 l1⟩
theorem bV4 {m:kS->kQ->kU kR}{W:St}{H:Hp}{Q:VK}(h:TEv Γ (λ U s=>k9 (m U s) λ b s=>.ok (.bl (!b)) s) W H Q):bZ7 (TEv Γ m) W H Q:=by
 obtain⟨C,U,s,d,s',E,R,hm,q⟩:=h
 obtain⟨c,s1,e1,hm⟩:=zE hm
 cases hm
 exact⟨C,U,s,.bl c,_,E,R,e1,λ v C1 B g l b r R1=>⟨c,r.blE,q _ C1 B g l rfl RV.blI R1⟩⟩
theorem bw9 {F B:kS->kQ->kU kR}{W:St}{H:Hp}{Q:VK}(h:TEv Γ (λ U s=>k9 (F U s) λ c s=>if c then k9 (B U s) λ c s=>.ok (.bl c) s else .ok (.bl false) s) W H Q):bU8 (TEv Γ F) (TEv Γ B) W H Q:=by
 obtain⟨C,U,s,d,s',E,R,hm,q⟩:=h
 obtain⟨c,s1,e1,hm⟩:=zE hm
 refine⟨C,U,s,.bl c,s1,E,R,e1,λ v C1 G g1 l1 J r1 R1=>⟨c,r1.blE,?_⟩⟩
 cases c with
 | true =>
  rw[if_pos rfl]at hm ⊢
  obtain⟨c,s2,e2,hm⟩:=zE hm
  cases hm
  exact⟨C1,U,s1,.bl c,_,E.mono g1 l1,R1,e2,q.trans g1 l1⟩
 | false =>
  rw[if_neg aW]at hm ⊢
  cases hm
  exact q _ C1 G g1 l1 rfl RV.blI R1
theorem bX8 {F B:kS->kQ->kU kR}{W:St}{H:Hp}{Q:VK}(h:TEv Γ (λ U s=>k9 (F U s) λ c s=>if c then .ok (.bl true) s else k9 (B U s) λ c s=>.ok (.bl c) s) W H Q):cn8 (TEv Γ F) (TEv Γ B) W H Q:=by
 obtain⟨C,U,s,d,s',E,R,hm,q⟩:=h
 obtain⟨c,s1,e1,hm⟩:=zE hm
 refine⟨C,U,s,.bl c,s1,E,R,e1,λ v C1 G g1 l1 J r1 R1=>⟨c,r1.blE,?_⟩⟩
 cases c with
 | true =>
  rw[if_pos rfl]at hm ⊢
  cases hm
  exact q _ C1 G g1 l1 rfl RV.blI R1
 | false =>
  rw[if_neg aW]at hm ⊢
  obtain⟨c,s2,e2,hm⟩:=zE hm
  cases hm
  exact⟨C1,U,s1,.bl c,_,E.mono g1 l1,R1,e2,q.trans g1 l1⟩
theorem cc6 {mc F B:kS->kQ->kU kR}{W:St}{H:Hp}{Q:VK}(h:TEv Γ (λ U s=>k9 (mc U s) λ k s=>if k then F U s else B U s) W H Q):tIf (TTv Γ mc) (TEv Γ F) (TEv Γ B) W H Q:=by
 obtain⟨C,U,s,d,s',E,R,hm,q⟩:=h
 obtain⟨c,s1,e1,hm⟩:=zE hm
 refine⟨C,U,s,c,s1,E,R,e1,λ C1 G g1 l1 R1=>?_⟩
 cases c with
 | true =>
  rw[if_pos rfl]at hm ⊢
  exact⟨C1,U,s1,d,s',E.mono g1 l1,R1,hm,q.trans g1 l1⟩
 | false =>
  rw[if_neg aW]at hm ⊢
  exact⟨C1,U,s1,d,s',E.mono g1 l1,R1,hm,q.trans g1 l1⟩
theorem aN2 {W:St}{H:Hp}{Q:List V->Hp->Prop}(h:TAv Γ (λ U s=>.ok [] s) W H Q):bp7 W H Q:=by
 obtain⟨C,U,s,d,s',E,R,hm,q⟩:=h
 cases hm
 exact q [] C H (Gr.refl _ _ _) (aw _) rfl .nil R
theorem bJ9 {m:kS->kQ->kU kR}{G:kS->kQ->kU (List kR)}{W:St}{H:Hp}{Q:List V->Hp->Prop}(h:TAv Γ (λ U s=>(m U s).bind λ d s=>(G U s).bind λ l s=>.ok (d::l) s) W H Q):aD8 (TEv Γ m) (TAv Γ G) W H Q:=by
 obtain⟨C,U,s,l,s',E,R,hm,q⟩:=h
 obtain⟨x,s1,e1,hm⟩:=ac9 hm
 obtain⟨y,s2,e2,hm⟩:=ac9 hm
 cases hm
 refine⟨C,U,s,x,s1,E,R,e1,λ v1 C1 H1 g1 l1 J r1 R1=>?_⟩
 refine⟨C1,U,s1,y,_,E.mono g1 l1,R1,e2,λ Y C2 Z B F b2 r2 R2=>?_⟩
 refine q (v1::Y) C2 Z (g1.trans B l1) (av l1 F) ?_ (.cons (RV.mono B x v1 J r1) r2) R2
 unfold kT
 rw[zg F x J,b2];rfl
theorem aK3 {B:kS->kQ->kU (List kR)}{f:List kR->kQ->kU kR}{W:St}{H:Hp}{Q:VK}(h:TEv Γ (λ U s=>(B U s).bind λ l s=>f l s) W H Q):tCB (rCl Γ f) (TAv Γ B) W H Q:=by
 obtain⟨C,U,s,d,s',E,R,hm,q⟩:=h
 obtain⟨l,s1,e1,hm⟩:=ac9 hm
 exact⟨C,U,s,l,s1,E,R,e1,λ vs C1 G g1 l1 F r1 R1=>⟨C1,s1,l,d,s',R1,r1,F,hm,q.trans g1 l1⟩⟩
theorem cm0 {m:kS->kQ->kU kR}{ml J:kS->kQ->kU kR}{W:St}{H:Hp}{Q:VK} :
  (TEv Γ (λ U s=>(m U s).bind λ x s=>(ml U s).bind λ y s=>match y with|.int i=>l7 x (some i) none s|_=>.bad) W H Q->tSl (rSl Γ) (TEv Γ m) (aY7 (TEv Γ ml)) aL0 W H Q) /\
  (TEv Γ (λ U s=>(m U s).bind λ x s=>(J U s).bind λ y s=>match y with|.int i=>l7 x none (some i) s|_=>.bad) W H Q->tSl (rSl Γ) (TEv Γ m) aL0 (aY7 (TEv Γ J)) W H Q) /\
  (TEv Γ (λ U s=>(m U s).bind λ x s=>(ml U s).bind λ y s=>match y with|.int i=>(J U s).bind (λ z s=>match z with|.int j=>l7 x (some i) (some j) s|_=>.bad)|_=>.bad) W H Q->tSl (rSl Γ) (TEv Γ m) (aY7 (TEv Γ ml)) (aY7 (TEv Γ J)) W H Q):=by
 refine⟨λ h=>?_,λ h=>?_,λ h=>?_⟩
 .obtain⟨C,U,s,d,s',E,R,hm,q⟩:=h
  obtain⟨x,s1,e1,hm⟩:=ac9 hm
  obtain⟨y,s2,e2,hm⟩:=ac9 hm
  refine⟨C,U,s,x,s1,E,R,e1,λ v1 C1 Y g1 l1 G r1 R1=>?_⟩
  refine⟨C1,U,s1,y,s2,E.mono g1 l1,R1,e2,λ v2 C2 H2 F B b2 r2 R2=>?_⟩
  cases y with
  | int i=>exact⟨i,r2.intE,C2,s2,x,d,s',R2,RV.mono F x v1 G r1,zg B x G,hm,q.trans (g1.trans F l1) (av l1 B)⟩
  | _=>exact fb hm
 .obtain⟨C,U,s,d,s',E,R,hm,q⟩:=h
  obtain⟨x,s1,e1,hm⟩:=ac9 hm
  obtain⟨y,s2,e2,hm⟩:=ac9 hm
  refine⟨C,U,s,x,s1,E,R,e1,λ v1 C1 Y g1 l1 G r1 R1=>?_⟩
  refine⟨C1,U,s1,y,s2,E.mono g1 l1,R1,e2,λ v2 C2 H2 F B b2 r2 R2=>?_⟩
  cases y with
  | int i=>exact⟨i,r2.intE,C2,s2,x,d,s',R2,RV.mono F x v1 G r1,zg B x G,hm,q.trans (g1.trans F l1) (av l1 B)⟩
  | _=>exact fb hm
 .obtain⟨C,U,s,d,s',E,R,hm,q⟩:=h
  obtain⟨x,s1,e1,hm⟩:=ac9 hm
  obtain⟨y,s2,e2,hm⟩:=ac9 hm
  refine⟨C,U,s,x,s1,E,R,e1,λ v1 C1 Y g1 l1 G r1 R1=>?_⟩
  refine⟨C1,U,s1,y,s2,E.mono g1 l1,R1,e2,λ v2 C2 H2 F B b2 r2 R2=>?_⟩
  cases y with
  | int i =>
   obtain⟨z,s3,e3,hm⟩:=ac9 hm
   refine⟨i,r2.intE,C2,U,s2,z,s3,E.mono (g1.trans F l1) (av l1 B),R2,e3,λ v3 C3 H3 g3 Z b3 r3 R3=>?_⟩
   cases z with
   | int j=>exact⟨j,r3.intE,C3,s3,x,d,s',R3,RV.mono (F.trans g3 B) x v1 G r1,zg (av B Z) x G,hm,q.trans ((g1.trans F l1).trans g3 (av l1 B)) (av (av l1 B) Z)⟩
   | _=>exact fb hm
  | _=>exact fb hm
variable {Γ:Gm} {X:Cx}
def aw4 (Γ:Gm)(J:It)(C0:Nat->Addr)(H0:Hp)(s0:kQ)(q:lU):Prop :=
 ∀ C H s,Gr C0 s0 H0 C s H->s0.length<=s.length->Rp Γ C H s->lD s0 s q.src=true->∀ i:Nat,
  (i<q.its.length->J.go i H/\∀ x H',J.yld i H x H'->ak9 H H'/\∀ d,q.its[i]?=some d->RV Γ C H' d x)/\(q.its.length<=i->J.stop i H)
def TIv (Γ:Gm)(m:kS->kQ->kU lU):TI:=λ W H R=>∃ C U s q s',RE Γ C H s.length U W/\Rp Γ C H s/\m U s=.ok q s' /\
 ∀ J C' H',Gr C s H C' s' H'->s.length<=s'.length->kT s'.length q.its=true->Rp Γ C' H' s'->aw4 Γ J C' H' s' q->R J H'
theorem PI.imp {tg e:Expr}{t t':TI}(h:PI X tg e t)(i:∀ W H R,t' W H R->t W H R):PI X tg e t':=λ B s W H R I q=>h B s W H R I (i W H R q)
theorem PI.or {tg e:Expr}{t t':TI}(h:PI X tg e t)(h':PI X tg e t'):PI X tg e (λ W H R=>t W H R\/t' W H R):=λ B s W H R I q=>q.elim (h B s W H R I) (h' B s W H R I)
theorem bm3 {C0:Nat->Addr}{H0:Hp}{s0:kQ}{a:Addr}{B:List V}{l:List kR}(h:SqT Γ.K H0 a B)(hl:RVL Γ C0 H0 l B)(hb:kT s0.length l=true):aw4 Γ (Itt Γ.K a) C0 H0 s0 ⟨l,[]⟩:=by
 intro C H s g _ R _ i
 have h':=g.w.kp.sqT h
 have F:=RVL.mono g l B hb hl
 refine⟨λ hlt=>⟨⟨B,B[i]'(by rw[F.length];exact hlt),h',au _⟩,λ x H' y=>?_⟩,λ G=>⟨B,h',by rw[F.length];exact G⟩⟩
 obtain⟨e,y⟩:=y
 subst e
 refine⟨ak9.refl _,λ d hd=>?_⟩
 obtain⟨v,e1,e2⟩:=F.get hd
 rw[y B h']at e1;cases e1
 exact e2
theorem bD2 {C0:Nat->Addr}{H0:Hp}{s0:kQ}{a:Addr}{B:List V}{l:List kR}(h:SqF Γ.K H0 a B)(hl:RVL Γ C0 H0 l B)(hb:kT s0.length l=true):aw4 Γ (Itl Γ.K a) C0 H0 s0 ⟨l,[]⟩:=by
 intro C H s g _ R _ i
 have h':=h.2 _ g.w.kp
 have F:=RVL.mono g l B hb hl
 refine⟨λ hlt=>⟨⟨B,B[i]'(by rw[F.length];exact hlt),h',au _⟩,λ x H' y=>?_⟩,λ G=>⟨B,h',by rw[F.length];exact G⟩⟩
 obtain⟨e,y⟩:=y
 subst e
 refine⟨ak9.refl _,λ d hd=>?_⟩
 obtain⟨v,e1,e2⟩:=F.get hd
 rw[y B h']at e1;cases e1
 exact e2
theorem bn5 {C0:Nat->Addr}{H0:Hp}{s0:kQ}{r:Nat}{l:List kR}(hr:s0[r]?=some (.lst l)):aw4 Γ (Itl Γ.K (C0 r)) C0 H0 s0 ⟨l,[r]⟩:=by
 intro C H s g _ R J i
 have F:r<s0.length:=(ae.mp hr).1
 have hs:s[r]?=some (.lst l):=by
  unfold lD at J
  simp only[dG,List.all_nil,fT,decide_eq_true_eq]at J
  rw[J];exact hr
 obtain⟨B,e,h⟩:=R.addr hs
 rw[g.w.map r F]at e
 have h':SqL Γ.K H (C0 r) B:=SqL.of e
 refine⟨λ hlt=>⟨⟨B,B[i]'(by rw[h.length];exact hlt),h',au _⟩,λ x H' y=>?_⟩,λ G=>⟨B,h',by rw[h.length];exact G⟩⟩
 obtain⟨e,y⟩:=y
 subst e
 refine⟨ak9.refl _,λ d hd=>?_⟩
 obtain⟨v,e1,e2⟩:=h.get hd
 rw[y B h']at e1;cases e1
 exact e2
theorem bo9 {C0:Nat->Addr}{H0:Hp}{s0:kQ}{l:List Nat}:aw4 Γ (Its ⟨l.toArray⟩) C0 H0 s0 ⟨l.map λ c=>.str [c],[]⟩:=by
 intro C H s g _ R _ i
 have hsz:(⟨l.toArray⟩:Str).cps.size=l.length:=by simp
 refine⟨λ hlt=>?_,λ h=>?_⟩
 .simp only[aE]at hlt
  refine⟨show i<(⟨l.toArray⟩:Str).cps.size by rw[hsz];exact hlt,λ x H' y=>?_⟩
  obtain⟨e,c,hc,rfl⟩:=y
  subst e
  refine⟨ak9.refl _,λ d hd=>?_⟩
  have B:l[i]?=some c:=by simpa using hc
  rw[aS,B]at hd
  cases hd
  exact RV.strI (by simp;decide)
 .simp only[aE]at h
  show(⟨l.toArray⟩:Str).cps.size<=i
  rw[hsz];exact h
theorem bp4 {C0:Nat->Addr}{H0:Hp}{s0:kQ}{a b:Int}:aw4 Γ (Itr a (b - a).toNat) C0 H0 s0 ⟨mr a b,[]⟩:=by
 intro C H s g _ R _ i
 have hn:(mr a b).length=(b - a).toNat:=by simp[mr]
 refine⟨λ hlt=>⟨show i<(b - a).toNat by rw[<-hn];exact hlt,λ x H' y=>?_⟩,λ h=>show(b - a).toNat<=i by rw[<-hn];exact h⟩
 obtain⟨e,rfl⟩:=y
 subst e
 refine⟨ak9.refl _,λ d hd=>?_⟩
 simp only[mr]at hd hlt
 rw[aS,dF (by simpa using hlt)]at hd
 cases hd
 exact RV.intI
theorem bx1 {m:kS->kQ->kU kR}{W:St}{H:Hp}{R:It->Hp->Prop}(h:TIv Γ (λ U s=>(m U s).bind λ x s=>match x with|.int i=>if -mU<=i/\i<mU then .ok ⟨mr 0 i,[]⟩ s else .bad|_=>.bad) W H R) :
  bT0 (aD8 (TEv Γ m) bp7) W H R:=by
 obtain⟨C,U,s,q,s',E,P,hm,k⟩:=h
 obtain⟨x,s1,e1,hm⟩:=ac9 hm
 refine⟨C,U,s,x,s1,E,P,e1,λ v C1 F g l b r G=>?_⟩
 cases x with
 | int i =>
  simp only at hm
  split at hm
  .rename_i B
   cases hm
   have hw:mU=2^62:=by decide
   rw[hw]at B
   refine⟨i,by rw[r.intE],B.1,B.2,k _ C1 F g l ?_ G ?_⟩
   .refine ah4.mpr λ d hd=>?_
    simp only[mr,aQ]at hd
    obtain⟨_,_,rfl⟩:=hd
    rfl
   .have:=bp4 (Γ:=Γ) (C0:=C1) (H0:=F) (s0:=s') (a:=0) (b:=i)
    rwa [kx]at this
  .exact fb hm
 | _=>exact fb hm
theorem bW1 {m:kS->kQ->kU kR}{W:St}{H:Hp}{R:It->Hp->Prop}(h:TIv Γ (λ U s=>(m U s).bind λ d s=>DV.aF7 d s) W H R) :
  ck9 Γ.K (TEv Γ m) W H R\/bC5 Γ.K (TEv Γ m) W H R\/cq4 (TEv Γ m) W H R:=by
 obtain⟨C,U,s,q,s',E,P,hm,k⟩:=h
 obtain⟨x,s1,e1,hm⟩:=ac9 hm
 unfold DV.aF7 at hm
 cases x with
 | tup l =>
  cases hm
  refine .inl ⟨C,U,s,_,_,E,P,e1,λ v C1 F g l b r B=>?_⟩
  obtain⟨a,G,rfl,Z,d1⟩:=r.tupE
  unfold kX at b
  exact⟨a,rfl,⟨G,Z⟩,k _ C1 F g l b B (bm3 Z d1 b)⟩
 | str l =>
  cases hm
  refine .inr (.inr ⟨C,U,s,_,_,E,P,e1,λ v C1 F g J b r B=>?_⟩)
  refine⟨_,r.strE,k _ C1 F g J ?_ B bo9⟩
  refine ah4.mpr λ d hd=>?_
  simp only[aQ]at hd
  obtain⟨_,_,rfl⟩:=hd
  rfl
 | ref r =>
  simp only at hm
  cases hs:s1[r]? with
  | none=>rw[hs]at hm;cases hm
  | some o =>
   rw[hs]at hm
   cases o with
   | lst l =>
    cases hm
    refine .inr (.inl ⟨C,U,s,_,_,E,P,e1,λ v C1 F g J b Y B=>?_⟩)
    have e:=Y.refE;subst e
    obtain⟨G,e2,d1⟩:=B.addr hs
    have wf:=B.wf _ _ hs
    unfold kY at wf
    exact⟨C1 r,rfl,⟨G,SqL.of e2⟩,k _ C1 F g J wf B (bn5 hs)⟩
   | ro l =>
    cases hm
    refine .inr (.inl ⟨C,U,s,_,_,E,P,e1,λ v C1 F g J b Y B=>?_⟩)
    have e:=Y.refE;subst e
    obtain⟨G,e2,d1⟩:=B.obj _ _ hs
    have wf:=B.wf _ _ hs
    unfold kY at wf
    exact⟨C1 r,rfl,⟨G,e2.1⟩,k _ C1 F g J wf B (bD2 e2 d1 wf)⟩
   | dic l=>exact fb hm
   | dit l=>exact fb hm
   | ins c l=>exact fb hm
 | _=>exact fb hm
variable {Γ:Gm} {X:Cx}
noncomputable def ce4:List Nat->TGs
 | []=>co8
 | i::is=>bL9 (aC3 i) (ce4 is)
noncomputable def gOf (K:ah):lF->TG
 | .one i=>aC3 i
 | .tup is=>cn0 K is.length (ce4 is)
theorem aZ6 {C:Nat->Addr}{H:Hp}{n:Nat}{U U':kS}{W:St}{i:Nat}{d:kR}{v:V}(E:RE Γ C H n U W)(r:RV Γ C H d v)(b:d.bnd n=true)(h:lG U i d=some U'):RE Γ C H n U' (W.set i (some v)):=by
 unfold lG at h
 split at h
 .rename_i B
  cases h
  refine⟨by rw[bp,bp];exact E.len,λ j e hj=>?_⟩
  by_cases hij:j=i
  .subst hij
   rw[aZ B]at hj
   cases hj
   exact⟨b,v,by rw[aZ (by rw[<-E.len];exact B)],r⟩
  .rw[aU (cz hij)]at hj
   obtain⟨F,w,G,h3⟩:=E.val j e hj
   exact⟨F,w,by rw[aU (cz hij)];exact G,h3⟩
 .cases h
theorem bS8 {C:Nat->Addr}{H:Hp}{n:Nat}{Q:St->Hp->Prop}:∀(is:List Nat) (l:List kR) (B:List V) (U U':kS) (W:St),RE Γ C H n U W->RVL Γ C H l B->kT n l=true->l9 U is l=some U'->(∀ W',RE Γ C H n U' W'->Q W' H)->ce4 is B W H Q
 | [],[],B,U,U',W,E,r,_,h,k=>by
  cases h
  exact⟨r.unnil,k W E⟩
 | [],d::l,_,_,_,_,_,_,_,h,_=>by cases h
 | i::is,[],_,_,_,_,_,_,_,h,_=>by cases h
 | i::is,d::l,B,U,U',W,E,r,b,h,k=>by
  have h:(lG U i d).bind (λ U=>l9 U is l)=some U':=h
  obtain⟨x,F,rfl,G,J⟩:=r.uncons
  unfold kT at b
  rw[ao]at b
  cases e:lG U i d with
  | none=>rw[e]at h;cases h
  | some U1 =>
   rw[e]at h
   exact⟨x,F,rfl,bS8 is l F U1 U' _ (aZ6 E G b.1 e) J b.2 h k⟩
theorem bd6 {l:List kR}:∀ {is:List Nat} {U U':kS},l9 U is l=some U'->is.length=l.length:=by
 induction l with
 | nil=>intro is U U' h;cases is with
  | nil=>rfl
  | cons i is=>cases h
 | cons d l ih=>intro is U U' h;cases is with
  | nil=>cases h
  | cons i is =>
   have h:(lG U i d).bind (λ U=>l9 U is l)=some U':=h
   cases e:lG U i d with
   | none=>rw[e]at h;cases h
   | some U1=>rw[e]at h;rw[bc,bc,ih h]
theorem br6 {C:Nat->Addr}{H:Hp}{n:Nat}{Q:St->Hp->Prop}{tg:lF}{d:kR}{v:V}{U U':kS}{W:St}(E:RE Γ C H n U W)(r:RV Γ C H d v)(b:d.bnd n=true)(h:lu U tg d=some U')(k:∀ W',RE Γ C H n U' W'->Q W' H):gOf Γ.K tg v W H Q:=by
 cases tg with
 | one i=>exact k _ (aZ6 E r b h)
 | tup is =>
  cases d with
  | tup l =>
   have h:l9 U is l=some U':=h
   obtain⟨a,B,rfl,F,d1⟩:=r.tupE
   unfold kX at b
   exact⟨a,B,rfl,F,by rw[d1.length,bd6 h],bS8 is l B U U' W E d1 b h k⟩
  | _=>cases h
def Off (C:Nat->Addr)(s:kQ)(b:Addr):Prop:=∀(i:Nat) (ob:lA),s[i]?=some ob->isMut ob=true->C i≠b
theorem Off.mono {C C':Nat->Addr}{s s':kQ}{H H':Hp}{b:Addr}{o:HO}(h:Off C s b)(g:Gr C s H C' s' H')(hb:H b=some o):Off C' s' b:=λ i ob e m z=>by
 by_cases F:i<s.length
 .obtain⟨B,G⟩:∃ B,s[i]?=some B:=⟨s[i],au F⟩
  exact h i B G (g.mu i B ob G e m) (by rw[<-g.w.map i F];exact z)
 .have:=g.new i (by omega) (ae.mp e).1
  rw[z,hb]at this;cases this
theorem Off.new {C:Nat->Addr}{s:kQ}{H:Hp}{b:Addr}(r:Rp Γ C H s)(h:H b=none):Off C s b:=λ i ob e m z=>by
 obtain⟨u,hu,_⟩:=(r.obj i ob e).there m
 rw[z,h]at hu;cases hu
theorem Rp.foreign {C:Nat->Addr}{s:kQ}{H:Hp}{b:Addr}{ys h:List V}(r:Rp Γ C H s)(hb:H b=some (.lst ys))(ho:Off C s b):Rp Γ C (upd H b (.lst h)) s:=by
 have g:Gw C s.length H C (upd H b (.lst h)):=⟨λ _ _=>rfl,(Kp.refl H).put hb rfl⟩
 exact⟨r.inj,λ i o e=>(r.obj i o e).mono g (r.wf i o e) λ m u hu=>by rw[zn (ho i o e m)];exact hu,r.wf,r.tab.put hb⟩
theorem Gr.foreign {C C':Nat->Addr}{s s':kQ}{H H':Hp}{b:Addr}{ys h:List V}(g:Gr C s H C' s' H')(h0:H b=none)(hb:H' b=some (.lst ys)):Gr C s H C' s' (upd H' b (.lst h)):=by
 have ne:∀ c o,H c=some o->c≠b:=λ c o e=>zu e h0
 refine⟨⟨g.w.map,λ c o e f=>?_⟩,g.le,g.new,g.kd,λ c hc=>?_,λ c o e B F=>?_⟩
 .rw[zn (ne c o e)];exact g.w.kp c o e f
 .unfold upd;split
  .simp
  .exact g.st c hc
 .rw[zn (ne c o e)];exact g.fr c o e B F
def bN7 (Γ:Gm)(C:Nat->Addr)(s:kQ)(H:Hp)(l:List kR)(s':kQ)(Q:VK):Prop :=
 ∀ p ys C' H',Gr C s H C' s' H'->s.length<=s'.length->kT s'.length l=true->H' p=some (.lst ys)->H p=none->Off C' s' p->RVL Γ C' H' l ys->Rp Γ C' H' s'->Q (.ref p) H'
def TFv (Γ:Gm)(m:kS->kQ->kU (List kR)):TE:=λ W H Q=>∃ C U s l s',RE Γ C H s.length U W/\Rp Γ C H s/\m U s=.ok l s'/\bN7 Γ C s H l s' Q
theorem aX9 {m:kS->kQ->kU (List kR)}{W:St}{H:Hp}{Q:VK}(h:TEv Γ (λ U s=>(m U s).bind λ l s=>lK (.lst l) s) W H Q):TFv Γ m W H Q:=by
 obtain⟨C,U,s,d,s',E,R,hm,q⟩:=h
 obtain⟨l,s1,e1,hm⟩:=ac9 hm
 obtain⟨rfl,rfl⟩:=zR hm
 refine⟨C,U,s,l,s1,E,R,e1,λ p ys C' H' g hl hb hp h0 ho r J=>?_⟩
 have gw:Gw C' s1.length H' (λ i=>if i=s1.length then p else C' i) H':=⟨λ i B=>if_neg (aL B),Kp.refl _⟩
 have key:∀(i:Nat) (F:lA),(s1++[DV.O.lst l])[i]?=some F->(i<s1.length/\s1[i]?=some F)\/(i=s1.length/\F=.lst l):=λ i F e=>by
  rcases ee i s1.length with h|h|h
  .rw[aI h]at e;exact .inl ⟨h,e⟩
  .subst h;simp at e;exact .inr ⟨rfl,e.symm⟩
  .rw[bR (by simp;omega)]at e;cases e
 have G:Gr C s H (λ i=>if i=s1.length then p else C' i) (s1++[.lst l]) H':=by
  refine⟨⟨λ i B=>by show(if i=s1.length then p else C' i)=_;rw[if_neg (by omega)];exact g.w.map i B,g.w.kp⟩,by simp;omega,λ i h1 h2=>?_,λ i o F e e'=>?_,g.st,g.fr⟩
  .by_cases B:i=s1.length
   .show H (if i=s1.length then p else C' i)=none
    rw[if_pos B];exact h0
   .show H (if i=s1.length then p else C' i)=none
    rw[if_neg B];exact g.new i h1 (by simp at h2;omega)
  .rcases key i F e' with⟨_,e2⟩|⟨B,_⟩
   .exact g.kd i o F e e2
   .have:=(ae.mp e).1;omega
 have P:Rp Γ (λ i=>if i=s1.length then p else C' i) H' (s1++[.lst l]):=by
  refine⟨λ i j Z oj Y ej mi mj e=>?_,λ i o e=>?_,λ i o e=>?_,J.tab⟩
  .rcases key i Z Y with⟨B,Y⟩|⟨B,_⟩<;>rcases key j oj ej with⟨hj,ej⟩|⟨hj,_⟩
   .rw[if_neg (aL B),if_neg (aL hj)]at e
    exact J.inj i j Z oj Y ej mi mj e
   .rw[if_neg (aL B),if_pos hj]at e
    exact absurd e (ho i Z Y mi)
   .rw[if_neg (aL hj),if_pos B]at e
    exact absurd e.symm (ho j oj ej mj)
   .rw[B,hj]
  .rcases key i o e with⟨B,e⟩|⟨B,rfl⟩
   .show RO Γ _ _ (if i=s1.length then p else C' i) o
    rw[if_neg (aL B)]
    exact(J.obj i o e).mono gw (J.wf i o e) λ _ u hu=>hu
   .show RO Γ _ _ (if i=s1.length then p else C' i) _
    rw[if_pos B]
    exact⟨ys,hp,RVL.monoW gw l ys hb r⟩
  .rw[ax,dh]
   rcases key i o e with⟨_,e⟩|⟨_,rfl⟩
   .exact zV (dt _) _ (J.wf i o e)
   .exact zV (dt _) _ (by unfold kY;exact hb)
 exact q (.ref p) _ H' G (by simp;omega) (by unfold kX;simp) (by unfold RV;simp) P
theorem ca5 {C:Nat->Addr}{H:Hp}{n:Nat}{U:kS}{W:St}(E:RE Γ C H n U W)(h:yD):RE Γ C H n (lW U h) (aC9 h W):=by
 refine⟨by unfold lW aC9;simp,λ i d e=>?_⟩
 unfold lW at e
 rw[aS]at e
 cases q:h[i]? with
 | none=>rw[q]at e;cases e
 | some o =>
  rw[q]at e
  cases o with
  | none=>cases e
  | some j =>
   have e':(U[j]?).join=some d:=aG e
   have ej:U[j]?=some (some d):=by
    cases q2:U[j]? with
    | none=>rw[q2]at e';cases e'
    | some o2=>rw[q2]at e';exact congrArg some e'
   obtain⟨b,v,B,F⟩:=E.val j d ej
   refine⟨b,v,?_,F⟩
   unfold aC9
   rw[aS,q]
   show some ((W[j]?).join)=_
   rw[B];rfl
theorem ba3 {mI:kS->kQ->kU lU}{mc me:kS->kQ->kU kR}{tg:lF}{G:yD}{W:St}{H:Hp}{Q:VK}
  (h:TFv Γ (λ U s=>(mI U s).bind λ q s0=>if q.its.length<=k6 then lV (λ s=>lD s0 s q.src) (λ d U s=>match lu U tg d with
   | some U=>k9 (mc U s) λ k s=>if k then(me U s).bind λ v s=>.ok (some v,U) s else .ok (none,U) s
   | none=>.bad) q.its (lW U G) s0 else .bad) W H Q):tComp G (TIv Γ mI) (gOf Γ.K tg) (TTv Γ mc) (TEv Γ me) W H Q:=by
 obtain⟨C,U,s,l,s',E,R,hm,k⟩:=h
 obtain⟨q,s0,e1,hm⟩:=ac9 hm
 split at hm
 case isFalse=>exact fb hm
 rename_i b4
 refine⟨C,U,s,q,s0,E,R,e1,λ J C1 H1 g1 l1 b1 R1 wk D hD=>?_⟩
 have h0:H D=none:=by
  cases e:H D with
  | none=>rfl
  | some o=>exact absurd hD (g1.st D (by rw[e];simp))
 refine⟨λ i m W' H'=>∃ C' U' t B ys rest,Gr C1 s0 H1 C' t H'/\Rp Γ C' H' t/\RE Γ C' H' t.length U' W'/\H' D=some (.lst ys)/\Off C' t D/\RVL Γ C' H' B ys/\kT t.length B=true/\B.length<=i/\i<=q.its.length/\m=q.its.length - i /\
  lV (λ s=>lD s0 s q.src) (λ d U s=>match lu U tg d with
   | some U=>k9 (mc U s) λ k s=>if k then(me U s).bind λ v s=>.ok (some v,U) s else .ok (none,U) s
   | none=>.bad) (q.its.drop i) U' t=.ok rest s'/\l=B++rest,⟨q.its.length,?_⟩,?_⟩
 .obtain⟨g2,R2⟩:=R1.same (H':=upd H1 D (.lst [])) ((ak9.refl H1).new hD)
  exact⟨C1,lW U G,s0,[],[],l,g2,R2,ca5 ((E.mono g1 l1).mono g2 (aw _)) G,zy,Off.new R1 hD,.nil,rfl,aw _,b9 _,by simp,by rw[dw];exact hm,rfl⟩
 .rintro i m W' H' ⟨C',U',t,B,ys,rest,g,R',E',hy,a2,ra,ba,b6,c1,rfl,hc,hl⟩
  have F:=g.le
  rcases jf i q.its.length with hlt|hge
  .have hd:q.its[i]?=some q.its[i]:=au hlt
   rw[dE hlt]at hc
   unfold lV at hc
   split at hc
   case isFalse=>exact fb hc
   rename_i a1
   obtain⟨a6,b3⟩:=(wk C' H' t g F R' a1 i).1 hlt
   refine .inr ⟨a6,_,λ W2 H2 n=>⟨q.its.length - (i+1),by omega,n⟩,λ x H2 b0=>?_⟩
   obtain⟨sm,rv⟩:=b3 x H2 b0
   obtain⟨g2,R2⟩:=R'.same sm
   have rd:=rv _ hd
   have bd:(q.its[i]).bnd t.length=true:=zg F _ (ap9 b1 hd)
   obtain⟨p,t3,hs,hc⟩:=ac9 hc
   obtain⟨r2,t4,a5,hc⟩:=ac9 hc
   cases hb:lu U' tg q.its[i]with
   | none=>rw[hb]at hs;cases hs
   | some U3 =>
    rw[hb]at hs
    refine br6 (E'.mono g2 (aw _)) rd bd hb λ W3 E3=>?_
    obtain⟨c,t1,ec,hs⟩:=zE hs
    refine⟨C',U3,t,c,t1,E3,R2,ec,λ C2 H4 g4 l4 R4=>?_⟩
    have a4:H2 D=some (.lst ys):=sm _ _ hy
    have a3:H4 D=some (.lst ys):=g4.fr D _ a4 (by nofun) a2
    have Y:Off C2 t1 D:=a2.mono g4 a4
    have G4:=(g.trans g2 F).trans g4 F
    cases c with
    | true =>
     rw[if_pos rfl]at hs
     refine iteT ?_
     obtain⟨v,t2,ev,hs⟩:=ac9 hs
     cases hs
     refine⟨C2,U3,t1,v,t3,E3.mono g4 l4,R4,ev,λ w C3 H5 g5 l5 b5 r5 R5=>?_⟩
     have Z:H5 D=some (.lst ys):=g5.fr D _ a3 (by nofun) Y
     have a0:Off C3 t3 D:=Y.mono g5 a3
     refine⟨ys,Z,?_,?_⟩
     .rw[ra.length]
      have:=zJ
      omega
     .have gw:Gw C3 t3.length H5 C3 (upd H5 D (.lst (ys++[w]))):=⟨λ _ _=>rfl,(Kp.refl H5).put Z rfl⟩
      have G5:=G4.trans g5 (av F l4)
      have GG:=g2.trans (g4.trans g5 l4) (aw _)
      have b2:RVL Γ C3 H5 B ys:=RVL.mono GG _ _ ba ra
      have bb:kT t3.length (B++[v])=true:=zY (ah5 GG.le _ ba) (by unfold kT;rw[b5];rfl)
      refine⟨C3,U3,t3,B++[v],ys++[w],r2,G5.foreign hD Z,R5.foreign Z a0,?_,zy,a0,RVL.monoW gw _ _ bb (b2.append (.cons r5 .nil)),bb,by simp;omega,hlt,rfl,?_,?_⟩
      .have E5:=(E3.mono g4 l4).mono g5 l5
       exact⟨E5.len,λ j e hj=>by
        obtain⟨h1,z,h2,h3⟩:=E5.val j e hj
        exact⟨h1,z,h2,RV.monoW gw _ _ h1 h3⟩⟩
      .cases hc;exact a5
      .cases hc;rw[hl];simp
    | false =>
     rw[if_neg aW]at hs
     refine cq8 ?_
     cases hs
     have GG:=g2.trans g4 (aw _)
     exact⟨C2,U3,t3,B,ys,r2,G4,R4,E3.mono g4 l4,a3,Y,RVL.mono GG _ _ ba ra,ah5 l4 _ ba,by omega,hlt,rfl,by cases hc;exact a5,by cases hc;exact hl⟩
  .have hi:i=q.its.length:=by omega
   rw[eg hge]at hc
   unfold lV at hc
   split at hc
   case isFalse=>exact fb hc
   rename_i a1
   cases hc
   refine .inl ⟨(wk C' H' s' g F R' a1 i).2 hge,?_⟩
   rw[bw]at hl
   subst hl
   exact k D ys C' H' (g1.trans g l1) (av l1 F) ba hy h0 a2 ra R'
variable {Γ:Gm} {X:Cx}
noncomputable def cp4 (Γ:Gm)(C:Nat->Addr)(H:Hp)(n:Nat)(D:Ends):lB->Prop
 | .next U=>∀ W,RE Γ C H n U W->D.nx W H
 | .ret d=>∀ v,d.bnd n=true->RV Γ C H d v->D.rt v H
 | .cont U=>∀ W,RE Γ C H n U W->D.ct W H
 | .brk U=>∀ W,RE Γ C H n U W->D.bk W H
def as4 (Γ:Gm)(C:Nat->Addr)(s:kQ)(H:Hp)(c:lB)(s':kQ)(D:Ends):Prop :=
 ∀ C' H',Gr C s H C' s' H'->s.length<=s'.length->Rp Γ C' H' s'->cp4 Γ C' H' s'.length D c
def TSv (Γ:Gm)(m:kS->kQ->kU lB):TS:=λ D W H=>∃ C U s c s',RE Γ C H s.length U W/\Rp Γ C H s/\m U s=.ok c s'/\as4 Γ C s H c s' D
theorem PS.imp {e:Stmt}{t t':TS}(h:PS X e t)(i:∀ D W H,t' D W H->t D W H):PS X e t':=λ B s W H Q I q=>h B s W H Q I (i Q W H q)
theorem PSs.imp {e:yL}{t t':TS}(h:PSs X e t)(i:∀ D W H,t' D W H->t D W H):PSs X e t':=λ B s W H Q I q=>h B s W H Q I (i Q W H q)
theorem as4.trans {C C1:Nat->Addr}{s s1 s':kQ}{H B:Hp}{c:lB}{D:Ends}(h:as4 Γ C s H c s' D)(g:Gr C s H C1 s1 B)(l:s.length<=s1.length):as4 Γ C1 s1 B c s' D :=
 λ C' H' g' F p=>h C' H' (g.trans g' l) (av l F) p
theorem as4.here {C:Nat->Addr}{s:kQ}{H:Hp}{c:lB}{D:Ends}(h:as4 Γ C s H c s D)(p:Rp Γ C H s):cp4 Γ C H s.length D c:=h C H (Gr.refl C s H) (aw _) p
variable {D:Ends} {W:St} {H:Hp}
theorem bB5 {m:kS->kQ->kU lB}(hm:∀ U s,m U s=.ok (.next U) s)(h:TSv Γ m D W H):bT1 D W H:=by
 obtain⟨C,U,s,c,s',E,R,e,q⟩:=h
 rw[hm]at e;cases e
 exact q.here R W E
theorem bx6 (h:TSv Γ (λ U s=>.ok (.cont U) s) D W H):cb7 D W H:=by
 obtain⟨C,U,s,c,s',E,R,e,q⟩:=h
 cases e
 exact q.here R W E
theorem bz8 (h:TSv Γ (λ U s=>.ok (.ret .non) s) D W H):cb2 D W H:=by
 obtain⟨C,U,s,c,s',E,R,e,q⟩:=h
 cases e
 exact q.here R .non rfl RV.nonI
theorem bV1 {m:kS->kQ->kU kR}(h:TSv Γ (λ U s=>(m U s).bind λ d s=>.ok (.ret d) s) D W H):cn5 (TEv Γ m) D W H:=by
 obtain⟨C,U,s,c,s',E,R,e,q⟩:=h
 obtain⟨x,s1,e1,e⟩:=ac9 e
 cases e
 exact⟨C,U,s,x,_,E,R,e1,λ v C1 F g1 l1 B r1 R1=>q C1 F g1 l1 R1 v B r1⟩
theorem bz9 {m:kS->kQ->kU kR}(h:TSv Γ (λ U s=>(m U s).bind λ _ s=>.ok (.next U) s) D W H):bP5 (TEv Γ m) D W H:=by
 obtain⟨C,U,s,c,s',E,R,e,q⟩:=h
 obtain⟨x,s1,e1,e⟩:=ac9 e
 cases e
 exact⟨C,U,s,x,_,E,R,e1,λ v C1 B g1 l1 F r1 R1=>q C1 B g1 l1 R1 W (E.mono g1 l1)⟩
theorem be3 {m:kS->kQ->kU kR}{tg:lF}(h:TSv Γ (λ U s=>(m U s).bind λ d s=>match lu U tg d with|some U=>.ok (.next U) s|none=>.bad) D W H):bo1 (TEv Γ m) (gOf Γ.K tg) D W H:=by
 obtain⟨C,U,s,c,s',E,R,e,q⟩:=h
 obtain⟨x,s1,e1,e⟩:=ac9 e
 refine⟨C,U,s,x,s1,E,R,e1,λ v C1 G g1 l1 B r1 R1=>?_⟩
 cases hb:lu U tg x with
 | none=>rw[hb]at e;cases e
 | some U1 =>
  rw[hb]at e
  cases e
  exact br6 (E.mono g1 l1) r1 B hb λ W' F=>q C1 G g1 l1 R1 W' F
theorem br7 {m:kS->kQ->kU (List kR)}(h:TSv Γ (λ U s=>((m U s).bind λ l s=>lK (.lst l) s).bind λ d s=>match lu U tg d with|some U=>.ok (.next U) s|none=>.bad) D W H):bo1 (TFv Γ m) (gOf Γ.K tg) D W H :=
 aX9 (be3 h)
def bY2 (Γ:Gm):ce9:=λ o i v H Q=>∃ C s x y d s',Rp Γ C H s/\RV Γ C H x o/\RV Γ C H y i/\RV Γ C H d v/\x.bnd s.length=true/\y.bnd s.length=true/\d.bnd s.length=true/\DV.setIx x y d s=.ok () s' /\
 ∀ C' H',Gr C s H C' s' H'->s.length<=s'.length->Rp Γ C' H' s'->Q H'
theorem br2 {me mo Y:kS->kQ->kU kR}(h:TSv Γ (λ U s=>(me U s).bind λ d s=>(mo U s).bind λ x s=>(Y U s).bind λ y s=>(DV.setIx x y d s).bind λ _ s=>.ok (.next U) s) D W H) :
  bo1 (TEv Γ me) (co6 (TEv Γ mo) (TEv Γ Y) (bY2 Γ)) D W H:=by
 obtain⟨C,U,s,c,s',E,R,e,q⟩:=h
 obtain⟨d,s1,e1,e⟩:=ac9 e
 obtain⟨x,s2,e2,e⟩:=ac9 e
 obtain⟨y,s3,e3,e⟩:=ac9 e
 obtain⟨u,s4,e4,e⟩:=ac9 e
 cases e
 refine⟨C,U,s,d,s1,E,R,e1,λ v1 C1 H1 g1 l1 b1 r1 R1=>?_⟩
 refine⟨C1,U,s1,x,s2,E.mono g1 l1,R1,e2,λ v2 C2 H2 Z F b2 r2 R2=>?_⟩
 have G2:=g1.trans Z l1
 have L2:=av l1 F
 refine⟨C2,U,s2,y,s3,E.mono G2 L2,R2,e3,λ v3 C3 H3 G B b3 r3 R3=>?_⟩
 refine⟨C3,s3,x,y,d,_,R3,RV.mono G x v2 b2 r2,r3,RV.mono (Z.trans G F) d v1 b1 r1,zg B x b2,b3,zg (av F B) d b1,e4,λ C4 H4 J l4 R4=>?_⟩
 have G3:=G2.trans G L2
 have L3:=av L2 B
 exact q C4 H4 (G3.trans J L3) (av L3 l4) R4 W (E.mono (G3.trans J L3) (av L3 l4))
theorem bM5 (hu:X.A.units+2<cLine):cj7 X (bY2 Γ):=by
 intro Y sh W H o i v ov iv u Q I ro ri rv h
 obtain⟨C,s,x,y,d,s',R,rx,ry,rd,bx,J,bd,hm,q⟩:=h
 cases x with
 | ref r =>
  have hm:(match s[r]? with
   | some (.lst l)=>(match y with
    | .int i=>(match lQ l.length i with|some j=>DV.R.ok () (s.set r (.lst (l.set j d)))|none=>.bad)
    | _=>.bad)
   | some (.dic l)=>if y.key&&decide (l.length<k6)then .ok () (s.set r (.dic (lb y d l)))else .bad
   | some (.dit l)=>if y.keyT&&decide (l.length<k6)then .ok () (s.set r (.dit (lb y d l)))else .bad
   | _=>.bad)=.ok () s':=hm
  cases e:s[r]? with
  | none=>rw[e]at hm;cases hm
  | some ob =>
   rw[e]at hm
   cases ob with
   | lst l =>
    cases y with
    | int k =>
     have hm:(match lQ l.length k with|some j=>DV.R.ok () (s.set r (.lst (l.set j d)))|none=>.bad)=.ok () s':=hm
     cases ej:lQ l.length k with
     | none=>rw[ej]at hm;cases hm
     | some j =>
      rw[ej]at hm
      cases hm
      obtain⟨xs,h1,B⟩:=R.addr e
      have hb:kT s.length (l.set j d)=true:=ah4.mpr λ z hz=>by
       rcases List.mem_or_eq_of_mem_set hz with h|h
       .exact ah4.mp (by have:=R.wf r _ e;unfold kY at this;exact this) z h
       .subst h;exact bd
      refine bk4 Y sh W H o i v ov iv u Q I ro ri rv ⟨C r,xs,k,j,rx.refE,ry.intE,h1,?_,?_⟩
      .rw[B.length];exact ej
      .obtain⟨g,Z⟩:=R.set (o:=.lst (l.set j d)) (u:=.lst (xs.set j v)) e rfl hb λ H' g e=>⟨_,e,RVL.monoW g _ _ hb (B.set j rd)⟩
       exact q _ _ g (by simp) Z
    | _=>exact fb hm
   | dic l =>
    have hm:(if y.key&&decide (l.length<k6)then DV.R.ok () (s.set r (.dic (lb y d l)))else .bad)=.ok () s':=hm
    split at hm
    case isFalse=>exact fb hm
    rename_i hc
    cases hm
    rw[ao]at hc
    obtain⟨k,hk⟩:=ap7 hc.1
    have hlt:=of_decide_eq_true hc.2
    obtain⟨G,h1,B⟩:=R.obj r _ e
    have ex:=rx.refE;subst ex
    cases ro
    have ey:=aN5 hk ry;subst ey
    have hb:(DV.O.dic (lb y d l)).bnd s.length=true:=aQ5 (R.wf r _ e) J bd
    have F:kT s.length ((lb y d l).map (·.2))=true:=by
     unfold kY at hb
     rw[ao]at hb
     exact hb.2
    obtain⟨g,Z⟩:=R.set (o:=.dic (lb y d l)) (u:=.dK (av6 G k v)) e rfl hb λ H' g e=>⟨_,e,RVD.monoW g _ _ F (B.put keyOf_inj hk rd)⟩
    exact aD9 hu I (bC2.k h1 (by rw[B.length];exact aF hlt zJ)) ri rv λ s4 I4=>⟨_,I4,q _ _ g (by simp) Z⟩
   | dit l =>
    have hm:(if y.keyT&&decide (l.length<k6)then DV.R.ok () (s.set r (.dit (lb y d l)))else .bad)=.ok () s':=hm
    split at hm
    case isFalse=>exact fb hm
    rename_i hc
    cases hm
    rw[ao]at hc
    obtain⟨k,hk⟩:=an2 hc.1
    have hlt:=of_decide_eq_true hc.2
    obtain⟨G,h1,B⟩:=R.obj r _ e
    have ex:=rx.refE;subst ex
    cases ro
    obtain⟨kb,ey,a0⟩:=az6 hk ry;subst ey
    have hb:(DV.O.dit (lb y d l)).bnd s.length=true:=bj8 (R.wf r _ e) J bd
    have F:kT s.length ((lb y d l).map (·.2))=true:=by
     unfold kY at hb
     rw[ao]at hb
     exact hb.2
    obtain⟨g,Z⟩:=R.set (o:=.dit (lb y d l)) (u:=.dT (av6 G k v)) e rfl hb λ H' g e=>⟨_,e,RVD.monoW g _ _ F (B.put keyT_inj hk rd)⟩
    exact aD9 hu I (bC2.t h1 a0 (by rw[B.length];exact aF hlt zJ)) ri rv λ s4 I4=>⟨_,I4,q _ _ g (by simp) Z⟩
   | _=>exact fb hm
 | _=>exact fb hm
theorem ca6 {i:Nat}{m:kS->kQ->kU kR} (h:TSv Γ (λ U s=>(mK U i s).bind λ x s=>(m U s).bind λ y s=>match x,y with
  | .int a,.int b=>match lG U i (.int (a+b))with|some U=>.ok (.next U) s|none=>.bad
  | _,_=>.bad) D W H):cn4 i (TEv Γ m) (ipI λ i j=>i+j) D W H:=by
 obtain⟨C,U,s,c,s',E,R,B,q⟩:=h
 obtain⟨x,s1,e1,F⟩:=ac9 B
 obtain⟨y,s2,e2,e⟩:=ac9 F
 clear B F
 unfold mK at e1
 split at e1
 case h_2=>cases e1
 rename_i d hd
 cases e1
 obtain⟨b,v,Y,J⟩:=E.val i _ hd
 refine⟨v,Y,C,U,s,y,s2,E,R,e2,λ w C1 G g1 l1 Z r1 R1=>?_⟩
 cases x with
 | int a =>
  cases y with
  | int b =>
   refine⟨a,b,J.intE,r1.intE,?_⟩
   have e:(match lG U i (.int (a+b))with|some U=>DV.R.ok (DV.Ct.next U) s2|none=>.bad)=.ok c s':=e
   cases hs:lG U i (.int (a+b))with
   | none=>rw[hs]at e;cases e
   | some U1 =>
    rw[hs]at e
    cases e
    exact q C1 G g1 l1 R1 _ (aZ6 (E.mono g1 l1) RV.intI rfl hs)
  | _=>cases e
 | _=>cases e
theorem cg5 {mc:kS->kQ->kU kR}{F B:kS->kQ->kU lB}(h:TSv Γ (λ U s=>k9 (mc U s) λ k s=>if k then F U s else B U s) D W H):co2 (TTv Γ mc) (TSv Γ F) (TSv Γ B) D W H:=by
 obtain⟨C,U,s,d,s',E,R,hm,q⟩:=h
 obtain⟨c,s1,e1,hm⟩:=zE hm
 refine⟨C,U,s,c,s1,E,R,e1,λ C1 G g1 l1 R1=>?_⟩
 cases c with
 | true =>
  rw[if_pos rfl]at hm ⊢
  exact⟨C1,U,s1,d,s',E.mono g1 l1,R1,hm,q.trans g1 l1⟩
 | false =>
  rw[if_neg aW]at hm ⊢
  exact⟨C1,U,s1,d,s',E.mono g1 l1,R1,hm,q.trans g1 l1⟩
theorem bt7 {J G:kS->kQ->kU lB}(h:TSv Γ (λ U s=>(J U s).bind λ c s=>match c with|.next U=>G U s|c=>.ok c s) D W H):cg0 (TSv Γ J) (TSv Γ G) D W H:=by
 obtain⟨C,U,s,c,s',E,R,hm,q⟩:=h
 obtain⟨F,s1,e1,hm⟩:=ac9 hm
 refine⟨C,U,s,F,s1,E,R,e1,λ C1 B g1 l1 R1=>?_⟩
 cases F with
 | next U1=>exact λ W1 Y=>⟨C1,U1,s1,c,s',Y,R1,hm,q.trans g1 l1⟩
 | ret d=>cases hm;exact q C1 B g1 l1 R1
 | cont U=>cases hm;exact q C1 B g1 l1 R1
 | brk U=>cases hm;exact q C1 B g1 l1 R1
theorem bq2 {mc:kS->kQ->kU kR}{mb:kS->kQ->kU lB}(h:TSv Γ (DV.whl mc mb) D W H):be0 (TTv Γ mc) (TSv Γ mb) D W H:=by
 obtain⟨C,U,s,c,s',E,R,hm,q⟩:=h
 unfold DV.whl at hm
 split at hm
 case isFalse=>exact fb hm
 rename_i hn
 generalize hn.choose=n at hm
 refine⟨λ n W H=>∃ C U s,RE Γ C H s.length U W/\Rp Γ C H s/\DV.qS mc mb n U s=.ok c s'/\as4 Γ C s H c s' D,⟨n,C,U,s,E,R,hm,q⟩,?_⟩
 clear E R hm q hn
 rintro n W H ⟨C,U,s,E,R,hm,q⟩
 cases n with
 | zero=>exact fb hm
 | succ n =>
  unfold DV.qS at hm
  obtain⟨b,s1,e1,hm⟩:=zE hm
  refine⟨C,U,s,b,s1,E,R,e1,λ C1 Y g1 l1 R1=>?_⟩
  cases b with
  | false =>
   rw[if_neg aW]at hm ⊢
   cases hm
   exact q C1 Y g1 l1 R1 W (E.mono g1 l1)
  | true =>
   rw[if_pos rfl]at hm ⊢
   obtain⟨F,s2,e2,hm⟩:=ac9 hm
   refine⟨_,λ W' H' w=>⟨n,cC n,w⟩,C1,U,s1,F,s2,E.mono g1 l1,R1,e2,λ C2 J Z l2 R2=>?_⟩
   have G:=g1.trans Z l1
   have L:=av l1 l2
   cases F with
   | next U1=>exact λ W1 B=>⟨C2,U1,s2,B,R2,hm,q.trans G L⟩
   | cont U1=>exact λ W1 B=>⟨C2,U1,s2,B,R2,hm,q.trans G L⟩
   | ret d=>cases hm;exact q C2 J G L R2
   | brk U=>cases hm;exact q C2 J G L R2
theorem bS4 {mI:kS->kQ->kU lU}{mb:kS->kQ->kU lB}{tg:lF} (h:TSv Γ (λ U s=>(mI U s).bind λ q s0=>mM (λ s=>lD s0 s q.src) (λ d U s=>match lu U tg d with
  | some U=>mb U s
  | none=>.bad) q.its U s0) D W H):ch3 (TIv Γ mI) (gOf Γ.K tg) (TSv Γ mb) D W H:=by
 obtain⟨C,U,s,c,s',E,R,hm,k⟩:=h
 obtain⟨q,s0,e1,hm⟩:=ac9 hm
 refine⟨C,U,s,q,s0,E,R,e1,λ J C1 H1 g1 l1 b1 R1 wk=>?_⟩
 refine⟨λ i m W' H'=>∃ C' U' t,Gr C1 s0 H1 C' t H'/\Rp Γ C' H' t/\RE Γ C' H' t.length U' W'/\i<=q.its.length/\m=q.its.length - i /\
  mM (λ s=>lD s0 s q.src) (λ d U s=>match lu U tg d with
   | some U=>mb U s
   | none=>.bad) (q.its.drop i) U' t=.ok c s',⟨q.its.length,?_⟩,?_⟩
 .exact⟨C1,U,s0,Gr.refl _ _ _,R1,E.mono g1 l1,b9 _,by simp,by rw[dw];exact hm⟩
 .rintro i m W' H' ⟨C',U',t,g,Y,E',a2,rfl,hc⟩
  have B:=g.le
  rcases jf i q.its.length with hlt|hge
  .have hd:q.its[i]?=some q.its[i]:=au hlt
   rw[dE hlt]at hc
   unfold mM at hc
   split at hc
   case isFalse=>exact fb hc
   rename_i F
   obtain⟨Z,a1⟩:=(wk C' H' t g B Y F i).1 hlt
   refine .inr ⟨Z,_,λ W2 H2 n=>⟨q.its.length - (i+1),by omega,n⟩,λ x H2 a0=>?_⟩
   obtain⟨sm,rv⟩:=a1 x H2 a0
   obtain⟨g2,R2⟩:=Y.same sm
   have rd:=rv _ hd
   have bd:(q.its[i]).bnd t.length=true:=zg B _ (ap9 b1 hd)
   obtain⟨c1,t3,hs,hc⟩:=ac9 hc
   cases hb:lu U' tg q.its[i]with
   | none=>rw[hb]at hs;cases hs
   | some U3 =>
    rw[hb]at hs
    refine br6 (E'.mono g2 (aw _)) rd bd hb λ W3 E3=>?_
    refine⟨C',U3,t,c1,t3,E3,R2,hs,λ C2 H4 g4 l4 G=>?_⟩
    have G4:=(g.trans g2 B).trans g4 B
    have L4:=av B l4
    have GG:=g1.trans G4 l1
    cases c1 with
    | next U1=>exact λ W1 E1=>⟨C2,U1,t3,G4,G,E1,hlt,rfl,hc⟩
    | cont U1=>exact λ W1 E1=>⟨C2,U1,t3,G4,G,E1,hlt,rfl,hc⟩
    | ret d=>cases hc;exact k C2 H4 GG (av l1 L4) G
    | brk U=>cases hc;exact k C2 H4 GG (av l1 L4) G
  .rw[eg hge]at hc
   unfold mM at hc
   split at hc
   case isFalse=>exact fb hc
   rename_i F
   cases hc
   exact .inl ⟨(wk C' H' s' g B Y F i).2 hge,k C' H' (g1.trans g l1) (av l1 B) Y W' E'⟩
structure Ck where
 N:List Str
 sc:Scope
 lk:String->List Nat->Expr->Bool
noncomputable def Ck.vis (c:Ck)(x:Str):Bool:=match c.sc.names.lookup x with|some .local=>true|some .cell=>true|some .free=>true|_=>false
noncomputable def Ck.loc (c:Ck)(x:Str):Bool:=match c.sc.names.lookup x with|some .local=>true|some .cell=>true|_=>false
noncomputable def Ck.gl (c:Ck)(x:Str):Bool:=(match c.sc.names.lookup x with|some .globalImplicit=>true|_=>false)&&!(x==("__debug__":Str))&&!decide (x=("__name__":Str))
noncomputable def Ck.var (c:Ck)(i:Nat)(x:Str):Bool:=decide (c.N[i]?=some x)&&c.vis x&&!(x==("__debug__":Str))&&!(x==("__classdict__":Str))
noncomputable def shp:Expr->Bool
 | .Starred ..=>false
 | .Set ..=>false
 | .SetComp ..=>false
 | .DictComp ..=>false
 | .GeneratorExp ..=>false
 | .Slice ..=>false
 | .NamedExpr ..=>false
 | _=>true
noncomputable def aF5:Expr->Bool
 | .ListComp ..=>false
 | .SetComp ..=>false
 | .DictComp ..=>false
 | _=>true
noncomputable def bX9:Expr->Bool
 | .Tuple ..=>false
 | _=>true
noncomputable def cj6:Expr->Bool
 | .Call _ [] [] _=>false
 | _=>true
noncomputable def mC:DV.Cn->Const->Bool
 | .non,.none=>true
 | .bl b,.bool c=>b==c
 | .int i,.int j=>decide (i=j)
 | .str x,.str y=>decide (y=⟨x.toArray⟩)&&decide (x.length<=1000)
 | _,_=>false
noncomputable def cd8 (ck:Ck):List Nat->List Expr->Bool
 | [],[]=>true
 | i::is,.Name x _::es=>decide (ck.N[i]?=some x)&&ck.loc x&&cd8 ck is es
 | _,_=>false
noncomputable def mTg (ck:Ck):lF->Expr->Bool
 | .one i,.Name x _=>decide (ck.N[i]?=some x)&&ck.loc x
 | .tup is,.Tuple es _ _=>cd8 ck is es
 | _,_=>false
noncomputable def tgN:Expr->List Str
 | .Name x _=>[x]
 | .Tuple es _ _=>es.filterMap λ e=>match e with|.Name x _=>some x|_=>none
 | _=>[]
structure ItT where
 x:Str
 y:Str
 ob:Expr
 sc:Scope
 p1:Pos
 p2:Pos
 p3:Pos
 p4:Pos
 p5:Pos
 p6:Pos
 p7:Pos
 k1:Nat
 k2:Nat
 ap:Pos
 cp:Pos
 pos:Pos
noncomputable def ItT.tg (q:ItT):Expr:=.Tuple [.Name q.x q.p5,.Name q.y q.p6] q.k2 q.p7
noncomputable def ItT.it (q:ItT):Expr:=.Call (.Attribute q.ob "items" q.ap) [] [] q.cp
noncomputable def ItT.text (q:ItT):Expr:=.ListComp (.BinOp (.Name q.x q.p1) .Add (.Tuple [.Name q.y q.p2] q.k1 q.p3) q.p4) [⟨q.tg,q.it,[],0⟩] q.sc q.pos
noncomputable def ckC (ck:Ck)(tgt:Expr)(caps:yD)(scope:Scope):Ck:=⟨tgN tgt++(caps.filterMap id).map λ j=>ck.N.getD j "",scope,λ _ _ _=>false⟩
noncomputable def aT6 (ck:Ck)(tg:lF)(tgt iter:Expr)(caps:yD)(scope:Scope):Bool :=
 zO (ckC ck tgt caps scope).N caps scope ck.N ck.sc&&decide ((ckC ck tgt caps scope).N.Nodup)&&mTg (ckC ck tgt caps scope) tg tgt&&shp iter
noncomputable def biT:lI->Option Str
 | .len=>some "len" | .abs=>some "abs" | .min2=>some "min" | .int=>some "int" | .str=>some "str" | _=>none
noncomputable def biK:lI->Option (Nat×Str)
 | .isInt=>some (1, "int")|.isBool=>some (2, "bool")|.isStr=>some (3, "str")|.isTup=>some (4, "tuple")|.isList=>some (5, "list")|_=>none
noncomputable def mkT:mw->Option Str
 | .tuple=>some "tuple" | .list=>some "list" | _=>none
noncomputable def mkF:mw->Option Str
 | .min=>some "min" | _=>none
noncomputable def mtT:my->Option (Str×Nat)
 | .append=>some ("append",1)|.reverse=>some ("reverse",0)|_=>none
noncomputable def cf0 (ck:Ck)(b:lI)(x:Str)(xs:yK)(m1 m2:Bool):Bool:=match biK b with
 | some p=>(match xs with|[_,.Name y _]=>decide (x=("isinstance":Str))&&ck.gl x&&decide (y=p.2)&&ck.gl y&&m2|_=>false)
 | none=>(match xs with|_::_=>decide (biT b=some x)&&ck.gl x&&m1|[]=>false)
mutual
noncomputable def mE (ck:Ck):mz->Expr->Bool
 | .var i,E=>match E with|.Name x _=>ck.var i x|_=>false
 | .cst c,E=>match E with|.Constant v _ _=>mC c v|_=>false
 | .glob g,E=>match E with|.Name x _=>decide (x=(g:Str))&&ck.gl x|_=>false
 | .bin op a b,E=>match E with|.BinOp l o r _=>decide (o=cg8 op)&&mE ck a l&&mE ck b r|_=>false
 | .neg a,E=>match E with|.UnaryOp .USub l _=>mE ck a l|_=>false
 | .not a,E=>match E with|.UnaryOp .Not l _=>mE ck a l|_=>false
 | .cmp op a b,E=>match E with|.Compare l [o] [r] _=>decide (o=bD0 op)&&mE ck a l&&mE ck b r|_=>false
 | .chain _ _ _ _ _,_=>false
 | .isN a,E=>match E with|.Compare l [.Is] [.Constant .none _ _] _=>mE ck a l|_=>false
 | .notN a,E=>match E with|.Compare l [.IsNot] [.Constant .none _ _] _=>mE ck a l|_=>false
 | .isB _ _,_=>false
 | .notB _ _,_=>false
 | .and a b,E=>match E with
  | .BoolOp .And [l,r] _=>mE ck a l&&mE ck b r
  | .BoolOp .And (l::m::r::es) p=>mE ck a l&&mE ck b (.BoolOp .And (m::r::es) p)
  | _=>false
 | .or a b,E=>match E with
  | .BoolOp .Or [l,r] _=>mE ck a l&&mE ck b r
  | .BoolOp .Or (l::m::r::es) p=>mE ck a l&&mE ck b (.BoolOp .Or (m::r::es) p)
  | _=>false
 | .ite c a b,E=>match E with|.IfExp t l r _=>mE ck c t&&mE ck a l&&mE ck b r|_=>false
 | .tup es,E=>match E with|.Tuple xs _ _=>mEs ck es xs&&decide (xs.length<=1000)|_=>false
 | .lst es,E=>match E with|.List xs _=>mEs ck es xs&&decide (xs.length<=1000)|_=>false
 | .dic ks vs,E=>match E with|.Dict a b _=>(match a,b with|[],[]=>mEs ck ks []&&mEs ck vs []|[some x],[y]=>mEs ck ks [x]&&mEs ck vs [y]|_,_=>false)|_=>false
 | .slL _ _,_=>false
 | .slU a hi,E=>match E with|.Subscript o (.Slice none (some h) none _) _=>mE ck a o&&mE ck hi h|_=>false
 | .slLU _ _ _,_=>false
 | .rev _,_=>false
 | .fstr _,_=>false
 | .inC _ _,_=>false
 | .getC _ _,_=>false
 | .bitl _,_=>false
 | .lrng _,_=>false
 | .dicT,E=>match E with|.Dict [] [] _=>true|_=>false
 | .dicU k v,E=>match E with|.Dict a b _=>(match a,b with|[some x],[y]=>mE ck k x&&mE ck v y|_,_=>false)|_=>false
 | .get2 _ _ _,_=>false
 | .ix a b,E=>match E with|.Subscript o i _=>mE ck a o&&mE ck b i|_=>false
 | .call f as,E=>match E with|.Call (.Name x _) xs [] _=>decide (x=(f:Str))&&ck.gl x&&mAs ck as xs|_=>false
 | .callC _ _,_=>false
 | .callV _ _,_=>false
 | .bi b es,E=>match E with|.Call (.Name x _) xs [] _=>cf0 ck b x xs (mEs ck es xs) (mEs ck es (xs.take 1))|_=>false
 | .mk k l,E=>match E with
  | .Call (.Name x _) [a] [] _=>ck.gl x&&shp a&&((decide (mkT k=some x)&&mL ck 2 l a)||(decide (mkF k=some x)&&mL ck 1 l a))
  | .ListComp e gs sc p=>decide (k=.list)&&mL ck 0 l (.ListComp e gs sc p)
  | _=>false
 | .mkD k l d,E=>match E with
  | .Call (.Name x _) [a] [⟨some y,de,_⟩] _=>(decide (k=.min)&&decide (x=("min":Str)))&&decide (y=("default":Str))&&ck.gl x&&shp a&&mL ck 1 l a&&mE ck d de
  | _=>false
 | .meth m o es,E=>match E with
  | .Call (.Attribute ob x ap) xs [] cp=>decide (mtT m=some (x,xs.length))&&cj6 ob&&(ap.endLine==cp.line)&&mE ck o ob&&mEs ck es xs
  | _=>false
 | .ext _ _,_=>false
 | .extS _ _,_=>false
 | .mks _ _,_=>false
 | .mkDs _ _ _,_=>false
 | .minK _ _ _,_=>false
 | .spl _ _,_=>false
 | .join _ _,_=>false
noncomputable def mEs (ck:Ck):ly->List Expr->Bool
 | .nil,xs=>match xs with|[]=>true|_=>false
 | .cons e es,xs=>match xs with|x::xs=>mE ck e x&&shp x&&mEs ck es xs|_=>false
noncomputable def mFs (ck:Ck):ly->List Expr->Bool
 | .nil,xs=>match xs with|[]=>true|_=>false
 | .cons e es,xs=>match xs with
  | .FormattedValue v c none _::xs=>decide (c=-1)&&mE ck e v&&mFs ck es xs
  | .Constant v j p::xs=>mE ck e (.Constant v j p)&&mFs ck es xs
  | _=>false
noncomputable def mAs (ck:Ck):lX->List Expr->Bool
 | .nil,xs=>match xs with|[]=>true|_=>false
 | .ex e es,xs=>match xs with|x::xs=>mE ck e x&&shp x&&mAs ck es xs|_=>false
 | .lam _ _ _,_=>false
 | .fn _ _,_=>false
noncomputable def co7 (ck:Ck):lX->List Expr->Bool
 | .nil,xs=>match xs with|[]=>true|_=>false
 | .ex e es,xs=>match xs with|x::xs=>mE ck e x&&shp x&&co7 ck es xs|_=>false
 | .lam _ _ _,_=>false
 | .fn _ _,_=>false
noncomputable def mI (ck:Ck)(tgt:Expr):DV.I->Expr->Bool
 | .rng1 a,E=>match E with|.Call (.Name x _) [l] [] _=>decide (x=("range":Str))&&ck.gl x&&mE ck a l&&shp l|_=>false
 | .rng2 _ _,_=>false
 | .seq e,x=>mE ck e x&&shp x
 | .rng3 _ _ _,_=>false
 | .rngD _,_=>false
 | .enum (.seq _),_=>false
 | .zip (.seq _) (.seq _),_=>false
 | .enum _,_=>false
 | .zip _ _,_=>false
 | .items _,_=>false
noncomputable def mL (ck:Ck)(k:Nat):DV.L->Expr->Bool
 | .comp tg it e caps,E=>match E with|.ListComp elt [⟨tgt,iter,[],z⟩] scope _=>decide (z=0)&&aT6 ck tg tgt iter caps scope&&mI ck tgt it iter&&mE (ckC ck tgt caps scope) e elt|_=>false
 | .compIf tg it c e caps,E=>match E with|.ListComp elt [⟨tgt,iter,[i],z⟩] scope _=>decide (z=0)&&aT6 ck tg tgt iter caps scope&&mI ck tgt it iter&&mE (ckC ck tgt caps scope) c i&&mE (ckC ck tgt caps scope) e elt|_=>false
 | .disp es,E=>match E with|.List xs _=>decide (1<=k)&&mEs ck es xs&&decide (xs.length<=1000)|_=>false
 | .seq e,x=>decide (k=2)&&mE ck e x
 | .itm _,_=>false
end
theorem ff {p:Prop}(h:false=true):p:=Bool.noConfusion h
mutual
noncomputable def mS (ck:Ck):DV.S->Stmt->Bool
 | .asg tg e,S=>match S with
  | .Assign [t] v _=>mTg ck tg t&&mE ck e v&&(match tg with|.one _=>true|.tup _=>bX9 v&&aF5 v)
  | _=>false
 | .setIx o i e,S=>match S with|.Assign [.Subscript ob ix _] v _=>mE ck o ob&&mE ck i ix&&mE ck e v&&aF5 v|_=>false
 | .aug i e,S=>match S with|.AugAssign (.Name x _) .Add v _=>decide (ck.N[i]?=some x)&&ck.loc x&&mE ck e v|_=>false
 | .ex e,S=>match S with|.Expr v _=>mE ck e v&&aF5 v|_=>false
 | .ret e,S=>match S with|.Return (some v) _=>mE ck e v|_=>false
 | .retN,S=>match S with|.Return none _=>true|_=>false
 | .ite c a b,S=>match S with|.If t l r _=>mE ck c t&&mSs ck a l&&mSs ck b r|_=>false
 | .whl c b,S=>match S with|.While t l [] _=>mE ck c t&&mSs ck b l|_=>false
 | .for_ tg it b,S=>match S with|.For tgt iter l [] _=>mTg ck tg tgt&&mI ck tgt it iter&&mSs ck b l|_=>false
 | .pass,_=>false
 | .cont,S=>match S with|.Continue _=>true|_=>false
 | .brk,_=>false
 | .raise,_=>true
 | .und _,_=>false
noncomputable def mSs (ck:Ck):mV->List Stmt->Bool
 | .nil,xs=>match xs with|[]=>true|_=>false
 | .cons s ss,xs=>match xs with|x::xs=>(mS ck s x&&mSs ck ss xs)|_=>false
end
theorem aQ7 {B:Ck}{e:mz}{E:Expr}(h:mE B e E=true):shp E=true:=by
 cases E<;>first|rfl|(exfalso;cases e<;>exact ff h)
theorem bv2 {F:Ck}{B:Expr}{e:DV.I}{E:Expr}(h:mI F B e E=true):shp E=true:=by
 cases e with
 | seq e=>have h:(mE F e E&&shp E)=true:=h;rw[ao]at h;exact h.2
 | enum a=>cases E<;>first|rfl|(exfalso;cases a<;>exact ff h)
 | zip a b=>cases E<;>first|rfl|(exfalso;cases a<;>first|exact ff h|(cases b<;>exact ff h))
 | _=>cases E<;>first|rfl|exact ff h
theorem zf {e:Expr}{es:yK}{env:Env}(h:shp e=true):bz (e::es) env=(false,eval e env)::bz es env:=by
 cases e<;>first|rfl|cases h
theorem zL {env:Env}{pos:Pos}:∀ {es:yK},(∀ e∈es,shp e=true)->(dZ pos (bz es env)).any (·.1)=false/\(dZ pos (bz es env)).all (λ x=>!x.1)=true
 | [],_=>⟨rfl,rfl⟩
 | e::es,h=>by
  have F:=zf (es:=es) (env:=env) (h e (aC ..))
  obtain⟨B,h3⟩:=zL (env:=env) (pos:=pos) (es:=es) λ x hx=>h x (aq _ hx)
  rw[F]
  unfold dZ at B h3 ⊢
  simp only[a7,fQ,dG,B,h3]
  exact⟨rfl,rfl⟩
theorem ay3 {e:Expr}{env:Env}(h:shp e=true)(x:Value):dk e env x=pure x:=by
 cases e<;>first|rfl|cases h
theorem aE4 {e:Expr}{op:CmpOp}(h:shp e=true):c9 op e=false:=by
 cases e<;>first|rfl|cases h
theorem at4 {e:Expr}{t:Option Expr}{l:Nat}{env:Env}(h:aF5 e=true):fh e t l env=pure false:=by
 cases e<;>first|rfl|cases h
theorem aZ3 {e:Expr}{f:Str}{env:Env}(h:cj6 e=true):eL e f env (eval e env)=eval e env:=by
 cases e with
 | Call g a k p =>
  cases g with
  | Name x p' =>
   cases a with
   | nil=>cases k with
    | nil=>cases h
    | cons _ _=>rfl
   | cons _ _=>rfl
  | _=>rfl
 | _=>rfl
theorem aW5 {es:yK}{k:Nat}{p:Pos}{e:Expr}{env:Env}(h:bX9 e=true):iC [.Tuple es k p] e env=pure none:=by
 cases e<;>first|rfl|cases h
theorem aW1 {o i:Expr}{p:Pos}{e:Expr}{env:Env}:iC [.Subscript o i p] e env=pure none:=by
 cases e<;>rfl
theorem aX3 {e:Expr}(h:shp e=true):bf4 e:=by
 intro o i
 cases e<;>first|rfl|cases h
def spV (Γ:Gm)(c:List kR->kQ->kU kR):Sp:=λ vs H Q _=>rCl Γ c vs H Q
noncomputable def bNames:List Str:=["len", "abs", "min", "max", "int", "isinstance", "bool", "str", "tuple", "list", "range", "sum", "all", "any", "sorted", "zip", "enumerate", "ord"]
noncomputable def LamI.own (J:LamI):Str:=match J.nm with|none => "<lambda>" | some p=>p.1
noncomputable def strD (kvs:List (List Nat×List Nat)):List (PyData×PyData):=kvs.map λ p=>(.str ⟨p.1.toArray⟩,.str ⟨p.2.toArray⟩)
structure CG (Γ:Gm)(F:la)(n:Nat)(X:Cx)(ck:Ck):Prop where
 K:X.K=Γ.K
 N:X.N=ck.N
 nd:ck.N.Nodup
 xe:X.xe=λ _ _=>False
 calm:X.calm=true
 deep:lf+1<=n
 room:Room n X.A
 sc:∀ x k,ck.sc.names.lookup x=some k->X.env.scope.names.lookup x=some k\/(k=.free/\X.env.scope.names.lookup x=some .cell)
 fn:∀ x,ck.sc.names.lookup x=some .cell->X.fn x=true
 bi:∀ x∈bNames,X.mg x=none
 call:∀ f:String,(∀ l s,F.call f l s=.bad)\/∃ a fd ps,FnOk X.prog X.w X.K X.mg X.base CX0 n a fd ps (spV Γ (F.call f))/\X.mg (f:Str)=some (.ref a)/\cq X.K (.ref a)=true/\Binds X.K fd ps []
 con:∀ x d,F.con x=some d->∃ v u,X.mg (x:Str)=some u/\RelV v u/\(∀ m,d.bnd m=true)/\∀ C H,RV Γ C H d v
 lam:∀ id caps E,ck.lk id caps E=true->False
 cl:True
 fa:∀(f:String) (a:Addr),Γ.fa f=some a->X.mg (f:Str)=some (.ref a)/\∃ oc od fd sl,X.K.lookup a=some ⟨oc,od,.func fd,sl⟩
 fk:DV.FK F
 cdc:∀ c kvs,F.cdc c=some kvs->∃ a,X.mg (c:Str)=some (.ref a)/\∀ h:Heap,X.K.In h->StrTab X.prog X.w h a (strD kvs)
section
variable {Γ:Gm} {F:la} {n:Nat} {X:Cx} {ck:Ck}
theorem CG.vis (G:CG Γ F n X ck){x:Str}(h:ck.vis x=true):Vis X.env.scope x:=by
 unfold Ck.vis at h
 split at h
 .rename_i e;rcases G.sc _ _ e with z|⟨z,_⟩
  .exact .inl z
  .cases z
 .rename_i e;rcases G.sc _ _ e with z|⟨z,_⟩
  .exact .inr (.inl z)
  .cases z
 .rename_i e;rcases G.sc _ _ e with z|⟨_,z⟩
  .exact .inr (.inr z)
  .exact .inr (.inl z)
 .cases h
theorem CG.loc (G:CG Γ F n X ck){x:Str}(h:ck.loc x=true):Loc X.env.scope x/\(X.fn x=true\/X.env.scope.names.lookup x=some .local):=by
 unfold Ck.loc at h
 split at h
 .rename_i e;rcases G.sc _ _ e with z|⟨z,_⟩
  .exact⟨.inl z,.inr z⟩
  .cases z
 .rename_i e;rcases G.sc _ _ e with z|⟨z,_⟩
  .exact⟨.inr z,.inl (G.fn _ e)⟩
  .cases z
 .cases h
theorem CG.gl (G:CG Γ F n X ck){x:Str}(h:ck.gl x=true):Gl X x/\(x==("__debug__":Str))=false/\x ≠ "__name__":=by
 unfold Ck.gl at h
 simp only[ao,je]at h
 obtain⟨⟨B,J⟩,h3⟩:=h
 refine⟨?_,J,of_decide_eq_false h3⟩
 split at B
 .rename_i e;rcases G.sc _ _ e with z|⟨z,_⟩
  .exact z
  .cases z
 .cases B
theorem bu8 (G:CG Γ F n X ck):∀ {is:List Nat} {es:yK},cd8 ck is es=true->PGs X es (ce4 is)/\(cE es X.env).length=is.length/\(cE es X.env).findIdx? (·.1)=none
 | [],[],_=>⟨by8,rfl,rfl⟩
 | [],_::_,h=>by cases h
 | i::is,[],h=>by cases h
 | i::is,e::es,h=>by
  cases e with
  | Name x p =>
   unfold cd8 at h
   simp only[ao,decide_eq_true_eq]at h
   obtain⟨⟨B,J⟩,h3⟩:=h
   obtain⟨l1,Y⟩:=G.loc J
   obtain⟨a,b,c⟩:=bu8 G h3
   have hs:cE (.Name x p::es) X.env=(false,gd (.Name x p) X.env)::cE es X.env:=rfl
   refine⟨bn4 (bj1 (by rw[G.N];exact G.nd) (by rw[G.N];exact B) l1 Y) a (by rw[hs];rfl),by rw[hs,bc,bc,b],?_⟩
   rw[hs,List.findIdx?_cons]
   simp[c]
  | _=>cases h
theorem bp1 (G:CG Γ F n X ck){tg:lF}{e:Expr}(h:mTg ck tg e=true):PG X e (gOf Γ.K tg):=by
 unfold mTg at h
 split at h
 .simp only[ao,decide_eq_true_eq]at h
  obtain⟨l1,B⟩:=G.loc h.2
  exact bj1 (by rw[G.N];exact G.nd) (by rw[G.N];exact h.1) l1 B
 .obtain⟨a,b,c⟩:=bu8 G h
  exact bE1 G.K G.calm a b c
 .cases h
theorem CG.comp (G:CG Γ F n X ck){tg:lF}{J iter:Expr}{B:yD}{scope:Scope}(h:aT6 ck tg J iter B scope=true) :
  zO (ckC ck J B scope).N B scope X.N X.env.scope=true/\shp iter=true /\
  ∀(Cc:Addr) (cells:yB) (s:ai) (H:Hp) (ex:List Addr),CG Γ F n (zB X (ckC ck J B scope).N scope Cc cells s H ex) (ckC ck J B scope)/\PG (zB X (ckC ck J B scope).N scope Cc cells s H ex) J (gOf Γ.K tg):=by
 unfold aT6 at h
 simp only[ao,decide_eq_true_eq]at h
 obtain⟨⟨⟨Y,h2⟩,h3⟩,h4⟩:=h
 refine⟨?_,h4,λ Cc cells s H ex=>?_⟩
 .rw[G.N]
  unfold zO at Y ⊢
  simp only[ao]at Y ⊢
  obtain⟨⟨⟨⟨⟨a1,Z⟩,a3⟩,a4⟩,a5⟩,a6⟩:=Y
  refine⟨⟨⟨⟨⟨a1,?_⟩,a3⟩,a4⟩,a5⟩,a6⟩
  rw[aX]at Z ⊢
  intro y hy
  have:=Z y hy
  rw[cb]at this ⊢
  rcases this with q|q
  .exact .inl q
  .right
   rw[cb]at q ⊢
   rcases q with q|q
   .rcases G.sc _ _ (eq_of_beq q)with z|⟨z,_⟩
    .left;rw[z];exact beq_self_eq_true _
    .cases z
   .rcases G.sc _ _ (eq_of_beq q)with z|⟨_,z⟩
    .right;rw[z];exact beq_self_eq_true _
    .left;rw[z];exact beq_self_eq_true _
 .have G':CG Γ F n (zB X (ckC ck J B scope).N scope Cc cells s H ex) (ckC ck J B scope):=by
   refine⟨G.K,rfl,h2,rfl,G.calm,G.deep,G.room,λ x k e=>?_,λ x e=>?_,G.bi,G.call,G.con,λ _ _ _ h=>(by cases h),G.cl,G.fa,G.fk,G.cdc⟩
   .have q:=qb (env:=X.env) e
    have q':(eM scope X.env).names.lookup x=some (if(k==NameKind.free&&X.env.scope.kind==.function&&X.env.kindOf x==some .cell)then NameKind.cell else k):=q
    show(eM scope X.env).names.lookup x=some k\/_
    rw[q']
    split
    .rename_i hc
     simp only[ao]at hc
     exact .inr ⟨eq_of_beq hc.1.1,rfl⟩
    .exact .inl rfl
   .show(scope.names.lookup x==some .cell)=true
    rw[show scope.names.lookup x=some .cell from e];rfl
  exact⟨G',bp1 G' h3⟩
end
section
variable {Γ:Gm} {F:la} {n:Nat} {X:Cx} {ck:Ck} {W:St} {H:Hp} {Q:VK}
theorem TEv.eq {m m':kS->kQ->kU kR}(e:∀ U s,m U s=m' U s)(q:TEv Γ m W H Q):TEv Γ m' W H Q:=by
 have:m=m':=funext λ U=>funext λ s=>e U s
 subst this;exact q
theorem TTv.eq {m m':kS->kQ->kU kR}{Q:Bool->Hp->Prop}(e:∀ U s,m U s=m' U s)(q:TTv Γ m W H Q):TTv Γ m' W H Q:=by
 have:m=m':=funext λ U=>funext λ s=>e U s
 subst this;exact q
theorem TAv.eq {m m':kS->kQ->kU (List kR)}{Q:List V->Hp->Prop}(e:∀ U s,m U s=m' U s)(q:TAv Γ m W H Q):TAv Γ m' W H Q:=by
 have:m=m':=funext λ U=>funext λ s=>e U s
 subst this;exact q
theorem TFv.eq {m m':kS->kQ->kU (List kR)}(e:∀ U s,m U s=m' U s)(q:TFv Γ m W H Q):TFv Γ m' W H Q:=by
 have:m=m':=funext λ U=>funext λ s=>e U s
 subst this;exact q
theorem TIv.eq {m m':kS->kQ->kU lU}{R:It->Hp->Prop}(e:∀ U s,m U s=m' U s)(q:TIv Γ m W H R):TIv Γ m' W H R:=by
 have:m=m':=funext λ U=>funext λ s=>e U s
 subst this;exact q
theorem TSv.eq {m m':kS->kQ->kU lB}{D:Ends}(e:∀ U s,m U s=m' U s)(q:TSv Γ m D W H):TSv Γ m' D W H:=by
 have:m=m':=funext λ U=>funext λ s=>e U s
 subst this;exact q
def EvT (Γ:Gm)(X:Cx)(E:Expr)(m:kS->kQ->kU kR):Prop:=PE X E (TEv Γ m)/\PT X E (TTv Γ m)
theorem EvT.val {E:Expr}{m:kS->kQ->kU kR}(h:PE X E (TEv Γ m))(he:∀ B,dP E X.env B=(do let v <- B;standAt E.pos;iV [v] (truthy v)):=by intro _;rfl):EvT Γ X E m :=
 ⟨h,(bL8 h he).imp λ W H Q q=>aQ4 q⟩
theorem bo8 {c a b:Expr}{pos:Pos}{G tb Y:TT}(hc:PT X c G)(ha:PT X a tb)(hb:PT X b Y):PT X (.IfExp c a b pos) (λ W H Q=>G W H λ k F=>if k=true then tb W F Q else Y W F Q):=by
 intro B s W H Q I h
 have e:dP (.IfExp c a b pos) X.env (eval (.IfExp c a b pos) X.env)=(do if <- dP c X.env (eval c X.env)then dP a X.env (eval a X.env)else dP b X.env (eval b X.env)):=by rw[dP]
 rw[e]
 refine ak (thn (hc B s W H _ I h) λ k s1 ⟨F,J,q1⟩=>?_)
 cases k with
 | true=>exact ha B s1 W F Q J q1
 | false=>exact hb B s1 W F Q J q1
theorem bU3 {mc G F:kS->kQ->kU kR}{Q:Bool->Hp->Prop}(h:TTv Γ (λ U s=>k9 (mc U s) λ k s=>if k then G U s else F U s) W H Q):TTv Γ mc W H λ k B=>if k=true then TTv Γ G W B Q else TTv Γ F W B Q:=by
 obtain⟨C,U,s,d,s',E,R,hm,q⟩:=h
 obtain⟨c,s1,e1,hm⟩:=zE hm
 refine⟨C,U,s,c,s1,E,R,e1,λ C1 B g1 l1 R1=>?_⟩
 cases c with
 | true =>
  rw[if_pos rfl]at hm ⊢
  exact⟨C1,U,s1,d,s',E.mono g1 l1,R1,hm,q.trans g1 l1⟩
 | false =>
  rw[if_neg aW]at hm ⊢
  exact⟨C1,U,s1,d,s',E.mono g1 l1,R1,hm,q.trans g1 l1⟩
section
variable {a b c:mz} {l r t:Expr} {pos:Pos}
theorem bA6 (G:CG Γ F n X ck)(op:mQ)(ha:EvT Γ X l (kW F a))(hb:EvT Γ X r (kW F b)):EvT Γ X (.BinOp l (cg8 op) r pos) (kW F (.bin op a b)) :=
 .val ((ck7 (bN1 G.K op) ha.1 hb.1).imp λ W H Q q=>bj9 (TEv.eq (λ U s=>rfl) q))
theorem bJ7 (ha:EvT Γ X l (kW F a)):EvT Γ X (.UnaryOp .USub l pos) (kW F (.neg a)) :=
 .val ((ch8 bP4 ha.1).imp λ W H Q q=>cn2 (f:=λ x s=>match x with|.int i=>.ok (.int (-i)) s|_=>.bad) (TEv.eq (λ U s=>rfl) q) λ C s x d s' v H' R r h hm k=>by
  cases x with
  | int i =>
   cases hm
   exact⟨i,r.intE,k.here R rfl RV.intI⟩
  | _=>cases hm)
theorem bz1 (ha:EvT Γ X l (kW F a)):EvT Γ X (.UnaryOp .Not l pos) (kW F (.not a)) :=
 ⟨(bM8 ha.1).imp λ W H Q q=>bV4 (TEv.eq (λ U s=>rfl) q),(bM7 ha.2).imp λ W H Q q=>bM9 (TTv.eq (λ U s=>rfl) q)⟩
theorem bK1 (G:CG Γ F n X ck)(op:mF)(hs:shp r=true)(ha:EvT Γ X l (kW F a))(hb:EvT Γ X r (kW F b)):EvT Γ X (.Compare l [bD0 op] [r] pos) (kW F (.cmp op a b)):=by
 have ho:=bY0 (Γ:=Γ) G.K (G.room.mono G.deep) op
 refine⟨(bH7 ho ha.1 hb.1 (aE4 hs)).imp λ W H Q q=>bj9 (TEv.eq (λ U s=>rfl) q),(bH8 ho ha.1 hb.1 (aE4 hs)).imp λ W H Q q=>?_⟩
 have q:=by9 q
 exact bj9 (TEv.eq (λ U s=>rfl) q)
theorem RV.nonIff {C:Nat->Addr}{x:kR}{v:V}(r:RV Γ C H x v):decide (v=.non)=decide (x=.non):=by
 cases x with
 | non=>rw[r.nonE];rfl
 | bl b=>rw[r.blE];rfl
 | int i=>rw[r.intE];rfl
 | str z=>rw[r.strE];rfl
 | tup l=>obtain⟨a,h,rfl,_⟩:=r.tupE;rfl
 | ref k=>rw[r.refE];rfl
 | fn f=>unfold RV at r;obtain⟨a,_,rfl⟩:=r;rfl
 | clo f cs=>unfold RV at r;obtain⟨f,_,_,_,rfl,_⟩:=r;rfl
theorem by1 {j pos'}(ha:EvT Γ X l (kW F a)):EvT Γ X (.Compare l [.Is] [.Constant .none j pos'] pos) (kW F (.isN a)):=by
 have key:∀ W H Q,TEv Γ (kW F (.isN a)) W H Q->co4 (TEv Γ (kW F a)) W H Q:=λ W H Q q=>by
  obtain⟨C,U,s,d,s',E,R,hm,k⟩:=q
  obtain⟨x,s1,e1,hm⟩:=ac9 hm
  cases hm
  refine⟨C,U,s,x,_,E,R,e1,λ v C1 h g1 l1 B r1 R1=>?_⟩
  show Q (.bl (decide (v=.non))) h
  rw[r1.nonIff]
  exact k _ C1 h g1 l1 rfl RV.blI R1
 exact⟨(bt3 (bv9 ha.1)).imp key,(bv4 (bv9 ha.1)).imp λ W H Q q=>key _ _ _ (aQ4 q)⟩
theorem bl8 {j pos'}(ha:EvT Γ X l (kW F a)):EvT Γ X (.Compare l [.IsNot] [.Constant .none j pos'] pos) (kW F (.notN a)):=by
 have key:∀ W H Q,TEv Γ (kW F (.notN a)) W H Q->cc0 (TEv Γ (kW F a)) W H Q:=λ W H Q q=>by
  obtain⟨C,U,s,d,s',E,R,hm,k⟩:=q
  obtain⟨x,s1,e1,hm⟩:=ac9 hm
  cases hm
  refine⟨C,U,s,x,_,E,R,e1,λ v C1 h g1 l1 B r1 R1=>?_⟩
  show Q (.bl (!decide (v=.non))) h
  rw[r1.nonIff]
  exact k _ C1 h g1 l1 rfl RV.blI R1
 exact⟨(bt3 (bf3 ha.1)).imp key,(bv4 (bf3 ha.1)).imp λ W H Q q=>key _ _ _ (aQ4 q)⟩
theorem ba4 {op:BoolOp}{es:yK}{t:TT}(h:PT X (.BoolOp op es pos) t):PW X (.BoolOp op es pos) t:=by
 intro F B s W H Q I q
 have:=h B s W H Q I q
 have e:∀ w,dP (.BoolOp op es pos) X.env w=allTrue op es X.env:=λ w=>by rw[dP]
 rw[e]at this ⊢
 exact this
theorem bx0 (ha:EvT Γ X l (kW F a))(hb:EvT Γ X r (kW F b)):EvT Γ X (.BoolOp .And [l,r] pos) (kW F (.and a b)) :=
 ⟨(bu0 ha.1 (bt4 hb.1)).imp λ W H Q q=>bw9 (TEv.eq (λ U s=>rfl) q),(bt2 ha.2 (bK0 hb.2)).pt.imp λ W H Q q=>bw0 (TTv.eq (λ U s=>rfl) q)⟩
theorem bK6 {es:yK}(ha:EvT Γ X l (kW F a))(hb:EvT Γ X (.BoolOp .And (r::es) pos) (kW F b)):EvT Γ X (.BoolOp .And (l::r::es) pos) (kW F (.and a b)) :=
 ⟨(bu0 ha.1 hb.1).imp λ W H Q q=>bw9 (TEv.eq (λ U s=>rfl) q),(bt2 ha.2 (ba4 hb.2)).pt.imp λ W H Q q=>bw0 (TTv.eq (λ U s=>rfl) q)⟩
theorem bU0 (ha:EvT Γ X l (kW F a))(hb:EvT Γ X r (kW F b)):EvT Γ X (.BoolOp .Or [l,r] pos) (kW F (.or a b)) :=
 ⟨(cb8 ha.1 (bt4 hb.1)).imp λ W H Q q=>bX8 (TEv.eq (λ U s=>rfl) q),(bR3 ha.2 (bU6 hb.2)).pt.imp λ W H Q q=>bR5 (TTv.eq (λ U s=>rfl) q)⟩
theorem cb0 {es:yK}(ha:EvT Γ X l (kW F a))(hb:EvT Γ X (.BoolOp .Or (r::es) pos) (kW F b)):EvT Γ X (.BoolOp .Or (l::r::es) pos) (kW F (.or a b)) :=
 ⟨(cb8 ha.1 hb.1).imp λ W H Q q=>bX8 (TEv.eq (λ U s=>rfl) q),(bR3 ha.2 (ba4 hb.2)).pt.imp λ W H Q q=>bR5 (TTv.eq (λ U s=>rfl) q)⟩
theorem bK4 (hc:EvT Γ X t (kW F c))(ha:EvT Γ X l (kW F a))(hb:EvT Γ X r (kW F b)):EvT Γ X (.IfExp t l r pos) (kW F (.ite c a b)) :=
 ⟨(br0 hc.2 ha.1 hb.1).imp λ W H Q q=>cc6 (TEv.eq (λ U s=>rfl) q),(bo8 hc.2 ha.2 hb.2).imp λ W H Q q=>bU3 (TTv.eq (λ U s=>rfl) q)⟩
theorem bP0 (G:CG Γ F n X ck)(hs:shp r=true)(ha:EvT Γ X l (kW F a))(hb:EvT Γ X r (kW F b)):EvT Γ X (.Subscript l r pos) (kW F (.ix a b)) :=
 .val ((cf7 (cg4 G.K (at9 G.room)) ha.1 hb.1 (aX3 hs)).imp λ W H Q q=>bj9 (TEv.eq (λ U s=>rfl) q))
theorem bF2 {h:Pos}(G:CG Γ F n X ck)(ha:EvT Γ X l (kW F a))(hb:EvT Γ X r (kW F b)):EvT Γ X (.Subscript l (.Slice none (some r) none h) pos) (kW F (.slU a b)) :=
 .val ((bl0 (cf4 G.K) ha.1 bD8 (bE4 hb.1)).imp λ W H Q q=>(cm0 (ml:=kW F b)).2.1 (TEv.eq (λ U s=>rfl) q))
end
end
section
variable {Γ:Gm} {F:la} {n:Nat} {X:Cx} {ck:Ck} {W:St} {H:Hp} {Q:VK}
theorem ay2:∀ {es:ly} {U:kS} {s s':kQ} {l:List kR} {B:yK} {G:Ck},lE F es U s=.ok l s'->mEs G es B=true->l.length=B.length
 | .nil,U,s,s',l,B,G,h,m=>by
  cases h
  cases B with
  | nil=>rfl
  | cons _ _=>rw[mEs]at m<;>first|cases m|(intros;simp_all)
 | .cons e es,U,s,s',l,B,G,h,m=>by
  obtain⟨d,s1,e1,h⟩:=ac9 h
  obtain⟨r,s2,e2,h⟩:=ac9 h
  cases h
  cases B with
  | nil=>rw[mEs]at m<;>first|cases m|(intros;simp_all)
  | cons x B =>
   rw[mEs,ao]at m
   rw[bc,bc,ay2 e2 m.2]
theorem aM4:∀ {es:ly} {B:yK},mEs ck es B=true->∀ x∈B,shp x=true
 | .nil,[],_,x,hx=>by cases hx
 | .nil,_::_,m,_,_=>by rw[mEs]at m<;>first|cases m|(intros;simp_all)
 | .cons e es,[],m,x,hx=>by cases hx
 | .cons e es,y::B,m,x,hx=>by
  rw[mEs,ao,ao]at m
  rcases aH.mp hx with h|h
  .rw[h];exact m.1.2
  .exact aM4 m.2 x h
theorem aM7:∀ {es:lX} {B:yK},mAs ck es B=true->∀ x∈B,shp x=true
 | .nil,[],_,x,hx=>by cases hx
 | .nil,_::_,m,_,_=>by rw[mAs]at m<;>first|cases m|(intros;simp_all)
 | .ex e es,[],m,x,hx=>by cases hx
 | .lam _ _ _,_,m,_,_=>by rw[mAs]at m<;>first|cases m|(intros;simp_all)
 | .fn _ _,_,m,_,_=>by rw[mAs]at m<;>first|cases m|(intros;simp_all)
 | .ex e es,y::B,m,x,hx=>by
  rw[mAs,ao,ao]at m
  rcases aH.mp hx with h|h
  .rw[h];exact m.1.2
  .exact aM7 m.2 x h
theorem aS4 {e:mz}{x:Expr}{B:yK}{h:kS->kQ->kU (List kR)}(hs:shp x=true)(G:PE X x (TEv Γ (kW F e)))(J:PA X B (TAv Γ h)) :
  PA X (x::B) (TAv Γ (λ U s=>(kW F e U s).bind λ d s=>(h U s).bind λ l s=>.ok (d::l) s)) :=
 (z7 G J (zf hs)).imp λ W H Q q=>bJ9 q
theorem aP2 {k:Nat}(h:k<=1000):k<=aN:=by rw[eP];omega
theorem bI7 {es:ly}{B:yK}{k:Nat}{pos:Pos}(m:mEs ck es B=true)(hz:B.length<=1000)(h:PA X B (TAv Γ (lE F es))):EvT Γ X (.Tuple B k pos) (kW F (.tup es)) :=
 .val ((bQ0 h).imp λ W H Q q=>tv_tup' hz m q)
where
 tv_tup' {es:ly} {B:yK} {W:St} {H:Hp} {Q:VK} (hz:B.length<=1000) (m:mEs ck es B=true) (q:TEv Γ (kW F (.tup es)) W H Q):cq6 (TAv Γ (lE F es)) W H Q:=by
  obtain⟨C,U,s,d,s',E,R,hm,q⟩:=q
  obtain⟨l,s1,e1,hm⟩:=ac9 hm
  cases hm
  refine⟨C,U,s,l,_,E,R,e1,λ vs C1 J g1 l1 G r1 R1=>⟨by rw[r1.length,ay2 e1 m];exact aP2 hz,λ p hp=>?_⟩⟩
  exact(q.trans g1 l1).tup R1 r1 G hp
theorem bA1 {es:ly}{B:yK}{pos:Pos}(m:mEs ck es B=true)(hz:B.length<=1000)(h:PA X B (TAv Γ (lE F es))):EvT Γ X (.List B pos) (kW F (.lst es)):=by
 refine .val ((aO5 h).imp λ W H Q q=>?_)
 obtain⟨C,U,s,d,s',E,R,hm,q⟩:=q
 obtain⟨l,s1,e1,hm⟩:=ac9 hm
 obtain⟨rfl,rfl⟩:=zR hm
 refine⟨C,U,s,l,_,E,R,e1,λ vs C1 J g1 l1 G r1 R1=>⟨by rw[r1.length,ay2 e1 m];exact aP2 hz,λ p hp=>?_⟩⟩
 exact(q.trans g1 l1).alloc R1 r1 G hp
theorem bk9 {f:String}{B:lX}{J:yK}{p pos:Pos}(G:CG Γ F n X ck)(hg:ck.gl (f:Str)=true)(m:mAs ck B J=true)(h:PA X J (TAv Γ (lM F B))):EvT Γ X (.Call (.Name (f:Str) p) J [] pos) (kW F (.call f B)):=by
 refine .val ?_
 obtain⟨g1,Z,g3⟩:=G.gl hg
 rcases G.call f with hbad|⟨a,fd,ps,hF,Y,hk,hb⟩
 .intro a0 s W H Q I q
  obtain⟨C,U,s,d,s',E,R,hm,q⟩:=q
  obtain⟨l,s1,e1,hm⟩:=ac9 hm
  rw[hbad]at hm
  cases hm
 have key:∀ W H Q,TEv Γ (kW F (.call f B)) W H Q->aU5 (spV Γ (F.call f)) [] E0 (TAv Γ (lM F B)) W H Q:=λ W H Q q=>by
  have:=aK3 (TEv.eq (m':=λ U s=>(lM F B U s).bind λ l s=>F.call f l s) (λ U s=>rfl) q)
  unfold tCB at this
  unfold aU5 spV
  simpa only[bw]using this
 cases J with
 | nil =>
  have h0:PE X (.Call (.Name (f:Str) p) [] [] pos) (aU5 (spV Γ (F.call f)) [] E0 bp7):=bq3 hF G.room g1 Y hk hb .nil cc1 Z
  cases B with
  | nil =>
   refine h0.imp λ W H Q q=>?_
   have q1:=key W H Q q
   unfold aU5 at q1 ⊢
   exact aN2 (TAv.eq (λ U s=>rfl) q1)
  | _=>rw[mAs]at m<;>first|cases m|(intros;simp_all)
 | cons x J =>
  have hs:=aM7 m
  exact(bg8 hF G.room g1 Y hk hb .nil cc1 h Z (zf (hs x (aC ..))) (zL λ e he=>hs e (aq _ he)).1).imp key
def BiC (Γ:Gm)(X:Cx)(b:lI)(x:Str):Prop:=(∃ id,br x=some (.builtin id)/\aj3 X (.builtin id) (rCl Γ (mq b)))\/∃ T,br x=some (.type T)/\aj3 X (.type T) (rCl Γ (mq b))
theorem cc8 (G:CG Γ F n X ck){b:lI}{x:Str}(h:biT b=some x):x∈bNames/\BiC Γ X b x:=by
 cases b<;>first|cases h|skip
 .exact⟨by decide,.inl ⟨_,cj0,bD5 G.K G.calm (k:=1) rfl⟩⟩
 .exact⟨by decide,.inl ⟨_,ci3,bD5 G.K G.calm (k:=1) rfl⟩⟩
 .exact⟨by decide,.inr ⟨_,bU1,bT5⟩⟩
 .exact⟨by decide,.inr ⟨_,cb6,ca4⟩⟩
 .exact⟨by decide,.inl ⟨_,bB7,bD5 G.K G.calm (k:=2) rfl⟩⟩
theorem bQ2 {b:lI}{es:ly}{x:Str}{y:Expr}{B:yK}{p pos:Pos}(G:CG Γ F n X ck)(hb:biT b=some x)(hg:ck.gl x=true)(m:mEs ck es (y::B)=true)(h:PA X (y::B) (TAv Γ (lE F es))) :
  EvT Γ X (.Call (.Name x p) (y::B) [] pos) (kW F (.bi b es)):=by
 refine .val ?_
 obtain⟨g1,Z,g3⟩:=G.gl hg
 obtain⟨hm,hc⟩:=cc8 G hb
 have hs:=aM4 m
 have s1:=zf (es:=B) (env:=X.env) (hs y (aC ..))
 have s2:=(zL (env:=X.env) (pos:=pos) λ e he=>hs e (aq _ he)).1
 rcases hc with⟨id,Y,J⟩|⟨T,Y,J⟩
 .exact(aB4 J g1 (G.bi _ hm) Y h g3 Z s1 s2).imp λ W H Q q=>aK3 (TEv.eq (λ U s=>rfl) q)
 .exact(aq7 J g1 (G.bi _ hm) Y h g3 Z s1 s2).imp λ W H Q q=>aK3 (TEv.eq (λ U s=>rfl) q)
theorem bR1 {b:lI}{k:Nat}{t:Str}(h:biK b=some (k,t)):(1<=k/\k<=5)/\t∈bNames/\br t=some (.type (au5 k))/\mq b=mJ (mR k):=by
 cases b<;>cases h
 .exact⟨by omega,by decide,bU1,rfl⟩
 .exact⟨by omega,by decide,bS9,rfl⟩
 .exact⟨by omega,by decide,cb6,rfl⟩
 .exact⟨by omega,by decide,aY6,rfl⟩
 .exact⟨by omega,by decide,bw5,rfl⟩
noncomputable def PEs (Γ:Gm)(F:la)(X:Cx):ly->List Expr->Prop
 | .nil,[]=>True
 | .cons e es,x::xs=>(shp x=true/\EvT Γ X x (kW F e))/\PEs Γ F X es xs
 | _,_=>False
theorem aw9:∀ {es:ly} {B:yK},PEs Γ F X es B->PA X B (TAv Γ (lE F es))
 | .nil,[],_=>ak2.imp λ W H Q q=>aN2 (TAv.eq (λ U s=>rfl) q)
 | .nil,_::_,h=>h.elim
 | .cons _ _,[],h=>h.elim
 | .cons e es,x::B,h=>(aS4 h.1.1 h.1.2.1 (aw9 h.2)).imp λ W H Q q=>TAv.eq (λ U s=>rfl) q
theorem bx8 {b:lI}{es:ly}{k:Nat}{t:Str}{a:Expr}{p Y pos:Pos}(G:CG Γ F n X ck)(hb:biK b=some (k,t))(hg:ck.gl "isinstance"=true)(B:ck.gl t=true)(h:PEs Γ F X es [a]) :
  EvT Γ X (.Call (.Name "isinstance" p) [a,.Name t Y] [] pos) (kW F (.bi b es)):=by
 refine .val ?_
 obtain⟨g1,g2,g3⟩:=G.gl hg
 obtain⟨t1,t2,t3⟩:=G.gl B
 obtain⟨hk,hm,hv,Z⟩:=bR1 hb
 have J:PE X (.Name t Y) (tC (.ty (au5 k))):=bG0 t1 (G.bi _ hm) hv rfl t3 t2
 cases es with
 | nil=>exact h.elim
 | cons e es =>
  cases es with
  | cons _ _=>exact h.2.elim
  | nil =>
   obtain⟨⟨hs,ha,_⟩,_⟩:=h
   have hA:PA X [a,.Name t Y] (aD8 (TEv Γ (kW F e)) (aD8 (tC (.ty (au5 k))) bp7)):=z7 ha (z7 J ak2 (zf rfl)) (zf hs)
   refine(aB4 (bY3 G.K hk) g1 (G.bi _ (by decide)) aH1 hA g3 g2 (zf hs) (zL λ e he=>by rw[ay.mp he];rfl).1).imp λ W H Q q=>?_
   obtain⟨C,U,s,d,s',E,R,hm,q⟩:=q
   obtain⟨l,s1,e1,hm⟩:=ac9 hm
   obtain⟨x,s2,e2,e1⟩:=ac9 e1
   obtain⟨l2,s3,e3,e1⟩:=ac9 e1
   cases e3
   cases e1
   rw[Z]at hm
   refine⟨C,U,s,x,_,E,R,e2,λ v C1 H1 g1 l1 b1 r1 R1=>?_⟩
   exact⟨v,rfl,C1,_,[x],d,s',R1,.cons r1 .nil,by unfold kT;rw[b1];rfl,hm,q.trans g1 l1⟩
end
section
variable {Γ:Gm} {F:la} {n:Nat} {X:Cx} {ck:Ck} {W:St} {H:Hp}
def TAp (Γ:Gm)(cells:yB)(N:yH)(m:kS->kQ->kU (List kR)):TA:=λ W H Q=>∃ C U s l s',RE Γ C H s.length U W/\Rp Γ C H s/\m U s=.ok l s' /\
 ∀ vs C' H',Gr C s H C' s' H'->s.length<=s'.length->kT s'.length l=true->PVL Γ cells N W C' H' l vs->Rp Γ C' H' s'->Q vs H'
theorem TAp.eq {cells:yB}{N:yH}{m m':kS->kQ->kU (List kR)}{Q:List V->Hp->Prop}(e:∀ U s,m U s=m' U s)(q:TAp Γ cells N m W H Q):TAp Γ cells N m' W H Q:=by
 obtain⟨C,U,s,l,s',E,R,hm,q⟩:=q
 exact⟨C,U,s,l,s',E,R,by rw[<-e];exact hm,q⟩
theorem bF3 {cells:yB}{N:yH}{Q:List V->Hp->Prop}(h:TAp Γ cells N (λ U s=>.ok [] s) W H Q):bp7 W H Q:=by
 obtain⟨C,U,s,l,s',E,R,hm,q⟩:=h
 cases hm
 exact q [] C H (Gr.refl _ _ _) (aw _) rfl .nil R
theorem bO2 {cells:yB}{N:yH}{m:kS->kQ->kU kR}{G:kS->kQ->kU (List kR)}{Q:List V->Hp->Prop}(h:TAp Γ cells N (λ U s=>(m U s).bind λ d s=>(G U s).bind λ l s=>.ok (d::l) s) W H Q):aD8 (TEv Γ m) (TAp Γ cells N G) W H Q:=by
 obtain⟨C,U,s,l,s',E,R,hm,q⟩:=h
 obtain⟨x,s1,e1,hm⟩:=ac9 hm
 obtain⟨y,s2,e2,hm⟩:=ac9 hm
 cases hm
 refine⟨C,U,s,x,s1,E,R,e1,λ v C1 H1 g1 l1 J r1 R1=>?_⟩
 refine⟨C1,U,s1,y,s',E.mono g1 l1,R1,e2,λ vs C2 Y B F Z r2 R2=>?_⟩
 exact q (v::vs) C2 Y (g1.trans B l1) (av l1 F) (by unfold kT;rw[zg F x J,Z];rfl) (.cons (PVp.mono B J (.inl r1)) r2) R2
end
section
variable {Γ:Gm} {F:la} {n:Nat} {X:Cx} {ck:Ck} {W:St} {H:Hp} {Q:VK}
def cs5 (K:ah)(H:Hp)(v:V)(ys:List V)(z:Bool):Prop:=(∃ a,v=.ref a/\(SqL K H a ys\/(SqT K H a ys/\(z=true->H a=some (.tup ys)))))\/∃ x:List Nat,v=.str ⟨x.toArray⟩/\x.length<=k6/\ys=sgV x
def TLv (Γ:Gm)(m:kS->kQ->kU (List kR)):TE:=λ W H Q=>∃ C U s l s',RE Γ C H s.length U W/\Rp Γ C H s/\m U s=.ok l s' /\
 ∀ v ys C' H',Gr C s H C' s' H'->s.length<=s'.length->kT s'.length l=true->cs5 Γ.K H' v ys (k7 l)->RVL Γ C' H' l ys->Rp Γ C' H' s'->Q v H'
theorem aP9 {m:kS->kQ->kU (List kR)}(h:TLv Γ m W H Q):TFv Γ m W H Q:=by
 obtain⟨C,U,s,l,s',E,R,hm,q⟩:=h
 exact⟨C,U,s,l,s',E,R,hm,λ p ys C' H' g hl hb hp h0 ho r B=>q (.ref p) ys C' H' g hl hb (.inl ⟨p,rfl,.inl (SqL.of hp)⟩) r B⟩
theorem aD4 {C:Nat->Addr}:∀ x:List Nat,RVL Γ C H (x.map λ c=>.str [c]) (sgV x)
 | []=>.nil
 | c::x=>.cons (RV.strI (by unfold k6;simp)) (aD4 x)
theorem ax2 {k:Nat}:∀ x:List Nat,kT k (x.map λ c=>.str [c])=true
 | []=>rfl
 | c::x=>by rw[a7];unfold kT;rw[ax2 x];rfl
theorem cc4 {m:kS->kQ->kU kR}(h:TLv Γ (λ U s=>(m U s).bind λ d s=>DV.bj6 d s) W H Q):TEv Γ m W H Q:=by
 obtain⟨C,U,s,l,s',E,R,hm,q⟩:=h
 obtain⟨d,s1,e1,hm⟩:=ac9 hm
 refine⟨C,U,s,d,s1,E,R,e1,λ v C1 J g1 l1 Y r1 R1=>?_⟩
 cases d with
 | tup l' =>
  cases hm
  obtain⟨a,B,⟨rfl,z1⟩,F,G⟩:=r1.tupZ
  unfold kX at Y
  exact q _ B C1 J g1 l1 Y (.inl ⟨a,rfl,.inr ⟨F,z1⟩⟩) G R1
 | str x =>
  cases hm
  exact q v (sgV x) C1 J g1 l1 (ax2 x) (.inr ⟨x,r1.strE,r1.strL,rfl⟩) (aD4 x) R1
 | ref k =>
  have hm:(match s1[k]? with
   | some (.lst l)=>DV.R.ok l s1
   | some (.ro l)=>.ok l s1
   | _=>.bad)=.ok l s':=hm
  rw[r1.refE]
  cases e:s1[k]? with
  | none=>rw[e]at hm;exact fb hm
  | some ob =>
   rw[e]at hm
   cases ob with
   | lst l' =>
    cases hm
    obtain⟨B,F,G⟩:=R1.addr e
    have:=R1.wf k _ e
    unfold kY at this
    exact q _ B C1 J g1 l1 this (.inl ⟨_,rfl,.inl (SqL.of F)⟩) G R1
   | ro l' =>
    cases hm
    obtain⟨B,F,G⟩:=R1.obj k _ e
    have:=R1.wf k _ e
    unfold kY at this
    exact q _ B C1 J g1 l1 this (.inl ⟨_,rfl,.inl F.1⟩) G R1
   | _=>exact fb hm
 | _=>exact fb hm
theorem TLv.eq {m m':kS->kQ->kU (List kR)}(e:∀ U s,m U s=m' U s)(q:TLv Γ m W H Q):TLv Γ m' W H Q:=by
 have:m=m':=funext λ U=>funext λ s=>e U s
 subst this;exact q
theorem aW0 {m:kS->kQ->kU (List kR)}{a:Expr}{p pos:Pos}(G:CG Γ F n X ck)(hg:ck.gl "tuple"=true)(hs:shp a=true)(h:PE X a (TLv Γ m)) :
  PE X (.Call (.Name "tuple" p) [a] [] pos) (TEv Γ (λ U s=>(m U s).bind λ l s=>mB .tuple l s)):=by
 obtain⟨g1,Y,Z⟩:=G.gl hg
 refine(aq7 ((aM5 G.K).or (aL8 G.calm)) g1 (G.bi _ (by decide)) aY6 (z7 h ak2 (zf hs)) Z Y (zf hs) rfl).imp λ W H Q q=>?_
 obtain⟨C,U,s,d,s',E,R,hm,q⟩:=q
 obtain⟨l,s1,e1,hm⟩:=ac9 hm
 cases hm
 refine⟨C,U,s,l,_,E,R,e1,λ v ys C1 J g1 l1 B hq r1 R1=>?_⟩
 rcases hq with⟨a,rfl,hq|hq⟩|⟨x,rfl,hx,rfl⟩
 .exact .inl ⟨a,ys,rfl,.inl ⟨hq,λ p hp=>(q.trans g1 l1).tup R1 r1 B hp⟩⟩
 .exact .inl ⟨a,ys,rfl,.inr ⟨hq.1,q _ C1 J g1 l1 (by unfold kX;exact B) (RV.tupC hq.1 hq.2 r1) R1⟩⟩
 .exact .inr ⟨x,rfl,hx,λ p hp=>(q.trans g1 l1).tup R1 r1 B hp⟩
theorem be7 {m:kS->kQ->kU (List kR)}{a:Expr}{p pos:Pos}(G:CG Γ F n X ck)(hg:ck.gl "list"=true)(hs:shp a=true)(h:PE X a (TLv Γ m)) :
  PE X (.Call (.Name "list" p) [a] [] pos) (TEv Γ (λ U s=>(m U s).bind λ l s=>mB .list l s)):=by
 obtain⟨g1,J,Y⟩:=G.gl hg
 refine(aq7 ((aV4 G.K).or (aT2 G.calm)) g1 (G.bi _ (by decide)) bw5 (z7 h ak2 (zf hs)) Y J (zf hs) rfl).imp λ W H Q q=>?_
 obtain⟨C,U,s,d,s',E,R,hm,q⟩:=q
 obtain⟨l,s1,e1,hm⟩:=ac9 hm
 obtain⟨rfl,rfl⟩:=zR hm
 refine⟨C,U,s,l,_,E,R,e1,λ v ys C1 Z g1 l1 B hq r1 R1=>?_⟩
 rcases hq with⟨a,rfl,hq⟩|⟨x,rfl,hx,rfl⟩
 .exact .inl ⟨a,ys,rfl,hq.imp id (·.1),λ p hp=>(q.trans g1 l1).alloc R1 r1 B hp⟩
 .exact .inr ⟨x,rfl,hx,λ p hp=>(q.trans g1 l1).alloc R1 r1 B hp⟩
theorem cd0 {m:kS->kQ->kU (List kR)}{k:mw}{x:Str}{a:Expr}{p pos:Pos}(G:CG Γ F n X ck)(hk:mkT k=some x)(hg:ck.gl x=true)(hs:shp a=true)(h:PE X a (TLv Γ m)) :
  PE X (.Call (.Name x p) [a] [] pos) (TEv Γ (λ U s=>(m U s).bind λ l s=>mB k l s)):=by
 cases k<;>cases hk
 .exact aW0 G hg hs h
 .exact be7 G hg hs h
def FrC (Γ:Gm)(X:Cx)(x:Str)(k:mw):Prop:=∃ id r,br x=some (.builtin id)/\x∈bNames/\aj3 X (.builtin id) r/\∀ C H s l ys p d s' Q,Rp Γ C H s->RVL Γ C H l ys->H p=some (.lst ys)->mB k l s=.ok d s'->ak4 Γ C s H d s' Q->r [.ref p] H Q
theorem aP3:∀(l:List Int) (a:Int),(l.foldl min a=a\/l.foldl min a∈l)/\l.foldl min a<=a/\∀ y∈l,l.foldl min a<=y
 | [],a=>⟨.inl rfl,fG _,λ y hy=>by cases hy⟩
 | b::l,a=>by
  obtain⟨B,F,h3⟩:=aP3 l (min a b)
  rw[c6]
  refine⟨?_,by omega,λ y hy=>?_⟩
  .rcases B with h|h
   .rw[h]
    rcases kz a b with z|z
    .left;omega
    .right;rw[show min a b=b by omega];exact aC ..
   .exact .inr (aq _ h)
  .rcases aH.mp hy with z|z
   .rw[z];omega
   .exact h3 y z
theorem aO3 {l:List Int}{m:Int}(h:lR l=some m):m∈l/\∀ y∈l,m<=y:=by
 cases l with
 | nil=>cases h
 | cons a l =>
  cases h
  obtain⟨B,F,h3⟩:=aP3 l a
  refine⟨?_,λ y hy=>?_⟩
  .rcases B with h|h
   .rw[h];exact aC ..
   .exact aq _ h
  .rcases aH.mp hy with z|z
   .rw[z];exact F
   .exact h3 y z
theorem bD6 (G:CG Γ F n X ck){k:mw}{x:Str}(hk:mkF k=some x):FrC Γ X x k:=by
 cases k<;>cases hk
 .refine⟨_,_,bB7,by decide,bj0 G.calm G.K,λ C H s l ys p d s' Q R r hp hm q=>?_⟩
  unfold mB at hm
  dsimp only at hm
  cases e:lT l with
  | none=>rw[e]at hm;exact fb hm
  | some is =>
   rw[e]at hm
   have hm:(match lR is with|some m=>DV.R.ok (DV.D.int m) s|none=>.bad)=.ok d s':=hm
   cases e2:lR is with
   | none=>rw[e2]at hm;exact fb hm
   | some mm =>
    rw[e2]at hm
    cases hm
    have:=qe e
    subst this
    refine⟨p,is,rfl,SqL.of (by rw[<-r.ints];exact hp),(λ(z:is=[])=>by rw[z]at e2;cases e2),λ m hm h=>?_⟩
    obtain⟨a,b⟩:=aO3 e2
    have:m=mm:=jH (h mm a) (b m hm)
    rw[this]
    exact q.here R rfl RV.intI
theorem cd1 {m:kS->kQ->kU (List kR)}{k:mw}{x:Str}{a:Expr}{p pos:Pos}(G:CG Γ F n X ck)(hk:mkF k=some x)(hg:ck.gl x=true)(hs:shp a=true)(h:PE X a (TFv Γ m)) :
  PE X (.Call (.Name x p) [a] [] pos) (TEv Γ (λ U s=>(m U s).bind λ l s=>mB k l s)):=by
 obtain⟨g1,J,Y⟩:=G.gl hg
 obtain⟨id,r,hb,hx,hc,hr⟩:=bD6 (Γ:=Γ) G hk
 refine(aB4 hc g1 (G.bi _ hx) hb (z7 h ak2 (zf hs)) Y J (zf hs) rfl).imp λ W H Q q=>?_
 obtain⟨C,U,s,d,s',E,R,hm,q⟩:=q
 obtain⟨l,s1,e1,hm⟩:=ac9 hm
 exact⟨C,U,s,l,_,E,R,e1,λ p ys C1 B g1 l1 Z hp h0 ho r1 R1=>hr C1 B s1 l ys p d s' Q R1 r1 hp hm (q.trans g1 l1)⟩
theorem bP9 {md:kS->kQ->kU (kR)}{ml:kS->kQ->kU (List kR)}{a de:Expr}{p pos kp:Pos}(G:CG Γ F n X ck)(hg:ck.gl "min"=true)(hs:shp a=true)(h:PE X a (TFv Γ ml))(hd:PE X de (TEv Γ md)) :
  PE X (.Call (.Name "min" p) [a] [⟨some "default",de,kp⟩] pos) (TEv Γ (λ U s=>(ml U s).bind λ l s=>(md U s).bind λ d s=>DV.mkD .min l d s)):=by
 obtain⟨g1,Z,g3⟩:=G.gl hg
 refine(by3 rfl G.calm g1 (G.bi _ (by decide)) h hd (zf hs)).imp λ W H Q q=>?_
 obtain⟨C,U,s,d,s',E,R,hm,q⟩:=q
 obtain⟨l,s1,e1,hm⟩:=ac9 hm
 obtain⟨d0,s2,e2,hm⟩:=ac9 hm
 refine⟨C,U,s,l,s1,E,R,e1,λ p ys C1 H1 g1 l1 b1 hp h0 ho r1 R1=>?_⟩
 refine⟨C1,U,s1,d0,s2,E.mono g1 l1,R1,e2,λ v C2 H2 Z l2 b2 r2 R2=>?_⟩
 have a0:H2 p=some (.lst ys):=Z.fr p _ hp (by nofun) (λ i ob e mu=>ho i ob e mu)
 unfold DV.mkD at hm
 dsimp only at hm
 cases e:lT l with
 | none=>rw[e]at hm;exact fb hm
 | some is =>
  rw[e]at hm
  have B:(match lR is with|some m=>DV.R.ok (DV.D.int m) s2|none=>DV.R.ok d0 s2)=.ok d s':=hm
  have:=qe e
  subst this
  have hq:=q.trans (g1.trans Z l1) (av l1 l2)
  refine⟨p,is,rfl,SqL.of (by rw[<-r1.ints];exact a0),λ z=>?_,λ m J Y=>?_⟩
  .subst z
   cases B
   exact hq.here R2 b2 r2
  .clear e2
   cases e2:lR is with
   | none =>
    cases is with
    | nil=>cases J
    | cons _ _=>cases e2
   | some mm =>
    rw[e2]at B
    cases B
    obtain⟨x,y⟩:=aO3 e2
    have:m=mm:=jH (Y mm x) (y m J)
    rw[this]
    exact hq.here R2 rfl RV.intI
theorem bl2 {C C':Nat->Addr}{s s':kQ}{H':Hp}{r:Nat}{l:List kR}(R:Rp Γ C H s)(g:Gr C s H C' s' H')(hb:r<s.length)(e:s'[r]?=some (.lst l)):tyV Γ.K "list" (.ref (C r)) H:=by
 obtain⟨h,B⟩:∃ h,s[r]?=some h:=⟨s[r],au hb⟩
 have hm:=g.mu r h _ B e rfl
 have ho:=R.obj r h B
 cases h with
 | lst l0 =>
  obtain⟨F,G,_⟩:=ho
  exact .inl ⟨rfl,F,SqL.of G⟩
 | ro _=>cases hm
 | dic _=>have:=g.kd r _ _ B e;cases this
 | dit _=>have:=g.kd r _ _ B e;cases this
 | ins _ _=>exact ho.elim
def mtR (Γ:Gm)(m:my):V->List V->Hp->VK->Prop:=λ x vs H Q=>∃ C s a l d s',Rp Γ C H s/\RV Γ C H a x/\RVL Γ C H l vs/\a.bnd s.length=true/\kT s.length l=true/\ma m a l s=.ok d s'/\ak4 Γ C s H d s' Q
theorem cd4:k6<aN:=by rw[eP];decide
theorem aB3 {m:my}{x:Str}{k:Nat}(hm:mtT m=some (x,k)){a:kR}{l:List kR}{s s':kQ}{d:kR}(h:ma m a l s=.ok d s'):∃ r l0,a=.ref r/\s[r]?=some (.lst l0):=by
 have go:∀ {r:Nat} {f:List kR->kU kR},(match s[r]? with|some (.lst l)=>f l|_=>.bad)=.ok d s'->∃ l0,s[r]?=some (.lst l0):=λ {r f} h=>by
  cases e:s[r]? with
  | none=>rw[e]at h;exact fb h
  | some ob =>
   cases ob with
   | lst l0=>exact⟨l0,rfl⟩
   | _=>rw[e]at h;exact fb h
 cases a with
 | ref r =>
  have B:∀ {f:List kR->kU kR},(match s[r]? with|some (.lst l)=>f l|_=>.bad)=.ok d s'->∃ F l0,DV.D.ref r=.ref F/\s[F]?=some (.lst l0):=λ h=>by obtain⟨l0,e⟩:=go h;exact⟨_,l0,rfl,e⟩
  cases m with
  | append=>match l with
   | [d]=>exact B h
   | []=>exact fb h
   | _::_::_=>exact fb h
  | pop=>match l with
   | []=>exact B h
   | _::_=>exact fb h
  | reverse=>match l with
   | []=>exact B h
   | _::_=>exact fb h
  | clear=>match l with
   | []=>exact B h
   | _::_=>exact fb h
  | index=>match l with
   | [d]=>exact B h
   | []=>exact fb h
   | _::_::_=>exact fb h
  | _=>exact fb h
 | _=>cases m<;>exact fb h
theorem bl7:MtR X "list.append" (mtR Γ .append):=by
 intro B sh W H x vs v us Q I rx rv h
 obtain⟨C,s,a,l,d,s',R,ra,rl,ba,J,hm,q⟩:=h
 obtain⟨r,l0,rfl,e⟩:=aB3 (m:=.append) rfl hm
 cases l with
 | nil=>exact fb hm
 | cons y t =>
  cases t with
  | cons _ _=>exact fb hm
  | nil =>
   simp only[ma,e]at hm
   split at hm
   case isFalse=>exact fb hm
   rename_i hlt
   cases hm
   obtain⟨z,rfl,Z⟩:=rl.one
   obtain⟨Y,h1,G⟩:=R.addr e
   have F:kT s.length l0=true:=by have:=R.wf r _ e;unfold kY at this;exact this
   refine aE1 B sh W H x [z] v us Q I rx rv ⟨C r,Y,z,ra.refE,rfl,h1,by rw[G.length];have:=cd4;omega,?_⟩
   exact q.put R e (G.append (.cons Z .nil)) (zY F J) rfl RV.nonI
theorem bb6:MtR X "list.reverse" (mtR Γ .reverse):=by
 intro B sh W H x vs v us Q I Y rv h
 obtain⟨C,s,a,l,d,s',R,ra,Z,ba,bl,hm,q⟩:=h
 obtain⟨r,l0,rfl,e⟩:=aB3 (m:=.reverse) rfl hm
 cases l with
 | cons _ _=>exact fb hm
 | nil =>
  simp only[ma,e]at hm
  cases hm
  have hv:=Z.unnil
  subst hv
  obtain⟨G,h1,J⟩:=R.addr e
  have F:kT s.length l0=true:=by have:=R.wf r _ e;unfold kY at this;exact this
  refine aV6 B sh W H x [] v us Q I Y rv ⟨C r,G,ra.refE,rfl,h1,?_⟩
  exact q.put R e J.reverse (az4 F λ d hd=>List.mem_reverse.mp hd) rfl RV.nonI
structure MtOk (Γ:Gm)(X:Cx)(m:my)(x:Str):Prop where
 ex:∃ id,PySem.Slot "list" x id/\kq (.builtin id)=pure (.type "method_descriptor")/\MtR X id (mtR Γ m)
theorem bU9 (hK:X.K=Γ.K)(B:Room (lf+1) X.A){m:my}{x:Str}{k:Nat}(h:mtT m=some (x,k)):MtOk Γ X m x:=by
 cases m<;>cases h
 .exact⟨_,gL,PySem.F.type_list_append,bl7⟩
 .exact⟨_,gv,PySem.F.type_list_reverse,bb6⟩
theorem bl1 {m:my}{o:mz}{es:ly}{ob:Expr}{J:yK}{x:Str}{ap cp:Pos}(G:CG Γ F n X ck)(hm:mtT m=some (x,J.length))(hab:cj6 ob=true)(hl:(ap.endLine==cp.line)=true)(ho:PE X ob (TEv Γ (kW F o)))
  (a2:mEs ck es J=true) (h:PEs Γ F X es J):EvT Γ X (.Call (.Attribute ob x ap) J [] cp) (kW F (.meth m o es)):=by
 refine .val ?_
 obtain⟨id,slot,a1,hr⟩:=(bU9 (Γ:=Γ) (X:=X) G.K (G.room.mono G.deep) hm).ex
 have hs:=aM4 a2
 have key:∀ W H Q,TEv Γ (kW F (.meth m o es)) W H Q->tBM Γ.K "list" (mtR Γ m) (TEv Γ (kW F o)) (TAv Γ (lE F es)) W H Q:=λ W H Q q=>by
  obtain⟨C,U,s,d,s',E,R,B,q⟩:=q
  obtain⟨a,s1,e1,B⟩:=ac9 B
  obtain⟨l,s2,e2,B⟩:=ac9 B
  refine⟨C,U,s,a,s1,E,R,e1,λ v C1 H1 g1 l1 Y r1 R1=>?_⟩
  obtain⟨r,l0,rfl,er⟩:=aB3 hm B
  rw[r1.refE]
  have hk:∀ C2 H2,Gr C1 s1 H1 C2 s2 H2->tyV Γ.K "list" (.ref (C1 r)) H1:=λ C2 H2 g2=>bl2 R1 g2 (by unfold kX at Y;exact of_decide_eq_true Y) er
  have Z:TAv Γ (lE F es) W H1 λ J H2=>mtR Γ m (.ref (C1 r)) J H2 Q:=by
   refine⟨C1,U,s1,l,s2,E.mono g1 l1,R1,e2,λ vs C2 H2 g2 l2 b2 r2 R2=>?_⟩
   refine⟨C2,s2,.ref r,l,d,s',R2,?_,r2,zg l2 _ Y,b2,B,q.trans (g1.trans g2 l1) (av l1 l2)⟩
   have:=RV.mono g2 _ _ Y r1
   rw[r1.refE]at this
   exact this
  refine⟨?_,Z⟩
  have hlt:r<s1.length:=by unfold kX at Y;exact of_decide_eq_true Y
  obtain⟨o0,e0⟩:∃ o0,s1[r]?=some o0:=⟨s1[r],au hlt⟩
  have a0:=R1.obj r o0 e0
  cases o0 with
  | lst l0 =>
   obtain⟨J,h1,_⟩:=a0
   exact .inl ⟨rfl,J,SqL.of h1⟩
  | ro l0 =>
   obtain⟨J,h1,_⟩:=a0
   exact .inl ⟨rfl,J,h1.1⟩
  | dic _ =>
   obtain⟨o',eo,ek⟩:=DV.al0 G.fk es U s1 _ _ e2 r _ e0
   rw[er]at eo;cases eo;cases ek
  | dit _ =>
   obtain⟨o',eo,ek⟩:=DV.al0 G.fk es U s1 _ _ e2 r _ e0
   rw[er]at eo;cases eo;cases ek
  | ins _ _=>exact a0.elim
 cases J with
 | nil =>
  have p0:PE X (.Call (.Attribute ob x ap) [] [] cp) (co3 X.K "list" (mtR Γ m) (TEv Γ (kW F o))):=bR9 f7 slot a1 hr ho (aZ3 hab) hl
  rw[G.K]at p0
  refine p0.imp λ W H Q q=>?_
  cases es with
  | cons _ _=>exact h.elim
  | nil =>
   obtain⟨C,U,s,d,s',E,R,B,k⟩:=key W H Q q
   refine⟨C,U,s,d,s',E,R,B,λ v C1 H1 g1 l1 Y r1 R1=>?_⟩
   obtain⟨h1,h2⟩:=k v C1 H1 g1 l1 Y r1 R1
   exact⟨h1,aN2 (TAv.eq (λ U s=>rfl) h2)⟩
 | cons y ys =>
  refine(ca8 G.K f7 slot a1 hr ho (aw9 h) (aZ3 hab) ?_ hl (zf (hs y (aC ..))) (zL λ e he=>hs e (aq _ he)).1).imp key
  rw[(zL hs).2]
  have:(y::ys).length<=1:=by
   unfold mtT at hm
   split at hm<;>first|(have:=aG hm;have:=congrArg Prod.snd this;simp at this;simp;omega)|cases hm
  simp only[dJ,eZ,kA]
  show(true&&decide ((y::ys).length+0+0<30))=true
  rw[dJ]
  exact decide_eq_true (by omega)
end
section
variable {Γ:Gm} {F:la} {n:Nat} {X:Cx} {ck:Ck} {W:St} {H:Hp} {Q:VK}
theorem PIf.imp {e:yK}{t t':TT}(h:PIf X e t)(i:∀ W H Q,t' W H Q->t W H Q):PIf X e t':=λ B s W H Q I q=>h B s W H Q I (i W H Q q)
structure CompF (Γ:Gm)(X:Cx)(m:kS->kQ->kU (List kR))(E:Expr):Prop where
 ex:∃ elt tgt iter ifs scope pos N' caps wi g tc te,E=.ListComp elt [⟨tgt,iter,ifs,0⟩] scope pos/\zO N' caps scope X.N X.env.scope=true/\PI X tgt iter wi /\
  (∀(Cc:Addr) (cells:yB) (s:ai) (H:Hp) (ex:List Addr),PG (zB X N' scope Cc cells s H ex) tgt g/\PIf (zB X N' scope Cc cells s H ex) ifs tc/\PE (zB X N' scope Cc cells s H ex) elt te) /\
  (∀ x,dk iter X.env x=pure x)/\∀ W H Q,TFv Γ m W H Q->tComp caps wi g tc te W H Q
theorem CompF.pe {m:kS->kQ->kU (List kR)}{E:Expr}(h:CompF Γ X m E)(hc:X.calm=true):PE X E (TFv Γ m):=by
 obtain⟨G,Y,iter,F,scope,pos,J,B,wi,g,tc,te,rfl,h1,Z,h3,h4,h5⟩:=h.ex
 exact(aZ2 J B h1 Z hc h3 h4).imp h5
theorem bF7 {tg:lF}{mI:kS->kQ->kU lU}{mc Y:kS->kQ->kU kR}{h:yD}{J B iter i:Expr}{scope:Scope}{pos:Pos}(G:CG Γ F n X ck)(hm:aT6 ck tg B iter h scope=true)
  (hi:PI X B iter (TIv Γ mI)) (hc:∀ Cc cells s H ex,PT (zB X (ckC ck B h scope).N scope Cc cells s H ex) i (TTv Γ mc)) (he:∀ Cc cells s H ex,PE (zB X (ckC ck B h scope).N scope Cc cells s H ex) J (TEv Γ Y)) :
  CompF Γ X (λ U s=>(mI U s).bind λ q s0=>if q.its.length<=k6 then lV (λ s=>lD s0 s q.src) (λ d U s=>match lu U tg d with
   | some U=>k9 (mc U s) λ k s=>if k then(Y U s).bind λ v s=>.ok (some v,U) s else .ok (none,U) s
   | none=>.bad) q.its (lW U h) s0 else .bad) (.ListComp J [⟨B,iter,[i],0⟩] scope pos):=by
 obtain⟨Z,c2,c3⟩:=G.comp hm
 exact⟨J,B,iter,[i],scope,pos,_,h,_,_,_,_,rfl,Z,hi,λ Cc cells s H ex=>⟨(c3 Cc cells s H ex).2,bI1 (hc Cc cells s H ex),he Cc cells s H ex⟩,ay3 c2,λ W H Q q=>ba3 q⟩
theorem bn2 {tg:lF}{mI:kS->kQ->kU lU}{Y:kS->kQ->kU kR}{h:yD}{J B iter:Expr}{scope:Scope}{pos:Pos}(G:CG Γ F n X ck)(hm:aT6 ck tg B iter h scope=true)
  (hi:PI X B iter (TIv Γ mI)) (he:∀ Cc cells s H ex,PE (zB X (ckC ck B h scope).N scope Cc cells s H ex) J (TEv Γ Y)) :
  CompF Γ X (λ U s=>(mI U s).bind λ q s0=>if q.its.length<=k6 then lV (λ s=>lD s0 s q.src) (λ d U s=>match lu U tg d with
   | some U=>(Y U s).bind λ v s=>.ok (some v,U) s
   | none=>.bad) q.its (lW U h) s0 else .bad) (.ListComp J [⟨B,iter,[],0⟩] scope pos):=by
 obtain⟨Z,c2,c3⟩:=G.comp hm
 refine⟨J,B,iter,[],scope,pos,_,h,_,_,TTv Γ (λ U s=>.ok (.bl true) s),_,rfl,Z,hi,λ Cc cells s H ex=>⟨(c3 Cc cells s H ex).2,bH5.imp λ W H Q q=>?_,he Cc cells s H ex⟩,ay3 c2,λ W H Q q=>ba3 (TFv.eq (λ U s=>?_) q)⟩
 .obtain⟨C,U,s,b,s',E,R,hm,q⟩:=q
  cases hm
  exact q C H (Gr.refl _ _ _) (aw _) R
 .congr 1
theorem bH1 {tg:Expr}{e:mz}{E:Expr}(G:CG Γ F n X ck)(h:PE X E (TEv Γ (kW F e))):PI X tg E (TIv Γ (mf F (.seq e))):=by
 refine(PI.or (bJ8 G.K h) (PI.or (bq6 G.K h) (bY4 h))).imp λ W H R q=>bW1 (TIv.eq (λ U s=>rfl) q)
theorem bn8 {tg:Expr}{a:mz}{l:Expr}{p pos:Pos}(G:CG Γ F n X ck)(hg:ck.gl "range"=true)(hs:shp l=true)(h:PE X l (TEv Γ (kW F a))):PI X tg (.Call (.Name "range" p) [l] [] pos) (TIv Γ (mf F (.rng1 a))) :=
 (bb2 (G.gl hg).1 (G.bi _ (by decide)) (z7 h ak2 (zf hs)) (zf hs)).imp λ W H R q=>bx1 (TIv.eq (λ U s=>rfl) q)
theorem cb5 (h:TEv Γ (λ U s=>lK (.dic []) s) W H Q):bs8 W H Q:=by
 obtain⟨C,U,s,d,s',E,R,hm,q⟩:=h
 obtain⟨rfl,rfl⟩:=zR hm
 intro p hp
 obtain⟨g,B⟩:=R.new (o:=.dic []) (u:=.dK []) hp rfl λ C' H' g e=>⟨[],e,rfl⟩
 exact q (.ref p) _ _ g (by simp) (by unfold kX;simp) (by unfold RV;simp) B
theorem bV3 {mk mv:kS->kQ->kU kR}(h:TEv Γ (λ U s=>(mk U (s++[.dic []])).bind λ kd s1=>(mv U s1).bind λ F s2=>if kd.key=true/\s2[s.length]?=some (.dic [])then .ok (.ref s.length) (s2.set s.length (.dic [(kd,F)]))else .bad) W H Q):bN9 [(TEv Γ mk,TEv Γ mv)] W H Q:=by
 obtain⟨C,U,s,d,s',E,R,hm,q⟩:=h
 obtain⟨kd,s1,e1,hm⟩:=ac9 hm
 obtain⟨F,s2,e2,hm⟩:=ac9 hm
 split at hm
 case isFalse=>exact fb hm
 rename_i hc
 cases hm
 intro p hp
 obtain⟨g0,R0⟩:=R.new (o:=.dic []) (u:=.dK []) hp rfl λ C' H' g e=>⟨[],e,rfl⟩
 have l0:s.length<=(s++[DV.O.dic []]).length:=by simp
 refine⟨_,U,s++[DV.O.dic []],kd,s1,E.mono g0 l0,R0,e1,λ v1 C1 H1 g1 l1 b1 r1 R1=>?_⟩
 refine⟨C1,U,s1,F,s2,(E.mono g0 l0).mono g1 l1,R1,e2,λ Y C2 H2 G J b2 r2 R2=>?_⟩
 have B:C2 s.length=p:=by
  rw[G.w.map s.length (aF (by simp) l1),g1.w.map s.length (by simp)];simp
 obtain⟨k,hk⟩:=ap7 hc.1
 have ek:=aN5 hk (RV.mono G kd v1 b1 r1)
 obtain⟨Z,z1,z2⟩:=R2.obj s.length _ hc.2
 have z2:Z=[]:=z2
 subst z2
 rw[B]at z1
 refine⟨z1,[(k,Y)],by rw[ek];rfl,by simp,?_⟩
 have hb:(DV.O.dic [(kd,F)]).bnd s2.length=true:=by
  unfold kY
  simp only[a7,d7,kT,fT,ao]
  exact⟨zg J _ b1,b2⟩
 obtain⟨g3,R3⟩:=R2.set (o:=.dic [(kd,F)]) (u:=.dK [(k,Y)]) hc.2 rfl hb λ H' g e=>⟨_,e,k,Y,[],rfl,hk,RV.monoW g _ _ b2 r2,rfl⟩
 rw[B]at g3 R3
 have L:s.length<=s2.length:=av l0 (av l1 J)
 have lt:s.length<s2.length:=aF (by simp) (av l1 J)
 exact q (.ref p) _ _ (((g0.trans g1 l0).trans G (av l0 l1)).trans g3 L) (by rw[bp];exact L) (by unfold kX;rw[bp];exact decide_eq_true lt) (by unfold RV;rw[B]) R3
theorem bC7 (h:TEv Γ (λ U s=>lK (.dit []) s) W H Q):bs1 W H Q:=by
 obtain⟨C,U,s,d,s',E,R,hm,q⟩:=h
 obtain⟨rfl,rfl⟩:=zR hm
 intro p hp
 obtain⟨g,B⟩:=R.new (o:=.dit []) (u:=.dT []) hp rfl λ C' H' g e=>⟨[],e,rfl⟩
 exact q (.ref p) _ _ g (by simp) (by unfold kX;simp) (by unfold RV;simp) B
theorem bx9 {mk Z:kS->kQ->kU kR}(h:TEv Γ (λ U s=>(mk U (s++[.dit []])).bind λ kd s1=>(Z U s1).bind λ F s2=>if kd.keyT=true/\s2[s.length]?=some (.dit [])then .ok (.ref s.length) (s2.set s.length (.dit [(kd,F)]))else .bad) W H Q):bs6 (TEv Γ mk) (TEv Γ Z) W H Q:=by
 obtain⟨C,U,s,d,s',E,R,hm,q⟩:=h
 obtain⟨kd,s1,e1,hm⟩:=ac9 hm
 obtain⟨F,s2,e2,hm⟩:=ac9 hm
 split at hm
 case isFalse=>exact fb hm
 rename_i hc
 cases hm
 intro p hp
 obtain⟨g0,R0⟩:=R.new (o:=.dit []) (u:=.dT []) hp rfl λ C' H' g e=>⟨[],e,rfl⟩
 have l0:s.length<=(s++[DV.O.dit []]).length:=by simp
 refine⟨_,U,s++[DV.O.dit []],kd,s1,E.mono g0 l0,R0,e1,λ v1 C1 H1 g1 l1 b1 r1 R1=>?_⟩
 refine⟨C1,U,s1,F,s2,(E.mono g0 l0).mono g1 l1,R1,e2,λ v2 C2 H2 G J b2 r2 R2=>?_⟩
 have B:C2 s.length=p:=by
  rw[G.w.map s.length (aF (by simp) l1),g1.w.map s.length (by simp)];simp
 obtain⟨k,hk⟩:=an2 hc.1
 obtain⟨kb,ek,nk⟩:=az6 hk (RV.mono G kd v1 b1 r1)
 obtain⟨Y,z1,z2⟩:=R2.obj s.length _ hc.2
 have z2:Y=[]:=z2
 subst z2
 rw[B]at z1
 refine⟨z1,kb,k,ek,nk,?_⟩
 have hb:(DV.O.dit [(kd,F)]).bnd s2.length=true:=by
  unfold kY
  simp only[a7,d7,kT,fT,ao]
  exact⟨zg J _ b1,b2⟩
 obtain⟨g3,R3⟩:=R2.set (o:=.dit [(kd,F)]) (u:=.dT [(k,v2)]) hc.2 rfl hb λ H' g e=>⟨_,e,k,v2,[],rfl,hk,RV.monoW g _ _ b2 r2,rfl⟩
 rw[B]at g3 R3
 have L:s.length<=s2.length:=av l0 (av l1 J)
 have lt:s.length<s2.length:=aF (by simp) (av l1 J)
 exact q (.ref p) _ _ (((g0.trans g1 l0).trans G (av l0 l1)).trans g3 L) (by rw[bp];exact L) (by unfold kX;rw[bp];exact decide_eq_true lt) (by unfold RV;rw[B]) R3
section
variable {c:String} {kvs:List (List Nat×List Nat)} {a:Addr}
end
end
section
variable {Γ:Gm} {F:la} {n:Nat} {X:Cx} {ck:Ck}
end
section
variable {Γ:Gm} {F:la} {n:Nat} {X:Cx} {ck:Ck}
def TJv (Γ:Gm)(m:kS->kQ->kU (List kR))(out:List Nat):TE:=λ W H Q=>∃ C U s l s' ws,RE Γ C H s.length U W/\Rp Γ C H s/\m U s=.ok l s'/\mn l=some ws/\(out++ws.flatten).length<=k6 /\
 ∀ C' H',Gr C s H C' s' H'->s.length<=s'.length->Rp Γ C' H' s'->Q (.str ⟨(out++ws.flatten).toArray⟩) H'
def PF (Γ:Gm)(X:Cx)(vs:yK)(m:kS->kQ->kU (List kR)):Prop :=
 ∀(out:List Nat) (pins:yA) (s:ai) (W:St) (H:Hp) (Q:VK),Inv X pins W H s->TJv Γ m out W H Q->wpAny (model X.prog X.w) X.A (joinParts ⟨out.toArray⟩ (evalEach vs X.env)) (EP X pins W Q) X.xe s
theorem PF.eq {vs:yK}{m m':kS->kQ->kU (List kR)}(e:∀ U s,m U s=m' U s)(h:PF Γ X vs m):PF Γ X vs m':=λ out B s W H Q I q=>by
 obtain⟨C,U,s0,l,s',ws,E,R,hm,q⟩:=q
 exact h out B s W H Q I ⟨C,U,s0,l,s',ws,E,R,by rw[e];exact hm,q⟩
theorem aM8 (w:List Nat):(⟨w.toArray⟩:Str).length=w.length:=by simp[Str.length]
theorem bN0:PF Γ X [] (λ _ s=>.ok [] s):=λ out h s W H Q I q=>by
 obtain⟨C,U,s0,l,s',ws,E,R,hm,hw,hl,q⟩:=q
 cases hm
 cases hw
 rw[List.flatten_nil,bw]at q hl
 exact joinParts_nilE (joinParts_nil ⟨.str ⟨out.toArray⟩,H,I.tok _,⟨_,rfl⟩,q C H (Gr.refl _ _ _) (aw _) R⟩ (by rw[aM8];exact av hl zJ))
theorem bi8 {d:kR}{l:List kR}{ws:List (List Nat)}(h:mn (d::l)=some ws):∃ w B,d=.str w/\mn l=some B/\ws=w::B:=by
 cases d with
 | str w =>
  have h:(mn l).map (w::·)=some ws:=h
  cases e:mn l with
  | none=>rw[e]at h;cases h
  | some B=>rw[e]at h;cases h;exact⟨w,B,rfl,rfl,rfl⟩
 | _=>cases h
theorem be9 {v:Expr}{vs:yK}{m1:kS->kQ->kU kR}{m2:kS->kQ->kU (List kR)}(h2:PF Γ X vs m2)
  (h1:∀(h:yA) (s:ai) (W:St) (H:Hp) (w:List Nat) (Q:VK),w.length<=k6->Inv X h W H s->TEv Γ m1 W H (λ x B=>x=.str ⟨w.toArray⟩/\Q x B) ->
   wpAny (model X.prog X.w) X.A (eval v X.env) (λ u s1=>∃ t B,u=.str ⟨w.toArray⟩ t/\Inv X h W B s1/\Q (.str ⟨w.toArray⟩) B) X.xe s) :
  PF Γ X (v::vs) (λ U s=>(m1 U s).bind λ d s=>(m2 U s).bind λ l s=>.ok (d::l) s):=λ out h s W H Q I q=>by
 obtain⟨C,U,s0,l,s',ws,E,R,hm,hw,hl,q⟩:=q
 obtain⟨d,s1,e1,hm⟩:=ac9 hm
 obtain⟨Z,s2,e2,hm⟩:=ac9 hm
 cases hm
 obtain⟨w,J,rfl,Y,rfl⟩:=bi8 hw
 rw[cM,<-cx]at hl q
 have G:(out++w).length<=k6:=by rw[ax]at hl;omega
 have F:w.length<=k6:=by rw[ax]at G;omega
 refine joinParts_consE (joinParts_cons (bq (h1 h s W H w (λ x B=>∃ C1,Gr C s0 H C1 s1 B/\s0.length<=s1.length/\Rp Γ C1 B s1) F I ⟨C,U,s0,.str w,s1,E,R,e1,λ v C1 B g1 l1 b1 r1 R1=>⟨r1.strE,C1,g1,l1,R1⟩⟩) (λ u a0 hu=>?_) λ _ _ x=>x))
 obtain⟨t,B,rfl,I1,C1,g1,l1,R1⟩:=hu
 show(_++_:Str).length<=aN/\_
 rw[bg9]
 refine⟨by rw[aM8];exact av G zJ,h2 (out++w) h a0 W B Q I1 ⟨C1,U,s1,Z,s',J,E.mono g1 l1,R1,e2,Y,hl,λ C2 H2 g2 Z R2=>q C2 H2 (g1.trans g2 l1) (av l1 Z) R2⟩⟩
theorem bu5 {v:Expr}{F:kS->kQ->kU kR}(hv:PE X v (TEv Γ F))(h:yA)(s:ai)(W:St)(H:Hp)(w:List Nat)(Q:VK)(I:Inv X h W H s)(q:TEv Γ F W H (λ x B=>x=.str ⟨w.toArray⟩/\Q x B)) :
  wpAny (model X.prog X.w) X.A (eval v X.env) (λ u s1=>∃ t B,u=.str ⟨w.toArray⟩ t/\Inv X h W B s1/\Q (.str ⟨w.toArray⟩) B) X.xe s :=
 bq (hv h s W H _ I q) (λ u s1 hu=>by
  obtain⟨x,B,G,Y,ex,J⟩:=hu
  subst ex
  obtain⟨t,rfl⟩:=(show ∃ t,u=Value.str ⟨w.toArray⟩ t from Y)
  exact⟨t,B,rfl,G,J⟩) λ _ _ x=>x
theorem bX0 {v:Expr}{p:Pos}{vs:yK}{F:kS->kQ->kU kR}{B:kS->kQ->kU (List kR)}(hv:PE X v (TEv Γ F))(J:PF Γ X vs B) :
  PF Γ X (.FormattedValue v (-1) none p::vs) (λ U s=>(F U s).bind λ d s=>(B U s).bind λ l s=>.ok (d::l) s) :=
 be9 J λ h s W H w Q hw I q=>FormattedValue_plain (bq (bu5 hv h s W H w Q I q) (λ u s1 hu=>by
  obtain⟨t,G,rfl,Y,Z⟩:=hu
  exact formatField_str (λ t' tk=>⟨t',G,rfl,Y.tok tk,Z⟩) (by rw[aM8];exact av hw zJ)) λ _ _ x=>x)
theorem bW9 {v:Expr}{vs:yK}{F:kS->kQ->kU kR}{B:kS->kQ->kU (List kR)}(hv:PE X v (TEv Γ F))(G:PF Γ X vs B) :
  PF Γ X (v::vs) (λ U s=>(F U s).bind λ d s=>(B U s).bind λ l s=>.ok (d::l) s) :=
 be9 G λ h s W H w Q hw I q=>bu5 hv h s W H w Q I q
end
section
variable {Γ:Gm} {F:la} {n:Nat}
theorem bP7 {X:Cx}{c:DV.Cn}{v:Const}{k:Nat}{pos:Pos}(h:mC c v=true):EvT Γ X (.Constant v k pos) (kW F (.cst c)):=by
 refine .val ?_
 unfold mC at h
 split at h
 .exact bX3.imp λ W H Q q=>aC5 (c:=.non) (λ _=>rfl) (λ _ _=>RV.nonI) (TEv.eq (λ U s=>rfl) q)
 .rename_i b c
  have e:=eq_of_beq h
  subst e
  exact bM4.imp λ W H Q q=>aC5 (c:=.bl b) (λ _=>rfl) (λ _ _=>RV.blI) (TEv.eq (λ U s=>rfl) q)
 .rename_i i j
  have e:=of_decide_eq_true h
  subst e
  exact bT7.imp λ W H Q q=>aC5 (c:=.int i) (λ _=>rfl) (λ _ _=>RV.intI) (TEv.eq (λ U s=>rfl) q)
 .rename_i x y
  rw[ao]at h
  have e:=of_decide_eq_true h.1
  have e2:=of_decide_eq_true h.2
  subst e
  exact bt0.imp λ W H Q q=>aC5 (c:=.str x) (λ _=>rfl) (λ _ _=>RV.strI (by unfold k6;omega)) (TEv.eq (λ U s=>rfl) q)
 .cases h
theorem bC9 {X:Cx}{Z:Ck}{es:ly}{B:yK}{pos:Pos}(m:mEs Z es B=true)(hz:B.length<=1000)(h:PA X B (TAv Γ (lE F es))):PE X (.List B pos) (TFv Γ (DV.evL F (.disp es))):=by
 refine(aO5 h).imp λ W H Q q=>?_
 obtain⟨C,U,s,l,s',E,R,hm,q⟩:=q
 refine⟨C,U,s,l,s',E,R,hm,λ vs C1 G g1 l1 Y r1 R1=>⟨by rw[r1.length,ay2 hm m];exact aP2 hz,λ p hp=>?_⟩⟩
 obtain⟨J,R2⟩:=R1.same (H':=upd G p (.lst vs)) ((ak9.refl G).new hp)
 refine q p vs C1 _ (g1.trans J l1) l1 Y zy ?_ (Off.new R1 hp) (RVL.mono J _ _ Y r1) R2
 cases e:H p with
 | none=>rfl
 | some o=>exact absurd hp (g1.st p (by rw[e];simp))
theorem CompF.eq {X:Cx}{m m':kS->kQ->kU (List kR)}{E:Expr}(c:CompF Γ X m E)(e:∀ U s,m' U s=m U s):CompF Γ X m' E:=by
 have:m'=m:=funext λ U=>funext λ s=>e U s
 subst this;exact c
theorem zl {a b:Bool}(h:(a&&b)=true):a=true/\b=true:=by rw[ao]at h;exact h
theorem by7 {X:Cx}{J:Ck}{g:String}{p:Pos}(G:CG Γ F n X J)(h:J.gl (g:Str)=true):EvT Γ X (.Name (g:Str) p) (kW F (.glob g)):=by
 refine .val ?_
 obtain⟨g1,Y,g3⟩:=G.gl h
 cases e:F.con g with
 | none =>
  intro B s W H Q I q
  obtain⟨C,U,s,d,s',E,R,hm,q⟩:=q
  have hm:(match F.con g with|some d=>DV.R.ok d s|none=>.bad)=.ok d s':=hm
  rw[e]at hm
  cases hm
 | some d =>
  obtain⟨v,u,h1,Z,h3,h4⟩:=G.con g d e
  exact(aM2 g1 h1 Z Y).imp λ W H Q q=>aC5 (c:=d) h3 h4 (TEv.eq (λ U s=>by show(match F.con g with|some d=>DV.R.ok d s|none=>.bad)=DV.R.ok d s;rw[e]) q)
theorem cd3 {X:Cx}{B:Ck}{i:Nat}{x:Str}{p:Pos}(G:CG Γ F n X B)(h:B.var i x=true):EvT Γ X (.Name x p) (kW F (.var i)):=by
 refine .val ?_
 unfold Ck.var at h
 obtain⟨h,J⟩:=zl h
 obtain⟨h,h3⟩:=zl h
 obtain⟨Y,Z⟩:=zl h
 have e1:(x==("__debug__":Str))=false:=by simpa using h3
 have e2:(x==("__classdict__":Str))=false:=by simpa using J
 exact(bP8 (by rw[G.N];exact of_decide_eq_true Y) (G.vis Z) e1 e2).imp λ W H Q q=>bW7 i (TEv.eq (λ U s=>rfl) q)
theorem aN3 {X:Cx}{E:Expr}{m:kS->kQ->kU kR}(h:∀ U s,m U s=.bad):EvT Γ X E m:=by
 refine⟨λ B s W H Q I q=>?_,λ B s W H Q I q=>?_⟩
 .obtain⟨C,U,s,d,s',E,R,hm,q⟩:=q
  rw[h]at hm;exact fb hm
 .obtain⟨C,U,s,d,s',E,R,hm,q⟩:=q
  rw[h]at hm;exact fb hm
inductive LK (Γ:Gm)(X:Cx)(m:kS->kQ->kU (List kR))(E:Expr)(k:Nat):Prop where
 | c (h:CompF Γ X m E):LK Γ X m E k
 | f (hk:1<=k) (h:PE X E (TFv Γ m)):LK Γ X m E k
 | s (hk:k=2) (h:PE X E (TLv Γ m)):LK Γ X m E k
theorem bS7 {X:Cx}{m:kS->kQ->kU (List kR)}{E:Expr}(h:LK Γ X m E 0):CompF Γ X m E:=by
 cases h with
 | c h=>exact h
 | f hk h=>omega
 | s hk h=>omega
theorem bN4 {X:Cx}{B:Ck}{m:kS->kQ->kU (List kR)}{E:Expr}(G:CG Γ F n X B)(h:LK Γ X m E 1):PE X E (TFv Γ m):=by
 cases h with
 | c h=>exact h.pe G.calm
 | f hk h=>exact h
 | s hk h=>omega
theorem cl0 {X:Cx}{B:Ck}{m:kS->kQ->kU (List kR)}{E:Expr}(G:CG Γ F n X B)(h:LK Γ X m E 2):PE X E (TLv Γ m):=by
 cases h with
 | c h=>exact(h.pe G.calm).imp λ W H Q q=>aP9 q
 | f hk h=>exact h.imp λ W H Q q=>aP9 q
 | s hk h=>exact h
theorem biOk_inv {B:Ck}{b:lI}{x:Str}{F:yK}{es:ly}(h:cf0 B b x F (mEs B es F) (mEs B es (F.take 1))=true) :
  (∃ k t a y G,biK b=some (k,t)/\F=[a,.Name y G]/\x=("isinstance":Str)/\y=t/\B.gl x=true/\B.gl y=true/\mEs B es [a]=true)\/∃ a ys,F=a::ys/\biT b=some x/\B.gl x=true/\mEs B es (a::ys)=true:=by
 unfold cf0 at h
 cases hk:biK b with
 | none =>
  rw[hk]at h
  cases F with
  | nil=>exact ff h
  | cons a ys =>
   obtain⟨h,h3⟩:=zl h
   obtain⟨J,Y⟩:=zl h
   exact .inr ⟨a,ys,rfl,of_decide_eq_true J,Y,h3⟩
 | some p =>
  rw[hk]at h
  cases F with
  | nil=>exact ff h
  | cons a ys=>cases ys with
   | nil=>exact ff h
   | cons b ys=>cases b with
    | Name y G=>cases ys with
     | nil =>
      obtain⟨h,Z⟩:=zl h
      obtain⟨h,h4⟩:=zl h
      obtain⟨h,h3⟩:=zl h
      obtain⟨J,Y⟩:=zl h
      exact .inl ⟨p.1,p.2,a,y,G,rfl,rfl,of_decide_eq_true J,of_decide_eq_true h3,Y,h4,Z⟩
     | cons _ _=>exact ff h
    | _=>exact ff h
mutual
theorem sE:∀(e:mz) (E:Expr) (X:Cx) (B:Ck),CG Γ F n X B->mE B e E=true->EvT Γ X E (kW F e)
 | .var i,E,X,B,G,h=>by
  cases E with
  | Name x p =>
   exact cd3 G h
  | _=>exact ff h
 | .cst c,E,X,B,G,h=>by
  cases E with
  | Constant v k p =>
   exact bP7 h
  | _=>exact ff h
 | .glob g,E,X,B,G,h=>by
  cases E with
  | Name x p =>
   obtain⟨Y,J⟩:=zl h
   have e:=of_decide_eq_true Y
   subst e
   exact by7 G J
  | _=>exact ff h
 | .bin op a b,E,X,B,G,h=>by
  cases E with
  | BinOp l o r pE =>
   obtain⟨h,h3⟩:=zl h
   obtain⟨Y,J⟩:=zl h
   have e:=of_decide_eq_true Y
   subst e
   exact bA6 G op (sE a _ X B G J) (sE b _ X B G h3)
  | _=>exact ff h
 | .neg a,E,X,B,G,h=>by
  cases E with
  | UnaryOp o l p =>
   cases o with
   | USub =>
    exact bJ7 (sE a _ X B G h)
   | _=>exact ff h
  | _=>exact ff h
 | .not a,E,X,B,G,h=>by
  cases E with
  | UnaryOp o l p =>
   cases o with
   | Not =>
    exact bz1 (sE a _ X B G h)
   | _=>exact ff h
  | _=>exact ff h
 | .cmp op a b,E,X,B,G,h=>by
  cases E with
  | Compare l os rs pE =>
   cases os with
   | cons o os_0 =>
    cases os_0 with
    | nil =>
     cases rs with
     | cons r rs_0 =>
      cases rs_0 with
      | nil =>
       obtain⟨h,h3⟩:=zl h
       obtain⟨Y,J⟩:=zl h
       have e:=of_decide_eq_true Y
       subst e
       exact bK1 G op (aQ7 h3) (sE a _ X B G J) (sE b _ X B G h3)
      | _=>exact ff h
     | _=>exact ff h
    | _=>exact ff h
   | _=>exact ff h
  | _=>exact ff h
 | .chain _ _ _ _ _,E,X,B,G,h=>ff h
 | .isN a,E,X,B,G,h=>by
  cases E with
  | Compare l os rs pE =>
   cases os with
   | cons o os1 =>
    cases o with
    | Is =>
     cases os1 with
     | nil =>
      cases rs with
      | cons r rs1 =>
       cases r with
       | Constant v k p1 =>
        cases v with
        | none =>
         cases rs1 with
         | nil =>
          exact by1 (sE a _ X B G h)
         | _=>exact ff h
        | _=>exact ff h
       | _=>exact ff h
      | _=>exact ff h
     | _=>exact ff h
    | _=>exact ff h
   | _=>exact ff h
  | _=>exact ff h
 | .notN a,E,X,B,G,h=>by
  cases E with
  | Compare l os rs pE =>
   cases os with
   | cons o os1 =>
    cases o with
    | IsNot =>
     cases os1 with
     | nil =>
      cases rs with
      | cons r rs1 =>
       cases r with
       | Constant v k p1 =>
        cases v with
        | none =>
         cases rs1 with
         | nil =>
          exact bl8 (sE a _ X B G h)
         | _=>exact ff h
        | _=>exact ff h
       | _=>exact ff h
      | _=>exact ff h
     | _=>exact ff h
    | _=>exact ff h
   | _=>exact ff h
  | _=>exact ff h
 | .isB _ _,E,X,B,G,h=>ff h
 | .notB _ _,E,X,B,G,h=>ff h
 | .and a b,E,X,B,G,h=>by
  cases E with
  | BoolOp op vs p=>cases op with
   | And =>
    cases vs with
    | nil=>exact ff h
    | cons l vs=>cases vs with
     | nil=>exact ff h
     | cons r vs=>cases vs with
      | nil =>
       obtain⟨Y,J⟩:=zl h
       exact bx0 (sE a _ X B G Y) (sE b _ X B G J)
      | cons r2 vs =>
       obtain⟨Y,J⟩:=zl h
       exact bK6 (sE a _ X B G Y) (sE b _ X B G J)
   | _=>exact ff h
  | _=>exact ff h
 | .or a b,E,X,B,G,h=>by
  cases E with
  | BoolOp op vs p=>cases op with
   | Or =>
    cases vs with
    | nil=>exact ff h
    | cons l vs=>cases vs with
     | nil=>exact ff h
     | cons r vs=>cases vs with
      | nil =>
       obtain⟨Y,J⟩:=zl h
       exact bU0 (sE a _ X B G Y) (sE b _ X B G J)
      | cons r2 vs =>
       obtain⟨Y,J⟩:=zl h
       exact cb0 (sE a _ X B G Y) (sE b _ X B G J)
   | _=>exact ff h
  | _=>exact ff h
 | .ite c a b,E,X,B,G,h=>by
  cases E with
  | IfExp tE l r pE =>
   obtain⟨h,h3⟩:=zl h
   obtain⟨Y,J⟩:=zl h
   exact bK4 (sE c _ X B G Y) (sE a _ X B G J) (sE b _ X B G h3)
  | _=>exact ff h
 | .tup es,E,X,B,G,h=>by
  cases E with
  | Tuple xs k p =>
   obtain⟨Y,J⟩:=zl h
   exact bI7 Y (of_decide_eq_true J) (aw9 (sEs es _ X B G Y))
  | _=>exact ff h
 | .lst es,E,X,B,G,h=>by
  cases E with
  | List xs p =>
   obtain⟨Y,J⟩:=zl h
   exact bA1 Y (of_decide_eq_true J) (aw9 (sEs es _ X B G Y))
  | _=>exact ff h
 | .dic .nil .nil,E,X,B,G,h=>by
  cases E with
  | Dict a b p=>cases a with
   | nil=>cases b with
    | nil=>exact .val (bl5.imp λ W H Q q=>cb5 (TEv.eq (λ U s=>rfl) q))
    | _=>exact ff h
   | cons x a=>cases x with
    | none=>exact ff h
    | some x=>cases a with
     | nil=>cases b with
      | nil=>exact ff h
      | cons y b=>cases b with
       | nil=>exact ff h
       | _=>exact ff h
     | _=>exact ff h
  | _=>exact ff h
 | .dic (.cons k .nil) (.cons v .nil),E,X,B,G,h=>by
  cases E with
  | Dict a b p=>cases a with
   | nil=>cases b with
    | nil=>exact ff h
    | _=>exact ff h
   | cons x a=>cases x with
    | none=>exact ff h
    | some x=>cases a with
     | nil=>cases b with
      | nil=>exact ff h
      | cons y b=>cases b with
       | nil =>
        obtain⟨Y,J⟩:=zl h
        obtain⟨Y,_⟩:=zl Y
        obtain⟨Y,_⟩:=zl Y
        obtain⟨J,_⟩:=zl J
        obtain⟨J,_⟩:=zl J
        exact .val ((bG1 (aS6 (sE k _ X B G Y).1 (sE v _ X B G J).1 bh2) rfl rfl (by nofun) (by show 1<=15;decide)).imp λ W H Q q=>bV3 (TEv.eq (λ U s=>rfl) q))
       | _=>exact ff h
     | _=>exact ff h
  | _=>exact ff h
 | .dic .nil (.cons _ _),E,X,B,G,h=>aN3 λ _ _=>rfl
 | .dic (.cons _ .nil) .nil,E,X,B,G,h=>aN3 λ _ _=>rfl
 | .dic (.cons _ .nil) (.cons _ (.cons _ _)),E,X,B,G,h=>aN3 λ _ _=>rfl
 | .dic (.cons _ (.cons _ _)) _,E,X,B,G,h=>aN3 λ _ _=>rfl
 | .bitl _,E,X,B,G,h=>ff h
 | .fstr _,E,X,B,G,h=>ff h
 | .inC _ _,E,X,B,G,h=>ff h
 | .getC _ _,E,X,B,G,h=>ff h
 | .lrng _,E,X,B,G,h=>ff h
 | .dicU k v,E,X,B,G,h=>by
  cases E with
  | Dict a b p=>cases a with
   | nil=>exact ff h
   | cons x a=>cases x with
    | none=>cases a with|nil=>exact ff h|_=>exact ff h
    | some x=>cases a with
     | nil=>cases b with
      | nil=>exact ff h
      | cons y b=>cases b with
       | nil =>
        obtain⟨Y,J⟩:=zl h
        exact .val ((br8 (Nat.lt_of_succ_lt (at9 G.room)) (sE k _ X B G Y).1 (sE v _ X B G J).1).imp λ W H Q q=>bx9 (TEv.eq (λ U s=>rfl) q))
       | _=>exact ff h
     | _=>exact ff h
  | _=>exact ff h
 | .dicT,E,X,B,G,h=>by
  cases E with
  | Dict a b p=>cases a with
   | nil=>cases b with
    | nil=>exact .val (bo2.imp λ W H Q q=>bC7 (TEv.eq (λ U s=>rfl) q))
    | _=>exact ff h
   | _=>exact ff h
  | _=>exact ff h
 | .get2 _ _ _,E,X,B,G,h=>ff h
 | .ix a b,E,X,B,G,h=>by
  cases E with
  | Subscript o i p =>
   obtain⟨Y,J⟩:=zl h
   exact bP0 G (aQ7 J) (sE a _ X B G Y) (sE b _ X B G J)
  | _=>exact ff h
 | .slL _ _,E,X,B,G,h=>ff h
 | .slU a hi,E,X,B,G,h=>by
  cases E with
  | Subscript o i p =>
   cases i with
   | Slice lo hi st p2 =>
    cases lo with
    | none =>
     cases hi with
     | some l =>
      cases st with
      | none =>
       obtain⟨Y,J⟩:=zl h
       exact bF2 G (sE a _ X B G Y) (sE hi _ X B G J)
      | _=>exact ff h
     | _=>exact ff h
    | _=>exact ff h
   | _=>exact ff h
  | _=>exact ff h
 | .slLU _ _ _,E,X,B,G,h=>ff h
 | .rev _,E,X,B,G,h=>ff h
 | .call f as,E,X,B,G,h=>by
  cases E with
  | Call fE xs kw p =>
   cases fE with
   | Name x pN =>
    cases kw with
    | nil =>
     obtain⟨h,h3⟩:=zl h
     obtain⟨Y,J⟩:=zl h
     have e:=of_decide_eq_true Y
     subst e
     exact bk9 G J h3 (sAs as _ X B G h3)
    | _=>exact ff h
   | _=>exact ff h
  | _=>exact ff h
 | .callC _ _,E,X,B,G,h=>ff h
 | .callV _ _,E,X,B,G,h=>ff h
 | .bi b es,E,X,B,G,h=>by
  cases E with
  | Call fE xs kw p =>
   cases fE with
   | Name x pN =>
    cases kw with
    | nil =>
     have h:cf0 B b x xs (mEs B es xs) (mEs B es (xs.take 1))=true:=h
     rcases biOk_inv h with⟨k,t,a,y,py,hk,rfl,rfl,rfl,J,h4,Z⟩|⟨a,ys,rfl,Y,J,h3⟩
     .exact bx8 G hk J h4 (sEs es _ X B G Z)
     .exact bQ2 G Y J h3 (aw9 (sEs es _ X B G h3))
    | _=>exact ff h
   | _=>exact ff h
  | _=>exact ff h
 | .mk k l,E,X,B,G,h=>by
  cases E with
  | ListComp e gs sc p =>
   obtain⟨Y,J⟩:=zl h
   have e:=of_decide_eq_true Y
   subst e
   exact .val (((bS7 (sL l _ X B G 0 J)).pe G.calm).imp λ W H Q q=>aX9 (TEv.eq (λ U s=>rfl) q))
  | Call fE xs kw p =>
   cases fE with
   | Name x pN =>
    cases xs with
    | cons a xs_0 =>
     cases xs_0 with
     | nil =>
      cases kw with
      | nil =>
       obtain⟨h,h4⟩:=zl h
       obtain⟨J,h3⟩:=zl h
       rw[cb]at h4
       rcases h4 with h4|h4
       .obtain⟨Z,h6⟩:=zl h4
        exact .val ((cd0 G (of_decide_eq_true Z) J h3 (cl0 G (sL l _ X B G 2 h6))).imp λ W H Q q=>TEv.eq (λ U s=>rfl) q)
       .obtain⟨Z,h6⟩:=zl h4
        exact .val ((cd1 G (of_decide_eq_true Z) J h3 (bN4 G (sL l _ X B G 1 h6))).imp λ W H Q q=>TEv.eq (λ U s=>rfl) q)
      | _=>exact ff h
     | _=>exact ff h
    | _=>exact ff h
   | _=>exact ff h
  | _=>exact ff h
 | .mks _ _,E,X,B,G,h=>ff h
 | .mkDs _ _ _,E,X,B,G,h=>ff h
 | .minK _ _ _,E,X,B,G,h=>ff h
 | .mkD k l d,E,X,B,G,h=>by
  cases E with
  | Call fE xs kw p =>
   cases fE with
   | Name x pN =>
    cases xs with
    | cons a xs_0 =>
     cases xs_0 with
     | nil =>
      cases kw with
      | cons kk kw1 =>
       cases kk with
       | mk ky de kp =>
        cases ky with
        | some y =>
         cases kw1 with
         | nil =>
          obtain⟨h,h7⟩:=zl h
          obtain⟨h,h6⟩:=zl h
          obtain⟨h,Z⟩:=zl h
          obtain⟨h,h3⟩:=zl h
          obtain⟨Y,J⟩:=zl h
          have e3:=of_decide_eq_true J
          subst e3
          obtain⟨e,e2⟩:=zl Y
          have e:=of_decide_eq_true e
          have e2:=of_decide_eq_true e2
          subst e e2
          exact .val ((bP9 G h3 Z (bN4 G (sL l _ X B G 1 h6)) (sE d _ X B G h7).1).imp λ W H Q q=>TEv.eq (λ U s=>rfl) q)
         | _=>exact ff h
        | _=>exact ff h
      | _=>exact ff h
     | _=>exact ff h
    | _=>exact ff h
   | _=>exact ff h
  | _=>exact ff h
 | .meth m o es,E,X,B,G,h=>by
  cases E with
  | Call fE xs kw p =>
   cases fE with
   | Attribute ob x ap =>
    cases kw with
    | nil =>
     obtain⟨h,Z⟩:=zl h
     obtain⟨h,h4⟩:=zl h
     obtain⟨h,h3⟩:=zl h
     obtain⟨Y,J⟩:=zl h
     exact bl1 G (of_decide_eq_true Y) J h3 (sE o _ X B G h4).1 Z (sEs es _ X B G Z)
    | _=>exact ff h
   | _=>exact ff h
  | _=>exact ff h
 | .ext _ _,E,X,B,G,h=>ff h
 | .extS _ _,E,X,B,G,h=>ff h
 | .spl _ _,E,X,B,G,h=>ff h
 | .join _ _,E,X,B,G,h=>ff h
theorem sEs:∀(es:ly) (B:yK) (X:Cx) (J:Ck),CG Γ F n X J->mEs J es B=true->PEs Γ F X es B
 | .nil,B,X,J,G,h=>by
  cases B with
  | nil =>
   exact trivial
  | _=>exact ff h
 | .cons e es,B,X,J,G,h=>by
  cases B with
  | cons x B =>
   obtain⟨h,h3⟩:=zl h
   obtain⟨Y,Z⟩:=zl h
   exact⟨⟨Z,sE e _ X J G Y⟩,sEs es _ X J G h3⟩
  | _=>exact ff h
theorem sFs:∀(es:ly) (J:yK) (X:Cx) (B:Ck),CG Γ F n X B->mFs B es J=true->PF Γ X J (lE F es)
 | .nil,J,X,B,G,h=>by
  cases J with
  | nil=>exact(bN0).eq λ _ _=>rfl
  | _=>exact ff h
 | .cons e es,J,X,B,G,h=>by
  cases J with
  | cons x J =>
   cases x with
   | FormattedValue v c sp p =>
    cases sp with
    | none =>
     obtain⟨h,h3⟩:=zl h
     obtain⟨Y,Z⟩:=zl h
     have e1:=of_decide_eq_true Y
     subst e1
     exact(bX0 (sE e _ X B G Z).1 (sFs es _ X B G h3)).eq λ _ _=>rfl
    | _=>exact ff h
   | Constant v j p =>
    obtain⟨Y,Z⟩:=zl h
    exact(bW9 (sE e _ X B G Y).1 (sFs es _ X B G Z)).eq λ _ _=>rfl
   | _=>exact ff h
  | _=>exact ff h
theorem sAs:∀(es:lX) (B:yK) (X:Cx) (J:Ck),CG Γ F n X J->mAs J es B=true->PA X B (TAv Γ (lM F es))
 | .nil,B,X,J,G,h=>by
  cases B with
  | nil =>
   exact ak2.imp λ W H Q q=>aN2 (TAv.eq (λ U s=>rfl) q)
  | _=>exact ff h
 | .ex e es,B,X,J,G,h=>by
  cases B with
  | cons x B =>
   obtain⟨h,h3⟩:=zl h
   obtain⟨Y,Z⟩:=zl h
   exact(aS4 Z (sE e _ X J G Y).1 (sAs es _ X J G h3)).imp λ W H Q q=>TAv.eq (λ U s=>rfl) q
  | _=>exact ff h
 | .lam _ _ _,B,X,J,G,h=>ff h
 | .fn _ _,B,X,J,G,h=>ff h
theorem cr1:∀(es:lX) (B:yK) (X:Cx) (J:Ck),CG Γ F n X J->co7 J es B=true->PA X B (TAp Γ X.env.cells X.N (lM F es))
 | .nil,B,X,J,G,h=>by
  cases B with
  | nil =>
   exact ak2.imp λ W H Q q=>bF3 (TAp.eq (λ U s=>rfl) q)
  | _=>exact ff h
 | .ex e es,B,X,J,G,h=>by
  cases B with
  | cons x B =>
   obtain⟨h,h3⟩:=zl h
   obtain⟨Y,Z⟩:=zl h
   exact(z7 (sE e _ X J G Y).1 (cr1 es _ X J G h3) (zf Z)).imp λ W H Q q=>bO2 (TAp.eq (λ U s=>rfl) q)
  | _=>exact ff h
 | .lam id caps es,B,X,J,G,h=>ff h
 | .fn _ _,B,X,J,G,h=>ff h
theorem sI:∀(i:DV.I) (E tg:Expr) (X:Cx) (B:Ck),CG Γ F n X B->mI B tg i E=true->PI X tg E (TIv Γ (mf F i))
 | .seq e,E,tg,X,B,G,h=>by
  obtain⟨J,Y⟩:=zl h
  exact bH1 G (sE e _ X B G J).1
 | .rng1 a,E,tg,X,B,G,h=>by
  cases E with
  | Call fE xs kw p =>
   cases fE with
   | Name x pN =>
    cases xs with
    | cons l xs_0 =>
     cases xs_0 with
     | nil =>
      cases kw with
      | nil =>
       obtain⟨h,Z⟩:=zl h
       obtain⟨h,h3⟩:=zl h
       obtain⟨J,Y⟩:=zl h
       have e:=of_decide_eq_true J
       subst e
       exact bn8 G Y Z (sE a _ X B G h3).1
      | _=>exact ff h
     | _=>exact ff h
    | _=>exact ff h
   | _=>exact ff h
  | _=>exact ff h
 | .rng2 _ _,E,tg,X,B,G,h=>ff h
 | .rngD _,E,tg,X,B,G,h=>ff h
 | .rng3 _ _ _,E,tg,X,B,G,h=>ff h
 | .enum (.seq _),E,tg,X,B,G,h=>ff h
 | .enum (.rng1 _),E,tg,X,B,G,h=>ff h
 | .enum (.rng2 _ _),E,tg,X,B,G,h=>ff h
 | .enum (.rng3 _ _ _),E,tg,X,B,G,h=>ff h
 | .enum (.rngD _),E,tg,X,B,G,h=>ff h
 | .enum (.enum _),E,tg,X,B,G,h=>ff h
 | .enum (.zip _ _),E,tg,X,B,G,h=>ff h
 | .enum (.items _),E,tg,X,B,G,h=>ff h
 | .zip (.seq _) (.seq _),E,tg,X,B,G,h=>ff h
 | .zip (.seq _) (.rng1 _),E,tg,X,B,G,h=>ff h
 | .zip (.seq _) (.rng2 _ _),E,tg,X,B,G,h=>ff h
 | .zip (.seq _) (.rng3 _ _ _),E,tg,X,B,G,h=>ff h
 | .zip (.seq _) (.rngD _),E,tg,X,B,G,h=>ff h
 | .zip (.seq _) (.enum _),E,tg,X,B,G,h=>ff h
 | .zip (.seq _) (.zip _ _),E,tg,X,B,G,h=>ff h
 | .zip (.seq _) (.items _),E,tg,X,B,G,h=>ff h
 | .zip (.rng1 _) _,E,tg,X,B,G,h=>ff h
 | .zip (.rng2 _ _) _,E,tg,X,B,G,h=>ff h
 | .zip (.rng3 _ _ _) _,E,tg,X,B,G,h=>ff h
 | .zip (.rngD _) _,E,tg,X,B,G,h=>ff h
 | .zip (.enum _) _,E,tg,X,B,G,h=>ff h
 | .zip (.zip _ _) _,E,tg,X,B,G,h=>ff h
 | .zip (.items _) _,E,tg,X,B,G,h=>ff h
 | .items _,E,tg,X,B,G,h=>ff h
theorem sL:∀(l:DV.L) (E:Expr) (X:Cx) (B:Ck),CG Γ F n X B->∀ k,mL B k l E=true->LK Γ X (DV.evL F l) E k
 | .comp tg it e caps,E,X,B,G,k,h=>by
  cases E with
  | ListComp elt gs scope p =>
   cases gs with
   | cons g gs1 =>
    cases g with
    | mk tgt iter ifs z =>
     cases ifs with
     | nil =>
      cases gs1 with
      | nil =>
       obtain⟨h,h3⟩:=zl h
       obtain⟨h,Y⟩:=zl h
       obtain⟨h0,J⟩:=zl h
       have Z:=of_decide_eq_true h0
       subst Z
       have c:=bn2 (pos:=p) G J (sI it _ _ X B G Y) λ Cc cells s H ex=>(sE e _ _ _ ((G.comp J).2.2 Cc cells s H ex).1 h3).1
       exact .c (c.eq λ U s=>rfl)
      | _=>exact ff h
     | _=>exact ff h
   | _=>exact ff h
  | _=>exact ff h
 | .compIf tg it i e caps,E,X,B,G,k,h=>by
  cases E with
  | ListComp elt gs scope p =>
   cases gs with
   | cons g gs1 =>
    cases g with
    | mk tgt iter ifs z =>
     cases ifs with
     | cons i1 ifs1 =>
      cases ifs1 with
      | nil =>
       cases gs1 with
       | nil =>
        obtain⟨h,h4⟩:=zl h
        obtain⟨h,h3⟩:=zl h
        obtain⟨h,Y⟩:=zl h
        obtain⟨h0,J⟩:=zl h
        have Z:=of_decide_eq_true h0
        subst Z
        have c:=bF7 (pos:=p) G J (sI it _ _ X B G Y) (λ Cc cells s H ex=>(sE i _ _ _ ((G.comp J).2.2 Cc cells s H ex).1 h3).2) λ Cc cells s H ex=>(sE e _ _ _ ((G.comp J).2.2 Cc cells s H ex).1 h4).1
        exact .c (c.eq λ U s=>rfl)
       | _=>exact ff h
      | _=>exact ff h
     | _=>exact ff h
   | _=>exact ff h
  | _=>exact ff h
 | .disp es,E,X,B,G,k,h=>by
  cases E with
  | List xs p =>
   obtain⟨h,Y⟩:=zl h
   obtain⟨h0,J⟩:=zl h
   exact .f (of_decide_eq_true h0) (bC9 J (of_decide_eq_true Y) (aw9 (sEs es _ X B G J)))
  | _=>exact ff h
 | .seq e,E,X,B,G,k,h=>by
  obtain⟨h0,J⟩:=zl h
  exact .s (of_decide_eq_true h0) ((sE e _ X B G J).1.imp λ W H Q q=>cc4 (TLv.eq (λ U s=>rfl) q))
 | .itm _,E,X,B,G,k,h=>ff h
end
end
section
variable {Γ:Gm} {F:la} {n:Nat}
theorem bm1 {X:Cx}{ck:Ck}{m:kS->kQ->kU (List kR)}{E:Expr}{x:Str}{i:Nat}{px pos:Pos}(G:CG Γ F n X ck)(c:CompF Γ X m E)(hi:ck.N[i]?=some x)(hl:ck.loc x=true) :
  PS X (.Assign [.Name x px] E pos) (bo1 (TFv Γ m) (aC3 i)):=by
 obtain⟨J,Y,iter,B,scope,p2,N',h,wi,g,tc,te,rfl,h1,h2,h3,h4,h5⟩:=c.ex
 obtain⟨l1,l2⟩:=G.loc hl
 have nd:X.N.Nodup:=by rw[G.N];exact G.nd
 have Z:X.N[i]?=some x:=by rw[G.N];exact hi
 generalize hb:((X.env.blockKind==.function&&X.env.kindOf x==some .local&&px.line==(Expr.ListComp J [⟨Y,iter,B,0⟩] scope p2).pos.line&&!(scope.names.any λ(n,k)=>n==x&&(k==.local||k==.cell))))=b
 have a0:fh (.ListComp J [⟨Y,iter,B,0⟩] scope p2) (some (.Name x px)) pos.line X.env=pure b:=by rw[<-hb];rfl
 have imp:∀ D W H,bo1 (TFv Γ m) (aC3 i) D W H->bo1 (tComp h wi g tc te) (aC3 i) D W H:=λ D W H q=>h5 _ _ _ q
 cases b with
 | true =>
  have a1:X.env.scope.names.lookup x=some .local:=by
   simp only[ao]at hb
   exact eq_of_beq hb.1.1.2
  exact(aV0 N' h nd Z a1 h1 h2 G.calm h3 h4 a0).imp imp
 | false=>exact(bv0 nd Z l1 (aZ2 N' h h1 h2 G.calm h3 h4) a0 l2).imp imp
theorem bA8 {X:Cx}{B:Ck}{e:mz}{v:Expr}{x:Str}{i:Nat}{px pos:Pos}(G:CG Γ F n X B)(Y:B.N[i]?=some x)(hl:B.loc x=true)(h:mE B e v=true) :
  PS X (.Assign [.Name x px] v pos) (TSv Γ (DV.ex F (.asg (.one i) e))):=by
 obtain⟨l1,l2⟩:=G.loc hl
 have nd:X.N.Nodup:=by rw[G.N];exact G.nd
 have J:X.N[i]?=some x:=by rw[G.N];exact Y
 by_cases hc:aF5 v=true
 .exact(bv0 nd J l1 (sE e v X B G h).1 (at4 hc) l2).imp λ D W H q=>be3 (tg:=.one i) (TSv.eq (λ U s=>rfl) q)
 .have hs:=aQ7 h
  cases v with
  | ListComp elt gs sc p =>
   cases e with
   | mk k l =>
    obtain⟨h1,Z⟩:=zl h
    have e:=of_decide_eq_true h1
    subst e
    exact(bm1 G (bS7 (sL l _ X B G 0 Z)) Y hl).imp λ D W H q=>br7 (tg:=.one i) (TSv.eq (λ U s=>rfl) q)
   | _=>exact ff h
  | SetComp _ _ _ _=>cases hs
  | DictComp _ _ _ _ _=>cases hs
  | _=>exact absurd rfl hc
mutual
theorem sS:∀(st:DV.S) (S:Stmt) (X:Cx) (B:Ck),CG Γ F n X B->mS B st S=true->PS X S (TSv Γ (DV.ex F st))
 | .asg tg e,S,X,B,G,h=>by
  cases S with
  | Assign ts v p =>
   cases ts with
   | cons t ts1 =>
    cases ts1 with
    | nil =>
     obtain⟨h,h3⟩:=zl h
     obtain⟨Y,J⟩:=zl h
     cases tg with
     | one i =>
      have h:=Y
      cases t with
      | Name x px =>
       obtain⟨a1,Z⟩:=zl h
       exact bA8 G (of_decide_eq_true a1) Z J
      | _=>exact ff h
     | tup is =>
      obtain⟨a1,Z⟩:=zl h3
      have h:=Y
      cases t with
      | Tuple te tk tp=>exact(bs2 (sE e _ X B G J).1 (bp1 G Y) (show fh v (some (.Tuple te tk tp)) p.line X.env=pure false from at4 Z) (aW5 a1) rfl).imp λ D W H q=>be3 (TSv.eq (λ U s=>rfl) q)
      | _=>exact ff h
    | _=>exact ff h
   | _=>exact ff h
  | _=>exact ff h
 | .setIx o i e,S,X,B,G,h=>by
  cases S with
  | Assign ts v p2 =>
   cases ts with
   | cons tt ts1 =>
    cases tt with
    | Subscript ob ix p1 =>
     cases ts1 with
     | nil =>
      obtain⟨h,h4⟩:=zl h
      obtain⟨h,h3⟩:=zl h
      obtain⟨Y,J⟩:=zl h
      have a0:=aQ7 J
      refine(bs2 (sE e _ X B G h3).1 (bW6 (sE o _ X B G Y).1 (sE i _ X B G J).1 (bM5 (at9 G.room)) ?_) (show fh v (some (.Subscript ob ix p1)) p2.line X.env=pure false from at4 h4) aW1 ?_).imp λ D W H q=>br2 (TSv.eq (λ U s=>rfl) q)
      .intro w
       cases ix<;>first|rfl|cases a0
      .rfl
     | _=>exact ff h
    | _=>exact ff h
   | _=>exact ff h
  | _=>exact ff h
 | .aug i e,S,X,B,G,h=>by
  cases S with
  | AugAssign tt op v p =>
   cases tt with
   | Name x p1 =>
    cases op with
    | Add =>
     obtain⟨h,h3⟩:=zl h
     obtain⟨Y,J⟩:=zl h
     obtain⟨l1,l2⟩:=G.loc J
     exact(bN5 (by rw[G.N];exact G.nd) (by rw[G.N];exact of_decide_eq_true Y) l1 (sE e _ X B G h3).1 bM2 l2).imp λ D W H q=>ca6 (TSv.eq (λ U s=>rfl) q)
    | _=>exact ff h
   | _=>exact ff h
  | _=>exact ff h
 | .ex e,S,X,B,G,h=>by
  cases S with
  | Expr v p =>
   obtain⟨Y,J⟩:=zl h
   exact(ba6 (sE e _ X B G Y).1 (at4 J)).imp λ D W H q=>bz9 (TSv.eq (λ U s=>rfl) q)
  | _=>exact ff h
 | .ret e,S,X,B,G,h=>by
  cases S with
  | Return vo p =>
   cases vo with
   | some v =>
    exact(aP0 (sE e _ X B G h).1).imp λ D W H q=>bV1 (TSv.eq (λ U s=>rfl) q)
   | _=>exact ff h
  | _=>exact ff h
 | .retN,S,X,B,G,h=>by
  cases S with
  | Return vo p =>
   cases vo with
   | none =>
    exact bG9.imp λ D W H q=>bz8 (TSv.eq (λ U s=>rfl) q)
   | _=>exact ff h
  | _=>exact ff h
 | .ite c a b,S,X,B,G,h=>by
  cases S with
  | If t l r p =>
   obtain⟨h,h3⟩:=zl h
   obtain⟨Y,J⟩:=zl h
   exact(bZ0 (sE c _ X B G Y).2 (sSs a _ X B G J) (sSs b _ X B G h3)).imp λ D W H q=>cg5 (TSv.eq (λ U s=>rfl) q)
  | _=>exact ff h
 | .whl c b,S,X,B,G,h=>by
  cases S with
  | While t l o p =>
   cases o with
   | nil =>
    obtain⟨Y,J⟩:=zl h
    exact(aQ6 (by rw[G.xe];exact jI) (sE c _ X B G Y).2 (sSs b _ X B G J)).imp λ D W H q=>bq2 (TSv.eq (λ U s=>rfl) q)
   | _=>exact ff h
  | _=>exact ff h
 | .for_ tg it b,S,X,B,G,h=>by
  cases S with
  | For tgt iter l o p =>
   cases o with
   | nil =>
    obtain⟨h,h3⟩:=zl h
    obtain⟨Y,J⟩:=zl h
    exact(bt6 (by rw[G.xe];exact jI) G.calm (sI it _ _ X B G J) (bp1 G Y) (sSs b _ X B G h3) (ay3 (bv2 J))).imp λ D W H q=>bS4 (TSv.eq (λ U s=>rfl) q)
   | _=>exact ff h
  | _=>exact ff h
 | .pass,S,X,B,G,h=>ff h
 | .cont,S,X,B,G,h=>by
  cases S with
  | Continue p =>
   exact aI0.imp λ D W H q=>bx6 (TSv.eq (λ U s=>rfl) q)
  | _=>exact ff h
 | .brk,S,X,B,G,h=>ff h
 | .und _,S,X,B,G,h=>ff h
 | .raise,S,X,B,G,h=>bm9.imp λ D W H q=>by
  obtain⟨C,U,s,c,s',E,R,hm,q⟩:=q
  cases hm
theorem sSs:∀(st:mV) (S:yL) (X:Cx) (B:Ck),CG Γ F n X B->mSs B st S=true->PSs X S (TSv Γ (lH F st))
 | .nil,S,X,B,G,h=>by
  cases S with
  | nil =>
   exact be4.imp λ D W H q=>bB5 (m:=lH F .nil) (λ U s=>rfl) q
  | _=>exact ff h
 | .cons s ss,S,X,B,G,h=>by
  cases S with
  | cons x xs =>
   obtain⟨J,Y⟩:=zl h
   exact(zG (sS s _ X B G J) (sSs ss _ X B G Y)).imp λ D W H q=>bt7 (TSv.eq (λ U s=>rfl) q)
  | _=>exact ff h
end
end
structure XC (F:la)(K:ah)(mg:yC):Prop where
 at_:∀ c:String,F.xc c=true->∃ Cc,mg (c:Str)=some (.ref Cc)/\ExcCls K Cc/\excI K Cc=true
 cls:∀ c:String,F.xt c=true->∃ Cc,mg (c:Str)=some (.ref Cc)
 sub:∀(c d:String) (Cc D:Addr),F.xc c=true->F.xt d=true->mg (c:Str)=some (.ref Cc)->mg (d:Str)=some (.ref D)->bj K (.ref Cc) (.ref D)=some (lv c d)
 exm:∀(c d:String) (Cc D:Addr),F.xc c=true->F.xt d=true->mg (c:Str)=some (.ref Cc)->mg (d:Str)=some (.ref D)->cu K (.ref Cc) (.ref D)=some (lv c d)
 ve0:∀ c:String,F.xc c=true->mg ("ValueError":Str)=none
 ve1:∀(c:String) (Cc:Addr),F.xc c=true->mg (c:Str)=some (.ref Cc)->bj K (.ref Cc) (.type "ValueError")=some true
section
variable {Γ:Gm} {F:la} {n:Nat} {X:Cx} {ck:Ck} {a Cc:Addr} {oe:Obj}
end
noncomputable def mX (ck:Ck):mW->List Stmt->Bool
 | .no,_=>true
 | .rais c,S=>match S with|.Raise (some (.Call (.Name x _) [.Constant (.str _) _ _] [] _)) none _::_=>decide (x=(c:Str))&&ck.gl x|_=>false
 | .call f as,S=>match S with
  | .Expr (.Call (.Name x _) (e::es) [] _) _::_=>decide (x=(f:Str))&&ck.gl x&&mAs ck as (e::es)
  | .Return (some (.List [.Call (.Name x _) (e::es) [] _] _)) _::_=>decide (x=(f:Str))&&ck.gl x&&mAs ck as (e::es)
  | _=>false
 | .iteT c a r,S=>match S with|.If t l [] _::rest=>mE ck c t&&mX ck a l&&mX ck r rest|_=>false
 | .iteE _ _ _,_=>false
 | .seq s b,S=>match S with|x::rest=>mS ck s x&&mX ck b rest|_=>false
 | .forX tg it b x,S=>match S with|.For tgt iter l [] _::_=>mTg ck tg tgt&&mI ck tgt it iter&&mSs ck b l&&mX ck x l|_=>false
 | .whlX c b x,S=>match S with|.While t l [] _::_=>mE ck c t&&mSs ck b l&&mX ck x l|_=>false
noncomputable def noL:mW->Bool
 | .iteT _ a r=>noL a&&noL r
 | .iteE _ a r=>noL a&&noL r
 | .seq _ b=>noL b
 | .forX _ _ _ _=>false
 | .whlX _ _ _=>false
 | _=>true
noncomputable def noR:mW->Bool
 | .rais _=>false
 | .iteT _ a r=>noR a&&noR r
 | .iteE _ a r=>noR a&&noR r
 | .seq _ b=>noR b
 | .forX _ _ _ x=>noR x
 | .whlX _ _ x=>noR x
 | _=>true
def av3 (Γ:Gm)(mg:yC)(C:Nat->Addr)(s:kQ)(H:Hp)(c:String)(s':kQ)(E:XK):Prop :=
 ∀ C' H' a Cc,Gr C s H C' s' H'->s.length<=s'.length->Rp Γ C' H' s'->mg (c:Str)=some (.ref Cc)->E (.ref a) (some Cc) H'
def TXv (Γ:Gm)(mg:yC)(m:kS->kQ->Option (String×kQ))(E:XK):TS:=λ _ W H=>∃ C U s c s',RE Γ C H s.length U W/\Rp Γ C H s/\m U s=some (c,s')/\av3 Γ mg C s H c s' E
def spX (Γ:Gm)(mg:yC)(x:List kR->kQ->Option (String×kQ)):Sp:=λ vs H _ E=>∃ C s l c s',Rp Γ C H s/\RVL Γ C H l vs/\kT s.length l=true/\x l s=some (c,s')/\av3 Γ mg C s H c s' E
theorem av3.trans {Γ:Gm}{mg:yC}{C C1:Nat->Addr}{s s1 s':kQ}{H B:Hp}{c:String}{E:XK}(h:av3 Γ mg C s H c s' E)(g:Gr C s H C1 s1 B)(l:s.length<=s1.length):av3 Γ mg C1 s1 B c s' E :=
 λ C' H' a Cc g' F p m=>h C' H' a Cc (g.trans g' l) (av l F) p m
theorem PA.nox {X:Cx}{e:yK}{t:TA}(h:PA X.nox e t):PA X e t:=λ pos B s W H Q I hw =>
 bq (h pos B s W H Q (I.wish _) hw) (λ _ _ ⟨v,H',F,r,q⟩=>⟨v,H',F.unwish,r,q⟩) λ _ _ z=>bA z
theorem PS.nox {X:Cx}{st:Stmt}{t:TS}(h:PS X.nox st t):PS X st t:=λ B s W H D I hw =>
 bq (h B s W H D (I.wish _) hw) (λ _ _ q=>q.unwish) λ _ _ z=>bA z
def XOk (Γ:Gm)(prog:aJ)(w:World)(K:ah)(mg:yC)(base:Heap)(F:la)(n:Nat):Prop:=∀ f:String,(∀ l s,F.xcall f l s=none) \/
 ∃ a fd ps,FnOk prog w K mg base (CX1 prog w) n a fd ps (spX Γ mg (F.xcall f))/\mg (f:Str)=some (.ref a)/\cq K (.ref a)=true/\Binds K fd ps []
section
variable {Γ:Gm} {F:la} {n:Nat} {X:Cx} {ck:Ck} {a Cc:Addr} {oe:Obj}
theorem bw7 (G:CG Γ F n X.nox ck)(Y:XOk Γ X.prog X.w X.K X.mg X.base F n){E:XK}(hp:an1 (CX1 X.prog X.w) X E){f:String}{h:lX}{e:Expr}{es:yK}{p pos:Pos}(hg:ck.gl (f:Str)=true)(m:mAs ck h (e::es)=true) :
  ∃ t:TE,PE X (.Call (.Name (f:Str) p) (e::es) [] pos) t/\∀ D W H Q,TXv Γ X.mg (lN F (.call f h)) E D W H->t W H Q:=by
 obtain⟨g1,g2,g3⟩:=G.gl hg
 rcases Y f with hbad|⟨a,fd,ps,hF,B,hk,hb⟩
 .refine⟨λ _ _ _=>False,λ _ _ _ _ _ _ z=>z.elim,λ D W H Q q=>?_⟩
  obtain⟨C,U,s,c,s',J,R,hm,q⟩:=q
  change(match lM F h U s with|.ok l s1=>F.xcall f l s1|_=>none)=_ at hm
  split at hm
  .rw[hbad]at hm;cases hm
  .cases hm
 .have hs:=aM7 m
  have pa:PA X (e::es) (TAv Γ (lM F h)):=(sAs h _ X.nox ck G m).nox
  refine⟨_,bg8 hF G.room g1 B hk hb .nil hp pa g2 (zf (hs e (aC ..))) (zL λ x hx=>hs x (aq _ hx)).1,λ D W H Q q=>?_⟩
  obtain⟨C,U,s,c,s',J,R,hm,q⟩:=q
  change(match lM F h U s with|.ok l s1=>F.xcall f l s1|_=>none)=_ at hm
  split at hm
  .rename_i l s1 e1
   refine⟨C,U,s,l,s1,J,R,e1,λ vs C1 Z g1 l1 b1 r1 R1=>?_⟩
   show spX Γ X.mg (F.xcall f) (vs++[]) Z Q E
   rw[bw]
   exact⟨C1,s1,l,c,s',R1,r1,b1,hm,q.trans g1 l1⟩
  .cases hm
theorem cc7 {mg:yC}{E:XK}{mI:kS->kQ->kU lU}{mb:kS->kQ->kU lB}{mx:kS->kQ->Option (String×kQ)}{tg:lF}{D D0:Ends}{W:St}{H:Hp} (h:TXv Γ mg (λ U s=>match mI U s with
  | .ok q s0=>mY (λ s=>lD s0 s q.src) (λ d U s=>match lu U tg d with
   | some U=>mb U s
   | none=>.bad) (λ d U s=>match lu U tg d with
   | some U=>mx U s
   | none=>none) q.its U s0
  | _=>none) E D0 W H):ch3 (TIv Γ mI) (gOf Γ.K tg) (λ D W H=>TSv Γ mb D W H\/TXv Γ mg mx E D W H) D W H:=by
 obtain⟨C,U,s,c,s',Ev,R,hm,k⟩:=h
 dsimp only at hm
 split at hm
 case h_2=>cases hm
 rename_i q s0 e1
 refine⟨C,U,s,q,s0,Ev,R,e1,λ J C1 H1 g1 l1 b1 R1 wk=>?_⟩
 refine⟨λ i m W' H'=>∃ C' U' t,Gr C1 s0 H1 C' t H'/\Rp Γ C' H' t/\RE Γ C' H' t.length U' W'/\i<=q.its.length/\m=q.its.length - i /\
  mY (λ s=>lD s0 s q.src) (λ d U s=>match lu U tg d with
   | some U=>mb U s
   | none=>.bad) (λ d U s=>match lu U tg d with
   | some U=>mx U s
   | none=>none) (q.its.drop i) U' t=some (c,s'),⟨q.its.length,?_⟩,?_⟩
 .exact⟨C1,U,s0,Gr.refl _ _ _,R1,Ev.mono g1 l1,b9 _,by simp,by rw[dw];exact hm⟩
 .rintro i m W' H' ⟨C',U',t,g,R',E',a4,rfl,hc⟩
  have B:=g.le
  rcases jf i q.its.length with hlt|hge
  .have hd:q.its[i]?=some q.its[i]:=au hlt
   rw[dE hlt]at hc
   unfold mY at hc
   split at hc
   case isFalse=>cases hc
   rename_i a3
   obtain⟨a0,a2⟩:=(wk C' H' t g B R' a3 i).1 hlt
   refine .inr ⟨a0,_,λ W2 H2 n=>⟨q.its.length - (i+1),by omega,n⟩,λ x H2 a1=>?_⟩
   obtain⟨sm,rv⟩:=a2 x H2 a1
   obtain⟨g2,R2⟩:=R'.same sm
   have rd:=rv _ hd
   have bd:(q.its[i]).bnd t.length=true:=zg B _ (ap9 b1 hd)
   cases hb:lu U' tg q.its[i]with
   | none =>
    rw[hb]at hc
    cases hc
   | some U3 =>
    rw[hb]at hc
    refine br6 (E'.mono g2 (aw _)) rd bd hb λ W3 E3=>?_
    have go:∀ {c1:lB} {F:kQ},mb U3 t=.ok c1 F->(∀ C2 G,Gr C' t H2 C2 F G->t.length<=F.length->Rp Γ C2 G F->Gr C1 s0 H1 C2 F G):=λ _ C2 G Z l4 Y=>(g.trans g2 B).trans Z B
    split at hc
    .rename_i U1 F hs
     exact .inl ⟨C',U3,t,.next U1,F,E3,R2,hs,λ C2 G Z l4 Y W1 E1=>⟨C2,U1,F,go hs C2 G Z l4 Y,Y,E1,hlt,rfl,hc⟩⟩
    .rename_i U1 F hs
     exact .inl ⟨C',U3,t,.cont U1,F,E3,R2,hs,λ C2 G Z l4 Y W1 E1=>⟨C2,U1,F,go hs C2 G Z l4 Y,Y,E1,hlt,rfl,hc⟩⟩
    .cases hc
    .exact .inr ⟨C',U3,t,c,s',E3,R2,hc,k.trans (g1.trans (g.trans g2 B) l1) (av l1 B)⟩
  .rw[eg hge]at hc
   cases hc
theorem bk2 {mg:yC}{E:XK}{mc:kS->kQ->kU kR}{mb:kS->kQ->kU lB}{mx:kS->kQ->Option (String×kQ)}{D Y:Ends}{W:St}{H:Hp}(h:TXv Γ mg (DV.whlX mc mb mx) E Y W H):be0 (TTv Γ mc) (λ D W H=>TSv Γ mb D W H\/TXv Γ mg mx E D W H) D W H:=by
 obtain⟨C,U,s,c,s',B,R,hm,q⟩:=h
 unfold DV.whlX at hm
 split at hm
 case isFalse=>cases hm
 rename_i hn
 generalize hn.choose=n at hm
 refine⟨λ n W H=>∃ C U s,RE Γ C H s.length U W/\Rp Γ C H s/\DV.zI mc mb mx n U s=some (c,s')/\av3 Γ mg C s H c s' E,⟨n,C,U,s,B,R,hm,q⟩,?_⟩
 clear B R hm q hn
 rintro n W H ⟨C,U,s,B,R,hm,q⟩
 cases n with
 | zero=>cases hm
 | succ n =>
  unfold DV.zI at hm
  split at hm
  case h_2=>cases hm
  rename_i s1 e1
  refine⟨C,U,s,true,s1,B,R,e1,λ C1 H1 g1 l1 R1=>?_⟩
  show if true=true then _ else _
  rw[if_pos rfl]
  refine⟨_,λ W' H' w=>⟨n,cC n,w⟩,?_⟩
  split at hm
  .rename_i U1 s2 e2
   exact .inl ⟨C1,U,s1,.next U1,s2,B.mono g1 l1,R1,e2,λ C2 Z F G R2 W1 J=>⟨C2,U1,s2,J,R2,hm,q.trans (g1.trans F l1) (av l1 G)⟩⟩
  .rename_i U1 s2 e2
   exact .inl ⟨C1,U,s1,.cont U1,s2,B.mono g1 l1,R1,e2,λ C2 Z F G R2 W1 J=>⟨C2,U1,s2,J,R2,hm,q.trans (g1.trans F l1) (av l1 G)⟩⟩
  .cases hm
  .exact .inr ⟨C1,U,s1,c,s',B.mono g1 l1,R1,hm,q.trans g1 l1⟩
theorem aI9 (G:CG Γ F n X.nox ck)(xc:XC F X.K X.mg)(XO:XOk Γ X.prog X.w X.K X.mg X.base F n){E:XK}(hp:an1 (CX1 X.prog X.w) X E):∀(b:mW) (S:yL),(noR b=true\/aV1 X E)->(noL b=true\/hJ (model X.prog X.w) X.A X.env X.xe)->mX ck b S=true->PSs X S (TXv Γ X.mg (lN F b) E)
 | .no,S,_,_,h=>λ B s W H D I q=>by
  obtain⟨_,_,_,_,_,_,_,z,_⟩:=q
  cases z
 | .rais c,S,hT,_,h=>by
  have hT:aV1 X E:=hT.elim (λ z=>by cases z) id
  cases hx:F.xc c with
  | false =>
   intro B s W H D I q
   obtain⟨_,_,s,_,_,_,_,z,_⟩:=q
   change(if F.xc c=true then some (c,s)else none)=_ at z
   rw[hx]at z;cases z
  | true =>
   cases S with
   | nil=>exact ff h
   | cons st S=>cases st with
    | Raise v k p=>cases v with
     | none=>exact ff h
     | some v=>cases v with
      | Call g xs kw pc=>cases g with
       | Name x pn=>cases xs with
        | nil=>exact ff h
        | cons y xs=>cases y with
         | Constant cv j py=>cases cv with
          | str t=>cases xs with
           | cons _ _=>exact ff h
           | nil=>cases kw with
            | cons _ _=>exact ff h
            | nil=>cases k with
             | some _=>exact ff h
             | none =>
              obtain⟨Z,J⟩:=zl h
              have e:=of_decide_eq_true Z
              subst e
              obtain⟨g1,g2,g3⟩:=G.gl J
              obtain⟨Cc,hC,hE,_⟩:=xc.at_ c hx
              refine(zG (bm0 hT hE g1 hC G.room.hd g2) qh).imp λ D W H q a=>?_
              obtain⟨C,U,s,c',s',Ev,R,hm,q⟩:=q
              change(if F.xc c=true then some (c,s)else none)=_ at hm
              rw[hx,if_pos rfl]at hm
              cases hm
              exact q C H a Cc (Gr.refl C s H) (aw _) R hC
          | _=>exact ff h
         | _=>exact ff h
       | _=>exact ff h
      | _=>exact ff h
    | _=>exact ff h
 | .call f as,S,_,_,h=>by
  cases S with
  | nil=>exact ff h
  | cons st S=>cases st with
   | Return v p=>cases v with
    | none=>exact ff h
    | some v=>cases v with
     | List vs pl=>cases vs with
      | nil=>exact ff h
      | cons v vs=>cases v with
       | Call g xs kw pc=>cases g with
        | Name x pn=>cases xs with
         | nil=>cases vs with|nil=>exact ff h|cons _ _=>exact ff h
         | cons y xs=>cases kw with
          | cons _ _=>cases vs with|nil=>exact ff h|cons _ _=>exact ff h
          | nil=>cases vs with
           | cons _ _=>exact ff h
           | nil =>
            obtain⟨h,h3⟩:=zl h
            obtain⟨Z,J⟩:=zl h
            have e:=of_decide_eq_true Z
            subst e
            obtain⟨t,ht,hq⟩:=bw7 G XO hp J h3
            exact(zG (aP0 (aO5 (z7 ht ak2 rfl))) qh).imp λ D W H q=>hq D W H _ q
        | _=>cases vs with|nil=>exact ff h|cons _ _=>exact ff h
       | _=>cases vs with|nil=>exact ff h|cons _ _=>exact ff h
     | _=>exact ff h
   | Expr v p=>cases v with
    | Call g xs kw pc=>cases g with
     | Name x pn=>cases xs with
      | nil=>exact ff h
      | cons y xs=>cases kw with
       | cons _ _=>exact ff h
       | nil =>
        obtain⟨h,h3⟩:=zl h
        obtain⟨Z,J⟩:=zl h
        have e:=of_decide_eq_true Z
        subst e
        obtain⟨t,ht,hq⟩:=bw7 G XO hp J h3
        exact(zG (ba6 ht (at4 rfl)) qh).imp λ D W H q=>hq D W H _ q
     | _=>exact ff h
    | _=>exact ff h
   | _=>exact ff h
 | .iteT c a r,S,hT,Y,h=>by
  cases S with
  | nil=>exact ff h
  | cons st S=>cases st with
   | If t l o p=>cases o with
    | cons _ _=>exact ff h
    | nil =>
     obtain⟨h,h3⟩:=zl h
     obtain⟨Z,J⟩:=zl h
     have a3:noR a=true\/aV1 X E:=hT.elim (λ z=>.inl (zl z).1) .inr
     have a1:noR r=true\/aV1 X E:=hT.elim (λ z=>.inl (zl z).2) .inr
     have a2:noL a=true\/_:=Y.elim (λ z=>.inl (zl z).1) .inr
     have a0:noL r=true\/_:=Y.elim (λ z=>.inl (zl z).2) .inr
     refine(zG (bZ0 (sE c _ X.nox ck G Z).2.nox (aI9 G xc XO hp a _ a3 a2 J) be4) (aI9 G xc XO hp r _ a1 a0 h3)).imp λ D W H q=>?_
     obtain⟨C,U,s,c',s',Ev,R,hm,q⟩:=q
     change(match kW F c U s with|.ok (.bl b) s1=>if b then lN F a U s1 else lN F r U s1|_=>none)=_ at hm
     split at hm
     .rename_i b s1 e1
      refine⟨C,U,s,b,s1,Ev,R,e1,λ C1 H1 g1 l1 R1=>?_⟩
      cases b with
      | true=>exact⟨C1,U,s1,c',s',Ev.mono g1 l1,R1,hm,q.trans g1 l1⟩
      | false=>exact⟨C1,U,s1,c',s',Ev.mono g1 l1,R1,hm,q.trans g1 l1⟩
     .cases hm
   | _=>exact ff h
 | .iteE _ _ _,S,_,_,h=>ff h
 | .seq st b,S,hT,Y,h=>by
  cases S with
  | nil=>exact ff h
  | cons x S =>
   obtain⟨Z,J⟩:=zl h
   refine(zG (sS st _ X.nox ck G Z).nox (aI9 G xc XO hp b _ hT Y J)).imp λ D W H q=>?_
   obtain⟨C,U,s,c',s',Ev,R,hm,q⟩:=q
   change(match DV.ex F st U s with|.ok (.next U1) s1=>lN F b U1 s1|_=>none)=_ at hm
   split at hm
   .rename_i U1 s1 e1
    exact⟨C,U,s,.next U1,s1,Ev,R,e1,λ C1 H1 g1 l1 R1 W1 a4=>⟨C1,U1,s1,c',s',a4,R1,hm,q.trans g1 l1⟩⟩
   .cases hm
 | .forX tg it b x,S,hT,Y,h=>by
  have Y:hJ (model X.prog X.w) X.A X.env X.xe:=Y.elim (λ z=>by cases z) id
  cases S with
  | nil=>exact ff h
  | cons st S=>cases st with
   | For tgt iter l o p=>cases o with
    | cons _ _=>exact ff h
    | nil =>
     obtain⟨h,h4⟩:=zl h
     obtain⟨h,h3⟩:=zl h
     obtain⟨Z,J⟩:=zl h
     have hb:PSs X l (λ D W H=>TSv Γ (lH F b) D W H\/TXv Γ X.mg (lN F x) E D W H):=λ B s W H D I q=>q.elim (λ z=>(sSs b _ X.nox ck G h3).nox B s W H D I z) (λ z=>aI9 G xc XO hp x _ hT (.inr Y) h4 B s W H D I z)
     have hi:PI X tgt iter (TIv Γ (mf F it)):=(sI it _ _ X.nox ck G J).nox
     have hg:PG X tgt (gOf Γ.K tg):=(bp1 G Z).nox
     refine(zG (bt6 Y G.calm hi hg hb (ay3 (bv2 J))) qh).imp λ D W H q=>?_
     exact cc7 (mI:=mf F it) (mb:=lH F b) (mx:=lN F x) (tg:=tg) (q:TXv Γ X.mg _ E D W H)
   | _=>exact ff h
 | .whlX c b x,S,hT,Y,h=>by
  have Y:hJ (model X.prog X.w) X.A X.env X.xe:=Y.elim (λ z=>by cases z) id
  cases S with
  | nil=>exact ff h
  | cons st S=>cases st with
   | While t l o p=>cases o with
    | cons _ _=>exact ff h
    | nil =>
     obtain⟨h,h3⟩:=zl h
     obtain⟨Z,J⟩:=zl h
     have hb:PSs X l (λ D W H=>TSv Γ (lH F b) D W H\/TXv Γ X.mg (lN F x) E D W H):=λ B s W H D I q=>q.elim (λ z=>(sSs b _ X.nox ck G J).nox B s W H D I z) (λ z=>aI9 G xc XO hp x _ hT (.inr Y) h3 B s W H D I z)
     exact(zG (aQ6 Y (sE c _ X.nox ck G Z).2.nox hb) qh).imp λ D W H q=>bk2 (mc:=kW F c) (mb:=lH F b) (mx:=lN F x) (q:TXv Γ X.mg _ E D W H)
   | _=>exact ff h
theorem bC1 {tb:yL}{h₀:fR}{hs:List fR}{p:Pos}{t:TS}(hx:X.xe=λ _ _=>False)(h:PSs X tb t):PS X (.Try tb (h₀::hs) [] [] p) t:=by
 intro B s W H D I q
 refine ju (bq (h B s W H D I q) (λ f s1 z=>?_) (λ e s1 z=>?_))
 .cases f with
  | next=>exact c5 z
  | _=>exact z
 .rw[hx]at z;exact z.elim
noncomputable def mHn (h:DV.Hd)(S:yL):Bool:=match h with
 | .nob b=>(match S with|[.Return (some (.Constant (.bool b') _ _)) _]=>decide (b'=b)|_=>false)
 | .noe=>(match S with|[.Return (some (.List [] _)) _]=>true|_=>false)
 | _=>false
noncomputable def thN:DV.Hd->TS
 | .nob b=>λ D W H=>D.rt (.bl b) H
 | .noe=>λ D W H=>∀ p,H p=none->D.rt (.ref p) (upd H p (.lst []))
 | _=>λ _ _ _=>False
theorem ck6 {h:DV.Hd}{S:yL}(m:mHn h S=true):PSs X S (thN h):=by
 cases h with
 | nob b =>
  cases S with
  | nil=>exact ff m
  | cons s S=>cases s with
   | Return vo p=>cases vo with
    | none=>exact ff m
    | some v=>cases v with
     | Constant k j pk=>cases k with
      | bool b'=>cases S with
       | cons _ _=>exact ff m
       | nil =>
        have e:=of_decide_eq_true m
        subst e
        exact(ba2 (aP0 bM4)).imp λ D W H q=>q
      | _=>exact ff m
     | _=>exact ff m
   | _=>exact ff m
 | noe =>
  cases S with
  | nil=>exact ff m
  | cons s S=>cases s with
   | Return vo p=>cases vo with
    | none=>exact ff m
    | some v=>cases v with
     | List vs pl=>cases vs with
      | cons _ _=>cases S with|nil=>exact ff m|cons _ _=>exact ff m
      | nil=>cases S with
       | cons _ _=>exact ff m
       | nil=>exact(ba2 (aP0 (aO5 ak2))).imp λ D W H q=>⟨b9 _,λ p hp=>q p hp⟩
     | _=>exact ff m
   | _=>exact ff m
 | _=>exact ff m
noncomputable def EN (Cc:Addr)(th:TS)(D:Ends):XK:=λ _ o H'=>o=some Cc/\∀ W,th { nx:=λ _ _=>False,rt:=D.rt } W H'
theorem bq9 {tb:yL}{x:Str}{b₀:Stmt}{G:yL}{np Z p:Pos}{hs:List fR}{m:kS->kQ->Option (String×kQ)}{th:TS}(a2:X.ex=[])(b0:X.stack=X.env::X.outer)(a5:X.env.frame=some X.env.locals)
  (hc:ExcCls X.K Cc) (hg:Gl X x) (hm:X.mg x=some (.ref Cc)) (hd:(x==("__debug__":Str))=false)
  (a1:∀(pn:yA) (Ww:Value->ai->Prop) (E:XK),an1 (CX1 X.prog X.w) { X with pn:=pn,xe:=Ww } E->PSs { X with pn:=pn,xe:=Ww } tb (TXv Γ X.mg m E)) (a3:∀ a oe,oe.cls=.ref Cc->PSs (X.hnd a oe) (b₀::G) th) :
  PS X (.Try tb (.ExceptHandler (some (.Name x np)) none (b₀::G) Z::hs) [] [] p) (λ D W H=>TXv Γ X.mg m (EN Cc th D) D W H):=by
 intro B s W H D I q
 let Ww:Value->ai->Prop:=λ e s₁=>wpAny (model X.prog X.w) X.A (jp e X.env) (λ _ s₂=>wpAny (model X.prog X.w) X.A (kg e none) (λ _ s₃=>wpAny (model X.prog X.w) X.A (handleBy e X.env (.ExceptHandler (some (.Name x np)) none (b₀::G) Z::hs)) (SP X B D) X.xe s₃) X.xe s₂) X.xe s₁
 have a4:({ X with pn:=X.pn++B,xe:=Ww }:Cx).Ok:=⟨I.ok.mod,I.ok.kind,I.ok.glob,I.ok.blt,I.ok.above,I.ok.inj,I.ok.has,I.ok.cab,I.ok.hd,I.ok.frames,I.ok.stk,I.ok.exf,I.ok.bs,I.ok.bsz,I.ok.noex,I.ok.exfs,I.ok.funs,I.ok.frf⟩
 have I':Inv { X with pn:=X.pn++B,xe:=Ww } [] W H s:=⟨a4,I.os,I.bare,I.base,I.loc,I.cell,I.free,I.freeC,λ p hp=>I.pin p (by rw[bw]at hp;exact hp),I.hok,I.len⟩
 have F:∀ {Y:yA} {W':St} {H':Hp} {s':ai},Inv { X with pn:=X.pn++B,xe:=Ww } Y W' H' s'->Inv X B W' H' s':=λ J=>⟨I.ok,J.os,J.bare,J.base,J.loc,J.cell,J.free,J.freeC,λ p hp=>J.pin p (bh _ hp),J.hok,J.len⟩
 have hp:an1 (CX1 X.prog X.w) { X with pn:=X.pn++B,xe:=Ww } (EN Cc th D):=λ Y W' H' s' e b2 J h=>by
  obtain⟨a,Cc',b1,rfl,T,eC,hq⟩:=CX1.tr J a2 h
  cases eC
  obtain⟨a0,oe,vs,T0,oT,ts,h1,h2,h3,h4,h5,h6,a6,h7⟩:=T.tr
  exact bh8 ⟨F T.inv,T.n0,T.nH,λ p hp=>T.np p (bh _ hp),a0,oe,vs,T0,oT,ts,h1,h2,h3,h4,h5,h6,λ p hp=>a6 p (bh _ hp),h7⟩ a2 b0 a5 hc hg hm hd (a3 a) (hq W')
 refine ju (bq (a1 _ Ww _ hp [] s W H D I' q) (λ f s1 z=>?_) (λ e s1 z=>z))
 cases f with
 | next=>obtain⟨W1,H1,J,z⟩:=z;exact c5 ⟨W1,H1,F J,z⟩
 | brk=>obtain⟨W1,H1,J,z⟩:=z;exact⟨W1,H1,F J,z⟩
 | cont=>obtain⟨W1,H1,J,z⟩:=z;exact⟨W1,H1,F J,z⟩
 | ret u=>obtain⟨v,W1,H1,J,r,z⟩:=z;exact⟨v,W1,H1,F J,r,z⟩
end
section
variable {Γ:Gm}
theorem aK8 {C C1:Nat->Addr}{H B:Hp}{s s1:kQ}(R:Rp Γ C H s)(g:Gr C s H C1 s1 B)(ho:mZ s s1=true){i:Nat}{o:lA}(F:i<s.length)(e:s1[i]?=some o):o.bnd s.length=true:=by
 unfold mZ at ho
 have:=aX.mp ho i (cS.mpr F)
 rw[e,cb]at this
 rcases this with h|h
 .exact R.wf i o (of_decide_eq_true h).symm
 .exact h
theorem qq {s1:kQ}{k i:Nat}{o:lA}(e:(s1.take k)[i]?=some o):i<k/\s1[i]?=some o:=by
 rw[iQ]at e
 split at e
 .exact⟨‹_›,e⟩
 .cases e
theorem aX1 {C C1:Nat->Addr}{H h:Hp}{s s1:kQ}(R:Rp Γ C H s)(g:Gr C s H C1 s1 h)(R1:Rp Γ C1 h s1)(ho:mZ s s1=true):Gr C s H C1 (s1.take s.length) h/\Rp Γ C1 h (s1.take s.length):=by
 have hl:(s1.take s.length).length=s.length:=by rw[bD];have:=g.le;omega
 refine⟨⟨g.w,by rw[hl];exact aw _,λ i G F=>by rw[hl]at F;omega,λ i o B e e'=>g.kd i o B e (qq e').2,g.st,g.fr⟩,λ i j o B e e' m m' z=>R1.inj i j o B (qq e).2 (qq e').2 m m' z,λ i o e=>R1.obj i o (qq e).2,λ i o e=>?_,R1.tab⟩
 rw[hl]
 exact aK8 R g ho (qq e).1 (qq e).2
theorem qk {C C1:Nat->Addr}{H G:Hp}{s s1 s':kQ}{v0 d:kR}{v:V}(R:Rp Γ C H s)(g:Gr C s H C1 s1 G)(R1:Rp Γ C1 G s1)(hb:v0.bnd s1.length=true)(r:RV Γ C1 G v0 v)(h:mO s v0 s1=.ok d s') :
  ∃ C',Gr C s H C' s' G/\s.length<=s'.length/\d.bnd s'.length=true/\RV Γ C' G d v/\Rp Γ C' G s':=by
 have all:d=v0->s'=s1->∃ C',Gr C s H C' s' G/\s.length<=s'.length/\d.bnd s'.length=true/\RV Γ C' G d v/\Rp Γ C' G s':=λ e1 e2=>by
  subst e1;subst e2
  exact⟨C1,g,g.le,hb,r,R1⟩
 unfold mO at h
 split at h
 case isFalse=>cases h;exact all rfl rfl
 rename_i ho
 obtain⟨gt,Rt⟩:=aX1 R g R1 ho
 have hl:(s1.take s.length).length=s.length:=by rw[bD];have:=g.le;omega
 have tk:d=v0->s'=s1.take s.length->v0.bnd s.length=true->∃ C',Gr C s H C' s' G/\s.length<=s'.length/\d.bnd s'.length=true/\RV Γ C' G d v/\Rp Γ C' G s':=λ e1 e2 b=>by
  subst e1;subst e2
  exact⟨C1,gt,by rw[hl];exact aw _,by rw[hl];exact b,r,Rt⟩
 split at h
 .rename_i k
  split at h
  .cases h
   exact tk rfl rfl (by unfold kX;exact decide_eq_true ‹_›)
  .rename_i hk
   split at h
   .rename_i o Z
    split at h
    .rename_i Y
     cases h
     have gw:Gw C1 s.length G (λ i=>if i=s.length then C1 k else C1 i) G:=⟨λ i B=>if_neg (aL B),Kp.refl _⟩
     have key:∀(i:Nat) (J:lA),(s1.take s.length++[o])[i]?=some J->(i<s.length/\s1[i]?=some J)\/(i=s.length/\J=o):=λ i J e=>by
      rcases ee i s.length with h|h|h
      .rw[aI (by rw[hl];exact h)]at e;exact .inl (qq e)
      .subst h
       rw[aK (by rw[hl];exact aw _),hl,ce]at e
       exact .inr ⟨rfl,(aG e).symm⟩
      .rw[bR (by rw[ax,hl];simp;omega)]at e;cases e
     have F:(s1.take s.length++[o]).length=s.length+1:=by rw[ax,hl];rfl
     refine⟨λ i=>if i=s.length then C1 k else C1 i,⟨⟨λ i B=>?_,g.w.kp⟩,by rw[F];omega,λ i h1 h2=>?_,λ i oo J e e'=>?_,g.st,g.fr⟩,by rw[F];omega,by unfold kX;rw[F];exact decide_eq_true (cC _),?_,⟨λ i j oi oj a1 a0 mi mj e=>?_,λ i J e=>?_,λ i J e=>?_,R1.tab⟩⟩
     .show(if i=s.length then C1 k else C1 i)=C i
      rw[if_neg (aL B)];exact g.w.map i B
     .rw[F]at h2
      show H (if i=s.length then C1 k else C1 i)=none
      rw[if_pos (by omega)]
      exact g.new k (by omega) (ae.mp Z).1
     .rcases key i J e' with⟨_,e2⟩|⟨B,_⟩
      .exact g.kd i oo J e e2
      .have:=(ae.mp e).1;omega
     .rw[r.refE]
      unfold RV
      show V.ref (C1 k)=V.ref (if s.length=s.length then C1 k else C1 s.length)
      rw[if_pos rfl]
     .rcases key i oi a1 with⟨B,ei⟩|⟨B,zi⟩<;>rcases key j oj a0 with⟨hj,ej⟩|⟨hj,zj⟩
      .rw[if_neg (aL B),if_neg (aL hj)]at e
       exact R1.inj i j oi oj ei ej mi mj e
      .rw[if_neg (aL B),if_pos hj]at e
       subst zj
       have:=R1.inj i k oi _ ei Z mi mj e
       omega
      .rw[if_neg (aL hj),if_pos B]at e
       subst zi
       have:=R1.inj k j _ oj Z ej mi mj e
       omega
      .rw[B,hj]
     .rcases key i J e with⟨B,e⟩|⟨B,rfl⟩
      .show RO Γ _ _ (if i=s.length then C1 k else C1 i) J
       rw[if_neg (aL B)]
       exact(R1.obj i J e).mono gw (aK8 R g ho B e) λ _ u hu=>hu
      .show RO Γ _ _ (if i=s.length then C1 k else C1 i) J
       rw[if_pos B]
       exact(R1.obj k _ Z).mono gw Y λ _ u hu=>hu
     .rw[F]
      rcases key i J e with⟨B,e⟩|⟨_,rfl⟩
      .exact zV (dt _) _ (aK8 R g ho B e)
      .exact zV (dt _) _ Y
    .cases h;exact all rfl rfl
   .exact fb h
 .split at h
  .cases h;exact tk rfl rfl ‹_›
  .cases h;exact all rfl rfl
def bL2 (Γ:Gm)(cds:yF)(f:Str)(sc:Scope)(N:yH)(fd:bS)(lk:String->List Nat->Expr->Bool):Prop :=
 ∀ id caps E,lk id caps E=true->False
def GoodB (Γ:Gm)(cds:yF)(mg:yC)(f:String)(pc vc:Nat)(m:Ck->List Stmt->Bool):Prop:=∃ st N ps a fd lk,DefAt Γ.K mg (f:Str) st ps a fd/\FnScope N ps (defScope st)/\ps.length=pc/\N.length=pc+vc/\m ⟨N,defScope st,lk⟩ (zA st)=true/\bL2 Γ cds (f:Str) (defScope st) N fd lk
def Good (Γ:Gm)(cds:yF)(mg:yC)(f:String)(d:lY):Prop:=GoodB Γ cds mg f d.ps d.vs λ ck S=>mSs ck d.body S
noncomputable def mT0 (ck:Ck)(d:m6)(S:yL):Bool:=match S with
 | st::rest=>(match st with|.Try tb hs [] [] _=>(match hs with|[eh]=>(match eh with|.ExceptHandler (some en) (some nm) hb _=>false|.ExceptHandler (some en) none hb _=>(match en,hb with|.Name x _,b::su=>mSs ck d.body tb&&(mX ck d.xb tb&&(noR d.xb&&(noL d.xb&&(decide (x=(d.c:Str))&&(ck.gl x&&(mHn d.h (b::su)&&mSs ck d.tl rest))))))|_,_=>false)|_=>false)|_=>false)|_=>false)
 | _=>false
noncomputable def ce3 (ck:Ck):mV->List Stmt->Option (List Stmt)
 | .nil,S=>some S
 | .cons s ss,S=>match S with|x::xs=>(match mS ck s x with|true=>ce3 ck ss xs|false=>none)|[]=>none
noncomputable def mT (ck:Ck)(d:m6)(S:yL):Bool:=match ce3 ck d.pre S with
 | some S1=>mT0 ck d S1
 | none=>false
structure PrOk (Γ:Gm)(cds:yF)(P:lh)(mg:yC)(w:World):Prop where
 df:∀ f d,P.df f=some d->Good Γ cds mg f d
 con:∀ x d,P.con x=some d->∃ v u,mg (x:Str)=some u/\RelV v u/\(∀ m,d.bnd m=true)/\∀ C H,RV Γ C H d v
 bi:∀ x∈bNames,mg x=none
 fa:∀(f:String) (a:Addr),Γ.fa f=some a->mg (f:Str)=some (.ref a)/\∃ oc od fd sl,Γ.K.lookup a=some ⟨oc,od,.func fd,sl⟩
 lg:True
 nd:(Γ.T.map (·.1)).Nodup
 xf:∀ f d,P.xf f=some d->GoodB Γ cds mg f d.ps d.vs λ ck S=>mX ck d.body S
 tf:∀ f d,P.tf f=some d->GoodB Γ cds mg f d.ps d.vs λ ck S=>mT ck d S
 xc:∀ c:String,P.xc c=true->∃ Cc,mg (c:Str)=some (.ref Cc)/\ExcCls Γ.K Cc/\excI Γ.K Cc=true
 xt:∀ c:String,P.xt c=true->∃ Cc,mg (c:Str)=some (.ref Cc)
 xs:∀(c d:String) (Cc D:Addr),P.xc c=true->P.xt d=true->mg (c:Str)=some (.ref Cc)->mg (d:Str)=some (.ref D)->bj Γ.K (.ref Cc) (.ref D)=some (lv c d)
 xm:∀(c d:String) (Cc D:Addr),P.xc c=true->P.xt d=true->mg (c:Str)=some (.ref Cc)->mg (d:Str)=some (.ref D)->cu Γ.K (.ref Cc) (.ref D)=some (lv c d)
 xe:∀(c:String) (Cc:Addr),P.xc c=true->mg (c:Str)=some (.ref Cc)->cu Γ.K (.ref Cc) (.ref Cc)=some true
 v0:∀ c:String,P.xc c=true->mg ("ValueError":Str)=none
 v1:∀(c:String) (Cc:Addr),P.xc c=true->mg (c:Str)=some (.ref Cc)->bj Γ.K (.ref Cc) (.type "ValueError")=some true
 cdc:∀(c:String) kvs,P.cdc c=some kvs->∃ a,mg (c:Str)=some (.ref a)/\∀(prog:aJ) (h:Heap),Γ.K.In h->StrTab prog w h a (strD kvs)
def av8 (Γ:Gm)(prog:aJ)(w:World)(mg:yC)(base:Heap)(F:la)(n:Nat):Prop:=(∀ f:String,(∀ l s,F.call f l s=.bad) \/
  ∃ a fd ps,FnOk prog w Γ.K mg base CX0 n a fd ps (spV Γ (F.call f))/\mg (f:Str)=some (.ref a)/\cq Γ.K (.ref a)=true/\Binds Γ.K fd ps []) /\
 True
theorem ay0 {C:Nat->Addr}{H:Hp}{n k:Nat}{N:yH}{l:List kR}{vs:List V}(r:RVL Γ C H l vs)(b:kT n l=true)(hN:N.length=l.length+k):RE Γ C H n (l.map some++aA k none) (ao4 N vs):=by
 have hl:=r.length
 refine⟨?_,λ i d e=>?_⟩
 .unfold ao4;simp[hl,hN]
 .by_cases hi:i<l.length
  .rw[aI (by simpa using hi),aS]at e
   have e':l[i]?=some d:=by
    rw[au hi]at e ⊢
    exact aG e
   obtain⟨v,e1,e2⟩:=r.get e'
   refine⟨ap9 b e',v,?_,e2⟩
   unfold ao4
   rw[aI (by rw[aE,hl];exact hi),aS,e1];rfl
  .rw[aK (by simpa using jo hi)]at e
   rw[fW]at e
   split at e<;>cases e
theorem bT2 {F:yF}{P:lh}{prog:aJ}{w:World}{mg:yC}(G:PrOk Γ F P mg w)(n:Nat):∀(c:String) B,(kZ P n).cdc c=some B->∃ a,mg (c:Str)=some (.ref a)/\∀ h:Heap,Γ.K.In h->StrTab prog w h a (strD B):=by
 have:(kZ P n).cdc=P.cdc:=by cases n<;>rfl
 rw[this]
 intro c B e
 obtain⟨a,J,Y⟩:=G.cdc c B e
 exact⟨a,J,Y prog⟩
theorem bc8 {B:yF}{P:lh}{prog:aJ}{w:World}{mg:yC}{base:Heap}(Y:PrOk Γ B P mg w)(hb:∀ y∈B,bX base y.1 y.2/\BM mg base)(n:Nat)(h:av8 Γ prog w mg base (kZ P n) (n+31))
  {f:String} {st:Stmt} {N ps:yH} {a:Addr} {Z:bS} {lk:String->List Nat->Expr->Bool} (hS:FnScope N ps (defScope st)) (hL:bL2 Γ B (f:Str) (defScope st) N Z lk) (F:Value) (a0:∀ id J E,lk id J E=true->Z.code=F) (A:aV) (G:List Env) (sh:ai) (H:Hp) (E:XK) (hr:Room (n+31) (A.deeper (fo (f:Str) (defScope st) sh.heap.objs.size a F))) :
  CG Γ (kZ P n) (n+31) (ax0 CX0 prog w Γ.K mg base N (f:Str) (defScope st) a F A G sh H E).nox ⟨N,defScope st,lk⟩:=by
 refine⟨rfl,rfl,hS.nd,rfl,rfl,?_,hr,λ x k e=>.inl e,λ _ _=>rfl,Y.bi,h.1,?_,hL,h.2,Y.fa,DV.am8 P n,bT2 Y n⟩
 .show lf+1<=n+31
  unfold lf;omega
 .have:(kZ P n).con=P.con:=by cases n<;>rfl
  rw[this];exact Y.con
theorem bS3 {Z:yF}{P:lh}{prog:aJ}{w:World}{mg:yC}{base:Heap}(hP:PrOk Γ Z P mg w)(hb:∀ y∈Z,bX base y.1 y.2/\BM mg base)(n:Nat)(a0:av8 Γ prog w mg base (kZ P n) (n+31))
  {f:String} {d:lY} (e:P.df f=some d) {st:Stmt} {N ps:yH} {a:Addr} {fd:bS} {lk:String->List Nat->Expr->Bool} (hD:DefAt Γ.K mg (f:Str) st ps a fd) (hS:FnScope N ps (defScope st)) (h1:ps.length=d.ps) (h2:N.length=d.ps+d.vs) (hm:mSs ⟨N,defScope st,lk⟩ d.body (zA st)=true) (hL:bL2 Γ Z (f:Str) (defScope st) N fd lk) :
  FnOk prog w Γ.K mg base CX0 (n+1+31) a fd ps (spV Γ ((kZ P (n+1)).call f)):=by
 have Y:∀ vs H Q E,spV Γ ((kZ P (n+1)).call f) vs H Q E->vs.length=ps.length:=λ vs H Q E q=>by
  obtain⟨C,s,l,d',s',R,r,b,hc,k⟩:=q
  simp only[kZ,e]at hc
  split at hc
  .rw[r.length,h1];assumption
  .exact fb hc
 have body:∀(B:Value),(∀ id J E,lk id J E=true->fd.code=B)->∀(A:aV) (F:List Env) (sh:ai) (H:Hp) (vs:List V) (Q:VK) (E:XK),Room (n+31) (A.deeper (fo (f:Str) (defScope st) sh.heap.objs.size a B))->spV Γ ((kZ P (n+1)).call f) vs H Q E ->
   ∃ t,PSs (ax0 CX0 prog w Γ.K mg base N (f:Str) (defScope st) a B A F sh H E).nox (zA st) t/\t { nx:=λ _ H'=>Q .non H',rt:=Q } (ao4 N vs) H:=by
  intro B a1 A F sh H vs Q E hr q
  have G:=bc8 hP hb n a0 hS hL (a:=a) B a1 A F sh H E hr
  refine⟨_,sSs d.body (zA st) _ ⟨N,defScope st,lk⟩ G hm,?_⟩
  obtain⟨C,s,l,d',s',R,r,b,hc,k⟩:=q
  simp only[kZ,e]at hc
  split at hc
  case isFalse=>exact fb hc
  rename_i Y
  obtain⟨c,s1,e1,hc⟩:=ac9 hc
  refine⟨C,l.map some++aA d.vs none,s,c,s1,ay0 r b (by rw[h2,Y]),R,e1,λ C1 H1 g1 l1 R1=>?_⟩
  cases c with
  | ret v0 =>
   intro v hb rv
   obtain⟨C',g',l',b',r',R'⟩:=qk R g1 R1 hb rv hc
   exact k v C' H1 g' l' b' r' R'
  | next U =>
   intro W' _
   obtain⟨C',g',l',b',r',R'⟩:=qk (v0:=.non) R g1 R1 rfl RV.nonI hc
   exact k .non C' H1 g' l' b' r' R'
  | cont U=>exact fb hc
  | brk U=>exact fb hc
 exact hD.fn.ok hS Y (λ B=>body B λ id J E h=>(hL id J E h).elim)
theorem Fun.okX {Z:CXT}{P:aJ}{w:World}{K:ah}{mg:yC}{base:Heap}{x qual:Str}{st:Stmt}{f:Addr}{J:bS}{N ps:yH}{k:Nat}{sp:Sp}(F:Fun K x qual st f J)(S:FnScope N ps (defScope st))(len:∀ vs H Q E,sp vs H Q E->vs.length=ps.length)
  (G:∀(B:Value),J.code=B->∀(A:aV) (h:List Env) (s:ai) (H:Hp) (vs:List V) (Q:VK) (E:XK),Room k (A.deeper (fo qual (defScope st) s.heap.objs.size f B))->sp vs H Q E ->
   ∃ t,PSs (ax0 Z P w K mg base N qual (defScope st) f B A h s H E) (zA st) t/\t { nx:=λ _ H'=>Q .non H',rt:=Q } (ao4 N vs) H):FnOk P w K mg base Z (k+1) f J ps sp:=by
 obtain⟨oc,od,kV,a1,pm,an,B,ct,a0,rfl,lk,hc⟩:=F.ex
 exact bX5 lk hc S len λ A h s H vs Q E hr Y=>G B rfl A h s H vs Q E hr Y
theorem cb1 {J:yF}{P:lh}{w:World}{mg:yC}(B:PrOk Γ J P mg w)(n:Nat):XC (kZ P n) Γ.K mg:=by
 have e:(kZ P n).xc=P.xc:=by cases n<;>rfl
 have e':(kZ P n).xt=P.xt:=by cases n<;>rfl
 exact⟨λ c h=>B.xc c (by rw[e]at h;exact h),λ c h=>B.xt c (by rw[e']at h;exact h),λ c d Cc D F G=>B.xs c d Cc D (by rw[e]at F;exact F) (by rw[e']at G;exact G),λ c d Cc D F G=>B.xm c d Cc D (by rw[e]at F;exact F) (by rw[e']at G;exact G),λ c h=>B.v0 c (by rw[e]at h;exact h),λ c Cc h=>B.v1 c Cc (by rw[e]at h;exact h)⟩
theorem bV2 {B:yF}{P:lh}{prog:aJ}{w:World}{mg:yC}{base:Heap}(hP:PrOk Γ B P mg w)(hb:∀ y∈B,bX base y.1 y.2/\BM mg base)(n:Nat)(F:av8 Γ prog w mg base (kZ P n) (n+31))(XO:XOk Γ prog w Γ.K mg base (kZ P n) (n+31))
  {f:String} {d:DV.Xf} (e:P.xf f=some d) {st:Stmt} {N ps:yH} {a:Addr} {Z:bS} {lk:String->List Nat->Expr->Bool} (hD:DefAt Γ.K mg (f:Str) st ps a Z) (hS:FnScope N ps (defScope st)) (h1:ps.length=d.ps) (h2:N.length=d.ps+d.vs) (hm:mX ⟨N,defScope st,lk⟩ d.body (zA st)=true) (hL:bL2 Γ B (f:Str) (defScope st) N Z lk) :
  FnOk prog w Γ.K mg base (CX1 prog w) (n+1+31) a Z ps (spX Γ mg ((kZ P (n+1)).xcall f)):=by
 refine hD.fn.okX hS (λ vs H Q E q=>?_) λ J a0 A h sh H vs Q E hr q=>?_
 .obtain⟨C,s,l,c,s',R,r,b,hc,k⟩:=q
  simp only[kZ,e]at hc
  split at hc
  .rw[r.length,h1];assumption
  .cases hc
 .have G:=bc8 hP hb n F hS hL (a:=a) J (λ _ _ _ _=>a0) A h sh H E hr
  obtain⟨C,s,l,c,s',R,r,b,hc,k⟩:=q
  simp only[kZ,e]at hc
  split at hc
  case isFalse=>cases hc
  rename_i Y
  exact⟨_,aI9 (X:=ax0 (CX1 prog w) prog w Γ.K mg base N (f:Str) (defScope st) a J A h sh H E) G (cb1 hP n) XO cm8 d.body (zA st) (.inr ck8) (.inr PassesOwn.leaving) hm,C,l.map some++aA d.vs none,s,c,s',ay0 r b (by rw[h2,Y]),R,hc,k⟩
theorem bs7 {F:la}{n:Nat}{X:Cx}{B:Ck}{t:TS}(G:CG Γ F n X B):∀ {pre:mV} {S S1:yL},ce3 B pre S=some S1->PSs X S1 t->PSs X S (cg0 (TSv Γ (lH F pre)) t)
 | .nil,S,S1,h,h1=>by
  cases h
  refine h1.imp λ D W H q=>?_
  obtain⟨C,U,s,c,s',E,R,e,q⟩:=q
  cases e
  exact q.here R W E
 | .cons s ss,S,S1,h,h1=>by
  cases S with
  | nil=>exact absurd h (by nofun)
  | cons x xs =>
   have h:(match mS B s x with|true=>ce3 B ss xs|false=>none)=some S1:=h
   cases hm:mS B s x with
   | false=>rw[hm]at h;exact absurd h (by nofun)
   | true =>
    rw[hm]at h
    exact(zG (sS s _ X B G hm) (bs7 G h h1)).imp λ D W H q=>bt7 (D:={ D with nx:=t D }) (TSv.eq (λ U s=>rfl) q)
theorem bO5 {a5:yF}{P:lh}{prog:aJ}{w:World}{mg:yC}{base:Heap}(hP:PrOk Γ a5 P mg w)(hb:∀ y∈a5,bX base y.1 y.2/\BM mg base)(n:Nat)(a3:av8 Γ prog w mg base (kZ P n) (n+31))(XO:XOk Γ prog w Γ.K mg base (kZ P n) (n+31))
  {f:String} {d:m6} (e0:P.df f=none) (e:P.tf f=some d) {st:Stmt} {N ps:yH} {a:Addr} {fd:bS} {lk:String->List Nat->Expr->Bool} (hD:DefAt Γ.K mg (f:Str) st ps a fd) (hS:FnScope N ps (defScope st)) (h1:ps.length=d.ps) (h2:N.length=d.ps+d.vs) (hm:mT ⟨N,defScope st,lk⟩ d (zA st)=true) (hL:bL2 Γ a5 (f:Str) (defScope st) N fd lk) :
  FnOk prog w Γ.K mg base CX0 (n+1+31) a fd ps (spV Γ ((kZ P (n+1)).call f)):=by
 refine hD.fn.okX hS (λ vs H Q E q=>?_) λ F b5 A B sh H vs Q E hr q=>?_
 .obtain⟨C,s,l,d',s',R,r,b,hc,k⟩:=q
  simp only[kZ,e0,e]at hc
  split at hc
  .rw[r.length,h1];assumption
  .exact fb hc
 have G:=bc8 hP hb n a3 hS hL (a:=a) F (λ _ _ _ _=>b5) A B sh H E hr
 have xc:=cb1 hP n
 obtain⟨C,s,l,d',s',R,r,b,hc,k⟩:=q
 simp only[kZ,e0,e]at hc
 split at hc
 case isFalse=>exact fb hc
 rename_i b3
 have E0:=ay0 r b (k:=d.vs) (N:=N) (by rw[h2,b3])
 unfold mT at hm
 split at hm
 case h_2=>exact ff hm
 rename_i S1 a6
 unfold DV.bm7 at hc
 split at hc
 case h_2=>exact fb hc
 rename_i U0 s0 ep
 suffices key:∃ t,PSs (ax0 CX0 prog w Γ.K mg base N (f:Str) (defScope st) a F A B sh H E).nox S1 t/\∀ C0 W0 H0,Gr C s H C0 s0 H0->s.length<=s0.length->Rp Γ C0 H0 s0->RE Γ C0 H0 s0.length U0 W0->t { nx:=λ _ H'=>Q .non H',rt:=Q } W0 H0 by
  obtain⟨t,ht,kt⟩:=key
  refine⟨_,(bs7 (X:=(ax0 CX0 prog w Γ.K mg base N (f:Str) (defScope st) a F A B sh H E).nox) G a6 ht).nox,?_⟩
  exact⟨C,l.map some++aA d.vs none,s,.next U0,s0,E0,R,ep,λ C1 H1 g1 l1 R1 W1 E1=>kt C1 W1 H1 g1 l1 R1 E1⟩
 unfold mT0 at hm
 split at hm
 case h_2=>exact ff hm
 rename_i c2 rest
 split at hm
 case h_2=>exact ff hm
 rename_i tb hs tp
 split at hm
 case h_2=>exact ff hm
 rename_i eh
 have run:mSs ⟨N,defScope st,lk⟩ d.body tb=true->mSs ⟨N,defScope st,lk⟩ d.tl rest=true->((lH (kZ P n) d.body U0 s0).bind λ c s1=>match c with
  | .ret v=>mO s v s1
  | .next U=>(lH (kZ P n) d.tl U s1).bind λ c s2=>match c with
   | .ret v=>mO s v s2
   | .next _=>mO s .non s2
   | _=>.bad
  | _=>.bad)=.ok d' s'->∃ t,PSs (ax0 CX0 prog w Γ.K mg base N (f:Str) (defScope st) a F A B sh H E).nox (.Try tb [eh] [] [] tp::rest) t/\∀ C0 W0 H0,Gr C s H C0 s0 H0->s.length<=s0.length->Rp Γ C0 H0 s0->RE Γ C0 H0 s0.length U0 W0->t { nx:=λ _ H'=>Q .non H',rt:=Q } W0 H0:=λ m1 a2 hc=>by
  refine⟨_,(zG (bC1 (X:=(ax0 CX0 prog w Γ.K mg base N (f:Str) (defScope st) a F A B sh H E).nox) rfl (sSs d.body tb _ ⟨N,defScope st,lk⟩ G m1)) (sSs d.tl rest _ ⟨N,defScope st,lk⟩ G a2)),λ C0 W0 H0 g0 l0 R0 Ea=>?_⟩
  obtain⟨c,s1,e1,hc⟩:=ac9 hc
  refine⟨C0,U0,s0,c,s1,Ea,R0,e1,λ C1 H1 g1 l1 R1=>?_⟩
  replace g1:=g0.trans g1 l0
  replace l1:=av l0 l1
  cases c with
  | ret v0 =>
   intro v hb rv
   obtain⟨C',g',J,b',r',Z⟩:=qk R g1 R1 hb rv hc
   exact k v C' H1 g' J b' r' Z
  | next U =>
   intro W' E1
   obtain⟨c,s2,e2,hc⟩:=ac9 hc
   refine⟨C1,U,s1,c,s2,E1,R1,e2,λ C2 H2 g2 l2 R2=>?_⟩
   cases c with
   | ret v0 =>
    intro v hb rv
    obtain⟨C',g',J,b',r',Z⟩:=qk R (g1.trans g2 l1) R2 hb rv hc
    exact k v C' H2 g' J b' r' Z
   | next U =>
    intro W' _
    obtain⟨C',g',J,b',r',Z⟩:=qk (v0:=.non) R (g1.trans g2 l1) R2 rfl RV.nonI hc
    exact k .non C' H2 g' J b' r' Z
   | cont U=>exact fb hc
   | brk U=>exact fb hc
  | cont U=>exact fb hc
  | brk U=>exact fb hc
 split at hm
 .exact ff hm
 .rename_i en c1 hp
  split at hm
  case h_2=>exact ff hm
  rename_i x np b0 su
  obtain⟨m1,hm⟩:=zl hm
  obtain⟨m2,hm⟩:=zl hm
  obtain⟨m3,hm⟩:=zl hm
  obtain⟨b6,hm⟩:=zl hm
  obtain⟨m4,hm⟩:=zl hm
  obtain⟨m5,hm⟩:=zl hm
  obtain⟨a1,a2⟩:=zl hm
  have ex:=of_decide_eq_true m4
  subst ex
  unfold DV.aJ6 at hc
  split at hc
  .rename_i c s1 hx
   split at hc
   case isFalse=>exact fb hc
   rename_i a4
   obtain⟨rfl,b4,hok⟩:=a4
   obtain⟨Cc,hC,hE,hI⟩:=xc.at_ _ b4
   obtain⟨g1,g2,g3⟩:=G.gl m5
   refine⟨_,(zG (bq9 (X:=(ax0 CX0 prog w Γ.K mg base N (f:Str) (defScope st) a F A B sh H E).nox) (Γ:=Γ) (Cc:=Cc) (m:=lN (kZ P n) d.xb) (th:=thN d.h) rfl rfl rfl hE g1 hC g2 (λ pn Ww E1 b1=>?_) λ a' oe hcl=>ck6 a1) qh),λ C0 W0 H0 g0 l0 R0 Ea=>?_⟩
   .have G':CG Γ (kZ P n) (n+31) ({ (ax0 CX0 prog w Γ.K mg base N (f:Str) (defScope st) a F A B sh H E).nox with pn:=pn,xe:=Ww }:Cx).nox ⟨N,defScope st,lk⟩:=⟨G.K,G.N,G.nd,rfl,G.calm,G.deep,G.room,G.sc,G.fn,G.bi,G.call,G.con,G.lam,G.cl,G.fa,G.fk,G.cdc⟩
    exact aI9 (X:={ (ax0 CX0 prog w Γ.K mg base N (f:Str) (defScope st) a F A B sh H E).nox with pn:=pn,xe:=Ww }) G' xc XO b1 d.xb tb (.inl m3) (.inl b6) m2
   .refine⟨C0,U0,s0,d.c,s1,Ea,R0,hx,λ C' H' a' Cc' g' J Z Y=>?_⟩
    replace g':=g0.trans g' l0
    replace J:=av l0 J
    have Y:mg (d.c:Str)=some (.ref Cc'):=Y
    rw[hC]at Y
    cases Y
    refine⟨rfl,λ W=>?_⟩
    cases hh:d.h with
    | nob b =>
     rw[hh]at hc
     obtain⟨C2,a0,l2,b2,r2,R2⟩:=qk (v0:=.bl b) R g' Z rfl RV.blI hc
     exact k _ C2 H' a0 l2 b2 r2 R2
    | noe =>
     rw[hh]at hc
     intro p hp
     obtain⟨gn,Rn⟩:=Z.new (o:=.lst []) (u:=.lst []) hp rfl λ C' H' g e=>⟨[],e,.nil⟩
     obtain⟨C2,a0,l2,b2,r2,R2⟩:=qk (v0:=.ref s1.length) R (g'.trans gn J) Rn (by unfold kX;simp) (v:=.ref p) (by unfold RV;simp) hc
     exact k _ C2 _ a0 l2 b2 r2 R2
    | _=>rw[hh]at a1;exact ff a1
  .exact run m1 a2 hc
 .exact ff hm
theorem aO1 {B:yF}{P:lh}{prog:aJ}{w:World}{mg:yC}{base:Heap}(h:PrOk Γ B P mg w)(hb:∀ y∈B,bX base y.1 y.2/\BM mg base):∀ n:Nat,av8 Γ prog w mg base (kZ P n) (n+31)/\XOk Γ prog w Γ.K mg base (kZ P n) (n+31)
 | 0=>⟨⟨λ f=>.inl λ l s=>rfl,trivial⟩,λ f=>.inl λ l s=>rfl⟩
 | n+1=>by
  obtain⟨ih,XO⟩:=aO1 (prog:=prog) (w:=w) (base:=base) h hb n
  refine⟨⟨λ f=>?_,trivial⟩,λ f=>?_⟩
  .cases e:P.df f with
   | none =>
    cases e2:P.tf f with
    | none=>exact .inl λ l s=>by simp only[kZ,e,e2]
    | some d =>
     obtain⟨st,N,ps,a,F,lk,hD,J,Z,G,hm,Y⟩:=h.tf f d e2
     exact .inr ⟨a,F,ps,bO5 h hb n ih XO e e2 hD J Z G hm Y,hD.mg,hD.fn.kp,hD.bi⟩
   | some d =>
    obtain⟨st,N,ps,a,F,lk,hD,J,Z,G,hm,Y⟩:=h.df f d e
    exact .inr ⟨a,F,ps,bS3 h hb n ih e hD J Z G hm Y,hD.mg,hD.fn.kp,hD.bi⟩
  .cases e:P.xf f with
   | none=>exact .inl λ l s=>by simp only[kZ,e]
   | some d =>
    obtain⟨st,N,ps,a,F,lk,hD,J,Z,G,hm,Y⟩:=h.xf f d e
    exact .inr ⟨a,F,ps,bV2 h hb n ih XO e hD J Z G hm Y,hD.mg,hD.fn.kp,hD.bi⟩
theorem bE5 {h:yF}{P:lh}{prog:aJ}{w:World}{mg:yC}{base:Heap}(B:PrOk Γ h P mg w)(hb:∀ y∈h,bX base y.1 y.2/\BM mg base)(n:Nat):av8 Γ prog w mg base (kZ P n) (n+31):=(aO1 B hb n).1
def spT (Γ:Gm):Sp:=λ vs H Q _=>∃(a:Addr) (ns:List Int),vs=[.ref a]/\SqF Γ.K H a (ns.map V.int)/\ns.length<=63/\TabsH Γ.T H/\∀ H',Q (.bl true) H'
theorem aQ3 {C:Nat->Addr}{H:Hp}:∀ ns:List Int,RVL Γ C H (ns.map DV.D.int) (ns.map V.int)
 | []=>.nil
 | n::ns=>.cons RV.intI (aQ3 ns)
theorem aH0 {m:Nat}:∀ ns:List Int,kT m (ns.map DV.D.int)=true
 | []=>rfl
 | n::ns=>by rw[a7];unfold kT;rw[aH0 ns];rfl
theorem bN8 {P:lh}{k:Nat}(h:∀ ns:List Int,ns.length<=63->∃ s',(kZ P k).call "law" [.ref 0] [.ro (ns.map DV.D.int)]=.ok (.bl true) s')(vs:List V)(H:Hp)(Q:VK)(E:XK)(q:spT Γ vs H Q E):spV Γ ((kZ P k).call "law") vs H Q E:=by
 obtain⟨a,ns,rfl,F,hl,hT,B⟩:=q
 obtain⟨s',hs⟩:=h ns hl
 refine⟨λ _=>a,[.ro (ns.map DV.D.int)],[.ref 0],.bl true,s',⟨λ i j o G e e' m m' _=>?_,λ i o e=>?_,λ i o e=>?_,hT⟩,.cons RV.refI .nil,?_,hs,λ v C' H' g l b r R=>?_⟩
 .cases i with
  | zero=>cases e;cases m
  | succ i=>cases e
 .cases i with
  | zero=>cases e;exact⟨_,F,aQ3 ns⟩
  | succ i=>cases e
 .cases i with
  | zero=>cases e;unfold kY;exact aH0 ns
  | succ i=>cases e
 .unfold kT kX kT;rfl
 .rw[r.blE];exact B H'
theorem aS2 {B:yF}{mg:yC}:∀ {tbl:List (String×lY)},(∀ p∈tbl,Good Γ B mg p.1 p.2)->∀ f d,tbl.lookup f=some d->Good Γ B mg f d
 | [],_,f,d,h=>by cases h
 | (g,e)::tbl,H,f,d,h=>by
  rw[be]at h
  cases q:f==g with
  | true =>
   rw[q]at h
   cases h
   rw[eq_of_beq q]
   exact H (g,_) (aC ..)
  | false =>
   rw[q]at h
   exact aS2 (λ p hp=>H p (aq _ hp)) f d h
def bp6 (Γ:Gm)(mg:yC)(x:String)(d:kR):Prop:=∃ v u,mg (x:Str)=some u/\RelV v u/\(∀ m,d.bnd m=true)/\∀ C H,RV Γ C H d v
theorem aY4 {mg:yC}:∀ {tbl:List (String×kR)},(∀ p∈tbl,bp6 Γ mg p.1 p.2)->∀ f d,tbl.lookup f=some d->bp6 Γ mg f d
 | [],_,f,d,h=>by cases h
 | (g,e)::tbl,H,f,d,h=>by
  rw[be]at h
  cases q:f==g with
  | true =>
   rw[q]at h
   cases h
   rw[eq_of_beq q]
   exact H (g,_) (aC ..)
  | false =>
   rw[q]at h
   exact aY4 (λ p hp=>H p (aq _ hp)) f d h
theorem bB0 {mg:yC}{x:String}{i:Int}{t:Tok}(h:mg (x:Str)=some (.int i t)):bp6 Γ mg x (.int i):=⟨.int i,_,h,⟨t,rfl⟩,λ _=>rfl,λ _ _=>RV.intI⟩
inductive ConV (Γ:Gm):kR->Value->Prop where
 | int (i:Int) (t:Tok):ConV Γ (.int i) (.int i t)
 | str (x:List Nat) (t:Tok) (h:x.length<=1000):ConV Γ (.str x) (.str ⟨x.toArray⟩ t)
inductive ConL (Γ:Gm):List kR->List Value->Prop where
 | nil:ConL Γ [] []
 | cons {d v l vs} (a:ConV Γ d v) (b:ConL Γ l vs):ConL Γ (d::l) (v::vs)
theorem bH2 {mg:yC}{x:String}{a:Addr}{o:Obj}{its:yG}{n:Nat}{l:List kR}(h:mg (x:Str)=some (.ref a))(hk:Γ.K.lookup a=some o)(hc:o.cls=.type "tuple")(hd:o.data=.seq its.toArray n)(hz:its.length<=1000)
  (hl:ConL Γ l its) (J:k7 l=false:=by rfl):bp6 Γ mg x (.tup l):=by
 have key:∃ B,Vals B its/\(∀ m,kT m l=true)/\∀ C H,RVL Γ C H l B:=by
  clear hd hz J
  induction hl with
  | nil=>exact⟨[],.nil,λ _=>rfl,λ _ _=>.nil⟩
  | cons a b ih =>
   obtain⟨B,F,G,h3⟩:=ih
   cases a with
   | int i t=>exact⟨.int i::B,.cons ⟨t,rfl⟩ F,λ m=>by unfold kT;rw[G];rfl,λ C H=>.cons RV.intI (h3 C H)⟩
   | str x t h=>exact⟨.str ⟨x.toArray⟩::B,.cons ⟨t,rfl⟩ F,λ m=>by unfold kT;rw[G];rfl,λ C H=>.cons (RV.strI (by unfold k6;omega)) (h3 C H)⟩
 obtain⟨B,F,G,h3⟩:=key
 refine⟨.ref a,_,h,rfl,λ m=>by unfold kX;exact G m,λ C H=>RV.tupC (.inr ⟨o,its.toArray,n,hk,hc,hd,?_,F⟩) (λ z=>by rw[J]at z;cases z) (h3 C H)⟩
 rw[aB];exact aP2 hz
end
theorem aU3 {P:aJ}{w:World}{K:ah}{mg mb:yC}{k:Nat}{fa a:Addr}{fd:bS}{x:Str}{sp:Sp}{B:ai}{vs:yG}{ns:List Int}{tabs:yF}
  (KX:K.In B.heap) (c1:B.heap.Ns bf mg) (hb:B.heap.Ns gb mb) (c3:∀ x:Str,x ≠ "__name__"->mb x=br x) (a5:B.heap.NoLimit) (hg:B.gens=#[]) (c4:BM mg B.heap) (hT:j0 tabs B.heap) (d2:j1 K=true)
  (ha:B.heap.get? a=some { cls:=.type "list",data:=.seq vs.toArray }) (hi:jM vs ns) (hl:ns.length<=aN) (hr:Room k hX)
  (F:∀ base:Heap,K.In base->base.Ns bf mg->BM mg base->(∀ q∈tabs,bX base q.1 q.2)->FnOk P w K mg base CX0 k fa fd [x] sp) (a2:∀(s:ai) (u:Value),jL s fd ⟨[u],[]⟩ [(x,u)])
  (d1:∀ H:Hp,(∀ q∈tabs,H q.2=some (.tbl #[]))->SqL K H a (ns.map V.int)->(∀ u,H a=some u->(∃ o xs,u=.frz o (.lst xs))\/∃ ps,u=.tbl ps)->sp [.ref a] H (λ v _=>v=.bl true) E0) :
  gf (model P w) hX (.call (.ref fa) ⟨[.ref a],[]⟩) (λ r s'=>r=.ok (.ret (.bool true))/\OldK B.heap s'.heap/\s'.os=B.os/\e8 s'.gens) B:=by
 have rv:=aG9 hi
 have a4:=hi.length
 have G:∀ b,b∈tabs.map (·.2)->B.heap.get? b=some (g9 #[]):=λ b h=>by
  obtain⟨q,hq,rfl⟩:=aQ.mp h
  exact(hT q hq).2
 have Y:∀ H:Hp,(∀ b u,H b=some u->(b=a/\∃ o xs,u=.frz o (.lst xs))\/(b∈tabs.map (·.2)/\u=.tbl #[]))->(∀ q∈tabs,H q.2=some (.tbl #[]))->SqL K H a (ns.map V.int)->HOk P w H B.heap->(H a≠none->K.lookup a=none) ->
   gf (model P w) hX (.call (.ref fa) ⟨[.ref a],[]⟩) (λ r s'=>r=.ok (.ret (.bool true))/\OldK B.heap s'.heap/\s'.os=B.os/\e8 s'.gens) B:=by
  intro H hO d0 hS hok hK
  have un:∀ b o,B.heap.get? b=some o->o.cls≠.type "list"->(∀ vs,o.data≠.fields vs)->H b=none:=λ b o e n1 n2=>by
   cases q:H b with
   | none=>rfl
   | some u =>
    rcases hO b u q with⟨z,_⟩|⟨z,_⟩
    .rw[z,ha]at e;cases e;exact absurd rfl n1
    .rw[G b z]at e;cases e;exact absurd rfl (n2 #[])
  have J:∀ {b:Addr} {m:yC},B.heap.Ns b m->(bj5 B.heap H).Ns b m:=λ {b m} ⟨o,es,ep,e,d,r⟩=>by
   refine⟨o,es,ep,aq2 e ?_,d,r⟩
   cases q:H b with
   | none=>rfl
   | some u =>
    rcases hO b u q with⟨z,_⟩|⟨z,_⟩
    .rw[z,ha]at e;cases e;cases d
    .rw[G b z]at e;cases e;cases d
  have a6:K.In (bj5 B.heap H):=λ b o e=>aq2 (KX b o e) (by
   cases q:H b with
   | none=>rfl
   | some u =>
    rcases hO b u q with⟨z,_⟩|⟨z,_⟩
    .subst z
     rw[hK (by rw[q];simp)]at e;cases e
    .have e2:=KX b o e
     rw[G b z]at e2
     have h2:=aX.mp d2 (b,o) (PySem.W.mem_of_lookupK e)
     have e3:o=g9 #[]:=(aG e2).symm
     subst e3
     exact absurd (show false=true from h2) aW)
  have hM:Mod K mg (bj5 B.heap H):=⟨a6,J c1,⟨mb,J hb,c3⟩,let⟨mc,h1,h2⟩:=a5;⟨mc,J h1,h2⟩⟩
  have d3:BM mg (bj5 B.heap H):=by
   obtain⟨bm,ob,b1,b2,b3,b4,b5,b6⟩:=c4
   exact⟨bm,ob,b1,b2,aq2 b3 (un bm ob b3 (by rw[b4];nofun) (by rw[b6];nofun)),b4,b5,b6⟩
  have e4:∀ q∈tabs,bX (bj5 B.heap H) q.1 q.2:=λ q hq=>by
   obtain⟨o,e5,b0,tf,a3,tg,c2,text,tt,e1,r1,r2⟩:=(hT q hq).1
   refine⟨o,e5,b0,tf,a3,tg,c2,text,tt,aq2 e1 ?_,r1,r2⟩
   cases q2:H q.1 with
   | none=>rfl
   | some u =>
    rcases hO _ u q2 with⟨z,_⟩|⟨z,_⟩
    .rw[z,ha]at e1;cases e1;exact absurd r1 (by simp)
    .rw[G _ z]at e1;cases e1;exact absurd r1 (by simp)
  have e0:Env0 P w K mg (bj5 B.heap H) hX [] B H:=⟨rfl,hM,λ b o e=>bB6 e,Nat.le_of_eq (bf8 _ _),trivial,λ b hb=>absurd (show b∈([]:List Addr)from hb) (by simp),hok,.of_eq hg⟩
  refine i5 ((F _ a6 (J c1) d3 e4).run hX [] B H ⟨[.ref a],[]⟩ [.ref a] [.ref a] _ _ hr e0 (a2 B (.ref a)) (.cons rfl .nil) (d1 H d0 hS (λ u e=>(hO a u e).elim (λ z=>.inl z.2) (λ z=>.inr ⟨_,z.2⟩)))) λ r s' h=>?_
  cases r with
  | error e=>exact bA h
  | ok fl =>
   cases fl with
   | next=>exact bA h
   | brk=>exact bA h
   | cont=>exact bA h
   | ret u =>
    obtain⟨v,H',os,bare,a1,a0,r',q⟩:=h
    have q':v=.bl true:=q
    subst q'
    obtain rfl:u=Value.bool true:=r'
    have key:∀ b o,B.heap.get? b=some o->asItWas B.heap s'.heap b o/\∃ o',s'.heap.get? b=some o':=λ b o e=>by
     cases q:H b with
     | none =>
      have z:=a1.keep b o e q (by intro z;exact absurd (show b∈([]:List Addr)from z) (by simp)) (by simp)
      exact⟨.inl z,o,z⟩
     | some u =>
      rcases hO b u q with⟨_,ob,xs,z⟩|⟨z,z2⟩
      .subst z
       have z2:=a1.frzs b ob _ q
       obtain⟨e1,_⟩:=hok b _ q
       obtain⟨e2,_⟩:=a0 b _ z2
       rw[e]at e1;cases e1
       exact⟨.inl e2,_,e2⟩
      .subst z2
       obtain⟨Z,z3⟩:=a1.tbls b _ q
       have g:s'.heap.get? b=some { cls:=.none,data:=.fields (#[]++Z) }:=a0 b _ z3
       have e1:=G b z
       rw[e]at e1;cases e1
       obtain⟨p,hp,ep⟩:=aQ.mp z
       refine⟨.inr (.inl ⟨?_,rfl,#[],Z,rfl,g⟩),_,g⟩
       have t:=((hT p hp).1.tab (hT p hp).2).isCodeTable
       rw[ep]at t
       exact t
    exact⟨rfl,⟨λ b o e=>(key b o e).1,λ b o e=>(key b o e).2⟩,os,bare⟩
 have tbl:∀ b,b∈tabs.map (·.2)->b≠a:=λ b h z=>by
  have e:=G b h
  rw[z,ha]at e;cases e
 cases hk:K.lookup a with
 | some o =>
  have e:=KX a o hk
  rw[ha]at e
  cases e
  refine Y (λ b=>if b∈tabs.map (·.2)then some (.tbl #[])else none) (λ b u z=>?_) (λ q hq=>if_pos (bQ hq)) (.inr ⟨_,vs.toArray,_,hk,rfl,rfl,rfl,by rw[aB,a4];exact hl,by simpa using rv⟩) (λ b u z=>?_) λ z=>?_
  .by_cases hb:b∈tabs.map (·.2)
   .have z':=(if_pos hb).symm.trans z
    cases z'
    exact .inr ⟨hb,rfl⟩
   .have z':=(if_neg hb).symm.trans z
    cases z'
  .by_cases hb:b∈tabs.map (·.2)
   .have z':=(if_pos hb).symm.trans z
    cases z'
    exact G b hb
   .have z':=(if_neg hb).symm.trans z
    cases z'
  .exact absurd (if_neg λ y=>tbl a y rfl) z
 | none =>
  refine Y (λ b=>if b=a then some (.frz { cls:=.type "list",data:=.seq vs.toArray } (.lst (ns.map V.int)))else if b∈tabs.map (·.2)then some (.tbl #[])else none) (λ b u z=>?_) (λ q hq=>?_) (.inl (.inr ⟨{ cls:=.type "list",data:=.seq vs.toArray },if_pos rfl⟩)) (λ b u z=>?_) λ _=>hk
  .by_cases hb:b=a
   .have z':=(if_pos hb).symm.trans z
    cases z'
    exact .inl ⟨hb,_,_,rfl⟩
   .have z':=(if_neg hb).symm.trans z
    by_cases hc:b∈tabs.map (·.2)
    .rw[if_pos hc]at z';cases z';exact .inr ⟨hc,rfl⟩
    .rw[if_neg hc]at z';cases z'
  .have hm:q.2∈tabs.map (·.2):=bQ hq
   show(if _ then _ else if _ then _ else _)=_
   rw[if_neg (tbl _ hm),if_pos hm]
  .by_cases hb:b=a
   .have z':=(if_pos hb).symm.trans z
    cases z'
    subst hb
    exact⟨ha,by rw[aE];exact hl,vs,_,rv,ha⟩
   .have z':=(if_neg hb).symm.trans z
    by_cases hc:b∈tabs.map (·.2)
    .rw[if_pos hc]at z';cases z';exact G b hc
    .rw[if_neg hc]at z';cases z'
theorem ba1 {ts:List Addr}{l:cZ}{n k:Nat}{q:aJ}{loose:yH}{XP:(Str->Option Value)->Heap->Prop}{YP:World->Heap->Prop}{d:DefRec}{K:Params->ah}{sp:ah->Sp}{x:Str}(names:yH)
  (hn:l.most=some n) (a2:n<=aN) (a3:d.params.defaults=[]) (hr:Room k hX)
  (hY:∀(w:World) (h:Heap),YP w h->(K w.params).In h/\∀ P∈ts,h.get? P=some (g9 #[])) (a0:∀ w:World,bV6 (K w.params) names ts=true) (a6:∀ w:World,j1 (K w.params)=true)
  (F:∀(w:World) (mg:yC) (fa:Addr) (h:Heap),(K w.params).In h->h.Ns bf mg->mg d.name=some (.ref fa) ->
   ∃ fd:bS,(∀(s:ai) (u:Value),jL s fd ⟨[u],[]⟩ [(x,u)]) /\
    ∀ base:Heap,(K w.params).In base->base.Ns bf mg->BM mg base->bE0 (K w.params) names base->FnOk l.prog w (K w.params) mg base CX0 k fa fd [x] (sp (K w.params)))
  (a4:∀(K:ah) (H:Hp) (a:Addr) (ns:List Int),ns.length<=n->by5 K names H->SqL K H a (ns.map V.int)->(∀ u,H a=some u->(∃ o xs,u=.frz o (.lst xs))\/∃ ps,u=.tbl ps)->sp K [.ref a] H (λ v _=>v=.bl true) E0) :
  j4 q loose XP YP l.row.toRowW d [] (λ f vs=>jN f vs):=by
 refine Att.attach_call hn a3 λ w s₀ s₁ mg mb fa o pm cd b1 a vs ns G Y ho hd b0 a1 Z J B hg=>?_
 obtain⟨KX,a5⟩:=hY w _ Y
 obtain⟨fd,hb,hF⟩:=F w mg fa _ KX G.T.g a1
 have hT:j0 ((aF4 (K w.params) names).map (·.2)) s₁.heap:=λ p hp=>by
  obtain⟨y,hy,rfl⟩:=aQ.mp hp
  obtain⟨h1,h2⟩:=ax3.mp hy
  have z:=aX.mp (a0 w) y.1 h1
  rw[h2]at z
  have z':(jr (K w.params) y.2.1 y.2.2&&ts.contains y.2.2)=true:=z
  rw[ao]at z'
  exact⟨PySem.W.codeHd_of_K KX z'.1,a5 _ (by simpa using z'.2)⟩
 have hm:∀ x∈names,∀ c P,bv (K w.params) x=some (c,P)->(c,P)∈(aF4 (K w.params) names).map (·.2):=λ x hx c P e=>aQ.mpr ⟨(x,c,P),ax3.mpr ⟨hx,e⟩,rfl⟩
 refine aU3 (tabs:=(aF4 (K w.params) names).map (·.2)) KX G.T.g G.T.b G.T.builtins G.T.nolimit hg ?_ hT (a6 w) Z J (av B a2) hr (λ base k1 k2 k3 k4=>hF base k1 k2 k3 λ x hx c P e=>k4 _ (hm x hx c P e)) hb λ H hO hS hF=>a4 (K w.params) H a ns B (λ x hx c P e=>hO _ (hm x hx c P e)) hS hF
 obtain⟨bm,ob,h1,h2,h3,h4,h5,h6⟩:=G.T.bmain
 exact⟨bm,ob,h1,h2,h3,h4,h5,h6⟩
def spB (names:yH)(K:ah):Sp:=λ vs H Q _=>∃(a:Addr) (ns:List Int),vs=[.ref a]/\SqF K H a (ns.map V.int)/\ns.length<=63/\by5 K names H/\∀ H',Q (.bl true) H'
theorem bQ9 {names:yH}{K:ah}{H:Hp}{a:Addr}{ns:List Int}(hl:ns.length<=63)(hB:by5 K names H)(B:SqL K H a (ns.map V.int))(G:∀ u,H a=some u->(∃ o F,u=.frz o (.lst F))\/∃ ps,u=.tbl ps):spB names K [.ref a] H (λ v _=>v=.bl true) E0:=by
 refine⟨a,ns,rfl,⟨B,λ H' k=>?_⟩,hl,hB,λ _=>rfl⟩
 rcases B with(h|⟨o,h⟩)|h
 .rcases G _ h with⟨_,_,z⟩|⟨_,z⟩<;>cases z
 .exact .inl (.inr ⟨o,k _ _ h rfl⟩)
 .exact .inr h
def cr8 (P:lh):String->LamI->Prop:=λ _ _=>False
noncomputable def sfx (x:Str):Str:=if x = "letter_table" then "least_fee" else "<lambda>"
noncomputable def bA2 (names:yH)(K:ah):List (Addr×Str):=names.map λ x=>(((bv K x).getD (0,0)).2,x ++ ".<locals>."++sfx x)
noncomputable def ca1 (names:yH)(K:ah):List (Addr×Addr):=names.map λ x=>(bv K x).getD (0,0)
noncomputable def ch5 (K:ah)(f:String):Option Addr:=match cf K bf (f:Str)with
 | some (some (.ref a))=>(match K.lookup a with
  | some ⟨_,_,.func _,_⟩=>some a
  | _=>none)
 | _=>none
theorem aO7 {K:ah}{f:String}{a:Addr}(h:ch5 K f=some a):cf K bf (f:Str)=some (some (.ref a))/\∃ oc od B sl,K.lookup a=some ⟨oc,od,.func B,sl⟩:=by
 unfold ch5 at h
 split at h
 .rename_i F e
  split at h
  .rename_i oc od B sl e2
   cases h
   exact⟨e,_,_,_,_,e2⟩
  .cases h
 .cases h
noncomputable abbrev bG6 (names:yH)(P:lh)(K:ah):Gm:=⟨K,ch5 K,cr8 P,bA2 names K⟩
theorem cm3 {names:yH}{P:lh}{K:ah}{h:Heap}{mg:yC}(X:K.In h)(G:h.Ns bf mg):∀(f:String) (a:Addr),(bG6 names P K).fa f=some a->mg (f:Str)=some (.ref a)/\∃ oc od B sl,(bG6 names P K).K.lookup a=some ⟨oc,od,.func B,sl⟩:=λ f a e=>⟨ci X G (aO7 e).1,(aO7 e).2⟩
theorem bp8 {names:yH}{P:lh}{K:ah}(F:∀ x∈names,(bv K x).isSome=true){vs:List V}{H:Hp}{Q:VK}{E:XK}(q:spB names K vs H Q E):spT (bG6 names P K) vs H Q E:=by
 obtain⟨a,ns,e,h,hl,hB,B⟩:=q
 refine⟨a,ns,e,h,hl,TabsH.init λ p hp=>?_,B⟩
 simp only[bA2,b7]at hp
 obtain⟨x,hx,rfl⟩:=aQ.mp hp
 exact hB x hx _ _ (aQ2 (F x hx))
theorem bt9 {names:yH}{K:ah}{mg:yC}{base:Heap}(h:∀ x∈names,(bv K x).isSome=true)(B:BM mg base)(hc:bE0 K names base):∀ y∈ca1 names K,bX base y.1 y.2/\BM mg base:=λ y hy=>by
 obtain⟨x,hx,rfl⟩:=aQ.mp hy
 exact⟨hc x hx _ _ (aQ2 (h x hx)),B⟩
theorem bg2 {names:yH}{P:lh}{K:ah}{f:Str}{sc:Scope}{N:yH}{B:bS}:bL2 (bG6 names P K) (ca1 names K) f sc N B (λ _ _ _=>false):=λ _ _ _ h=>by cases h
def ce7 (K:ah)(n:Str)(st:Stmt):Prop:=∃(f:Addr) (od an:yI) (sl:yE) (oc kV dc pm cd ct:Value),cf K bf n=some (some (.ref f)) /\
 K.lookup f=some ⟨oc,od,.func (cX n n (defArgs st) (zA st) (defScope st) .none kV dc pm an cd ct),sl⟩/\fq K cd n=true/\cq K (.ref f)=true
def co0 (n:Str)(st:Stmt)(ps:yH):Prop:=∀(kV doc pm:Value) (an:yI) (cdv ct:Value) (us:yG),us.length=ps.length->bindArgs (cX n n (defArgs st) (zA st) (defScope st) .none kV doc pm an cdv ct) ⟨us,[]⟩=pure (ps.zip us)
theorem bd0 {Q:List Value->Prop}(h:Q [])(us:yG)(hl:us.length=0):Q us:=by
 cases us with
 | nil=>exact h
 | cons _ _=>cases hl
theorem bdS {k:Nat}{Q:List Value->Prop}(h:∀ a us,us.length=k->Q (a::us))(us:yG)(hl:us.length=k+1):Q us:=by
 cases us with
 | nil=>cases hl
 | cons a us=>exact h a us (Nat.succ.inj hl)
theorem bd1 {Q:List Value->Prop}(h:∀ a,Q [a]):∀ us:List Value,us.length=1->Q us:=bdS λ a=>bd0 (h a)
theorem bd2 {Q:List Value->Prop}(h:∀ a b,Q [a,b]):∀ us:List Value,us.length=2->Q us:=bdS λ a=>bd1 (h a)
theorem bd3 {Q:List Value->Prop}(h:∀ a b c,Q [a,b,c]):∀ us:List Value,us.length=3->Q us:=bdS λ a=>bd2 (h a)
theorem bd4 {Q:List Value->Prop}(h:∀ a b c d,Q [a,b,c,d]):∀ us:List Value,us.length=4->Q us:=bdS λ a=>bd3 (h a)
theorem bd5 {Q:List Value->Prop}(h:∀ a b c d e,Q [a,b,c,d,e]):∀ us:List Value,us.length=5->Q us:=bdS λ a=>bd4 (h a)
def DTB (names:yH)(P:lh)(n:String)(pc vc:Nat)(m:Ck->List Stmt->Bool)(st:Stmt):Prop:=∃ N ps,FnScope N ps (defScope st)/\ps.length=pc/\N.length=pc+vc/\co0 n st ps/\(m ⟨N,defScope st,λ _ _ _=>false⟩ (zA st)=true \/
 False)
def DT (names:yH)(P:lh)(n:String)(d:lY)(st:Stmt):Prop:=DTB names P n d.ps d.vs (λ ck S=>mSs ck d.body S) st
theorem ap4 {names:yH}{P:lh}{K:ah}{h:Heap}{mg:yC}{n:String}{J Y:Nat}{m:Ck->List Stmt->Bool}{st:Stmt}(X:K.In h)(G:h.Ns bf mg)(hT:∀ x∈names,(bv K x).isSome=true)(hD:ce7 K n st)(hd:DTB names P n J Y m st):GoodB (bG6 names P K) (ca1 names K) mg n J Y m:=by
 obtain⟨f,od,an,sl,oc,kV,dc,pm,cd,ct,a,l,c,k⟩:=hD
 obtain⟨N,ps,h1,Z,h3,h4,B⟩:=hd
 have F:=bs3 (st:=st) l c k
 have D:DefAt K mg n st ps f _:=⟨F,ci X G a,F.binds h4⟩
 rcases B with B|B
 .exact⟨_,_,_,_,_,_,D,h1,Z,h3,B,bg2⟩
 .exact B.elim
theorem good_of {names:yH}{P:lh}{K:ah}{h:Heap}{mg:yC}{n:String}{d:lY}{st:Stmt}(X:K.In h)(G:h.Ns bf mg)(hT:∀ x∈names,(bv K x).isSome=true)(hD:ce7 K n st)(hd:DT names P n d st):Good (bG6 names P K) (ca1 names K) mg n d:=ap4 X G hT hD hd
theorem aK4 {α:Type}{Q:String->α->Prop}:∀ {tbl:List (String×α)},(∀ p∈tbl,Q p.1 p.2)->∀ f d,tbl.lookup f=some d->Q f d
 | [],_,f,d,h=>by cases h
 | (g,e)::tbl,H,f,d,h=>by
  rw[be]at h
  cases q:f==g with
  | true =>
   rw[q]at h
   cases h
   rw[eq_of_beq q]
   exact H (g,_) (aC ..)
  | false =>
   rw[q]at h
   exact aK4 (λ p hp=>H p (aq _ hp)) f d h
noncomputable def cq0 (K:ah)(c:String):Bool:=match cf K bf (c:Str)with|some (some (.ref Cc))=>ci2 K Cc&&(excI K Cc&&(cu K (.ref Cc) (.ref Cc)==some true&&(bj K (.ref Cc) (.type "ValueError")==some true&&cf K bf ("ValueError":Str)==some none)))|_=>false
noncomputable def cp7 (K:ah)(c:String):Bool:=match cf K bf (c:Str)with|some (some (.ref _))=>true|_=>false
noncomputable def cp9 (K:ah)(c d:String):Bool:=match cf K bf (c:Str),cf K bf (d:Str)with|some (some (.ref Cc)),some (some (.ref D))=>bj K (.ref Cc) (.ref D)==some (lv c d)&&cu K (.ref Cc) (.ref D)==some (lv c d)|_,_=>false
noncomputable def bz5 (K:ah)(cs ts:List String):Bool:=cs.all (cq0 K)&&(ts.all (cp7 K)&&cs.all λ c=>ts.all λ d=>cp9 K c d)
theorem ar7 {K:ah}{h:Heap}{mg:yC}{B ts:List String}(X:K.In h)(G:h.Ns bf mg)(hx:bz5 K B ts=true) :
  (∀ c:String,B.contains c=true->∃ Cc,mg (c:Str)=some (.ref Cc)/\ExcCls K Cc/\excI K Cc=true)/\(∀ c:String,ts.contains c=true->∃ Cc,mg (c:Str)=some (.ref Cc)) /\
  (∀(c d:String) (Cc D:Addr),B.contains c=true->ts.contains d=true->mg (c:Str)=some (.ref Cc)->mg (d:Str)=some (.ref D)->bj K (.ref Cc) (.ref D)=some (lv c d)) /\
  (∀(c d:String) (Cc D:Addr),B.contains c=true->ts.contains d=true->mg (c:Str)=some (.ref Cc)->mg (d:Str)=some (.ref D)->cu K (.ref Cc) (.ref D)=some (lv c d)) /\
  (∀(c:String) (Cc:Addr),B.contains c=true->mg (c:Str)=some (.ref Cc)->cu K (.ref Cc) (.ref Cc)=some true)/\(∀ c:String,B.contains c=true->mg ("ValueError":Str)=none) /\
  ∀(c:String) (Cc:Addr),B.contains c=true->mg (c:Str)=some (.ref Cc)->bj K (.ref Cc) (.type "ValueError")=some true:=by
 unfold bz5 at hx
 simp only[ao]at hx
 obtain⟨h1,h2,h3⟩:=hx
 have one:∀ c:String,B.contains c=true->∃ Cc,mg (c:Str)=some (.ref Cc)/\ExcCls K Cc/\excI K Cc=true/\cu K (.ref Cc) (.ref Cc)=some true/\bj K (.ref Cc) (.type "ValueError")=some true/\mg ("ValueError":Str)=none:=λ c hc=>by
  have q:=aX.mp h1 c (dj.mp hc)
  unfold cq0 at q
  split at q
  .rename_i Cc e
   rw[ao,ao,ao,ao]at q
   exact⟨Cc,ci X G e,bK3 q.1,q.2.1,eq_of_beq q.2.2.1,eq_of_beq q.2.2.2.1,iR X G (eq_of_beq q.2.2.2.2)⟩
  .cases q
 have two:∀(c d:String) (Cc D:Addr),B.contains c=true->ts.contains d=true->mg (c:Str)=some (.ref Cc)->mg (d:Str)=some (.ref D)->bj K (.ref Cc) (.ref D)=some (lv c d)/\cu K (.ref Cc) (.ref D)=some (lv c d):=λ c d Cc D hc hd mc Z=>by
  have q:=aX.mp (aX.mp h3 c (dj.mp hc)) d (dj.mp hd)
  unfold cp9 at q
  split at q
  .rename_i F D' e1 e2
   have Y:=ci X G e1
   have J:=ci X G e2
   rw[mc]at Y;cases Y
   rw[Z]at J;cases J
   rw[ao]at q
   exact⟨eq_of_beq q.1,eq_of_beq q.2⟩
  .cases q
 refine⟨λ c hc=>?_,λ c hc=>?_,λ c d Cc D a b e f=>(two c d Cc D a b e f).1,λ c d Cc D a b e f=>(two c d Cc D a b e f).2,λ c Cc hc hm=>?_,λ c hc=>?_,λ c Cc hc hm=>?_⟩
 .obtain⟨Cc,a,b,e,_⟩:=one c hc;exact⟨Cc,a,b,e⟩
 .have q:=aX.mp h2 c (dj.mp hc)
  unfold cp7 at q
  split at q
  .rename_i Cc e
   exact⟨Cc,ci X G e⟩
  .cases q
 .obtain⟨F,a,_,_,b,_⟩:=one c hc;rw[hm]at a;cases a;exact b
 .obtain⟨F,_,_,_,_,_,b⟩:=one c hc;exact b
 .obtain⟨F,a,_,_,_,b,_⟩:=one c hc;rw[hm]at a;cases a;exact b
end L2
end
noncomputable section
namespace DV
noncomputable def aG2:Df:=⟨"_law_bag",2,3,(.cons (.asg (.one 2) (.cst (.int 0))) (.cons (.ite (.cmp .lt (.var 1) (.bi .len (.cons (.var 0) .nil))) (.cons (.asg (.one 2) (.bi .abs (.cons (.ix (.var 0) (.var 1)) .nil))) .nil) .nil) (.cons (.asg (.one 3) (.bin .add (.bin .mul (.cst (.int 7919)) (.var 1)) (.cst (.int 17)))) (.cons (.for_ (.one 4) (.rng1 (.bi .min2 (.cons (.bi .len (.cons (.var 0) .nil)) (.cons (.cst (.int 60)) .nil)))) (.cons (.asg (.one 3) (.bin .mod (.bin .add (.bin .add (.bin .mul (.var 3) (.cst (.int 48271))) (.bin .mod (.ix (.var 0) (.var 4)) (.cst (.int 2147483647)))) (.var 4)) (.cst (.int 2147483629)))) .nil)) (.cons (.ite (.cmp .lt (.var 2) (.bin .pow (.cst (.int 10)) (.cst (.int 18)))) (.cons (.asg (.one 2) (.cst (.int 0))) .nil) .nil) (.cons (.ret (.lst (.cons (.var 2) (.cons (.var 3) .nil)))) .nil))))))⟩
noncomputable def aj5:Df:=⟨"_law_take",2,3,(.cons (.ite (.cmp .gt (.ix (.var 0) (.cst (.int 0))) (.cst (.int 0))) (.cons (.asg (.one 2) (.bin .mod (.ix (.var 0) (.cst (.int 0))) (.var 1))) (.cons (.setIx (.var 0) (.cst (.int 0)) (.bin .fdiv (.ix (.var 0) (.cst (.int 0))) (.var 1))) (.cons (.ret (.var 2)) .nil))) .nil) (.cons (.asg (.one 3) (.cst (.int 0))) (.cons (.asg (.one 4) (.cst (.int 1))) (.cons (.whl (.cmp .lt (.var 4) (.var 1)) (.cons (.setIx (.var 0) (.cst (.int 1)) (.bin .mod (.bin .add (.bin .mul (.ix (.var 0) (.cst (.int 1))) (.cst (.int 48271))) (.cst (.int 7919))) (.cst (.int 2147483647)))) (.cons (.asg (.one 3) (.bin .add (.bin .mul (.var 3) (.cst (.int 1073741789))) (.bin .mod (.bin .mul (.bin .fdiv (.ix (.var 0) (.cst (.int 1))) (.cst (.int 8))) (.cst (.int 69621))) (.cst (.int 1073741789))))) (.cons (.asg (.one 4) (.bin .mul (.var 4) (.cst (.int 1073741789)))) .nil)))) (.cons (.ret (.bin .mod (.var 3) (.var 1))) .nil)))))⟩
noncomputable def ak1:Df:=⟨"_law_rooms",2,1,(.cons (.asg (.one 2) (.call "_law_take" (.ex (.var 0) (.ex (.bin .shl (.cst (.int 1)) (.var 1)) .nil)))) (.cons (.ret (.mk .tuple (.compIf (.one 0) (.rng1 (.var 1)) (.cmp .eq (.bin .mod (.bin .fdiv (.var 1) (.bin .shl (.cst (.int 1)) (.var 0))) (.cst (.int 2))) (.cst (.int 1))) (.var 0) [none,some 2]))) .nil))⟩
noncomputable def ah2:Df:=⟨"letters_of",1,0,(.cons (.ret (.slU (.glob "LETTERS") (.ix (.var 0) (.cst (.int 0))))) .nil)⟩
noncomputable def ah6:Df:=⟨"rooms_of",1,0,(.cons (.ret (.ix (.var 0) (.cst (.int 1)))) .nil)⟩
noncomputable def ah9:Df:=⟨"begins_of",1,0,(.cons (.ret (.ix (.var 0) (.cst (.int 2)))) .nil)⟩
noncomputable def ah8:Df:=⟨"ends_of",1,0,(.cons (.ret (.ix (.var 0) (.cst (.int 3)))) .nil)⟩
noncomputable def ah7:Df:=⟨"doors_of",1,0,(.cons (.ret (.ix (.var 0) (.cst (.int 4)))) .nil)⟩
noncomputable def bv3:Df:=⟨"grid",2,2,(.cons (.asg (.one 2) (.lst .nil)) (.cons (.for_ (.one 3) (.rng1 (.var 0)) (.cons (.ex (.meth .append (.var 2) (.cons (.mk .tuple (.comp (.one 0) (.rng1 (.var 0)) (.callV 1 (.cons (.var 2) (.cons (.var 0) .nil))) [none,some 1,some 3])) .nil))) .nil)) (.cons (.ret (.mk .tuple (.seq (.var 2)))) .nil)))⟩
noncomputable def ai2:Df:=⟨"least",1,0,(.cons (.ret (.mkD .min (.compIf (.one 0) (.seq (.var 0)) (.notN (.var 0)) (.var 0) [none]) (.cst .non))) .nil)⟩
noncomputable def aj0:Df:=⟨"added",2,0,(.cons (.ite (.or (.isN (.var 0)) (.isN (.var 1))) (.cons (.ret (.cst .non)) .nil) .nil) (.cons (.ret (.bin .add (.var 0) (.var 1))) .nil))⟩
noncomputable def an6:Df:=⟨"cut",2,0,(.cons (.ite (.or (.isN (.var 0)) (.cmp .le (.var 0) (.var 1))) (.cons (.ret (.var 0)) .nil) .nil) (.cons (.ret (.bin .add (.var 1) (.cst (.int 1)))) .nil))⟩
noncomputable def al3:Df:=⟨"_law_bound",1,0,(.cons (.ret (.ix (.lst (.cons (.call "_law_take" (.ex (.var 0) (.ex (.cst (.int 3)) .nil))) (.cons (.call "_law_take" (.ex (.var 0) (.ex (.cst (.int 13)) .nil))) (.cons (.call "_law_take" (.ex (.var 0) (.ex (.bin .pow (.cst (.int 10)) (.cst (.int 9))) .nil))) (.cons (.call "_law_take" (.ex (.var 0) (.ex (.bin .pow (.cst (.int 10)) (.cst (.int 30))) .nil))) .nil))))) (.call "_law_take" (.ex (.var 0) (.ex (.cst (.int 4)) .nil))))) .nil)⟩
noncomputable def ai0:Df:=⟨"first_row",1,1,(.cons (.asg (.one 1) (.call "begins_of" (.ex (.var 0) .nil))) (.cons (.ret (.mk .tuple (.comp (.one 0) (.rng1 (.call "rooms_of" (.ex (.var 0) .nil))) (.ite (.cmp .isin (.var 0) (.var 1)) (.cst (.int 0)) (.cst .non)) [none,some 1]))) .nil))⟩
noncomputable def ag8:Df:=⟨"least_into",4,0,(.cons (.ret (.call "least" (.ex (.mk .list (.compIf (.tup [0,1,2,3]) (.seq (.call "doors_of" (.ex (.var 0) .nil))) (.and (.cmp .eq (.var 1) (.var 4)) (.cmp .eq (.var 2) (.var 5))) (.call "added" (.ex (.ix (.var 6) (.var 0)) (.ex (.var 3) .nil))) [none,none,none,none,some 2,some 3,some 1])) .nil))) .nil)⟩
noncomputable def ap2:Df:=⟨"led",4,0,(.cons (.ret (.mk .tuple (.comp (.one 0) (.rng1 (.call "rooms_of" (.ex (.var 0) .nil))) (.call "cut" (.ex (.call "least_into" (.ex (.var 1) (.ex (.var 2) (.ex (.var 3) (.ex (.var 0) .nil))))) (.ex (.var 4) .nil))) [none,some 0,some 2,some 3,some 1]))) .nil)⟩
noncomputable def ai1:Df:=⟨"end_of",2,0,(.cons (.ret (.call "least" (.ex (.mk .list (.comp (.one 0) (.seq (.call "ends_of" (.ex (.var 0) .nil))) (.ix (.var 1) (.var 0)) [none,some 1])) .nil))) .nil)⟩
noncomputable def ai5:Df:=⟨"_law_machine",1,5,(.cons (.asg (.one 1) (.bin .add (.cst (.int 1)) (.call "_law_take" (.ex (.var 0) (.ex (.cst (.int 3)) .nil))))) (.cons (.asg (.one 2) (.bin .add (.cst (.int 1)) (.call "_law_take" (.ex (.var 0) (.ex (.cst (.int 5)) .nil))))) (.cons (.asg (.one 3) (.call "_law_take" (.ex (.var 0) (.ex (.cst (.int 13)) .nil)))) (.cons (.ite (.cmp .eq (.call "_law_take" (.ex (.var 0) (.ex (.cst (.int 8)) .nil))) (.cst (.int 7))) (.cons (.asg (.one 3) (.call "_law_take" (.ex (.var 0) (.ex (.cst (.int 31)) .nil)))) .nil) .nil) (.cons (.asg (.one 4) (.lst .nil)) (.cons (.for_ (.one 5) (.rng1 (.var 3)) (.cons (.ex (.meth .append (.var 4) (.cons (.tup (.cons (.call "_law_take" (.ex (.var 0) (.ex (.var 2) .nil))) (.cons (.ix (.cst (.str [97,98,99])) (.call "_law_take" (.ex (.var 0) (.ex (.var 1) .nil)))) (.cons (.call "_law_take" (.ex (.var 0) (.ex (.var 2) .nil))) (.cons (.call "_law_take" (.ex (.var 0) (.ex (.cst (.int 4)) .nil))) .nil))))) .nil))) .nil)) (.cons (.ret (.tup (.cons (.var 1) (.cons (.var 2) (.cons (.call "_law_rooms" (.ex (.var 0) (.ex (.var 2) .nil))) (.cons (.call "_law_rooms" (.ex (.var 0) (.ex (.var 2) .nil))) (.cons (.mk .tuple (.seq (.var 4))) .nil))))))) .nil)))))))⟩
noncomputable def aj6:Df:=⟨"_law_first",1,0,(.cons (.ret (.mk .tuple (.comp (.one 0) (.rng1 (.ix (.var 0) (.cst (.int 1)))) (.ix (.lst (.cons (.cst .non) (.cons (.cst (.int 0)) .nil))) (.bi .int (.cons (.cmp .isin (.var 0) (.ix (.var 1) (.cst (.int 2)))) .nil))) [none,some 0]))) .nil)⟩
noncomputable def aG6:Df:=⟨"_law_led",4,6,(.cons (.asg (.one 4) (.mk .list (.comp (.one 0) (.seq (.var 2)) (.cst .non) [none]))) (.cons (.for_ (.tup [5,6,7,8]) (.seq (.ix (.var 0) (.cst (.int 4)))) (.cons (.ite (.and (.cmp .eq (.var 6) (.var 3)) (.notN (.ix (.var 2) (.var 5)))) (.cons (.asg (.one 9) (.bi .min2 (.cons (.bin .add (.ix (.var 2) (.var 5)) (.var 8)) (.cons (.bin .add (.var 1) (.cst (.int 1))) .nil)))) (.cons (.ite (.or (.isN (.ix (.var 4) (.var 7))) (.cmp .lt (.var 9) (.ix (.var 4) (.var 7)))) (.cons (.setIx (.var 4) (.var 7) (.var 9)) .nil) .nil) .nil)) .nil) .nil)) (.cons (.ret (.mk .tuple (.seq (.var 4)))) .nil)))⟩
noncomputable def as7:Df:=⟨"_law_end",2,0,(.cons (.ret (.mkD .min (.compIf (.one 0) (.seq (.ix (.var 0) (.cst (.int 3)))) (.notN (.ix (.var 1) (.var 0))) (.ix (.var 1) (.var 0)) [none,some 1]) (.cst .non))) .nil)⟩
noncomputable def aj2:Df:=⟨"_law_is_row",2,1,(.cons (.ite (.or (.not (.bi .isTup (.cons (.var 0) .nil))) (.cmp .ne (.bi .len (.cons (.var 0) .nil)) (.bi .len (.cons (.var 1) .nil)))) (.cons (.ret (.cst (.bl false))) .nil) .nil) (.cons (.for_ (.one 2) (.seq (.var 0)) (.cons (.ite (.and (.notN (.var 2)) (.or (.not (.bi .isInt (.cons (.var 2) .nil))) (.bi .isBool (.cons (.var 2) .nil)))) (.cons (.ret (.cst (.bl false))) .nil) .nil) .nil)) (.cons (.ret (.cmp .eq (.var 0) (.var 1))) .nil)))⟩
noncomputable def ai6:Df:=⟨"rows_met",2,4,(.cons (.asg (.one 2) (.call "first_row" (.ex (.var 0) .nil))) (.cons (.asg (.one 3) (.lst (.cons (.tup (.cons (.cst (.str [])) (.cons (.var 2) .nil))) .nil))) (.cons (.asg (.one 4) (.dicU (.var 2) (.cst (.bl true)))) (.cons (.asg (.one 5) (.cst (.int 0))) (.cons (.whl (.and (.cmp .lt (.var 5) (.bi .len (.cons (.var 3) .nil))) (.not (.call "ends_above" (.ex (.var 0) (.ex (.var 1) (.ex (.ix (.ix (.var 3) (.neg (.cst (.int 1)))) (.cst (.int 1))) .nil)))))) (.cons (.ex (.call "meet_behind" (.ex (.var 0) (.ex (.var 1) (.ex (.ix (.var 3) (.var 5)) (.ex (.var 3) (.ex (.var 4) .nil))))))) (.cons (.aug 5 (.cst (.int 1))) .nil))) (.cons (.ret (.var 3)) .nil))))))⟩
noncomputable def ah0:Df:=⟨"ends_above",3,0,(.cons (.ret (.cmp .eq (.call "end_of" (.ex (.var 0) (.ex (.var 2) .nil))) (.bin .add (.var 1) (.cst (.int 1))))) .nil)⟩
noncomputable def ag9:Df:=⟨"meet_behind",5,2,(.cons (.for_ (.one 5) (.seq (.call "letters_of" (.ex (.var 0) .nil))) (.cons (.asg (.one 6) (.call "led" (.ex (.var 0) (.ex (.var 1) (.ex (.ix (.var 2) (.cst (.int 1))) (.ex (.var 5) .nil)))))) (.cons (.ite (.cmp .isin (.var 6) (.var 4)) (.cons .cont .nil) .nil) (.cons (.ite (.cmp .eq (.bi .len (.cons (.var 3) .nil)) (.glob "MOST_ROWS")) (.cons .raise .nil) .nil) (.cons (.setIx (.var 4) (.var 6) (.cst (.bl true))) (.cons (.ex (.meth .append (.var 3) (.cons (.tup (.cons (.bin .add (.ix (.var 2) (.cst (.int 0))) (.var 5)) (.cons (.var 6) .nil))) .nil))) (.cons (.ite (.call "ends_above" (.ex (.var 0) (.ex (.var 1) (.ex (.var 6) .nil)))) (.cons .retN .nil) .nil) .nil))))))) .nil)⟩
noncomputable def ai8:Df:=⟨"_law_are_rows",3,4,(.cons (.ite (.or (.not (.bi .isList (.cons (.var 2) .nil))) (.or (.cmp .eq (.bi .len (.cons (.var 2) .nil)) (.cst (.int 0))) (.cmp .gt (.bi .len (.cons (.var 2) .nil)) (.cst (.int 300))))) (.cons (.ret (.cst (.bl false))) .nil) .nil) (.cons (.asg (.one 3) .dicT) (.cons (.asg (.one 4) (.dic .nil .nil)) (.cons (.for_ (.one 5) (.seq (.var 2)) (.cons (.ite (.or (.not (.bi .isTup (.cons (.var 5) .nil))) (.or (.cmp .ne (.bi .len (.cons (.var 5) .nil)) (.cst (.int 2))) (.not (.bi .isStr (.cons (.ix (.var 5) (.cst (.int 0))) .nil))))) (.cons (.ret (.cst (.bl false))) .nil) .nil) (.cons (.asg (.one 6) (.call "_law_first" (.ex (.var 0) .nil))) (.cons (.ite (.cmp .ne (.ix (.var 5) (.cst (.int 0))) (.cst (.str []))) (.cons (.ite (.or (.cmp .notin (.slU (.ix (.var 5) (.cst (.int 0))) (.neg (.cst (.int 1)))) (.var 4)) (.cmp .notin (.ix (.ix (.var 5) (.cst (.int 0))) (.neg (.cst (.int 1)))) (.slU (.lst (.cons (.cst (.str [97])) (.cons (.cst (.str [98])) (.cons (.cst (.str [99])) .nil)))) (.ix (.var 0) (.cst (.int 0)))))) (.cons (.ret (.cst (.bl false))) .nil) .nil) (.cons (.asg (.one 6) (.call "_law_led" (.ex (.var 0) (.ex (.var 1) (.ex (.ix (.var 4) (.slU (.ix (.var 5) (.cst (.int 0))) (.neg (.cst (.int 1))))) (.ex (.ix (.ix (.var 5) (.cst (.int 0))) (.neg (.cst (.int 1)))) .nil)))))) .nil)) .nil) (.cons (.ite (.or (.not (.call "_law_is_row" (.ex (.ix (.var 5) (.cst (.int 1))) (.ex (.var 6) .nil)))) (.cmp .isin (.var 6) (.var 3))) (.cons (.ret (.cst (.bl false))) .nil) .nil) (.cons (.setIx (.var 3) (.var 6) (.cst (.bl true))) (.cons (.setIx (.var 4) (.ix (.var 5) (.cst (.int 0))) (.var 6)) .nil))))))) (.cons (.ret (.cst (.bl true))) .nil)))))⟩
noncomputable def ah3:Df:=⟨"_law_is_whole_list",3,9,(.cons (.asg (.one 3) (.tup (.cons (.bi .len (.cons (.ix (.ix (.var 2) (.neg (.cst (.int 1)))) (.cst (.int 0))) .nil)) (.cons (.ix (.ix (.var 2) (.neg (.cst (.int 1)))) (.cst (.int 0))) .nil)))) (.cons (.asg (.one 4) (.cmp .eq (.call "_law_end" (.ex (.var 0) (.ex (.ix (.ix (.var 2) (.neg (.cst (.int 1)))) (.cst (.int 1))) .nil))) (.bin .add (.var 1) (.cst (.int 1))))) (.cons (.asg (.one 5) .dicT) (.cons (.for_ (.tup [6,7]) (.seq (.var 2)) (.cons (.setIx (.var 5) (.var 7) (.var 6)) (.cons (.ite (.and (.cmp .eq (.call "_law_end" (.ex (.var 0) (.ex (.var 7) .nil))) (.bin .add (.var 1) (.cst (.int 1)))) (.cmp .ne (.var 6) (.ix (.ix (.var 2) (.neg (.cst (.int 1)))) (.cst (.int 0))))) (.cons (.ret (.cst (.bl false))) .nil) .nil) .nil))) (.cons (.for_ (.one 8) (.rng1 (.bin .sub (.bi .len (.cons (.var 2) .nil)) (.cst (.int 1)))) (.cons (.ite (.cmp .ge (.tup (.cons (.bi .len (.cons (.ix (.ix (.var 2) (.var 8)) (.cst (.int 0))) .nil)) (.cons (.ix (.ix (.var 2) (.var 8)) (.cst (.int 0))) .nil))) (.tup (.cons (.bi .len (.cons (.ix (.ix (.var 2) (.bin .add (.var 8) (.cst (.int 1)))) (.cst (.int 0))) .nil)) (.cons (.ix (.ix (.var 2) (.bin .add (.var 8) (.cst (.int 1)))) (.cst (.int 0))) .nil)))) (.cons (.ret (.cst (.bl false))) .nil) .nil) .nil)) (.cons (.for_ (.tup [6,7]) (.seq (.var 2)) (.cons (.for_ (.one 9) (.seq (.slU (.cst (.str [97,98,99])) (.ix (.var 0) (.cst (.int 0))))) (.cons (.asg (.one 10) (.tup (.cons (.bin .add (.bi .len (.cons (.var 6) .nil)) (.cst (.int 1))) (.cons (.bin .add (.var 6) (.var 9)) .nil)))) (.cons (.ite (.and (.var 4) (.cmp .ge (.var 10) (.var 3))) (.cons .cont .nil) .nil) (.cons (.asg (.one 11) (.call "_law_led" (.ex (.var 0) (.ex (.var 1) (.ex (.var 7) (.ex (.var 9) .nil)))))) (.cons (.ite (.or (.cmp .notin (.var 11) (.var 5)) (.cmp .gt (.tup (.cons (.bi .len (.cons (.ix (.var 5) (.var 11)) .nil)) (.cons (.ix (.var 5) (.var 11)) .nil))) (.var 10))) (.cons (.ret (.cst (.bl false))) .nil) .nil) .nil))))) .nil)) (.cons (.ret (.cmp .eq (.ix (.ix (.var 2) (.cst (.int 0))) (.cst (.int 0))) (.cst (.str [])))) .nil)))))))⟩
noncomputable def ai4:Df:=⟨"law",1,6,(.cons (.for_ (.one 1) (.rng1 (.cst (.int 2))) (.cons (.asg (.one 2) (.call "_law_bag" (.ex (.var 0) (.ex (.var 1) .nil)))) (.cons (.asg (.one 3) (.call "_law_machine" (.ex (.var 2) .nil))) (.cons (.asg (.one 4) (.call "_law_bound" (.ex (.var 2) .nil))) (.cons (.asg (.one 5) (.call "_law_met" (.ex (.var 3) (.ex (.var 4) .nil)))) (.cons (.ite (.cmp .eq (.bi .len (.cons (.var 5) .nil)) (.cst (.int 0))) (.cons .cont .nil) .nil) (.cons (.ite (.or (.not (.call "_law_are_rows" (.ex (.var 3) (.ex (.var 4) (.ex (.ix (.var 5) (.cst (.int 0))) .nil))))) (.not (.call "_law_is_whole_list" (.ex (.var 3) (.ex (.var 4) (.ex (.ix (.var 5) (.cst (.int 0))) .nil)))))) (.cons (.ret (.cst (.bl false))) .nil) .nil) (.cons (.asg (.one 6) (.mk .list (.seq (.ix (.var 5) (.cst (.int 0)))))) (.cons (.ex (.meth .reverse (.ix (.var 5) (.cst (.int 0))) .nil)) (.cons (.ex (.meth .append (.ix (.var 5) (.cst (.int 0))) (.cons (.tup (.cons (.cst (.str [])) (.cons (.tup .nil) .nil))) .nil))) (.cons (.ite (.cmp .ne (.call "_law_met" (.ex (.var 3) (.ex (.var 4) .nil))) (.lst (.cons (.var 6) .nil))) (.cons (.ret (.cst (.bl false))) .nil) .nil) .nil))))))))))) (.cons (.ret (.cst (.bl true))) .nil))⟩
noncomputable def al2:Df:=⟨"_law_led",4,6,(.cons (.asg (.one 4) (.mk .list (.comp (.one 0) (.seq (.var 2)) (.cst .non) [none]))) (.cons (.for_ (.tup [5,6,7,8]) (.seq (.ix (.var 0) (.cst (.int 4)))) (.cons (.ite (.and (.cmp .eq (.var 6) (.var 3)) (.notN (.ix (.var 2) (.var 5)))) (.cons (.asg (.one 9) (.bi .min2 (.cons (.bin .add (.ix (.var 2) (.var 5)) (.var 8)) (.cons (.bin .add (.var 1) (.cst (.int 1))) .nil)))) (.cons (.ite (.or (.isN (.ix (.var 4) (.var 7))) (.cmp .lt (.var 9) (.ix (.var 4) (.var 7)))) (.cons (.setIx (.var 4) (.var 7) (.var 9)) .nil) .nil) .nil)) .nil) .nil)) (.cons (.ret (.mk .tuple (.seq (.var 4)))) .nil)))⟩
noncomputable def bz0:Df:=⟨"_law_found",2,6,(.cons (.asg (.one 2) (.lst (.cons (.call "_law_first" (.ex (.var 0) .nil)) .nil))) (.cons (.asg (.one 3) (.lst (.cons (.cst (.str [])) .nil))) (.cons (.asg (.one 4) (.dicU (.ix (.var 2) (.cst (.int 0))) (.cst (.bl true)))) (.cons (.for_ (.one 5) (.rng1 (.cst (.int 300))) (.cons (.ite (.cmp .eq (.var 5) (.bi .len (.cons (.var 2) .nil))) (.cons (.ret (.var 3)) .nil) .nil) (.cons (.for_ (.one 6) (.seq (.slU (.cst (.str [97,98,99])) (.ix (.var 0) (.cst (.int 0))))) (.cons (.asg (.one 7) (.call "_law_led" (.ex (.var 0) (.ex (.var 1) (.ex (.ix (.var 2) (.var 5)) (.ex (.var 6) .nil)))))) (.cons (.ite (.cmp .notin (.var 7) (.var 4)) (.cons (.ite (.cmp .eq (.bi .len (.cons (.var 2) .nil)) (.cst (.int 300))) (.cons (.ret (.cst .non)) .nil) .nil) (.cons (.setIx (.var 4) (.var 7) (.cst (.bl true))) (.cons (.ex (.meth .append (.var 2) (.cons (.var 7) .nil))) (.cons (.ex (.meth .append (.var 3) (.cons (.bin .add (.ix (.var 3) (.var 5)) (.var 6)) .nil))) (.cons (.ite (.cmp .eq (.call "_law_end" (.ex (.var 0) (.ex (.var 7) .nil))) (.bin .add (.var 1) (.cst (.int 1)))) (.cons (.ret (.var 3)) .nil) .nil) .nil))))) .nil) .nil))) .nil))) (.cons (.ret (.var 3)) .nil)))))⟩
noncomputable def au4:Df:=⟨"sign_product",2,1,(.cons (.asg (.one 2) (.bi .len (.cons (.var 0) .nil))) (.cons (.ret (.callC "grid" (.ex (.var 2) (.lam "sign_product.0" [2,0,1] .nil)))) .nil))⟩
noncomputable def an5:Lm:=⟨"sign_product.0",2,3,(.mk .min (.comp (.one 0) (.rng1 (.var 2)) (.bi .max2 (.cons (.ix (.ix (.var 1) (.var 2)) (.var 0)) (.cons (.ix (.ix (.var 3) (.var 0)) (.var 4)) .nil))) [none,some 3,some 0,some 4,some 1]))⟩
noncomputable def cs4:Df:=⟨"_law_on",3,5,(.cons (.asg (.one 3) (.mk .list (.comp (.one 0) (.seq (.var 2)) (.cst .non) [none]))) (.cons (.for_ (.tup [4,5,6,7]) (.seq (.ix (.var 0) (.cst (.int 4)))) (.cons (.ite (.and (.cmp .eq (.var 5) (.var 1)) (.notN (.ix (.var 2) (.var 4)))) (.cons (.ite (.or (.isN (.ix (.var 3) (.var 6))) (.cmp .lt (.bin .add (.ix (.var 2) (.var 4)) (.var 7)) (.ix (.var 3) (.var 6)))) (.cons (.setIx (.var 3) (.var 6) (.bin .add (.ix (.var 2) (.var 4)) (.var 7))) .nil) .nil) .nil) .nil) .nil)) (.cons (.ret (.var 3)) .nil)))⟩
class Has (P:Pr)(d:Df):Prop where
 eq:P.df d.name=some d
class HasL (P:Pr)(d:Lm):Prop where
 eq:P.lm d.id=some d
class HasC (P:Pr)(x:String)(v:D):Prop where
 eq:P.con x=some v
noncomputable def fin (s:Sto)(c:Ct)(s':Sto):R D:=match c with
 | .ret v=>zr s v s'
 | .next _=>zr s .non s'
 | _=>.bad
@[simp] theorem ab7 (s:Sto) (v:D) (s':Sto):fin s (.ret v) s'=zr s v s':=rfl
@[simp] theorem ab0 (s:Sto) (U:Env) (s':Sto):fin s (.next U) s'=zr s .non s':=rfl
theorem zd {P:Pr}(d:Df)[h:Has P d]{n:Nat}{l:List D}{s:Sto}(hl:l.length=d.ps) :
  (aa4 P (n+1)).call d.name l s=(exs (aa4 P n) d.body (l.map some++aA d.vs none) s).bind (fin s):=by
 simp only[aa4,h.eq,hl,if_true]
 rfl
theorem bG8 {P:Pr}{x:String}{v:D}[h:HasC P x v]{n:Nat}:(aa4 P n).con x=some v:=by
 cases n<;>exact h.eq
theorem aq5 (s t:Sto):at6 s (s++t)=true:=by
 unfold at6
 rw[aX]
 intro i h
 rw[cS]at h
 rw[aI h]
 simp
theorem bh1 (s t:Sto)(r:Nat)(o:O)(h:o.bnd s.length=true):at6 s (s.set r o++t)=true:=by
 unfold at6
 rw[aX]
 intro i B
 rw[cS]at B
 rw[aI (by rw[bp];exact B)]
 by_cases e:r=i
 .subst e;rw[aZ B];simp[h]
 .rw[aU e];simp
theorem zX {s t:Sto}{d:D}(h:∀ n,d.bnd n=true)(hr:∀ r,d≠.ref r):zr s d (s++t)=.ok d s:=by
 unfold zr
 rw[aq5,if_pos rfl]
 cases d with
 | ref r=>exact absurd rfl (hr r)
 | _=>simp[h]
theorem zp {s:Sto}{d:D}(h:∀ n,d.bnd n=true)(hr:∀ r,d≠.ref r):zr s d s=.ok d s:=by
 have:=zX (s:=s) (t:=[]) h hr
 rwa [bw]at this
theorem as8 {s t:Sto}{d:D}{r:Nat}{o:O}(h:∀ n,d.bnd n=true)(hr:∀ r,d≠.ref r)(ho:o.bnd s.length=true):zr s d (s.set r o++t)=.ok d (s.set r o):=by
 unfold zr
 rw[bh1 s t r o ho,if_pos rfl]
 have e:(s.set r o++t).take s.length=s.set r o:=by rw[List.take_append_of_le_length (by simp),ed (by simp)]
 cases d with
 | ref r=>exact absurd rfl (hr r)
 | _=>simp only[h,if_true,e]
theorem ao2 {s:Sto}{d:D}{r:Nat}{o:O}(h:∀ n,d.bnd n=true)(hr:∀ r,d≠.ref r)(ho:o.bnd s.length=true):zr s d (s.set r o)=.ok d (s.set r o):=by
 have:=as8 (s:=s) (t:=[]) (r:=r) h hr ho
 rwa [bw]at this
theorem ar9 {s t u:Sto}{o:O}(ho:o.bnd s.length=true):zr s (.ref (s.length+t.length)) (s++(t++o::u))=.ok (.ref s.length) (s++[o]):=by
 unfold zr
 rw[aq5,if_pos rfl]
 simp[ho,aK]
@[simp] theorem bi4 {s:Sto} {i:Int}:zr s (.int i) s=.ok (.int i) s:=zp (λ _=>rfl) (by nofun)
@[simp] theorem bo6 {s:Sto} {i:Bool}:zr s (.bl i) s=.ok (.bl i) s:=zp (λ _=>rfl) (by nofun)
@[simp] theorem aD3 {s:Sto}:zr s .non s=.ok .non s:=zp (λ _=>rfl) (by nofun)
@[simp] theorem bP2 {s:Sto} {x:List Nat}:zr s (.str x) s=.ok (.str x) s:=zp (λ _=>rfl) (by nofun)
theorem qv {c:Env->Sto->R D}{g:Env->Sto->R Ct}:∀ {n:Nat} {U:Env} {s:Sto},qS c g n U s≠.bad->qS c g (n+1) U s=qS c g n U s
 | 0,_,_,h=>absurd rfl h
 | n+1,U,s,h=>by
  rw[show qS c g (n+1+1) U s=tru (c U s) (λ b s=>if b then(g U s).bind λ B s=>match B with
   | .next U=>qS c g (n+1) U s|.cont U=>qS c g (n+1) U s|.brk U=>.ok (.next U) s|.ret d=>.ok (.ret d) s else .ok (.next U) s)from rfl]
  have e:qS c g (n+1) U s=tru (c U s) (λ b s=>if b then(g U s).bind λ B s=>match B with
   | .next U=>qS c g n U s|.cont U=>qS c g n U s|.brk U=>.ok (.next U) s|.ret d=>.ok (.ret d) s else .ok (.next U) s):=rfl
  rw[e]at h ⊢
  unfold tru at h ⊢
  cases hc:c U s with
  | exc _ _=>rfl
  | bad=>rfl
  | ok d s1 =>
   rw[hc]at h
   cases d with
   | bl b =>
    cases b with
    | false=>rfl
    | true =>
     simp only[R.bind_ok,if_true]at h ⊢
     cases hg:g U s1 with
     | exc _ _=>rfl
     | bad=>rfl
     | ok B s2 =>
      rw[hg]at h
      simp only[R.bind_ok]at h ⊢
      cases B with
      | next U'=>exact qv h
      | cont U'=>exact qv h
      | _=>rfl
   | _=>rfl
theorem zZ {c:Env->Sto->R D}{g:Env->Sto->R Ct}{n:Nat}{U:Env}{s:Sto}(h:qS c g n U s≠.bad):∀ k,qS c g (n+k) U s=qS c g n U s
 | 0=>rfl
 | k+1=>by
  have e:=zZ h k
  rw[<-c8,qv (by rw[e];exact h),e]
theorem bO1 {c:Env->Sto->R D}{g:Env->Sto->R Ct}{n:Nat}{U:Env}{s:Sto}{r:Ct}{t:Sto}(h:qS c g n U s=.ok r t):whl c g U s=.ok r t:=by
 have hb:qS c g n U s≠.bad:=by rw[h];nofun
 have hx:∃ n,qS c g n U s≠.bad:=⟨n,hb⟩
 unfold whl
 rw[dif_pos hx]
 have B:=zZ hx.choose_spec n
 have F:=zZ hb hx.choose
 rw[<-B,fc,F,h]
theorem aq3 {c:Env->Sto->R D}{g:Env->Sto->R Ct}{U U':Env}{s s1 s':Sto}(hc:c U s=.ok (.bl true) s1)(hg:g U s1=.ok (.next U') s'):whl c g U s=whl c g U' s':=by
 have key:∀ n,qS c g (n+1) U s=qS c g n U' s':=λ n=>by
  show tru (c U s) _=_
  rw[hc,ad4,if_pos rfl,hg];rfl
 unfold whl
 by_cases hx:∃ n,qS c g n U' s'≠.bad
 .have hy:∃ n,qS c g n U s≠.bad:=⟨hx.choose+1,by rw[key];exact hx.choose_spec⟩
  rw[dif_pos hx,dif_pos hy]
  have h:=zZ hy.choose_spec (hx.choose+1)
  have B:=zZ (n:=hx.choose+1) (U:=U) (s:=s) (by rw[key];exact hx.choose_spec) hy.choose
  rw[<-h,fc,B,key]
 .have hy:¬ ∃ n,qS c g n U s≠.bad:=λ⟨n,hn⟩=>by
   cases n with
   | zero=>exact hn rfl
   | succ n=>exact hx ⟨n,by rw[<-key];exact hn⟩
  rw[dif_neg hx,dif_neg hy]
theorem aI3 {c:Env->Sto->R D}{g:Env->Sto->R Ct}{U:Env}{s s1:Sto}(hc:c U s=.ok (.bl false) s1):whl c g U s=.ok (.next U) s1 :=
 bO1 (n:=1) (by show tru (c U s) _=_;rw[hc,ad4];rfl)
theorem qp {ok:Sto->Bool}{g:D->Env->Sto->R Ct}(P:Nat->Env->Sto->Prop):∀(l:List D) (k:Nat) (U:Env) (s:Sto),
  P k U s->(∀(j:Nat) (U:Env) (s:Sto),j<=l.length->P (k+j) U s->ok s=true)->(∀(j:Nat) (d:D) (U:Env) (s:Sto),l[j]?=some d->P (k+j) U s->∃ U' s',(g d U s=.ok (.next U') s'\/g d U s=.ok (.cont U') s')/\P (k+j+1) U' s') ->
  ∃ U' s',au8 ok g l U s=.ok (.next U') s'/\P (k+l.length) U' s'
 | [],k,U,s,h,o,_=>⟨U,s,by show(if ok s then _ else _)=_;rw[if_pos (o 0 U s (aw _) h)],h⟩
 | d::l,k,U,s,h,o,t=>by
  have ho:=o 0 U s (b9 _) h
  obtain⟨U1,s1,hg,B⟩:=t 0 d U s rfl h
  obtain⟨U2,s2,e,F⟩:=qp P l (k+1) U1 s1 B (λ j U' s' hj hp=>o (j+1) U' s' (by simpa using hj) (by rwa [show k+(j+1)=k+1+j by omega])) λ j d' U' s' hj hp=>by
   have:=t (j+1) d' U' s' (by simpa using hj) (by rwa [show k+(j+1)=k+1+j by omega])
   rwa [show k+(j+1)+1=k+1+j+1 by omega]at this
  refine⟨U2,s2,?_,by rwa [bc,show k+(l.length+1)=k+1+l.length by omega]⟩
  show(if ok s then _ else _)=_
  rw[if_pos ho]
  rcases hg with hg|hg<;>(rw[hg];exact e)
noncomputable def Nx (Q:Env->Sto->Prop):R Ct->Prop
 | .ok (.next U) s=>Q U s
 | .ok (.cont U) s=>Q U s
 | _=>False
@[simp] theorem ck3 (Q:Env->Sto->Prop) (U:Env) (s:Sto):Nx Q (.ok (.next U) s)=Q U s:=rfl
@[simp] theorem cl7 (Q:Env->Sto->Prop) (U:Env) (s:Sto):Nx Q (.ok (.cont U) s)=Q U s:=rfl
theorem aV3 {Q:Env->Sto->Prop}{r:R Ct}{U:Env}{s:Sto}(e:r=.ok (.next U) s)(h:Q U s):Nx Q r:=by rw[e];exact h
theorem Nx.out {Q:Env->Sto->Prop}:∀ {r:R Ct},Nx Q r->∃ U s,(r=.ok (.next U) s\/r=.ok (.cont U) s)/\Q U s
 | .ok (.next U) s,h=>⟨U,s,.inl rfl,h⟩
 | .ok (.cont U) s,h=>⟨U,s,.inr rfl,h⟩
 | .ok (.ret _) _,h=>h.elim
 | .ok (.brk _) _,h=>h.elim
 | .exc _ _,h=>h.elim
 | .bad,h=>h.elim
noncomputable def Tst (A B:Sto->Prop):R D->Prop
 | .ok (.bl false) s=>A s
 | .ok (.bl true) s=>B s
 | _=>False
@[simp] theorem bw3 (A B:Sto->Prop) (b:Bool) (s:Sto):Tst A B (.ok (.bl b) s)=if b then B s else A s:=by cases b<;>rfl
theorem Tst.out {A B:Sto->Prop}:∀ {r:R D},Tst A B r->(∃ s,r=.ok (.bl false) s/\A s)\/∃ s,r=.ok (.bl true) s/\B s
 | .ok (.bl false) s,h=>.inl ⟨s,rfl,h⟩
 | .ok (.bl true) s,h=>.inr ⟨s,rfl,h⟩
 | .ok .non _,h=>h.elim
 | .ok (.int _) _,h=>h.elim
 | .ok (.str _) _,h=>h.elim
 | .ok (.tup _) _,h=>h.elim
 | .ok (.ref _) _,h=>h.elim
 | .ok (.fn _) _,h=>h.elim
 | .ok (.clo _ _) _,h=>h.elim
 | .exc _ _,h=>h.elim
 | .bad,h=>h.elim
theorem bn3 {c:Env->Sto->R D}{g:Env->Sto->R Ct}{U U':Env}{s s1 s':Sto}(hc:c U s=.ok (.bl true) s1)(hg:g U s1=.ok (.cont U') s'):whl c g U s=whl c g U' s':=by
 have key:∀ n,qS c g (n+1) U s=qS c g n U' s':=λ n=>by
  show tru (c U s) _=_
  rw[hc,ad4,if_pos rfl,hg];rfl
 unfold whl
 by_cases hx:∃ n,qS c g n U' s'≠.bad
 .have hy:∃ n,qS c g n U s≠.bad:=⟨hx.choose+1,by rw[key];exact hx.choose_spec⟩
  rw[dif_pos hx,dif_pos hy]
  have h:=zZ hy.choose_spec (hx.choose+1)
  have B:=zZ (n:=hx.choose+1) (U:=U) (s:=s) (by rw[key];exact hx.choose_spec) hy.choose
  rw[<-h,fc,B,key]
 .have hy:¬ ∃ n,qS c g n U s≠.bad:=λ⟨n,hn⟩=>by
   cases n with
   | zero=>exact hn rfl
   | succ n=>exact hx ⟨n,by rw[<-key];exact hn⟩
  rw[dif_neg hx,dif_neg hy]
theorem bV5 {c:Env->Sto->R D}{g:Env->Sto->R Ct}(P:Nat->Env->Sto->Prop)(Q:Env->Sto->Prop)
  (step:∀ k U s,P k U s->Tst (λ s1=>Q U s1) (λ s1=>Nx (λ U' s'=>∃ B,B<k/\P B U' s') (g U s1)) (c U s)) :
  ∀(k:Nat) (U:Env) (s:Sto),P k U s->∃ U' s',whl c g U s=.ok (.next U') s'/\Q U' s':=by
 intro k
 induction k using jJ with
 | _ k ih =>
  intro U s h
  rcases(step k U s h).out with⟨s1,hc,hq⟩|⟨s1,hc,hn⟩
  .exact⟨U,s1,aI3 hc,hq⟩
  .obtain⟨U',s',hg,B,hk,hp⟩:=hn.out
   rcases hg with hg|hg
   .rw[aq3 hc hg];exact ih B hk U' s' hp
   .rw[bn3 hc hg];exact ih B hk U' s' hp
theorem bp3 {c:Env->Sto->R D}{g:Env->Sto->R Ct}{U:Env}{s:Sto}{α:Type}{f:Ct->Sto->R α}{Ww:R α->Prop}(P:Nat->Env->Sto->Prop)(Q:Env->Sto->Prop)(k:Nat)(h:P k U s)
  (step:∀ k U s,P k U s->Tst (λ s1=>Q U s1) (λ s1=>Nx (λ U' s'=>∃ B,B<k/\P B U' s') (g U s1)) (c U s))
  (F:∀ U' s',Q U' s'->Ww (f (.next U') s')):Ww ((whl c g U s).bind f):=by
 obtain⟨U',s',e,q⟩:=bV5 P Q step k U s h
 rw[e]
 exact F U' s' q
theorem br5 {c:Env->Sto->R D}{g:Env->Sto->R Ct}{U:Env}{s:Sto}{α:Type}{f:Ct->Sto->R α}{x:R α}(P:Nat->Env->Sto->Prop)(Q:Env->Sto->Prop)(k:Nat)(h:P k U s)
  (step:∀ k U s,P k U s->Tst (λ s1=>Q U s1) (λ s1=>Nx (λ U' s'=>∃ B,B<k/\P B U' s') (g U s1)) (c U s))
  (F:∀ U' s',Q U' s'->f (.next U') s'=x):(whl c g U s).bind f=x:=bp3 (Ww:=(·=x)) P Q k h step F
theorem ay9 {ok:Sto->Bool}{g:D->Env->Sto->R Ct}{l:List D}{U:Env}{s:Sto}{α:Type}{f:Ct->Sto->R α}{Ww:R α->Prop}(P:Nat->Env->Sto->Prop)(h:P 0 U s)
  (o:∀(j:Nat) (U:Env) (s:Sto),j<=l.length->P j U s->ok s=true) (step:∀(j:Nat) (d:D) (U:Env) (s:Sto),l[j]?=some d->P j U s->Nx (P (j+1)) (g d U s))
  (B:∀ U' s',P l.length U' s'->Ww (f (.next U') s')):Ww ((au8 ok g l U s).bind f):=by
 obtain⟨U',s',e,q⟩:=qp P l 0 U s h (λ j U s hj hp=>o j U s hj (by rwa [dC]at hp)) (λ j d U s hj hp=>by
  rw[dC]at hp ⊢
  exact(step j d U s hj hp).out)
 rw[e]
 rw[dC]at q
 exact B U' s' q
theorem bk3 {ok:Sto->Bool}{g:D->Env->Sto->R Ct}{l:List D}{U:Env}{s:Sto}{α:Type}{f:Ct->Sto->R α}{x:R α}(P:Nat->Env->Sto->Prop)(h:P 0 U s)
  (o:∀(j:Nat) (U:Env) (s:Sto),j<=l.length->P j U s->ok s=true) (step:∀(j:Nat) (d:D) (U:Env) (s:Sto),l[j]?=some d->P j U s->Nx (P (j+1)) (g d U s))
  (B:∀ U' s',P l.length U' s'->f (.next U') s'=x):(au8 ok g l U s).bind f=x:=ay9 (Ww:=(·=x)) P h o step B
section
variable {F:Fns} {U:Env} {s:Sto}
@[simp] theorem ad2 (i:Nat):ev F (.var i) U s=aJ8 U i s:=rfl
@[simp] theorem ae0 (c:Cn):ev F (.cst c) U s=.ok c.d s:=rfl
@[simp] theorem ae5 (op:BOp) (a b:E):ev F (.bin op a b) U s=(ev F a U s).bind λ x s=>(ev F b U s).bind λ y s=>ao3 op x y s:=rfl
@[simp] theorem af9 (a:E):ev F (.not a) U s=tru (ev F a U s) λ b s=>.ok (.bl (!b)) s:=rfl
@[simp] theorem ad7 (op:COp) (a b:E):ev F (.cmp op a b) U s=(ev F a U s).bind λ x s=>(ev F b U s).bind λ y s=>zK op x y s:=rfl
@[simp] theorem cd6 (o p:COp) (a b c:E):ev F (.chain o p a b c) U s=(ev F a U s).bind λ x s=>(ev F b U s).bind λ y s=>tru (zK o x y s) λ k s=>if k then(ev F c U s).bind λ z s=>zK p y z s else .ok (.bl false) s:=rfl
@[simp] theorem ag1 (a:E):ev F (.isN a) U s=(ev F a U s).bind λ x s=>.ok (.bl (decide (x=.non))) s:=rfl
@[simp] theorem ac5 (a:E):ev F (.notN a) U s=(ev F a U s).bind λ x s=>.ok (.bl (!decide (x=.non))) s:=rfl
@[simp] theorem af5 (a b:E):ev F (.and a b) U s=tru (ev F a U s) λ c s=>if c then tru (ev F b U s) λ c s=>.ok (.bl c) s else .ok (.bl false) s:=rfl
@[simp] theorem ag5 (a b:E):ev F (.or a b) U s=tru (ev F a U s) λ c s=>if c then .ok (.bl true) s else tru (ev F b U s) λ c s=>.ok (.bl c) s:=rfl
@[simp] theorem af4 (c a b:E):ev F (.ite c a b) U s=tru (ev F c U s) λ k s=>if k then ev F a U s else ev F b U s:=rfl
@[simp] theorem af6 (es:Es):ev F (.tup es) U s=(evs F es U s).bind λ l s=>.ok (.tup l) s:=rfl
@[simp] theorem ae7 (es:Es):ev F (.lst es) U s=(evs F es U s).bind λ l s=>aj1 (.lst l) s:=rfl
@[simp] theorem ag2 (a b:E):ev F (.ix a b) U s=(ev F a U s).bind λ x s=>(ev F b U s).bind λ y s=>ixM x y s:=rfl
@[simp] theorem ab6 (f:String) (h:As):ev F (.call f h) U s=(an3 F h U s).bind λ l s=>F.call f l s:=rfl
@[simp] theorem cf1 (f:String) (h:As):ev F (.callC f h) U s=(an3 F h U s).bind λ l s=>(F.call f l s).bind λ d s'=>if(d.ncl&&s'.all O.ncl)=true then .ok d s' else .bad:=rfl
@[simp] theorem ag7 (b:Bi) (es:Es):ev F (.bi b es) U s=(evs F es U s).bind λ l s=>bi b l s:=rfl
@[simp] theorem ag3 (k:Mk) (it:L):ev F (.mk k it) U s=(evL F it U s).bind λ q s=>mk k q s:=rfl
@[simp] theorem af1 (k:Mk) (it:L) (d:E):ev F (.mkD k it d) U s=(evL F it U s).bind λ q s=>(ev F d U s).bind λ d s=>mkD k q d s:=rfl
@[simp] theorem af2 (k:Mk) (e:E):ev F (.mks k e) U s=(ev F e U s).bind λ x s=>(bu2 x s).bind λ q s=>mk k q s:=rfl
@[simp] theorem cq7 (o:E) (c:Nat):ev F (.spl o c) U s=(ev F o U s).bind λ x s=>ci1 c x s:=rfl
@[simp] theorem ci6 (id:String) (e:E) (j:Int):ev F (.minK id e j) U s=(ev F e U s).bind λ x s=>(bu2 x s).bind λ q s=>bD4 j q s:=rfl
@[simp] theorem ac4 (k:Mk) (e d:E):ev F (.mkDs k e d) U s=(ev F e U s).bind λ x s=>(ev F d U s).bind λ z s=>(bu2 x s).bind λ q s=>mkD k q z s:=rfl
@[simp] theorem ac7 (m:Mt) (o:E) (es:Es):ev F (.meth m o es) U s=(ev F o U s).bind λ x s=>(evs F es U s).bind λ l s=>meth m x l s:=rfl
@[simp] theorem cm4 (o e:E):ev F (.extS o e) U s=(ev F o U s).bind λ x s=>(ev F e U s).bind λ y s=>extS x y s:=rfl
@[simp] theorem cq5 (a:E):ev F (.rev a) U s=(ev F a U s).bind λ x s=>cl8 x s:=rfl
@[simp] theorem co9 (o:E) (it:L):ev F (.ext o it) U s=(ev F o U s).bind λ x s=>(evL F it U s).bind λ q s=>bS6 x q s:=rfl
@[simp] theorem ac0:evs F .nil U s=.ok [] s:=rfl
@[simp] theorem aa8 (e:E) (es:Es):evs F (.cons e es) U s=(ev F e U s).bind λ d s=>(evs F es U s).bind λ l s=>.ok (d::l) s:=rfl
@[simp] theorem aa5:an3 F .nil U s=.ok [] s:=rfl
@[simp] theorem ab5 (e:E) (h:As):an3 F (.ex e h) U s=(ev F e U s).bind λ d s=>(an3 F h U s).bind λ l s=>.ok (d::l) s:=rfl
@[simp] theorem cg2 (f:String) (h:As):an3 F (.fn f h) U s=(an3 F h U s).bind λ l s=>.ok (.fn f::l) s:=rfl
@[simp] theorem ac2 (e:E):evI F (.seq e) U s=(ev F e U s).bind λ d s=>aF7 d s:=rfl
@[simp] theorem ce5 (es:Es):evL F (.disp es) U s=evs F es U s:=rfl
@[simp] theorem ac3 (e:E):evL F (.seq e) U s=(ev F e U s).bind λ d s=>bj6 d s:=rfl
noncomputable def bn7 (x:D):M Sq:=λ s=>match x with|.int i=>if -Ww62<=i/\i<Ww62 then .ok ⟨qN 0 i,[]⟩ s else .bad|_=>.bad
@[simp] theorem aa6 (a:E):evI F (.rng1 a) U s=(ev F a U s).bind λ x s=>bn7 x s:=rfl
theorem qt {i:Int}(h0:-Ww62<=i)(h:i<Ww62):bn7 (.int i) s=.ok ⟨qN 0 i,[]⟩ s:=by unfold bn7;simp only[h0,h,and_self,if_true]
noncomputable def nxt (F:Fns)(ss:Ss)(c:Ct)(s:Sto):R Ct:=match c with|.next U=>exs F ss U s|c=>.ok c s
@[simp] theorem zm (h:Ss) (U:Env) (s:Sto):nxt F h (.next U) s=exs F h U s:=rfl
@[simp] theorem ac1 (h:Ss) (d:D) (s:Sto):nxt F h (.ret d) s=.ok (.ret d) s:=rfl
@[simp] theorem aa9 (h:Ss) (U:Env) (s:Sto):nxt F h (.cont U) s=.ok (.cont U) s:=rfl
@[simp] theorem ab4:exs F .nil U s=.ok (.next U) s:=rfl
@[simp] theorem zh (st:S) (h:Ss):exs F (.cons st h) U s=(ex F st U s).bind (nxt F h):=rfl
noncomputable def ch2 (U:Option Env)(s:Sto):R Ct:=match U with|some U=>.ok (.next U) s|none=>.bad
@[simp] theorem aa1 (U:Env) (s:Sto):ch2 (some U) s=.ok (.next U) s:=rfl
@[simp] theorem ae1 (tg:Tg) (e:E):ex F (.asg tg e) U s=(ev F e U s).bind λ d s=>ch2 (zQ U tg d) s:=rfl
@[simp] theorem ab2 (o i e:E):ex F (.setIx o i e) U s=(ev F e U s).bind λ d s=>(ev F o U s).bind λ x s=>(ev F i U s).bind λ y s=>(setIx x y d s).bind λ _ s=>.ok (.next U) s:=rfl
@[simp] theorem ag6 (e:E):ex F (.ex e) U s=(ev F e U s).bind λ _ s=>.ok (.next U) s:=rfl
@[simp] theorem ae4 (e:E):ex F (.ret e) U s=(ev F e U s).bind λ d s=>.ok (.ret d) s:=rfl
@[simp] theorem bE3:ex F .retN U s=.ok (.ret .non) s:=rfl
@[simp] theorem ae8 (c:E) (a b:Ss):ex F (.ite c a b) U s=tru (ev F c U s) λ k s=>if k then exs F a U s else exs F b U s:=rfl
@[simp] theorem af3 (c:E) (b:Ss):ex F (.whl c b) U s=whl (ev F c) (exs F b) U s:=rfl
noncomputable def turn (F:Fns)(tg:Tg)(b:Ss)(d:D)(U:Env)(s:Sto):R Ct:=match zQ U tg d with
 | some U=>exs F b U s
 | none=>.bad
@[simp] theorem ad6 (tg:Tg) (it:I) (b:Ss):ex F (.for_ tg it b) U s=(evI F it U s).bind λ q s0=>au8 (λ s=>chk s0 s q.src) (turn F tg b) q.its U s0:=rfl
@[simp] theorem ac6:ex F .cont U s=.ok (.cont U) s:=rfl
@[simp] theorem ag0 (i:Nat):ex F (.und i) U s=ch2 (as9 U i) s:=rfl
@[simp] theorem ac8:ex F .pass U s=.ok (.next U) s:=rfl
@[simp] theorem qw (i:Nat) (d:D):zQ U (.one i) d=au6 U i d:=rfl
@[simp] theorem aa3 (is:List Nat) (l:List D):zQ U (.tup is) (.tup l)=ar8 U is l:=rfl
@[simp] theorem aa2:ar8 U [] []=some U:=rfl
@[simp] theorem aa0 (i:Nat) (is:List Nat) (d:D) (l:List D):ar8 U (i::is) (d::l)=(au6 U i d).bind λ U=>ar8 U is l:=rfl
@[simp] theorem ad1 (d:D) (U:Env):aJ8 (some d::U) 0 s=.ok d s:=rfl
@[simp] theorem ad3 (x:Option D) (U:Env) (i:Nat):aJ8 (x::U) (i+1) s=aJ8 U i s:=by unfold aJ8;rw[List.getElem?_cons_succ]
@[simp] theorem ad0 (d:D) (x:Option D) (U:Env):au6 (x::U) 0 d=some (some d::U):=rfl
@[simp] theorem ad5 (d:D) (x:Option D) (U:Env) (i:Nat):au6 (x::U) (i+1) d=(au6 U i d).map (x::·):=by
 unfold au6
 by_cases h:i < U.length
 .rw[if_pos (by simpa using h),if_pos h];rfl
 .rw[if_neg (by simpa using h),if_neg h];rfl
@[simp] theorem ab3 (x:Option D) (U:Env):as9 (x::U) 0=some (none::U):=rfl
@[simp] theorem ab1 (x:Option D) (U:Env) (i:Nat):as9 (x::U) (i+1)=(as9 U i).map (x::·):=by
 unfold as9
 by_cases h:i < U.length
 .rw[if_pos (by simpa using h),if_pos h];rfl
 .rw[if_neg (by simpa using h),if_neg h];rfl
@[simp] theorem ad9 (i:Int):(Cn.int i).d=.int i:=rfl
@[simp] theorem ag4 (i:Bool):(Cn.bl i).d=.bl i:=rfl
@[simp] theorem ae9 (i:List Nat):(Cn.str i).d=.str i:=rfl
@[simp] theorem af8:Cn.non.d=.non:=rfl
@[simp] theorem ab8 (a b:Int):ao3 .add (.int a) (.int b) s=.ok (.int (a+b)) s:=rfl
@[simp] theorem ab9 (a b:Int):ao3 .sub (.int a) (.int b) s=.ok (.int (a - b)) s:=rfl
theorem ao1 {a b:Int}(h:mulOk a b=true):ao3 .mul (.int a) (.int b) s=.ok (.int (a*b)) s:=by show(if mulOk a b then _ else _:M D) s=_;rw[if_pos h];rfl
theorem bA5 {a b:Int}(h:a.natAbs<2^64):mulOk a b=true:=by unfold mulOk;simp[h]
theorem aB1 {a b:Int}(h:b.natAbs<2^64):mulOk a b=true:=by unfold mulOk;simp[h]
theorem as3 {a b:Int}(h:0<b):ao3 .mod (.int a) (.int b) s=.ok (.int (a % b)) s:=by show(if 0<b then _ else _:M D) s=_;rw[if_pos h];rfl
theorem bC0:(10:Int)^200<=(DIVL:Int):=by unfold DIVL;decide +kernel
theorem az1 {a b:Int}(h:0<b)(B:b<10^200):ao3 .fdiv (.int a) (.int b) s=.ok (.int (a / b)) s:=by show(if 0<b/\b<(DIVL:Int)then _ else _:M D) s=_;rw[if_pos ⟨h,Int.lt_of_lt_of_le B bC0⟩];rfl
theorem aK2 {a b:Int}(h:0<=b/\b<=1000000/\a.natAbs<2^64):ao3 .pow (.int a) (.int b) s=.ok (.int (a^b.toNat)) s:=by show(if _ then _ else _:M D) s=_;rw[if_pos h];rfl
@[simp] theorem ad8 (a b:Int):zK .lt (.int a) (.int b) s=.ok (.bl (decide (a<b))) s:=rfl
@[simp] theorem af0 (a b:Int):zK .le (.int a) (.int b) s=.ok (.bl (decide (a<=b))) s:=rfl
@[simp] theorem ae6 (a b:Int):zK .gt (.int a) (.int b) s=.ok (.bl (decide (b<a))) s:=rfl
@[simp] theorem ae2 (a b:Int):zK .ge (.int a) (.int b) s=.ok (.bl (decide (b<=a))) s:=rfl
@[simp] theorem ae3 (a b:Int):zK .eq (.int a) (.int b) s=.ok (.bl (decide (a=b))) s:=rfl
@[simp] theorem af7 (a b:Int):zK .ne (.int a) (.int b) s=.ok (.bl (!decide (a=b))) s:=rfl
@[simp] theorem aa7 (o:O):aj1 o s=.ok (.ref s.length) (s++[o]):=rfl
@[simp] theorem bx2 (l:List D):bi .len [.tup l] s=.ok (.int l.length) s:=rfl
@[simp] theorem at7 (l:List Nat):bi .len [.str l] s=.ok (.int l.length) s:=rfl
theorem an4 {r:Nat}{l:List D}(h:s[r]?=some (.lst l)):bi .len [.ref r] s=.ok (.int l.length) s:=by simp only[bi,bi1,bD9,h]
theorem bO7 {r:Nat}{l:List D}(h:s[r]?=some (.ro l)):bi .len [.ref r] s=.ok (.int l.length) s:=by simp only[bi,bi1,bD9,h]
@[simp] theorem ch4 (i:Int):bi .abs [.int i] s=.ok (.int (if i<0 then -i else i)) s:=rfl
@[simp] theorem aB0 (a b:Int):bi .min2 [.int a,.int b] s=.ok (.int (if b<a then b else a)) s:=rfl
@[simp] theorem ce6 (a b:Int):bi .max2 [.int a,.int b] s=.ok (.int (if b > a then b else a)) s:=rfl
@[simp] theorem bV0 (a:Int):bi .isInt [.int a] s=.ok (.bl true) s:=rfl
@[simp] theorem bL4 (a:Int):bi .isBool [.int a] s=.ok (.bl false) s:=rfl
@[simp] theorem bU5 (l:List D):bi .isTup [.tup l] s=.ok (.bl true) s:=rfl
theorem bN3 {r:Nat}{l:List D}{j:Nat}{d:D}(h:s[r]?=some (.ro l))(hj:l[j]?=some d):ixM (.ref r) (.int (j:Int)) s=.ok d s:=by
 have hl:j<l.length:=(ae.mp hj).1
 have e:l[j]=d:=(ae.mp hj).2
 simp[ixM,h,ixn,hl,e]
theorem am1 {r:Nat}{l:List D}{j:Nat}{d:D}(h:s[r]?=some (.lst l))(hj:l[j]?=some d):ixM (.ref r) (.int (j:Int)) s=.ok d s:=by
 have hl:j<l.length:=(ae.mp hj).1
 have e:l[j]=d:=(ae.mp hj).2
 simp[ixM,h,ixn,hl,e]
theorem ix_tup {l:List D}{j:Nat}{d:D}(hj:l[j]?=some d):ixM (.tup l) (.int (j:Int)) s=.ok d s:=by
 have hl:j<l.length:=(ae.mp hj).1
 have e:l[j]=d:=(ae.mp hj).2
 simp[ixM,ixn,hl,e]
theorem bE2 {r:Nat}{l:List D}{j:Nat}{v:D}(h:s[r]?=some (.lst l))(hl:j<l.length):setIx (.ref r) (.int (j:Int)) v s=.ok () (s.set r (.lst (l.set j v))):=by
 simp[setIx,h,ixn,hl]
theorem an8 {r:Nat}{l:List D}{v:D}(h:s[r]?=some (.lst l))(hl:l.length<LIM):meth .append (.ref r) [v] s=.ok .non (s.set r (.lst (l++[v]))):=by
 show(match s[r]? with|some (.lst l)=>(if l.length<LIM then R.ok D.non (s.set r (.lst (l++[v])))else .bad)|_=>.bad:R D)=_
 rw[h]
 exact if_pos hl
end
theorem aI4 (s t:Sto)(b:Bool):∃ s',zr s (.bl b) t=.ok (.bl b) s':=by
 unfold zr
 by_cases h:at6 s t=true
 .rw[if_pos h];exact⟨_,rfl⟩
 .rw[if_neg h];exact⟨_,rfl⟩
def Yes (r:R D):Prop:=∃ s',r=.ok (.bl true) s'
theorem bf7 (s t:Sto):Yes (zr s (.bl true) t):=aI4 s t true
theorem an0 {a b:Int}{j:Nat}{d:D}(h:(qN a b)[j]?=some d):(j:Int)<b - a/\d=.int (a+j):=by
 have hj:=(ae.mp h).1
 simp only[qN,aE,List.length_range]at hj
 unfold qN at h
 rw[aS,dF hj]at h
 exact⟨by omega,(aG h).symm⟩
def cm2 (P:Pr)(k:Nat):Prop:=∀ ns:List Int,ns.length<=63->Yes ((aa4 P k).call "law" [.ref 0] [.ro (ns.map D.int)])
noncomputable def zU:Option Int->D
 | none=>.non
 | some i=>.int i
@[simp] theorem zP:zU none=.non:=rfl
@[simp] theorem zt (i:Int):zU (some i)=.int i:=rfl
@[simp] theorem ap6 (p:Option Int) (n:Nat):(zU p).bnd n=true:=by cases p<;>rfl
theorem aA8 (p:Option Int)(r:Nat):zU p≠.ref r:=by cases p<;>nofun
@[simp] theorem aw2 {s:Sto} {p:Option Int}:zr s (zU p) s=.ok (zU p) s:=zp (ap6 p) (aA8 p)
noncomputable def cutO (k:Int):Option Int->Option Int
 | none=>none
 | some p=>if p<=k then some p else some (k+1)
theorem bR2 {P:Pr}[Has P an6](n:Nat)(p:Option Int)(k:Int)(s:Sto):(aa4 P (n+1)).call "cut" [zU p,.int k] s=.ok (zU (cutO k p)) s:=by
 refine(zd an6 rfl).trans ?_
 cases p with
 | none=>simp[an6,cutO]
 | some p =>
  by_cases h:p<=k<;>simp[an6,cutO,h]
noncomputable def zS (b:Nat×Nat):O:=.lst [.int b.1,.int b.2]
@[simp] theorem ce0 (b:Nat×Nat) (n:Nat):(zS b).bnd n=true:=rfl
noncomputable def tkW (many:Nat):Nat->Nat->Nat->Nat->Nat×Nat
 | 0,mix,num,_=>(num,mix)
 | n+1,mix,num,room=>if room<many then tkW many n ((mix*48271+7919) % 2147483647) (num*1073741789+(mix*48271+7919) % 2147483647 / 8*69621 % 1073741789) (room*1073741789)else(num,mix)
noncomputable def tk (b:Nat×Nat)(many:Nat):Nat×(Nat×Nat) :=
 if 0<b.1 then(b.1 % many,(b.1 / many,b.2))else let r:=tkW many 12 b.2 0 1;(r.1 % many,(b.1,r.2))
theorem bZ1 (b:Nat×Nat){many:Nat}(h:0<many):(tk b many).1<many:=by
 unfold tk
 split
 .exact Nat.mod_lt _ h
 .exact Nat.mod_lt _ h
theorem bf5 {many:Nat}{k B F room:Nat}(h:many<=room):tkW many k B F room=(F,B):=by
 cases k with
 | zero=>rfl
 | succ k=>unfold tkW;rw[if_neg (by omega)]
theorem bp0 {many:Nat}{k B F room:Nat}(h:room<many):tkW many (k+1) B F room=tkW many k ((B*48271+7919) % 2147483647) (F*1073741789+(B*48271+7919) % 2147483647 / 8*69621 % 1073741789) (room*1073741789):=by
 conv=>lhs;unfold tkW
 rw[if_pos h]
theorem bF5 {P:Pr}[Has P aj5](n:Nat)(b:Nat×Nat)(many:Nat)(h0:0<many)(h:many<=10^90)(s:Sto)(r:Nat)(hs:s[r]?=some (zS b)) :
  (aa4 P (n+1)).call "_law_take" [.ref r,.int many] s=.ok (.int (tk b many).1) (s.set r (zS (tk b many).2)):=by
 refine(zd aj5 rfl).trans ?_
 obtain⟨c,m⟩:=b
 have hr:r<s.length:=(ae.mp hs).1
 have Y:(0:Int)<(many:Int):=by omega
 have Z:(many:Int)<10^200:=by
  have:(10:Int)^90<10^200:=by decide +kernel
  have:((many:Nat):Int)<=((10^90:Nat):Int):=by exact_mod_cast h
  omega
 by_cases hc:0<c
 .have G:s[r]?=some (.lst [.int c,.int m]):=hs
  simp[aj5,ixM,G,ixn,hc,as3 Y,az1 Y Z,setIx,tk]
  exact ao2 (λ _=>rfl) (by nofun) rfl
 .have a0:c=0:=by omega
  subst a0
  have G:s[r]?=some (.lst [.int 0,.int m]):=hs
  simp[aj5,ixM,G,ixn]
  refine br5 (λ k U t=>∃ B F room:Nat,U=[some (.ref r),some (.int many),none,some (.int F),some (.int room)]/\t=s.set r (zS (0,B))/\many<=room*1073741789^k/\tkW many k B F room=tkW many 12 m 0 1)
   (λ U t=>∃ room:Nat,U=[some (.ref r),some (.int many),none,some (.int (tkW many 12 m 0 1).1),some (.int room)]/\t=s.set r (zS (0,(tkW many 12 m 0 1).2))) 12 ⟨m,0,1,by simp,?_,?_,rfl⟩ ?_ ?_
  .have e:s[r]=zS (0,m):=(ae.mp hs).2
   rw[<-e,gN]
  .refine av h ?_
   decide +kernel
  .rintro k U t ⟨B,F,room,rfl,rfl,J,he⟩
   by_cases hlt:room<many
   .simp only[ad7,ad2,ad1,ad3,R.bind_ok,ad8,bw3,jc,hlt,decide_true,if_true]
    cases k with
    | zero=>simp at J;omega
    | succ k =>
     have h1:(s.set r (zS (0,B)))[r]?=some (.lst [.int 0,.int B]):=by rw[aZ hr];rfl
     have m1:∀ a:Int,mulOk a 48271=true:=λ a=>aB1 (by decide)
     have m2:∀ a:Int,mulOk a 1073741789=true:=λ a=>aB1 (by decide)
     have m3:∀ a:Int,mulOk a 69621=true:=λ a=>aB1 (by decide)
     refine aV3 ?_ ⟨k,cC k,(B*48271+7919) % 2147483647,F*1073741789+(B*48271+7919) % 2147483647 / 8*69621 % 1073741789,room*1073741789,rfl,rfl,?_,?_⟩
     .simp[ixM,h1,ixn,ao1 (m1 _),as3,setIx,hr,ao1 (m2 _),ao1 (m3 _),az1,zS]
     .rw[Nat.pow_succ]at J
      rw[Nat.mul_assoc,kr 1073741789];exact J
     .rw[<-he,bp0 hlt]
   .simp only[ad7,ad2,ad1,ad3,R.bind_ok,ad8,bw3,jc,hlt,decide_false,if_false,ac]
    refine⟨room,?_,?_⟩
    .rw[<-he,bf5 (by omega)]
    .rw[<-he,bf5 (by omega)]
  .rintro U t ⟨room,rfl,rfl⟩
   simp[as3 Y,tk]
   exact ao2 (λ _=>rfl) (by nofun) rfl
noncomputable def bt1 (at_:Int)(ns:List Int):Nat->Int
 | 0=>7919*at_+17
 | k+1=>(bt1 at_ ns k*48271+(ns.getD k 0) % 2147483647+k) % 2147483629
theorem bx3 (at_:Int)(h:0<=at_)(ns:List Int):∀ k,0<=bt1 at_ ns k
 | 0=>by unfold bt1;omega
 | k+1=>by unfold bt1;exact Int.emod_nonneg _ (by decide)
noncomputable def cellF (ns:List Int)(at_:Nat):Nat:=if 10^18<=(ns.getD at_ 0).natAbs then(ns.getD at_ 0).natAbs else 0
noncomputable def bL1 (ns:List Int)(at_:Nat):Nat×Nat:=(cellF ns at_,(bt1 at_ ns (min ns.length 60)).toNat)
theorem bW3 {P:Pr}[Has P aG2](n:Nat)(ns:List Int)(at_:Nat)(s:Sto)(r:Nat)(hs:s[r]?=some (.ro (ns.map D.int)))(hl:ns.length<=63) :
  (aa4 P (n+1)).call "_law_bag" [.ref r,.int at_] s=.ok (.ref s.length) (s++[zS (bL1 ns at_)]):=by
 refine(zd aG2 rfl).trans ?_
 have m1:∀ a:Int,mulOk 7919 a=true:=λ a=>bA5 (by decide)
 have m2:∀ a:Int,mulOk a 48271=true:=λ a=>aB1 (by decide)
 have B:bi .len [.ref r] s=.ok (.int ns.length) s:=by rw[bO7 hs,aE]
 have G:∀(c:Int),(c<10^18->cellF ns at_=0)->(10^18<=c->(cellF ns at_:Int)=c) ->
   (exs (aa4 P n) (.cons (.asg (.one 3) (.bin .add (.bin .mul (.cst (.int 7919)) (.var 1)) (.cst (.int 17)))) (.cons (.for_ (.one 4) (.rng1 (.bi .min2 (.cons (.bi .len (.cons (.var 0) .nil)) (.cons (.cst (.int 60)) .nil)))) (.cons (.asg (.one 3) (.bin .mod (.bin .add (.bin .add (.bin .mul (.var 3) (.cst (.int 48271))) (.bin .mod (.ix (.var 0) (.var 4)) (.cst (.int 2147483647)))) (.var 4)) (.cst (.int 2147483629)))) .nil)) (.cons (.ite (.cmp .lt (.var 2) (.bin .pow (.cst (.int 10)) (.cst (.int 18)))) (.cons (.asg (.one 2) (.cst (.int 0))) .nil) .nil) (.cons (.ret (.lst (.cons (.var 2) (.cons (.var 3) .nil)))) .nil)))) [some (.ref r),some (.int at_),some (.int c),none,none] s).bind (fin s)=.ok (.ref s.length) (s++[zS (bL1 ns at_)]):=by
  intro c h1 h2
  simp[ao1 (m1 _),B]
  have hk:(if(60:Int)<(ns.length:Int)then 60 else(ns.length:Int))=((min ns.length 60:Nat):Int):=by omega
  rw[hk,qt (by unfold Ww62;omega) (by unfold Ww62;omega)]
  simp only[R.bind_ok]
  refine bk3 (λ j U t=>t=s/\∃ x,U=[some (.ref r),some (.int at_),some (.int c),some (.int (bt1 at_ ns j)),x]) ⟨rfl,none,rfl⟩ (λ _ _ _ _ _=>rfl) ?_ ?_
  .rintro j d U t hj ⟨rfl,x,rfl⟩
   have a1:j<min ns.length 60:=by have:=(ae.mp hj).1;simpa [qN]using this
   have hd:d=.int (j:Int):=by simpa [qN,a1]using hj.symm
   subst hd
   refine aV3 ?_ ⟨rfl,some (.int (j:Int)),rfl⟩
   have hx:ixM (.ref r) (.int (j:Int)) t=.ok (.int (ns.getD j 0)) t:=bN3 hs (by simp[show j<ns.length by omega])
   simp[turn,ao1 (m2 _),hx,as3,bt1]
  .rintro U t ⟨rfl,x,rfl⟩
   have a0:(qN 0 ((min ns.length 60:Nat):Int)).length=min ns.length 60:=by simp[qN]
   rw[a0]
   have J:=bx3 at_ (by omega) ns (min ns.length 60)
   have F:∀ Z,(Z:Int)=cellF ns at_->zr t (.ref t.length) (t++[.lst [.int Z,.int (bt1 at_ ns (min ns.length 60))]])=.ok (.ref t.length) (t++[zS (bL1 ns at_)]):=by
    intro Z Y
    have:=ar9 (s:=t) (t:=[]) (u:=[]) (o:=zS (bL1 ns at_)) rfl
    simp only[eZ,kA,cL]at this
    rw[<-this]
    simp[zS,bL1,Y,e7 J]
   by_cases h:c<10^18
   .have h':c<1000000000000000000:=h
    simp[aK2,h']
    exact F 0 (by rw[h1 h];rfl)
   .have h':¬ c<1000000000000000000:=h
    simp[aK2,h']
    exact F c (h2 (by omega)).symm
 by_cases hat:at_<ns.length
 .have hx:ixM (.ref r) (.int at_) s=.ok (.int (ns.getD at_ 0)) s:=bN3 hs (by simp[hat])
  have e:=G (if ns.getD at_ 0<0 then -ns.getD at_ 0 else ns.getD at_ 0) (by unfold cellF;intro h;rw[if_neg (by omega)]) (by unfold cellF;intro h;rw[if_pos (by omega)];omega)
  rw[<-e]
  simp[aG2,B,hat,hx]
 .have e:=G 0 (by unfold cellF;intro h;rw[if_neg];rw[bE,bR (by omega)];decide) (by intro h;exact absurd h (by decide))
  rw[<-e]
  simp[aG2,B,hat]
theorem aA6 {s t:Sto}{r:Nat}{o:O}(h:r<s.length):(s++t).set r o=s.set r o++t:=by rw[cy,if_pos h]
theorem zo {s t:Sto}{r:Nat}{o:O}(h:s[r]?=some o):(s++t)[r]?=some o:=by
 rw[aI (ae.mp h).1];exact h
theorem qc {s:Sto}{r:Nat}{o:O}(h:r<s.length):(s.set r o)[r]?=some o:=aZ h
theorem aO6 {P:Pr}[Has P aj5](n:Nat)(b:Nat×Nat)(many:Int)(h0:0<many)(h:many<=10^90)(s:Sto)(r:Nat)(hs:s[r]?=some (zS b)) :
  (aa4 P (n+1)).call "_law_take" [.ref r,.int many] s=.ok (.int (tk b many.toNat).1) (s.set r (zS (tk b many.toNat).2)):=by
 have:=bF5 n b many.toNat (P:=P) (by omega) (by have:many<=((10^90:Nat):Int):=(by simpa using h);omega) s r hs
 rwa [show((many.toNat:Nat):Int)=many by omega]at this
noncomputable def bd (b:Nat×Nat):Nat×(Nat×Nat) :=
 let x0:=tk b 3
 let x1:=tk x0.2 13
 let x2:=tk x1.2 1000000000
 let x3:=tk x2.2 1000000000000000000000000000000
 let i:=tk x3.2 4
 ([x0.1,x1.1,x2.1,x3.1].getD i.1 0,i.2)
theorem bq0 {P:Pr}[Has P aj5][Has P al3](n:Nat)(b:Nat×Nat)(s:Sto)(r:Nat)(hs:s[r]?=some (zS b)) :
  (aa4 P (n+2)).call "_law_bound" [.ref r] s=.ok (.int (bd b).1) (s.set r (zS (bd b).2)):=by
 refine(zd al3 rfl).trans ?_
 have hr:r<s.length:=(ae.mp hs).1
 have T:=λ b many h0 h s r hs=>aO6 (P:=P) n b many h0 h s r hs
 simp[al3,aK2,T _ 3 (by decide) (by decide) _ _ hs]
 rw[T _ 13 (by decide) (by decide) _ _ (qc hr)]
 simp[hr]
 rw[T _ 1000000000 (by decide) (by decide) _ _ (qc hr)]
 simp[hr]
 rw[T _ 1000000000000000000000000000000 (by decide) (by decide) _ _ (qc hr)]
 simp[hr]
 rw[T _ 4 (by decide) (by decide) _ _ (zo (qc hr))]
 have G:=bZ1 (tk (tk (tk (tk b 3).2 13).2 1000000000).2 1000000000000000000000000000000).2 (many:=4) (by decide)
 rw[aA6 (by simpa using hr),b8]
 simp only[R.bind_ok,Int.reduceToNat]
 generalize B:tk (tk (tk (tk (tk b 3).2 13).2 1000000000).2 1000000000000000000000000000000).2 4=i at G
 have F:∀(l:List D) (t:Sto) (q:Nat) (d:D),t[q]?=some (.lst l)->l[i.1]?=some d->ixM (.ref q) (.int (i.1:Int)) t=.ok d t:=λ l t q d Y J=>am1 Y J
 rw[F [.int (tk b 3).1,.int (tk (tk b 3).2 13).1,.int (tk (tk (tk b 3).2 13).2 1000000000).1,.int (tk (tk (tk (tk b 3).2 13).2 1000000000).2 1000000000000000000000000000000).1] _ _ (.int (bd b).1) (by simp) ?_]
 .simp only[R.bind_ok,ab7,bd,B]
  exact as8 (λ _=>rfl) (by nofun) rfl
 .unfold bd
  simp only[B]
  obtain⟨i,Z⟩:=i
  match i,G with
  | 0,_=>rfl
  | 1,_=>rfl
  | 2,_=>rfl
  | 3,_=>rfl
section
variable {F:Fns} {U:Env} {s:Sto}
noncomputable def ap0 (F:Fns)(tg:Tg)(e:E)(d:D)(U:Env)(s:Sto):R (Option D×Env):=match zQ U tg d with
 | some U=>(ev F e U s).bind λ v s=>.ok (some v,U) s
 | none=>.bad
noncomputable def aA3 (F:Fns)(tg:Tg)(c e:E)(d:D)(U:Env)(s:Sto):R (Option D×Env):=match zQ U tg d with
 | some U=>tru (ev F c U s) λ k s=>if k then(ev F e U s).bind λ v s=>.ok (some v,U) s else .ok (none,U) s
 | none=>.bad
@[simp] theorem am0 (tg:Tg) (it:I) (e:E) (h:yD):evL F (.comp tg it e h) U s=(evI F it U s).bind λ q s0=>if q.its.length<=LIM then ak5 (λ s=>chk s0 s q.src) (ap0 F tg e) q.its (qf U h) s0 else .bad:=rfl
@[simp] theorem qF (tg:Tg) (it:I) (c e:E) (h:yD):evL F (.compIf tg it c e h) U s=(evI F it U s).bind λ q s0=>if q.its.length<=LIM then ak5 (λ s=>chk s0 s q.src) (aA3 F tg c e) q.its (qf U h) s0 else .bad:=rfl
@[simp] theorem bw8 (a h:E):ev F (.slU a h) U s=(ev F a U s).bind λ x s=>(ev F h U s).bind λ y s=>match y with|.int i=>slM x none (some i) s|_=>.bad:=rfl
@[simp] theorem cn6 (a h:E):ev F (.slL a h) U s=(ev F a U s).bind λ x s=>(ev F h U s).bind λ y s=>match y with|.int i=>slM x (some i) none s|_=>.bad:=rfl
end
theorem ql {ok:Sto->Bool}{g:D->Env->Sto->R (Option D×Env)}(P:Env->Sto->Prop)(f:D->Option D):∀(l:List D) (U:Env) (s:Sto),P U s ->
  (∀ U s,P U s->ok s=true)->(∀ d∈l,∀ U s,P U s->∃ U' s',g d U s=.ok (f d,U') s'/\P U' s')->∃ U' s',ak5 ok g l U s=.ok (l.filterMap f) s'/\P U' s'
 | [],U,s,h,o,_=>⟨U,s,by unfold ak5;rw[if_pos (o U s h)];rfl,h⟩
 | d::l,U,s,h,o,st=>by
  obtain⟨U1,s1,e1,B⟩:=st d (aC ..) U s h
  obtain⟨U2,s2,e2,F⟩:=ql P f l U1 s1 B o λ x hx=>st x (aq _ hx)
  refine⟨U2,s2,?_,F⟩
  unfold ak5
  rw[if_pos (o U s h),e1]
  simp only[R.bind_ok]
  rw[e2,aY]
  cases f d<;>rfl
theorem qO {P:Pr}[Has P aj5](n:Nat){s:Sto}{r:Nat}(hs:∃ b,s[r]?=some (zS b))(many:Int)(h0:0<many)(h:many<=10^90) :
  ∃(k:Nat) (b:Nat×Nat),(k:Int)<many/\(aa4 P (n+1)).call "_law_take" [.ref r,.int many] s=.ok (.int k) (s.set r (zS b)):=by
 obtain⟨b,hb⟩:=hs
 have:=bZ1 b (many:=many.toNat) (by omega)
 exact⟨(tk b many.toNat).1,(tk b many.toNat).2,by omega,aO6 n b many h0 h s r hb⟩
theorem aA2 {k:Int}(h:k<=1000):k<=10^90:=Int.le_trans h (by decide)
theorem az8 {s:Sto}{r:Nat}{b:Nat×Nat}(h:r<s.length):∃ B,(s.set r (zS b))[r]?=some (zS B):=⟨b,qc h⟩
theorem bw6 {s:Sto}{r:Nat}(h:∃ b,s[r]?=some (zS b)):r<s.length:=by obtain⟨b,hb⟩:=h;exact(ae.mp hb).1
theorem be5 {k:Int}{s:Sto}(h:0<=k/\k<=1000000):ao3 .shl (.int 1) (.int k) s=.ok (.int (1*2^k.toNat)) s:=by
 show(if 0<=k/\k<=1000000/\(1:Int).natAbs<2^64 then _ else _:M D) s=_
 rw[if_pos ⟨h.1,h.2,by decide⟩];rfl
theorem zz {l:List D}(h:∀ d∈l,∀ n,d.bnd n=true)(n:Nat):D.bndL n l=true:=by
 induction l with
 | nil=>rfl
 | cons d l ih=>unfold D.bndL;rw[h d (aC ..),ih λ x hx=>h x (aq _ hx)];rfl
noncomputable def aC2 (bits:Nat):D->Option D
 | .int i=>if(bits:Int) / (1*2^i.toNat) % 2=1 then some (.int i)else none
 | _=>none
theorem bb5 {h:Nat}{l:List D}:∀ d∈l.filterMap (aC2 h),∀ n,d.bnd n=true:=λ d hd n=>by
 obtain⟨x,hx,e⟩:=cF.mp hd
 cases x with
 | int i =>
  simp only[aC2]at e
  split at e
  .cases e;rfl
  .cases e
 | _=>cases e
theorem aT4 {P:Pr}[Has P aj5][Has P ak1](n:Nat){s:Sto}{r:Nat}(hs:∃ b,s[r]?=some (zS b))(k:Int)(h0:0<=k)(h:k<=5) :
  ∃(B:Nat) (b:Nat×Nat),(aa4 P (n+2)).call "_law_rooms" [.ref r,.int k] s=.ok (.tup ((qN 0 k).filterMap (aC2 B))) (s.set r (zS b)):=by
 have e0:(aa4 P (n+2)).call "_law_rooms" [.ref r,.int k] s=_:=zd ak1 (n:=n+1) rfl
 have hr:=bw6 hs
 have hp:(1:Int)*2^k.toNat<=32:=by
  have:k.toNat<=5:=by omega
  have G:(2:Nat)^k.toNat<=2^5:=hG (by decide) this
  have h3:((2^k.toNat:Nat):Int)<=32:=by exact_mod_cast G
  rw[fJ];simpa using h3
 have Y:(0:Int)<1*2^k.toNat:=by rw[fJ];exact Int.pow_pos (by decide)
 obtain⟨B,b,hb,eb⟩:=qO (P:=P) n hs (1*2^k.toNat) Y (aA2 (by omega))
 rw[e0]
 simp only[ak1,zh,ae1,ab6,ab5,aa5,ad2,ae5,ae0,ad9,a7,d7,bT,cL,ad1,ad3,R.bind_ok,be5 ⟨h0,by omega⟩,eb,qw]
 simp only[aA,ad5,ad0,ag,aa1,R.bind_ok,zm,zh,ab4,ae4,ag3,qF,aa6,ad2,ad1,ad3]
 rw[qt (by unfold Ww62;omega) (by unfold Ww62;omega)]
 simp only[R.bind_ok]
 rw[if_pos (by simp[qN];unfold LIM;omega)]
 have key:∃(U':Env) (s':Sto),ak5 (λ J=>chk (s.set r (zS b)) J []) (aA3 (aa4 P (n+1)) (.one 0) (.cmp .eq (.bin .mod (.bin .fdiv (.var 1) (.bin .shl (.cst (.int 1)) (.var 0))) (.cst (.int 2))) (.cst (.int 1))) (.var 0)) (qN 0 k) (qf [some (.ref r),some (.int k),some (.int B)] [none,some 2]) (s.set r (zS b))=.ok ((qN 0 k).filterMap (aC2 B)) s'/\(s'=s.set r (zS b)/\∃ x,U'=[x,some (D.int B)]):=by
  refine ql (λ U u=>u=s.set r (zS b)/\∃ x,U=[x,some (.int B)]) (aC2 B) (qN 0 k) _ _ ⟨rfl,none,rfl⟩ (λ _ _ _=>rfl) ?_
  rintro d hd U u ⟨rfl,x,rfl⟩
  obtain⟨j,hj⟩:=bV hd
  obtain⟨G,rfl⟩:=an0 hj
  refine⟨[some (.int (0+j)),some (.int B)],_,?_,rfl,_,rfl⟩
  have Z:j<5:=by omega
  have a0:(1:Int)*2^((0:Int)+j).toNat<=32:=by
   have:((0:Int)+j).toNat<=5:=by omega
   have G:(2:Nat)^((0:Int)+j).toNat<=2^5:=hG (by decide) this
   have h3:((2^((0:Int)+j).toNat:Nat):Int)<=32:=by exact_mod_cast G
   rw[fJ];simpa using h3
  have F:(0:Int)<1*2^((0:Int)+j).toNat:=by rw[fJ];exact Int.pow_pos (by decide)
  unfold aA3
  simp only[qw,ad0,ad7,ae5,ad2,ae0,ad9,ad1,ad3,R.bind_ok]
  rw[be5 ⟨by omega,by omega⟩]
  simp only[R.bind_ok]
  rw[az1 F (by omega)]
  simp only[R.bind_ok]
  rw[as3 (by decide)]
  simp only[R.bind_ok,ae3,ad4]
  simp[aC2]
  split<;>rfl
 obtain⟨U',s',e,h1⟩:=key
 rw[e]
 obtain⟨rfl,_⟩:=h1
 refine⟨B,b,?_⟩
 simp only[R.bind_ok,mk,ac1,ab7]
 exact ao2 (λ m=>by unfold D.bnd;exact zz bb5 m) (by nofun) rfl
theorem cc2 {k:Nat}(h:k<3)(s:Sto):ixM (.str [97,98,99]) (.int (k:Int)) s=.ok (.str [97+k]) s:=by
 match k,h with
 | 0,_=>rfl
 | 1,_=>rfl
 | 2,_=>rfl
theorem ax7 {P:Pr}[Has P aj5](n:Nat){s t:Sto}{r:Nat}(hr:r<s.length)(b:Nat×Nat)(many:Int)(h0:0<many)(h:many<=10^90) :
  ∃(k:Nat) (B:Nat×Nat),(k:Int)<many/\(aa4 P (n+1)).call "_law_take" [.ref r,.int many] (s.set r (zS b)++t)=.ok (.int k) (s.set r (zS B)++t):=by
 obtain⟨k,B,F,G⟩:=qO (P:=P) n (s:=s.set r (zS b)++t) (r:=r) ⟨b,zo (qc hr)⟩ many h0 h
 refine⟨k,B,F,?_⟩
 rw[G,aA6 (by rw[bp];exact hr),b8]
theorem bY6 {s t:Sto}{r:Nat}{b:Nat×Nat}{l:List D}{v:D}(h:l.length<LIM):meth .append (.ref s.length) [v] (s.set r (zS b)++(.lst l::t))=.ok .non (s.set r (zS b)++(.lst (l++[v])::t)):=by
 rw[an8 (l:=l) (by rw[aK (by simp)];simp) h]
 congr 1
 rw[cy,if_neg (by simp)]
 simp
theorem aJ7 {a b:List Nat}{s:Sto}(h:a.length+b.length<=LIM):ao3 .add (.str a) (.str b) s=.ok (.str (a++b)) s:=by
 show(if a.length+b.length<=LIM then _ else _:M D) s=_;rw[if_pos h];rfl
def Lts (L:Nat)(w:List Nat):Prop:=∀ c∈w,97<=c/\c<97+L
theorem rep_len (l:List Nat):∀ n,(rep n l).length=l.length*n
 | 0=>by simp[rep]
 | n+1=>by simp[rep,rep_len l n,jA];omega
noncomputable def bT8 (L:Nat)(d:D):Bool:=match d with
 | .str w=>decide (w.length<=200)&&w.all λ c=>decide (97<=c/\c<97+L)
 | _=>false
theorem be1 {P:Pr}{x:String}{v:D}[HasC P x v]{n:Nat}{U:Env}{s:Sto}:ev (aa4 P n) (.glob x) U s=.ok v s:=by
 show(match(aa4 P n).con x with|some d=>R.ok d s|none=>.bad)=_
 rw[bG8 (v:=v)]
noncomputable abbrev ak8:List D:=[.str [97],.str [98],.str [99]]
theorem bz2 {L:Nat}(h:L<=3)(s:Sto):slM (.tup ak8) none (some (L:Int)) s=.ok (.tup (ak8.take L)) s:=by
 match L,h with
 | 0,_=>rfl
 | 1,_=>rfl
 | 2,_=>rfl
 | 3,_=>rfl
theorem aW8 {P:Pr}[Has P ah2][HasC P "LETTERS" (.tup ak8)](n:Nat){L:Nat}(h:L<=3)(l:List D)(s:Sto):(aa4 P (n+1)).call "letters_of" [.tup (.int L::l)] s=.ok (.tup (ak8.take L)) s:=by
 refine(zd ah2 rfl).trans ?_
 have B:ixM (.tup (.int L::l)) (.int ((0:Nat):Int)) s=.ok (.int L) s:=ix_tup rfl
 simp -implicitDefEqProofs [ah2,be1 (v:=.tup ak8)]
 rw[show(0:Int)=((0:Nat):Int)from rfl,B]
 simp only[R.bind_ok]
 rw[bz2 h]
 simp -implicitDefEqProofs
 match L,h with
 | 0,_=>exact zp (λ _=>rfl) (by nofun)
 | 1,_=>exact zp (λ _=>rfl) (by nofun)
 | 2,_=>exact zp (λ _=>rfl) (by nofun)
 | 3,_=>exact zp (λ _=>rfl) (by nofun)
theorem qd {a b:D}{s:Sto}:zK .isin a b s=(inM a b s).bind λ r s=>.ok (.bl r) s:=rfl
theorem aR5 {a b:D}{s:Sto}:zK .notin a b s=(inM a b s).bind λ r s=>.ok (.bl (!r)) s:=rfl
theorem bW2 {L:Nat}{s:Sto}{k:Nat}(h:L<=3)(hk:s[k]?=some (.lst ak8)):slM (.ref k) none (some (L:Int)) s=.ok (.ref s.length) (s++[.lst (ak8.take L)]):=by
 unfold slM
 simp only[hk,aj1]
 match L,h with
 | 0,_=>rfl
 | 1,_=>rfl
 | 2,_=>rfl
 | 3,_=>rfl
@[simp] theorem cn7 {F:Fns} {U:Env} {s:Sto} (a:E):ev F (.neg a) U s=(ev F a U s).bind λ x s=>match x with|.int i=>.ok (.int (-i)) s|_=>.bad:=rfl
structure Dr where
 a:Nat
 l:Nat
 b:Nat
 t:Nat
noncomputable def Dr.d (x:Dr):D:=.tup [.int x.a,.str [x.l],.int x.b,.int x.t]
structure Mc where
 L:Nat
 R:Nat
 bg:List Nat
 en:List Nat
 ds:List Dr
noncomputable def qR (l:List Nat):List D:=l.map λ(k:Nat)=>D.int (k:Int)
noncomputable def sg (w:List Nat):List D:=w.map λ c=>.str [c]
noncomputable def Mc.ps (m:Mc):List D:=[.int m.L,.int m.R,.tup (qR m.bg),.tup (qR m.en),.tup (m.ds.map Dr.d)]
noncomputable def Mc.d (m:Mc):D:=.tup m.ps
structure Dr.Ok (m:Mc)(x:Dr):Prop where
 a:x.a<m.R
 l:97<=x.l/\x.l<97+m.L
 b:x.b<m.R
 t:x.t<4
structure Mc.Ok (m:Mc):Prop where
 L1:1<=m.L
 L3:m.L<=3
 R1:1<=m.R
 R5:m.R<=5
 bg:(∀ k∈m.bg,k<m.R)/\m.bg.Pairwise (· < ·)
 en:(∀ k∈m.en,k<m.R)/\m.en.Pairwise (· < ·)
 ds:(∀ x∈m.ds,x.Ok m)/\m.ds.length<=75
theorem aq4 {l:List Nat}:∀ d∈qR l,∀ n,d.bnd n=true:=λ d hd n=>by
 obtain⟨c,_,rfl⟩:=aQ.mp hd;rfl
theorem bb4 {l:List Dr}:∀ d∈l.map Dr.d,∀ n,d.bnd n=true:=λ d hd n=>by
 obtain⟨c,_,rfl⟩:=aQ.mp hd;rfl
theorem bB1 {m:Mc}:∀ d∈m.ps,∀ n,d.bnd n=true:=λ d hd n=>by
 simp only[Mc.ps,aH,bW,or_false]at hd
 rcases hd with rfl|rfl|rfl|rfl|rfl
 .rfl
 .rfl
 .unfold D.bnd;exact zz aq4 n
 .unfold D.bnd;exact zz aq4 n
 .unfold D.bnd;exact zz bb4 n
theorem bZ4 (m:Mc)(n:Nat):m.d.bnd n=true:=by unfold Mc.d D.bnd;exact zz bB1 n
noncomputable def aR3 (bits k:Nat):List Nat:=(a8 k).filter λ i=>decide (bits / 2^i % 2=1)
theorem bf1 (h k:Nat):(∀ i∈aR3 h k,i<k)/\(aR3 h k).Pairwise (· < ·) :=
 ⟨λ i B=>cS.mp (eU.mp B).1,kK _ gA⟩
theorem bk7 (B:Nat)(k:Nat):(qN 0 (k:Int)).filterMap (aC2 B)=qR (aR3 B k):=by
 unfold qN aR3 qR
 simp only[kx,bZ]
 rw[cY]
 induction (a8 k)with
 | nil=>rfl
 | cons i l ih =>
  rw[aY,f8]
  have e:((B:Int) / (1*2^((0:Int)+(i:Int)).toNat) % 2=1)↔(B / 2^i % 2=1):=by
   rw[fJ,show((0:Int)+(i:Int)).toNat=i by omega]
   have:((B:Int) / 2^i % 2)=((B / 2^i % 2:Nat):Int):=by simp
   rw[this];omega
  simp only[Function.comp,aC2]
  by_cases h:B / 2^i % 2=1
  .rw[if_pos (e.mpr h)]
   simp only[h,decide_true,if_true,a7]
   rw[<-ih,gB]
  .rw[if_neg λ z=>h (e.mp z)]
   simp only[h,decide_false]
   exact ih
theorem aN1 {P:Pr}[Has P aj5][Has P ak1](n:Nat){s:Sto}{r:Nat}(hs:∃ b,s[r]?=some (zS b))(k:Nat)(h:k<=5) :
  ∃(l:List Nat) (b:Nat×Nat),((∀ i∈l,i<k)/\l.Pairwise (· < ·))/\(aa4 P (n+2)).call "_law_rooms" [.ref r,.int k] s=.ok (.tup (qR l)) (s.set r (zS b)):=by
 obtain⟨B,b,e⟩:=aT4 (P:=P) n hs k (by omega) (by omega)
 rw[bk7]at e
 exact⟨_,b,bf1 B k,e⟩
def McR (s:Sto)(r:Nat)(x:R D):Prop:=∃(m:Mc) (b:Nat×Nat),m.Ok/\x=.ok m.d (s.set r (zS b))
section
variable {P:Pr}
theorem aJ4 {l:List D}{s:Sto}(j:Nat){d:D}(h:l[j]?=some d):ixM (.tup l) (.int (j:Int)) s=.ok d s:=ix_tup h
theorem ixL (m:Mc)(s:Sto):ixM m.d (.int 0) s=.ok (.int m.L) s:=aJ4 0 rfl
theorem ixR (m:Mc)(s:Sto):ixM m.d (.int 1) s=.ok (.int m.R) s:=aJ4 1 rfl
theorem ixB (m:Mc)(s:Sto):ixM m.d (.int 2) s=.ok (.tup (qR m.bg)) s:=aJ4 2 rfl
theorem ixE (m:Mc)(s:Sto):ixM m.d (.int 3) s=.ok (.tup (qR m.en)) s:=aJ4 3 rfl
theorem ixD (m:Mc)(s:Sto):ixM m.d (.int 4) s=.ok (.tup (m.ds.map Dr.d)) s:=aJ4 4 rfl
theorem au0 [Has P ah6](n:Nat)(m:Mc)(s:Sto):(aa4 P (n+1)).call "rooms_of" [m.d] s=.ok (.int m.R) s:=by
 refine(zd ah6 rfl).trans ?_
 simp -implicitDefEqProofs [ah6,ixR]
theorem qu {s:Sto}{l:List D}(h:∀ d∈l,∀ n,d.bnd n=true):zr s (.tup l) s=.ok (.tup l) s:=zp (λ n=>by unfold D.bnd;exact zz h n) (by nofun)
theorem aD7 [Has P ah9](n:Nat)(m:Mc)(s:Sto):(aa4 P (n+1)).call "begins_of" [m.d] s=.ok (.tup (qR m.bg)) s:=by
 refine(zd ah9 rfl).trans ?_
 simp -implicitDefEqProofs [ah9,ixB,qu aq4]
theorem aU8 [Has P ah8](n:Nat)(m:Mc)(s:Sto):(aa4 P (n+1)).call "ends_of" [m.d] s=.ok (.tup (qR m.en)) s:=by
 refine(zd ah8 rfl).trans ?_
 simp -implicitDefEqProofs [ah8,ixE,qu aq4]
theorem aJ1 [Has P ah7](n:Nat)(m:Mc)(s:Sto):(aa4 P (n+1)).call "doors_of" [m.d] s=.ok (.tup (m.ds.map Dr.d)) s:=by
 refine(zd ah7 rfl).trans ?_
 simp -implicitDefEqProofs [ah7,ixD,qu bb4]
@[simp] theorem cl6 (a b:Nat) (s:Sto):zK .ne (.str [a]) (.str [b]) s=.ok (.bl (!decide (a=b))) s:=by
 show(match eqv s DEEP (.str [a]) (.str [b])with|some r=>R.ok (D.bl (!r)) s|none=>.bad)=_
 have:eqv s DEEP (.str [a]) (.str [b])=some ([a]==[b]):=rfl
 rw[this]
 have e:([a]==[b])=decide (a=b):=by rw[gG];simp
 rw[e]
@[simp] theorem qC (a b:Nat) (s:Sto):zK .eq (.str [a]) (.str [b]) s=.ok (.bl (decide (a=b))) s:=by
 show(match eqv s DEEP (.str [a]) (.str [b])with|some r=>R.ok (D.bl r) s|none=>.bad)=_
 have:eqv s DEEP (.str [a]) (.str [b])=some ([a]==[b]):=rfl
 rw[this]
 have e:([a]==[b])=decide (a=b):=by rw[gG];simp
 rw[e]
end
theorem good_of {L:Nat}{w:List Nat}(h:w.length<=200)(hw:Lts L w):bT8 L (.str w)=true:=by
 unfold bT8
 simp only[h,decide_true,dJ,aX,decide_eq_true_eq]
 exact hw
@[simp] theorem cf5 {F:Fns} {U:Env} {s:Sto} (a h B:E):ev F (.slLU a h B) U s=(ev F a U s).bind λ x s=>(ev F h U s).bind λ y s=>match y with|.int i=>(ev F B U s).bind (λ z s=>match z with|.int j=>slM x (some i) (some j) s|_=>.bad)|_=>.bad:=rfl
theorem two {l:List D}(h:l.length=2):∃ a b,l=[a,b]:=by
 match l,h with
 | [a,b],_=>exact⟨a,b,rfl⟩
theorem cr7 {l:List D}(h:l.length=3):∃ a b c,l=[a,b,c]:=by
 match l,h with
 | [a,b,c],_=>exact⟨a,b,c,rfl⟩
@[simp] theorem cd9 {F:Fns} {U:Env} {s:Sto} (e:E):evI F (.enum (.seq e)) U s=(ev F e U s).bind λ d s=>(bn9 d s).bind λ q s=>.ok ⟨bJ5 0 q.its,q.src⟩ s:=rfl
noncomputable def row (m:Nat)(f:Nat->Int):List D:=(a8 m).map λ j=>.int (f j)
@[simp] theorem ch7 {m:Nat} {f:Nat->Int}:(row m f).length=m:=by unfold row;simp
theorem qB {l:List D}(s:Sto):aF7 (.tup l) s=.ok ⟨l,[]⟩ s:=rfl
theorem aO0 {ok:Sto->Bool}{g:D->Env->Sto->R (Option D×Env)}(P:Env->Sto->Prop)(f:D->D)(l:List D)(U:Env)(s:Sto)(h:P U s)
  (o:∀ U s,P U s->ok s=true) (st:∀ d∈l,∀ U s,P U s->∃ U' s',g d U s=.ok (some (f d),U') s'/\P U' s'):∃ U' s',ak5 ok g l U s=.ok (l.map f) s'/\P U' s':=by
 obtain⟨U',s',e,p⟩:=ql P (λ d=>some (f d)) l U s h o st
 refine⟨U',s',?_,p⟩
 rw[e];congr 1;induction l<;>simp_all
theorem aB5 {ok:Sto->Bool}{g:D->Env->Sto->R (Option D×Env)}(P:Env->Sto->Prop)(f:Nat->D)(n:Nat)(U:Env)(s:Sto)(h:P U s)
  (o:∀ U s,P U s->ok s=true) (st:∀ j,j<n->∀ U s,P U s->∃ U' s',g (.int (j:Int)) U s=.ok (some (f j),U') s'/\P U' s'):∃ U' s',ak5 ok g (qN 0 (n:Int)) U s=.ok ((a8 n).map f) s'/\P U' s':=by
 obtain⟨U',s',e,p⟩:=aO0 (g:=g) P (λ d=>match d with|.int i=>f i.toNat|d=>d) (qN 0 (n:Int)) U s h o λ d hd U s hp=>by
  obtain⟨j,hj⟩:=bV hd
  obtain⟨B,rfl⟩:=an0 hj
  obtain⟨U',s',e,p⟩:=st j (by omega) U s hp
  refine⟨U',s',?_,p⟩
  rw[gB,e];rfl
 refine⟨U',s',?_,p⟩
 rw[e]
 congr 1
 unfold qN
 rw[b7,show((n:Int) - 0).toNat=n by omega]
 exact iz λ j _=>by
  show f ((0:Int)+(j:Int)).toNat=f j
  congr 1;omega
theorem aB2 (n:Nat):(qN 0 (n:Int)).length=n:=by simp[qN]
noncomputable def prN (f g:Nat->Nat->Int)(i j:Nat):Nat->Int
 | 0=>3
 | k+1=>if f i k<3 then(let b:=(if g k j > f i k then g k j else f i k);if b<prN f g i j k then b else prN f g i j k)else prN f g i j k
noncomputable def pr (m:Nat)(f g:Nat->Nat->Int)(i j:Nat):Int:=prN f g i j m
noncomputable def ca2 (m:Nat)(f:Nat->Nat->Int):Sto:=(a8 m).map λ i=>.lst (row m (f i))
@[simp] theorem bS5 {m:Nat} {f:Nat->Nat->Int}:(ca2 m f).length=m:=by unfold ca2;simp
noncomputable def cs9 (p m:Nat):List D:=(a8 m).map λ i=>.ref (p+i)
@[simp] theorem cl2 {F:Fns} {U:Env} {s:Sto} (a b:E):evI F (.zip (.seq a) (.seq b)) U s=(ev F a U s).bind λ x s=>(ev F b U s).bind λ y s=>(aU4 x s).bind λ p s=>(aU4 y s).bind λ q s=>.ok ⟨cf3 p.its q.its,p.src++q.src⟩ s:=rfl
theorem ix_str {l:List Nat}{j c:Nat}{s:Sto}(hj:l[j]?=some c):ixM (.str l) (.int (j:Int)) s=.ok (.str [c]) s:=by
 have hl:j<l.length:=(ae.mp hj).1
 have e:l[j]=c:=(ae.mp hj).2
 simp[ixM,ixn,hl,e]
noncomputable def shN (f:Nat->Nat->Int)(i j:Nat):Nat->Int
 | 0=>3
 | k+1=>let b:=max (max (f i k) (if f k k=1 then 2 else f k k)) (f k j);if b<shN f i j k then b else shN f i j k
noncomputable def sh (m:Nat)(f:Nat->Nat->Int)(i j:Nat):Int:=shN f i j m
inductive Stp where
 | let_ (c:Nat)|pair (i j:Nat)|sharp (i:Nat)
noncomputable def Stp.d:Stp->D
 | .let_ c=>.tup [.str [108,101,116,116,101,114],.str [c]]
 | .pair i j=>.tup [.str [112,97,105,114],.int i,.int j]
 | .sharp i=>.tup [.str [115,104,97,114,112],.int i]
section
variable {s:Sto} {r:Nat} {b:Int} {A B Cc:List D} {T:Sto}
end
section
variable {m:Nat} {f:Nat->Nat->Int} {x:Int}
end
noncomputable def cg7 (a c:Int)(vs:List Int):Stp->Int
 | .let_ _=>a
 | .pair i j=>vs.getD i 0+vs.getD j 0
 | .sharp i=>vs.getD i 0*c
noncomputable def vl (a c:Int)(l:List Stp):List Int:=l.foldl (λ vs x=>vs++[cg7 a c vs x]) []
section
variable {F:Fns} {U:Env} {s:Sto}
end
noncomputable def Stp.t (c:Int):Stp->D
 | .sharp i=>.tup [.str [116,105,109,101,115],.int i,.int c]
 | x=>x.d
section
variable {P:Pr} [Has P bv3] [Has P au4] [HasL P an5]
end
noncomputable def ak3 (S:Int->Prop):Option Int->Prop
 | none=>∀ c,¬ S c
 | some c=>S c/\∀ c',S c'->c<=c'
theorem ak3.eq {S F:Int->Prop}{o B:Option Int}(h:ak3 S o)(h':ak3 F B)(e:∀ c,S c↔F c):o=B:=by
 cases o with
 | none =>
  cases B with
  | none=>rfl
  | some c=>exact absurd ((e c).mpr h'.1) (h c)
 | some c =>
  cases B with
  | none=>exact absurd ((e c).mp h.1) (h' c)
  | some c' =>
   have G:=h.2 c' ((e c').mpr h'.1)
   have J:=h'.2 c ((e c).mp h.1)
   rw[show c=c' by omega]
theorem ak3.congr {S F:Int->Prop}{o:Option Int}(h:ak3 S o)(e:∀ c,S c↔F c):ak3 F o:=by
 cases o with
 | none=>exact λ c hc=>h c ((e c).mpr hc)
 | some c=>exact⟨(e c).mp h.1,λ B hc=>h.2 B ((e B).mpr hc)⟩
noncomputable def minO:Option Int->Option Int->Option Int
 | none,x=>x
 | some a,none=>some a
 | some a,some b=>if b<a then some b else some a
theorem ak3.or {S F:Int->Prop}{o B:Option Int}(h:ak3 S o)(h':ak3 F B):ak3 (λ c=>S c\/F c) (minO o B):=by
 cases o with
 | none =>
  cases B with
  | none=>exact λ c hc=>hc.elim (h c) (h' c)
  | some b=>exact⟨.inr h'.1,λ c hc=>hc.elim (λ z=>absurd z (h c)) (h'.2 c)⟩
 | some a =>
  cases B with
  | none=>exact⟨.inl h.1,λ c hc=>hc.elim (h.2 c) (λ z=>absurd z (h' c))⟩
  | some b =>
   show ak3 _ (if b<a then some b else some a)
   by_cases hlt:b<a
   .rw[if_pos hlt]
    exact⟨.inr h'.1,λ c hc=>hc.elim (λ z=>by have:=h.2 c z;omega) (h'.2 c)⟩
   .rw[if_neg hlt]
    exact⟨.inl h.1,λ c hc=>hc.elim (h.2 c) (λ z=>by have:=h'.2 c z;omega)⟩
theorem ak3.add {S:Int->Prop}{o:Option Int}(h:ak3 S o)(k:Int):ak3 (λ c=>∃ B,S B/\c=B+k) (o.map (·+k)):=by
 cases o with
 | none=>rintro c ⟨B,h',_⟩;exact h B h'
 | some a=>exact⟨⟨a,h.1,rfl⟩,by rintro c ⟨B,h',rfl⟩;have:=h.2 B h';show a+k<=B+k;omega⟩
noncomputable def Dr.turn (x:Dr):Dr:=⟨x.b,x.l,x.a,x.t⟩
noncomputable def Mc.turn (m:Mc):Mc:=⟨m.L,m.R,m.en,m.bg,m.ds.map Dr.turn⟩
noncomputable def za (row:List (Option Int)):List D:=row.map zU
theorem ap3 (row:List (Option Int)):(za row).length=row.length:=aE ..
theorem ay7 {row:List (Option Int)}{k:Nat}{o:Option Int}(h:row[k]?=some o):(za row)[k]?=some (zU o):=by unfold za;rw[aS,h];rfl
def aJ3 (S:Nat->Int->Prop)(row:List (Option Int)):Prop:=∀ k o,row[k]?=some o->ak3 (S k) o
theorem aF1 {s:Sto}{k:Nat}:∀ {l:List Nat},inL s (.int k) (qR l)=some (decide (k∈l))
 | []=>rfl
 | a::l=>by
  have B:=aF1 (s:=s) (k:=k) (l:=l)
  have e:eqv s DEEP (.int (a:Int)) (.int (k:Int))=some ((a:Int)==(k:Int)):=rfl
  show(match eqv s DEEP (.int (a:Int)) (.int (k:Int)),inL s (.int k) (qR l)with|some a,some b=>some (a||b)|_,_=>none)=_
  rw[e,B]
  show some (((a:Int)==(k:Int))||decide (k∈l))=some _
  congr 1
  rw[gG]
  simp
  constructor
  .rintro(h|h)
   .exact .inl (by omega)
   .exact .inr h
  .rintro(h|h)
   .exact .inl (by omega)
   .exact .inr h
theorem az2 {s:Sto}{k:Nat}{l:List Nat}:inM (.int k) (.tup (qR l)) s=.ok (decide (k∈l)) s:=by unfold inM;simp only[aF1]
theorem aY2 (b:Bool)(s:Sto):bi .int [.bl b] s=.ok (.int (if b then 1 else 0)) s:=by cases b<;>rfl
theorem aw3:∀ l:List Int,qg (l.map D.int)=some l
 | []=>rfl
 | a::l=>by rw[a7];unfold qg;rw[aw3 l];rfl
theorem aE3:∀(l:List Int) (a:Int),(l.foldl min a=a\/l.foldl min a∈l)/\l.foldl min a<=a/\∀ y∈l,l.foldl min a<=y
 | [],a=>⟨.inl rfl,fG _,λ y hy=>by cases hy⟩
 | b::l,a=>by
  obtain⟨B,F,h3⟩:=aE3 l (min a b)
  rw[c6]
  refine⟨?_,by omega,λ y hy=>?_⟩
  .rcases B with h|h
   .rw[h]
    rcases kz a b with z|z
    .left;omega
    .right;rw[show min a b=b by omega];exact aC ..
   .exact .inr (aq _ h)
  .rcases aH.mp hy with z|z
   .rw[z];omega
   .exact h3 y z
theorem ax1 (l:List Int):ak3 (λ c=>c∈l) (minI l):=by
 cases l with
 | nil=>exact λ c hc=>by cases hc
 | cons a l =>
  obtain⟨B,F,h3⟩:=aE3 l a
  refine⟨?_,λ y hy=>?_⟩
  .rcases B with h|h
   .rw[h];exact aC ..
   .exact aq _ h
  .rcases aH.mp hy with z|z
   .rw[z];exact F
   .exact h3 y z
theorem bj2 (l:List Int)(s:Sto):mkD .min (l.map D.int) .non s=.ok (zU (minI l)) s:=by
 unfold mkD
 simp only[aw3]
 cases minI l<;>rfl
def aJ5 (S:Nat->Int->Prop)(x:Nat)(ds:List Dr)(k:Nat)(c:Int):Prop:=∃ d∈ds,d.l=x/\d.b=k/\∃ c':Int,S d.a c'/\c=c'+(d.t:Int)
theorem aC6 {S:Nat->Int->Prop}{x:Nat}{F:List Dr}{d:Dr}{th:List (Option Int)}(h:aJ3 (aJ5 S x F) th)(hn:∀ B,¬(d.l=x/\S d.a B)):aJ3 (aJ5 S x (F++[d])) th:=λ k o hk=>by
 refine(h k o hk).congr λ c=>?_
 constructor
 .rintro⟨e,he,r⟩;exact⟨e,aP.mpr (.inl he),r⟩
 .rintro⟨e,he,hl,hb,B,hs,r⟩
  rcases aP.mp he with z|z
  .exact⟨e,z,hl,hb,B,hs,r⟩
  .rw[ay.mp z]at hl hs;exact absurd ⟨hl,hs⟩ (hn B)
theorem bf6 {S:Nat->Int->Prop}{x:Nat}{B:List Dr}{d:Dr}{th:List (Option Int)}{i:Int}(h:aJ3 (aJ5 S x B) th)(hx:d.l=x)(G:ak3 (S d.a) (some i)){o:Option Int}(ho:th[d.b]?=some o) :
  aJ3 (aJ5 S x (B++[d])) (th.set d.b (minO o (some (i+d.t)))):=λ k F hk=>by
 have hlt:d.b<th.length:=(ae.mp ho).1
 by_cases e:d.b=k
 .subst e
  rw[aZ hlt]at hk
  cases hk
  refine((h _ o ho).or (G.add d.t)).congr λ c=>?_
  constructor
  .rintro(⟨e,he,r⟩|r)
   .exact⟨e,aP.mpr (.inl he),r⟩
   .exact⟨d,aP.mpr (.inr (ay.mpr rfl)),hx,rfl,r⟩
  .rintro⟨e,he,hl,hb,r⟩
   rcases aP.mp he with z|z
   .exact .inl ⟨e,z,hl,hb,r⟩
   .rw[ay.mp z]at r;exact .inr r
 .rw[aU e]at hk
  refine(h k F hk).congr λ c=>?_
  constructor
  .rintro⟨e,he,r⟩;exact⟨e,aP.mpr (.inl he),r⟩
  .rintro⟨e',he,hl,hb,r⟩
   rcases aP.mp he with z|z
   .exact⟨e',z,hl,hb,r⟩
   .rw[ay.mp z]at hb;exact absurd hb e
theorem qy {α β:Type}{f g:α->Option β}:∀ {l:List α},(∀ x∈l,f x=g x)->l.filterMap f=l.filterMap g
 | [],_=>rfl
 | a::l,h=>by rw[aY,aY,h a (aC ..),qy λ x hx=>h x (aq _ hx)]
noncomputable def addO:Option Int->Option Int->Option Int
 | some a,some b=>some (a+b)
 | _,_=>none
theorem as0:∀ l:List (Option Int),(za l).filterMap (λ d=>if d=D.non then none else some d)=(l.filterMap id).map D.int
 | []=>rfl
 | o::l=>by
  have h:=as0 l
  unfold za at h ⊢
  cases o with
  | none=>rw[a7,aY,aY];simpa using h
  | some i=>rw[a7,aY,aY];simpa using h
theorem aR9 {P:Pr}[Has P ai2](n:Nat){s:Sto}{q:Nat}{l:List (Option Int)}(hq:s[q]?=some (.lst (za l)))(hl:l.length<=1000):(aa4 P (n+1)).call "least" [.ref q] s=.ok (zU (minI (l.filterMap id))) s:=by
 have F:(aa4 P (n+1)).call "least" [.ref q] s=_:=zd ai2 (n:=n) rfl
 rw[F,show(cH some [D.ref q]++aA ai2.vs none)=[some (D.ref q)]from rfl]
 have B:aF7 (.ref q) s=.ok ⟨za l,[q]⟩ s:=by simp only[aF7,hq]
 obtain⟨U1,s1,e1,rfl,_⟩:=ql (ok:=λ s1=>chk s s1 [q]) (g:=aA3 (aa4 P n) (.one 0) (.notN (.var 0)) (.var 0)) (λ U u=>u=s/\∃ x,U=[x]) (λ d=>if d=D.non then none else some d) (za l) [none] s ⟨rfl,none,rfl⟩ (λ _ u h=>by obtain⟨rfl,_⟩:=h;simp[chk]) (by
  rintro d hd U u ⟨rfl,x,rfl⟩
  refine⟨[some d],u,?_,rfl,_,rfl⟩
  unfold aA3
  by_cases hn:d=.non
  .simp -implicitDefEqProofs only[zh,ab4,ae1,ae8,ae4,ag6,ad6,af3,ab2,ac6,ac8,ag0,ad2,ae0,ae5,af9,ad7,af5,ag5,af4,af6,ae7,ag2,ab6,ag7,ag3,af1,af2,ac4,ac7,ag1,ac5,ac0,aa8,aa5,ab5,ac2,aa6,ac3,ag4,ad9,af8,ae9,R.bind_ok,qw,aa3,aa2,aa0,ad5,ad0,ab1,ab3,ad1,ad3,ag,af,aa1,zm,ac1,aa9,ab7,ab0,ab8,ab9,ad8,af0,ae6,ae2,ae3,af7,aa7,ad4,if_true,if_false,ac,decide_true,decide_false,am,aj,hn]
  .simp -implicitDefEqProofs only[zh,ab4,ae1,ae8,ae4,ag6,ad6,af3,ab2,ac6,ac8,ag0,ad2,ae0,ae5,af9,ad7,af5,ag5,af4,af6,ae7,ag2,ab6,ag7,ag3,af1,af2,ac4,ac7,ag1,ac5,ac0,aa8,aa5,ab5,ac2,aa6,ac3,ag4,ad9,af8,ae9,R.bind_ok,qw,aa3,aa2,aa0,ad5,ad0,ab1,ab3,ad1,ad3,ag,af,aa1,zm,ac1,aa9,ab7,ab0,ab8,ab9,ad8,af0,ae6,ae2,ae3,af7,aa7,ad4,if_true,if_false,ac,decide_true,decide_false,am,aj,hn])
 rw[as0]at e1
 simp -implicitDefEqProofs only[ai2]
 simp -implicitDefEqProofs only[zh,ab4,ae1,ae8,ae4,ag6,ad6,af3,ab2,ac6,ac8,ag0,ad2,ae0,ae5,af9,ad7,af5,ag5,af4,af6,ae7,ag2,ab6,ag7,ag3,af1,af2,ac4,ac7,ag1,ac5,ac0,aa8,aa5,ab5,ac2,aa6,ac3,ag4,ad9,af8,ae9,R.bind_ok,qw,aa3,aa2,aa0,ad5,ad0,ab1,ab3,ad1,ad3,ag,af,aa1,zm,ac1,aa9,ab7,ab0,ab8,ab9,ad8,af0,ae6,ae2,ae3,af7,aa7,ad4,if_true,if_false,ac,decide_true,decide_false,am,aj,qF,B,if_pos (show(za l).length<=LIM by rw[ap3];unfold LIM;omega),show qf [some (D.ref q)] [none]=[none]from rfl,e1,bj2]
 exact aw2
theorem bq8 {P:Pr}[Has P aj0](n:Nat)(a b:Option Int)(s:Sto):(aa4 P (n+1)).call "added" [zU a,zU b] s=.ok (zU (addO a b)) s:=by
 have h:(aa4 P (n+1)).call "added" [zU a,zU b] s=_:=zd aj0 (n:=n) rfl
 rw[h,show(cH some [zU a,zU b]++aA aj0.vs none)=[some (zU a),some (zU b)]from rfl]
 simp -implicitDefEqProofs only[aj0]
 cases a with
 | none=>simp -implicitDefEqProofs only[zh,ab4,ae1,ae8,ae4,ag6,ad6,af3,ab2,ac6,ac8,ag0,ad2,ae0,ae5,af9,ad7,af5,ag5,af4,af6,ae7,ag2,ab6,ag7,ag3,af1,af2,ac4,ac7,ag1,ac5,ac0,aa8,aa5,ab5,ac2,aa6,ac3,ag4,ad9,af8,ae9,R.bind_ok,qw,aa3,aa2,aa0,ad5,ad0,ab1,ab3,ad1,ad3,ag,af,aa1,zm,ac1,aa9,ab7,ab0,ab8,ab9,ad8,af0,ae6,ae2,ae3,af7,aa7,ad4,if_true,if_false,ac,decide_true,decide_false,am,aj,zP,show(D.non=D.non)=True from eq_self _];exact aD3
 | some a=>cases b with
  | none=>simp -implicitDefEqProofs only[zh,ab4,ae1,ae8,ae4,ag6,ad6,af3,ab2,ac6,ac8,ag0,ad2,ae0,ae5,af9,ad7,af5,ag5,af4,af6,ae7,ag2,ab6,ag7,ag3,af1,af2,ac4,ac7,ag1,ac5,ac0,aa8,aa5,ab5,ac2,aa6,ac3,ag4,ad9,af8,ae9,R.bind_ok,qw,aa3,aa2,aa0,ad5,ad0,ab1,ab3,ad1,ad3,ag,af,aa1,zm,ac1,aa9,ab7,ab0,ab8,ab9,ad8,af0,ae6,ae2,ae3,af7,aa7,ad4,if_true,if_false,ac,decide_true,decide_false,am,aj,zP,zt,show(D.non=D.non)=True from eq_self _,show(D.int a=D.non)=False from eq_false (by nofun)];exact aD3
  | some b=>simp -implicitDefEqProofs only[zh,ab4,ae1,ae8,ae4,ag6,ad6,af3,ab2,ac6,ac8,ag0,ad2,ae0,ae5,af9,ad7,af5,ag5,af4,af6,ae7,ag2,ab6,ag7,ag3,af1,af2,ac4,ac7,ag1,ac5,ac0,aa8,aa5,ab5,ac2,aa6,ac3,ag4,ad9,af8,ae9,R.bind_ok,qw,aa3,aa2,aa0,ad5,ad0,ab1,ab3,ad1,ad3,ag,af,aa1,zm,ac1,aa9,ab7,ab0,ab8,ab9,ad8,af0,ae6,ae2,ae3,af7,aa7,ad4,if_true,if_false,ac,decide_true,decide_false,am,aj,zt,show(D.int a=D.non)=False from eq_false (by nofun),show(D.int b=D.non)=False from eq_false (by nofun)];exact bi4
section
variable {P:Pr} [Has P bv3]
end
noncomputable def zC (m:Mc):List (Option Int):=(a8 m.R).map λ k=>if k∈m.bg then some 0 else none
noncomputable def bL6 (m:Mc)(row:List (Option Int))(x b:Nat):Option Int:=minI (((m.ds.filter λ d=>decide (d.l=x)&&decide (d.b=b)).map λ d=>addO (row.getD d.a none) (some (d.t:Int))).filterMap id)
noncomputable def bj4 (m:Mc)(row:List (Option Int))(x:Nat):List (Option Int):=(a8 m.R).map (bL6 m row x)
noncomputable def bE6 (m:Mc)(row:List (Option Int)):Option Int:=minI (m.en.filterMap λ q=>row.getD q none)
theorem qD {row:List (Option Int)}:∀ d∈za row,∀ n,d.bnd n=true:=λ d hd n=>by
 obtain⟨o,_,rfl⟩:=aQ.mp hd;exact ap6 _ n
theorem aZ1 {row:List (Option Int)}{k:Nat}(h:k<row.length)(s:Sto):ixM (.tup (za row)) (.int (k:Int)) s=.ok (zU (row.getD k none)) s:=by
 refine ix_tup (ay7 ?_)
 rw[au h];simp[jv,h]
theorem aN4 (q:List D)(s:Sto):mk .tuple q s=.ok (.tup q) s:=rfl
theorem aQ1 (q:List D)(s:Sto):mk .list q s=.ok (.ref s.length) (s++[.lst q]):=rfl
theorem aH7 {P:Pr}[Has P ah9][Has P ah6][Has P ai0](n:Nat){m:Mc}(hm:m.Ok)(s:Sto):(aa4 P (n+2)).call "first_row" [m.d] s=.ok (.tup (za (zC m))) s:=by
 have B:(aa4 P (n+2)).call "first_row" [m.d] s=_:=zd ai0 (n:=n+1) rfl
 have F:=hm.R5
 rw[B,show(cH some [m.d]++aA ai0.vs none)=[some m.d,none]from rfl]
 obtain⟨U1,s1,e1,rfl,_⟩:=aB5 (ok:=λ s1=>chk s s1 []) (g:=ap0 (aa4 P (n+1)) (.one 0) (.ite (.cmp .isin (.var 0) (.var 1)) (.cst (.int 0)) (.cst .non))) (λ U u=>u=s/\∃ x,U=[x,some (.tup (qR m.bg))]) (λ k=>zU (if k∈m.bg then some 0 else none)) m.R [none,some (.tup (qR m.bg))] s ⟨rfl,none,rfl⟩ (λ _ _ _=>rfl) (by
  rintro k hk U u ⟨rfl,x,rfl⟩
  refine⟨[some (.int k),some (.tup (qR m.bg))],u,?_,rfl,_,rfl⟩
  unfold ap0
  by_cases hb:k∈m.bg
  .simp -implicitDefEqProofs only[zh,ab4,ae1,ae8,ae4,ag6,ad6,af3,ab2,ac6,ac8,ag0,ad2,ae0,ae5,af9,ad7,af5,ag5,af4,af6,ae7,ag2,ab6,ag7,ag3,af1,af2,ac4,ac7,ag1,ac5,ac0,aa8,aa5,ab5,ac2,aa6,ac3,ag4,ad9,af8,ae9,R.bind_ok,qw,aa3,aa2,aa0,ad5,ad0,ab1,ab3,ad1,ad3,ag,af,aa1,zm,ac1,aa9,ab7,ab0,ab8,ab9,ad8,af0,ae6,ae2,ae3,af7,aa7,ad4,if_true,if_false,ac,decide_true,decide_false,am,aj,qd,az2,hb,zt]
  .simp -implicitDefEqProofs only[zh,ab4,ae1,ae8,ae4,ag6,ad6,af3,ab2,ac6,ac8,ag0,ad2,ae0,ae5,af9,ad7,af5,ag5,af4,af6,ae7,ag2,ab6,ag7,ag3,af1,af2,ac4,ac7,ag1,ac5,ac0,aa8,aa5,ab5,ac2,aa6,ac3,ag4,ad9,af8,ae9,R.bind_ok,qw,aa3,aa2,aa0,ad5,ad0,ab1,ab3,ad1,ad3,ag,af,aa1,zm,ac1,aa9,ab7,ab0,ab8,ab9,ad8,af0,ae6,ae2,ae3,af7,aa7,ad4,if_true,if_false,ac,decide_true,decide_false,am,aj,qd,az2,hb,zP])
 have h:((a8 m.R).map λ k=>zU (if k∈m.bg then some 0 else none))=za (zC m):=by unfold za zC;rw[b7];rfl
 rw[h]at e1
 simp -implicitDefEqProofs only[ai0]
 simp -implicitDefEqProofs only[zh,ab4,ae1,ae8,ae4,ag6,ad6,af3,ab2,ac6,ac8,ag0,ad2,ae0,ae5,af9,ad7,af5,ag5,af4,af6,ae7,ag2,ab6,ag7,ag3,af1,af2,ac4,ac7,ag1,ac5,ac0,aa8,aa5,ab5,ac2,aa6,ac3,ag4,ad9,af8,ae9,R.bind_ok,qw,aa3,aa2,aa0,ad5,ad0,ab1,ab3,ad1,ad3,ag,af,aa1,zm,ac1,aa9,ab7,ab0,ab8,ab9,ad8,af0,ae6,ae2,ae3,af7,aa7,ad4,if_true,if_false,ac,decide_true,decide_false,am,aj,aD7 n,au0 n,am0,qt (s:=s1) (i:=(m.R:Int)) (by unfold Ww62;omega) (by unfold Ww62;omega),if_pos (show(qN 0 (m.R:Int)).length<=LIM by rw[aB2];unfold LIM;omega),show qf [some m.d,some (.tup (qR m.bg))] [none,some 1]=[none,some (.tup (qR m.bg))]from rfl,e1,aN4]
 exact qu qD
noncomputable def bk8 (row:List (Option Int))(x b:Nat):D->Option D
 | .tup [.int a,.str [l],.int c,.int t]=>if l=x/\c=(b:Int)then some (zU (addO (row.getD a.toNat none) (some t)))else none
 | _=>none
theorem bb1 (row:List (Option Int))(x b:Nat):∀ B:List Dr,(B.map Dr.d).filterMap (bk8 row x b)=za ((B.filter λ d=>decide (d.l=x)&&decide (d.b=b)).map λ d=>addO (row.getD d.a none) (some (d.t:Int)))
 | []=>rfl
 | d::B=>by
  have F:=bb1 row x b B
  rw[a7,aY]
  have e:bk8 row x b d.d=if d.l=x/\(d.b:Int)=(b:Int)then some (zU (addO (row.getD (d.a:Int).toNat none) (some (d.t:Int))))else none:=rfl
  rw[e,bZ]
  by_cases h:d.l=x/\d.b=b
  .rw[if_pos ⟨h.1,by omega⟩,f8,if_pos (by simp[h]),a7]
   show _::_=za (_::_)
   rw[F];rfl
  .rw[if_neg (λ z=>h ⟨z.1,by omega⟩),f8,if_neg (by simpa using h)]
   exact F
theorem ay4 {P:Pr}[Has P ai2][Has P aj0][Has P ah7][Has P ag8](n:Nat){m:Mc}(hm:m.Ok){row:List (Option Int)}(hr:row.length=m.R)(x b:Nat)(s:Sto) :
  (aa4 P (n+2)).call "least_into" [m.d,.tup (za row),.str [x],.int (b:Int)] s=.ok (zU (bL6 m row x b)) s:=by
 have Y:(aa4 P (n+2)).call "least_into" [m.d,.tup (za row),.str [x],.int (b:Int)] s=_:=zd ag8 (n:=n+1) rfl
 have hd:=hm.ds.2
 rw[Y,show(cH some [m.d,D.tup (za row),.str [x],.int (b:Int)]++aA ag8.vs none)=[some m.d,some (D.tup (za row)),some (.str [x]),some (.int (b:Int))]from rfl]
 obtain⟨U1,s1,e1,rfl,_⟩:=ql (ok:=λ s1=>chk s s1 []) (g:=aA3 (aa4 P (n+1)) (.tup [0,1,2,3]) (.and (.cmp .eq (.var 1) (.var 4)) (.cmp .eq (.var 2) (.var 5))) (.call "added" (.ex (.ix (.var 6) (.var 0)) (.ex (.var 3) .nil)))) (λ U u=>u=s/\∃ y0 G B F,U=[y0,G,B,F,some (.str [x]),some (.int (b:Int)),some (D.tup (za row))]) (bk8 row x b) (m.ds.map Dr.d) [none,none,none,none,some (.str [x]),some (.int (b:Int)),some (D.tup (za row))] s ⟨rfl,none,none,none,none,rfl⟩ (λ _ _ _=>rfl) (by
  rintro d hd U u ⟨rfl,y0,G,B,F,rfl⟩
  obtain⟨z,hz,rfl⟩:=aQ.mp hd
  have ok:=hm.ds.1 z hz
  have J:bk8 row x b z.d=if z.l=x/\(z.b:Int)=(b:Int)then some (zU (addO (row.getD (z.a:Int).toNat none) (some (z.t:Int))))else none:=rfl
  have ea:=bq8 (P:=P) n (row.getD z.a none) (some (z.t:Int)) u
  rw[zt]at ea
  refine⟨[some (.int z.a),some (.str [z.l]),some (.int z.b),some (.int z.t),some (.str [x]),some (.int (b:Int)),some (D.tup (za row))],u,?_,rfl,_,_,_,_,rfl⟩
  rw[J,bZ]
  unfold aA3
  rw[show z.d=.tup [.int z.a,.str [z.l],.int z.b,.int z.t]from rfl]
  by_cases h1:z.l=x
  .by_cases h2:(z.b:Int)=(b:Int)
   .rw[if_pos ⟨h1,h2⟩]
    simp -implicitDefEqProofs only[zh,ab4,ae1,ae8,ae4,ag6,ad6,af3,ab2,ac6,ac8,ag0,ad2,ae0,ae5,af9,ad7,af5,ag5,af4,af6,ae7,ag2,ab6,ag7,ag3,af1,af2,ac4,ac7,ag1,ac5,ac0,aa8,aa5,ab5,ac2,aa6,ac3,ag4,ad9,af8,ae9,R.bind_ok,qw,aa3,aa2,aa0,ad5,ad0,ab1,ab3,ad1,ad3,ag,af,aa1,zm,ac1,aa9,ab7,ab0,ab8,ab9,ad8,af0,ae6,ae2,ae3,af7,aa7,ad4,if_true,if_false,ac,decide_true,decide_false,am,aj,qC,h1,h2,aZ1 (row:=row) (k:=z.a) (by rw[hr];exact ok.a),ea]
   .rw[if_neg (λ q=>h2 q.2)]
    simp -implicitDefEqProofs only[zh,ab4,ae1,ae8,ae4,ag6,ad6,af3,ab2,ac6,ac8,ag0,ad2,ae0,ae5,af9,ad7,af5,ag5,af4,af6,ae7,ag2,ab6,ag7,ag3,af1,af2,ac4,ac7,ag1,ac5,ac0,aa8,aa5,ab5,ac2,aa6,ac3,ag4,ad9,af8,ae9,R.bind_ok,qw,aa3,aa2,aa0,ad5,ad0,ab1,ab3,ad1,ad3,ag,af,aa1,zm,ac1,aa9,ab7,ab0,ab8,ab9,ad8,af0,ae6,ae2,ae3,af7,aa7,ad4,if_true,if_false,ac,decide_true,decide_false,am,aj,qC,h1,h2]
  .rw[if_neg (λ q=>h1 q.1)]
   simp -implicitDefEqProofs only[zh,ab4,ae1,ae8,ae4,ag6,ad6,af3,ab2,ac6,ac8,ag0,ad2,ae0,ae5,af9,ad7,af5,ag5,af4,af6,ae7,ag2,ab6,ag7,ag3,af1,af2,ac4,ac7,ag1,ac5,ac0,aa8,aa5,ab5,ac2,aa6,ac3,ag4,ad9,af8,ae9,R.bind_ok,qw,aa3,aa2,aa0,ad5,ad0,ab1,ab3,ad1,ad3,ag,af,aa1,zm,ac1,aa9,ab7,ab0,ab8,ab9,ad8,af0,ae6,ae2,ae3,af7,aa7,ad4,if_true,if_false,ac,decide_true,decide_false,am,aj,qC,h1])
 rw[bb1]at e1
 have h:((m.ds.filter λ d=>decide (d.l=x)&&decide (d.b=b)).map λ d=>addO (row.getD d.a none) (some (d.t:Int))).length<=1000:=by
  rw[aE]
  exact av (List.length_filter_le _ _) (by omega)
 have Z:=aR9 (P:=P) n (s:=s1++[O.lst (za ((m.ds.filter λ d=>decide (d.l=x)&&decide (d.b=b)).map λ d=>addO (row.getD d.a none) (some (d.t:Int))))]) (q:=s1.length) (l:=(m.ds.filter λ d=>decide (d.l=x)&&decide (d.b=b)).map λ d=>addO (row.getD d.a none) (some (d.t:Int))) (by rw[aK (aw _)];simp) h
 simp -implicitDefEqProofs only[ag8]
 simp -implicitDefEqProofs only[zh,ab4,ae1,ae8,ae4,ag6,ad6,af3,ab2,ac6,ac8,ag0,ad2,ae0,ae5,af9,ad7,af5,ag5,af4,af6,ae7,ag2,ab6,ag7,ag3,af1,af2,ac4,ac7,ag1,ac5,ac0,aa8,aa5,ab5,ac2,aa6,ac3,ag4,ad9,af8,ae9,R.bind_ok,qw,aa3,aa2,aa0,ad5,ad0,ab1,ab3,ad1,ad3,ag,af,aa1,zm,ac1,aa9,ab7,ab0,ab8,ab9,ad8,af0,ae6,ae2,ae3,af7,aa7,ad4,if_true,if_false,ac,decide_true,decide_false,am,aj,aJ1 n,qB,qF,if_pos (show(m.ds.map Dr.d).length<=LIM by rw[aE];unfold LIM;omega),show qf [some m.d,some (D.tup (za row)),some (.str [x]),some (.int (b:Int))] [none,none,none,none,some 2,some 3,some 1]=[none,none,none,none,some (.str [x]),some (.int (b:Int)),some (D.tup (za row))]from rfl,e1,aQ1,Z]
 exact zX (ap6 _) (aA8 _)
theorem bN6 {P:Pr}[Has P ai2][Has P aj0][Has P ah7][Has P ah6][Has P an6][Has P ag8][Has P ap2](n:Nat){m:Mc}(hm:m.Ok){row:List (Option Int)}(hr:row.length=m.R)(k:Int)(x:Nat)(s:Sto) :
  (aa4 P (n+3)).call "led" [m.d,.int k,.tup (za row),.str [x]] s=.ok (.tup (za ((bj4 m row x).map (cutO k)))) s:=by
 have B:(aa4 P (n+3)).call "led" [m.d,.int k,.tup (za row),.str [x]] s=_:=zd ap2 (n:=n+2) rfl
 have F:=hm.R5
 rw[B,show(cH some [m.d,.int k,D.tup (za row),.str [x]]++aA ap2.vs none)=[some m.d,some (.int k),some (D.tup (za row)),some (.str [x])]from rfl]
 obtain⟨U1,s1,e1,rfl,_⟩:=aB5 (ok:=λ s1=>chk s s1 []) (g:=ap0 (aa4 P (n+2)) (.one 0) (.call "cut" (.ex (.call "least_into" (.ex (.var 1) (.ex (.var 2) (.ex (.var 3) (.ex (.var 0) .nil))))) (.ex (.var 4) .nil)))) (λ U u=>u=s/\∃ y,U=[y,some m.d,some (D.tup (za row)),some (.str [x]),some (.int k)]) (λ b=>zU (cutO k (bL6 m row x b))) m.R [none,some m.d,some (D.tup (za row)),some (.str [x]),some (.int k)] s ⟨rfl,none,rfl⟩ (λ _ _ _=>rfl) (by
  rintro b hb U u ⟨rfl,y,rfl⟩
  refine⟨[some (.int b),some m.d,some (D.tup (za row)),some (.str [x]),some (.int k)],u,?_,rfl,_,rfl⟩
  unfold ap0
  simp -implicitDefEqProofs only[zh,ab4,ae1,ae8,ae4,ag6,ad6,af3,ab2,ac6,ac8,ag0,ad2,ae0,ae5,af9,ad7,af5,ag5,af4,af6,ae7,ag2,ab6,ag7,ag3,af1,af2,ac4,ac7,ag1,ac5,ac0,aa8,aa5,ab5,ac2,aa6,ac3,ag4,ad9,af8,ae9,R.bind_ok,qw,aa3,aa2,aa0,ad5,ad0,ab1,ab3,ad1,ad3,ag,af,aa1,zm,ac1,aa9,ab7,ab0,ab8,ab9,ad8,af0,ae6,ae2,ae3,af7,aa7,ad4,if_true,if_false,ac,decide_true,decide_false,am,aj,ay4 (P:=P) n hm hr x b u,bR2 (P:=P) (n+1) (bL6 m row x b) k u])
 have h:((a8 m.R).map λ b=>zU (cutO k (bL6 m row x b)))=za ((bj4 m row x).map (cutO k)):=by unfold za bj4;rw[b7,b7];rfl
 rw[h]at e1
 simp -implicitDefEqProofs only[ap2]
 simp -implicitDefEqProofs only[zh,ab4,ae1,ae8,ae4,ag6,ad6,af3,ab2,ac6,ac8,ag0,ad2,ae0,ae5,af9,ad7,af5,ag5,af4,af6,ae7,ag2,ab6,ag7,ag3,af1,af2,ac4,ac7,ag1,ac5,ac0,aa8,aa5,ab5,ac2,aa6,ac3,ag4,ad9,af8,ae9,R.bind_ok,qw,aa3,aa2,aa0,ad5,ad0,ab1,ab3,ad1,ad3,ag,af,aa1,zm,ac1,aa9,ab7,ab0,ab8,ab9,ad8,af0,ae6,ae2,ae3,af7,aa7,ad4,if_true,if_false,ac,decide_true,decide_false,am,aj,au0 (n+1),am0,qt (s:=s1) (i:=(m.R:Int)) (by unfold Ww62;omega) (by unfold Ww62;omega),if_pos (show(qN 0 (m.R:Int)).length<=LIM by rw[aB2];unfold LIM;omega),show qf [some m.d,some (.int k),some (D.tup (za row)),some (.str [x])] [none,some 0,some 2,some 3,some 1]=[none,some m.d,some (D.tup (za row)),some (.str [x]),some (.int k)]from rfl,e1,aN4]
 exact qu qD
theorem bu4 {m:Mc}(hm:m.Ok):m.en.length<=5:=by
 have B:=hm.R5
 have nd:m.en.Nodup:=hm.en.2.imp (λ h=>aL h)
 have:=List.Nodup.length_le_of_subset (l₂:=a8 m.R) nd (λ x hx=>cS.mpr (hm.en.1 x hx))
 simp at this;omega
theorem aZ9 {P:Pr}[Has P ai2][Has P ah8][Has P ai1](n:Nat){m:Mc}(hm:m.Ok){row:List (Option Int)}(hr:row.length=m.R)(s:Sto) :
  (aa4 P (n+2)).call "end_of" [m.d,.tup (za row)] s=.ok (zU (bE6 m row)) s:=by
 have F:(aa4 P (n+2)).call "end_of" [m.d,.tup (za row)] s=_:=zd ai1 (n:=n+1) rfl
 have J:=bu4 hm
 rw[F,show(cH some [m.d,D.tup (za row)]++aA ai1.vs none)=[some m.d,some (D.tup (za row))]from rfl]
 obtain⟨U1,s1,e1,rfl,_⟩:=aO0 (ok:=λ s1=>chk s s1 []) (g:=ap0 (aa4 P (n+1)) (.one 0) (.ix (.var 1) (.var 0))) (λ U u=>u=s/\∃ y,U=[y,some (D.tup (za row))]) (λ d=>match d with|.int i=>zU (row.getD i.toNat none)|d=>d) (qR m.en) [none,some (D.tup (za row))] s ⟨rfl,none,rfl⟩ (λ _ _ _=>rfl) (by
  rintro d hd U u ⟨rfl,y,rfl⟩
  obtain⟨q,hq,rfl⟩:=aQ.mp hd
  refine⟨[some (.int q),some (D.tup (za row))],u,?_,rfl,_,rfl⟩
  unfold ap0
  simp -implicitDefEqProofs only[zh,ab4,ae1,ae8,ae4,ag6,ad6,af3,ab2,ac6,ac8,ag0,ad2,ae0,ae5,af9,ad7,af5,ag5,af4,af6,ae7,ag2,ab6,ag7,ag3,af1,af2,ac4,ac7,ag1,ac5,ac0,aa8,aa5,ab5,ac2,aa6,ac3,ag4,ad9,af8,ae9,R.bind_ok,qw,aa3,aa2,aa0,ad5,ad0,ab1,ab3,ad1,ad3,ag,af,aa1,zm,ac1,aa9,ab7,ab0,ab8,ab9,ad8,af0,ae6,ae2,ae3,af7,aa7,ad4,if_true,if_false,ac,decide_true,decide_false,am,aj,aZ1 (row:=row) (k:=q) (by rw[hr];exact hm.en.1 q hq),bZ])
 have B:(qR m.en).map (λ d=>match d with|.int i=>zU (row.getD i.toNat none)|d=>d)=za (m.en.map λ q=>row.getD q none):=by unfold qR za;rw[b7,b7];rfl
 rw[B]at e1
 have h:=aR9 (P:=P) n (s:=s1++[O.lst (za (m.en.map λ q=>row.getD q none))]) (q:=s1.length) (l:=m.en.map λ q=>row.getD q none) (by rw[aK (aw _)];simp) (by rw[aE];omega)
 have G:minI ((m.en.map λ q=>row.getD q none).filterMap id)=bE6 m row:=by unfold bE6;rw[cY];rfl
 rw[G]at h
 simp -implicitDefEqProofs only[ai1]
 simp -implicitDefEqProofs only[zh,ab4,ae1,ae8,ae4,ag6,ad6,af3,ab2,ac6,ac8,ag0,ad2,ae0,ae5,af9,ad7,af5,ag5,af4,af6,ae7,ag2,ab6,ag7,ag3,af1,af2,ac4,ac7,ag1,ac5,ac0,aa8,aa5,ab5,ac2,aa6,ac3,ag4,ad9,af8,ae9,R.bind_ok,qw,aa3,aa2,aa0,ad5,ad0,ab1,ab3,ad1,ad3,ag,af,aa1,zm,ac1,aa9,ab7,ab0,ab8,ab9,ad8,af0,ae6,ae2,ae3,af7,aa7,ad4,if_true,if_false,ac,decide_true,decide_false,am,aj,aU8 n,qB,am0,if_pos (show(qR m.en).length<=LIM by unfold qR;rw[aE];unfold LIM;omega),show qf [some m.d,some (D.tup (za row))] [none,some 1]=[none,some (D.tup (za row))]from rfl,e1,aQ1,h]
 exact zX (ap6 _) (aA8 _)
section
variable {U:Type}
variable (f:U->Nat->U) (ls:List Nat)
end
def Sr (row:List (Option Int))(k:Nat)(c:Int):Prop:=row.getD k none=some c
theorem bZ6 (row:List (Option Int)):aJ3 (Sr row) row:=λ k o hk=>by
 have e:row.getD k none=o:=by rw[jv,hk];rfl
 cases o with
 | none=>intro c hc;unfold Sr at hc;rw[e]at hc;cases hc
 | some i=>exact⟨e,λ c hc=>by unfold Sr at hc;rw[e]at hc;cases hc;exact fG _⟩
theorem aW2 (m:Mc)(row:List (Option Int))(x b:Nat):ak3 (aJ5 (Sr row) x m.ds b) (bL6 m row x b):=by
 refine(ax1 _).congr λ c=>?_
 simp only[cF,id_eq,exists_eq_right,aQ,eU,ao,decide_eq_true_eq]
 constructor
 .rintro⟨d,⟨hd,hl,hb⟩,e⟩
  cases hr:row.getD d.a none with
  | none=>rw[hr]at e;cases e
  | some i =>
   rw[hr]at e
   cases e
   exact⟨d,hd,hl,hb,i,hr,rfl⟩
 .rintro⟨d,hd,hl,hb,i,hr,rfl⟩
  exact⟨d,⟨hd,hl,hb⟩,by rw[show row.getD d.a none=some i from hr];rfl⟩
theorem bX7 {m:Mc}{row th:List (Option Int)}{x:Nat}(hl:th.length=m.R)(h:aJ3 (aJ5 (Sr row) x m.ds) th):th=bj4 m row x:=by
 refine List.ext_getElem? λ k=>?_
 by_cases hk:k<m.R
 .obtain⟨o,ho⟩:∃ o,th[k]?=some o:=⟨th[k]'(by rw[hl];exact hk),au _⟩
  rw[ho]
  unfold bj4
  rw[aS,dF hk]
  exact congrArg some ((h k o ho).eq (aW2 m row x k) λ _=>Iff.rfl)
 .rw[bR (by omega),bR (by unfold bj4;simp;omega)]
theorem bq7 {s:Sto}{o:O}:(s++[o])[s.length]?=some o:=by rw[aK (aw _)];simp
noncomputable def qr (L:Nat):List Nat:=(a8 L).map (97+·)
theorem bi0:∀ {L:Nat},L<=3->ak8.take L=sg (qr L)
 | 0,_=>rfl
 | 1,_=>rfl
 | 2,_=>rfl
 | 3,_=>rfl
 | n+4,h=>by omega
theorem bm6:∀ {a b:Option Int},zU a=zU b->a=b
 | none,none,_=>rfl
 | none,some _,h=>by cases h
 | some _,none,h=>by cases h
 | some a,some b,h=>by cases h;rfl
theorem aO9:∀ {a b:List (Option Int)},za a=za b->a=b
 | [],[],_=>rfl
 | [],_::_,h=>by cases h
 | _::_,[],h=>by cases h
 | x::a,y::b,h=>by
  have h:zU x::za a=zU y::za b:=h
  injection h with h1 h2
  rw[bm6 h1,aO9 h2]
theorem bm8 {row:List (Option Int)}(B:1<=row.length)(h:row.length<=1000):(D.tup (za row)).keyS=true:=by
 show(D.hdI (za row)&&((za row).all D.keyF&&decide ((za row).length<=1000)))=true
 rw[ao,ao]
 refine⟨?_,?_,by rw[ap3];exact decide_eq_true h⟩
 .cases row with
  | nil=>cases B
  | cons o r=>cases o<;>rfl
 .rw[aX]
  intro d hd
  obtain⟨o,_,rfl⟩:=aQ.mp hd
  cases o<;>rfl
theorem bk1 (m:Mc)(row:List (Option Int))(x:Nat):(bj4 m row x).length=m.R:=by unfold bj4;simp
class HasX (P:Pr)(f:String)(d:Xf):Prop where
 at_:P.xf f=some d
class HasT (P:Pr)(f:String)(d:Tf):Prop where
 no:P.df f=none
 at_:P.tf f=some d
class HasE (P:Pr)(c:String)(ts:List String):Prop where
 at_:P.xc c=true
 ts:∀ t∈ts,P.xt t=true
theorem aC0 {P:Pr}{f:String}(d:Xf)[h:HasX P f d]{n:Nat}{l:List D}{s:Sto}(hl:l.length=d.ps):(aa4 P (n+1)).xcall f l s=xB (aa4 P n) d.body (l.map some++aA d.vs none) s:=by
 show(match P.xf f with|some d=>if l.length=d.ps then xB (aa4 P n) d.body (l.map some++aA d.vs none) s else none|none=>none)=_
 rw[h.at_]
 exact if_pos hl
theorem bI2 {P:Pr}{f:String}(d:Tf)[h:HasT P f d]{n:Nat}{l:List D}{s:Sto}(hl:l.length=d.ps):(aa4 P (n+1)).call f l s=bm7 (aa4 P n) d l s:=by
 have e:(aa4 P (n+1)).call f l s=match P.df f with
   | some d=>if l.length=d.ps then(exs (aa4 P n) d.body (l.map some++aA d.vs none) s).bind λ c s'=>match c with
     | .ret v=>zr s v s'
     | .next _=>zr s .non s'
     | _=>.bad else .bad
   | none=>match P.tf f with
    | some d=>if l.length=d.ps then bm7 (aa4 P n) d l s else .bad
    | none=>.bad:=rfl
 rw[e,h.no]
 show(match P.tf f with|some d=>if l.length=d.ps then bm7 (aa4 P n) d l s else .bad|none=>.bad)=_
 rw[h.at_]
 exact if_pos hl
theorem bl9 {F:Fns}{d:Tf}{l:List D}{s:Sto}(h:d.pre=.nil):bm7 F d l s=aJ6 F d s (l.map some++aA d.vs none) s:=by
 unfold bm7
 rw[h]
 rfl
theorem bP3 {P:Pr}{n:Nat}:(aa4 P n).xc=P.xc/\(aa4 P n).xt=P.xt:=by cases n<;>exact⟨rfl,rfl⟩
noncomputable abbrev Rw:=List (Option Int)
inductive Bres where
 | more (M:List (List Nat×Rw))|stop (M:List (List Nat×Rw))|over
section
variable (f:Rw->Nat->Rw) (ab:Rw->Bool)
open Classical in
noncomputable def inn (e:List Nat×Rw):List Nat->List (List Nat×Rw)->Bres
 | [],M=>.more M
 | x::ls,M=>if f e.2 x∈M.map (·.2)then inn e ls M else if M.length=300 then .over else if ab (f e.2 x)=true then .stop (M++[(e.1++[x],f e.2 x)])else inn e ls (M++[(e.1++[x],f e.2 x)])
noncomputable def bfs (ls:List Nat):Nat->Nat->List (List Nat×Rw)->Bres
 | 0,_,M=>.more M
 | n+1,at_,M=>match M[at_]? with
  | none=>.more M
  | some e=>match inn f ab e ls M with
   | .more M'=>bfs ls n (at_+1) M'
   | .stop M'=>.stop M'
   | .over=>.over
end
structure MOk (f:Rw->Nat->Rw)(ab:Rw->Bool)(R:Nat)(r0:Rw)(at_:Nat)(M:List (List Nat×Rw)):Prop where
 len:M.length<=300
 pos:1<=M.length
 hat:at_<=M.length
 sh:∀ e∈M,e.2.length=R
 fold:∀ e∈M,e.2=e.1.foldl f r0
 wl:∀ e∈M,e.1.length<=at_
section
variable {f:Rw->Nat->Rw} {ab:Rw->Bool} {R:Nat} {r0:Rw}
theorem MOk.snoc {k:Nat}{M:List (List Nat×Rw)}{e:List Nat×Rw}{x:Nat}(B:∀ r x,(f r x).length=R)(h:MOk f ab R r0 k M)(he:e∈M)(hk:e.1.length+1<=k)(hl:M.length≠300):MOk f ab R r0 k (M++[(e.1++[x],f e.2 x)]):=by
 refine⟨by rw[ax];have:=h.len;show M.length+1<=300;omega,by rw[ax];show 1<=M.length+1;omega,by rw[ax];have:=h.hat;omega,λ d hd=>?_,λ d hd=>?_,λ d hd=>?_⟩
 .rcases aP.mp hd with z|z
  .exact h.sh d z
  .rw[ay.mp z];exact B _ _
 .rcases aP.mp hd with z|z
  .exact h.fold d z
  .rw[ay.mp z]
   show f e.2 x=(e.1++[x]).foldl f r0
   rw[eA,<-h.fold e he];rfl
 .rcases aP.mp hd with z|z
  .exact h.wl d z
  .rw[ay.mp z]
   show(e.1++[x]).length<=k
   rw[ax];exact hk
end
theorem bH9 (k:Int)(o:Option Int):cutO k o=o.map (min · (k+1)):=by
 cases o with
 | none=>rfl
 | some c =>
  show(if c<=k then some c else some (k+1))=some (min c (k+1))
  split<;>congr 1<;>omega
noncomputable def zH (m:Mc)(k:Int)(r:Rw)(x:Nat):Rw:=(bj4 m r x).map (cutO k)
theorem qi (m:Mc)(k:Int)(r:Rw)(x:Nat):(zH m k r x).length=m.R:=by unfold zH;rw[aE];exact bk1 ..
noncomputable def zb (m:Mc)(k:Int)(r:Rw):Bool:=decide (bE6 m r=some (k+1))
noncomputable def MtD (l:List (List Nat×Rw)):List D:=l.map λ e=>.tup [.str e.1,.tup (za e.2)]
noncomputable def Sn (K:List Rw):List (D×D):=K.map λ r=>(.tup (za r),.bl true)
theorem aw6 {r:Rw}{R:Nat}(F:1<=R)(B:R<=5)(h:r.length=R):(D.tup (za r)).keyT=true:=by
 have k1:=bm8 (row:=r) (by omega) (by omega)
 have:∀ l:List D,(D.tup l).keyS=true->(∀ d∈l,∀ m,d≠.tup m)->(D.tup l).keyT=true:=λ l h hn=>by
  have h:(D.hdI l&&(l.all D.keyF&&decide (l.length<=1000)))=true:=h
  show(D.hdI l&&(l.all D.keyS&&decide (l.length<=1000)))=true
  rw[ao,ao]at h ⊢
  refine⟨h.1,?_,h.2.2⟩
  rw[aX]at h ⊢
  intro d hd
  have:=h.2.1 d hd
  cases d with
  | tup m=>exact absurd rfl (hn _ hd m)
  | _=>exact this
 refine this _ k1 λ d hd m e=>?_
 obtain⟨o,_,rfl⟩:=aQ.mp hd
 cases o<;>cases e
theorem az9 {a b:Rw}(h:D.tup (za a)=D.tup (za b)):a=b:=by injection h with h;exact aO9 h
theorem aI7 (r:Rw):∀ K:List Rw,(look (.tup (za r)) (Sn K)).isSome=decide (r∈K)
 | []=>by simp[Sn,look]
 | a::K=>by
  have B:=aI7 r K
  show(if D.tup (za a)=.tup (za r)then some (D.bl true)else look (.tup (za r)) (Sn K)).isSome=_
  by_cases h:a=r
  .subst h;rw[if_pos rfl];simp
  .rw[if_neg (λ z=>h (az9 z)),B]
   simp[cz h,h,eq_comm]
theorem bR6 {r:Rw}{K:List Rw}(h:r ∉ K):as2 (.tup (za r)) (.bl true) (Sn K)=Sn (K++[r]):=by
 unfold as2
 rw[aI7,decide_eq_false h,if_neg (by nofun)]
 unfold Sn
 rw[bN];rfl
theorem bP6 {r:Rw}{R:Nat}(F:1<=R)(B:R<=5)(h:r.length=R){s:Sto}{q:Nat}{K:List Rw}(g:s[q]?=some (.dit (Sn K))):inM (.tup (za r)) (.ref q) s=.ok (decide (r∈K)) s:=by
 unfold inM
 simp only[g,aw6 F B h,if_true,aI7]
theorem bs5 {r:Rw}{R:Nat}(F:1<=R)(B:R<=5)(h:r.length=R){s:Sto}{q:Nat}{K:List Rw}(g:s[q]?=some (.dit (Sn K)))(hn:r ∉ K)(hl:K.length<LIM):setIx (.ref q) (.tup (za r)) (.bl true) s=.ok () (s.set q (.dit (Sn (K++[r])))):=by
 unfold setIx
 simp only[g,aw6 F B h,show(Sn K).length<LIM by unfold Sn;rw[aE];exact hl,decide_true,iG,if_true,bR6 hn]
theorem bu9 {L:List (List Nat×Rw)}{j:Nat}{e:List Nat×Rw}(h:L[j]?=some e):(MtD L)[j]?=some (.tup [.str e.1,.tup (za e.2)]):=by unfold MtD;rw[aS,h];rfl
theorem bv8 {l:List (List Nat×Rw)}{n:Nat}:(O.lst (MtD l)).bnd n=true:=by
 unfold O.bnd
 refine zz (λ d hd n=>?_) n
 obtain⟨e,_,rfl⟩:=aQ.mp hd
 unfold D.bnd
 refine zz (λ d hd n=>?_) n
 rcases aH.mp hd with rfl|hd
 .rfl
 .rcases aH.mp hd with rfl|hd
  .unfold D.bnd;exact zz qD n
  .cases hd
theorem bS0 {K:List Rw}{n:Nat}:(O.dit (Sn K)).bnd n=true:=by
 unfold O.bnd
 rw[ao]
 constructor
 .refine zz (λ d hd n=>?_) n
  unfold Sn at hd
  rw[b7]at hd
  obtain⟨e,_,rfl⟩:=aQ.mp hd
  show D.bnd n (.tup (za e))=true
  unfold D.bnd;exact zz qD n
 .refine zz (λ d hd n=>?_) n
  unfold Sn at hd
  rw[b7]at hd
  obtain⟨e,_,rfl⟩:=aQ.mp hd
  rfl
theorem aU9 (s:Sto){p q:Nat}{a b:O}(ha:a.bnd s.length=true)(hb:b.bnd s.length=true):at6 s ((s.set p a).set q b)=true:=by
 unfold at6
 rw[aX]
 intro i h
 have h:=cS.mp h
 rw[cb]
 by_cases h1:q=i
 .subst h1
  right
  rw[aZ (by simpa using h)]
  exact hb
 .rw[aU h1]
  by_cases h2:p=i
  .subst h2
   right
   rw[aZ h]
   exact ha
  .left
   rw[aU h2]
   simp
theorem aW6 {s:Sto}{p q:Nat}{a b:O}(ha:a.bnd s.length=true)(hb:b.bnd s.length=true):zr s .non ((s.set p a).set q b)=.ok .non ((s.set p a).set q b):=by
 unfold zr
 rw[aU9 s ha hb,if_pos rfl]
 have:((s.set p a).set q b).take s.length=(s.set p a).set q b:=ed (by simp)
 simp only[this]
 rfl
theorem al5 {ok:Sto->Bool}{g:D->Env->Sto->R Ct}{d:D}{l:List D}{U:Env}{s:Sto}(h:ok s=true):au8 ok g (d::l) U s=(g d U s).bind λ c s=>match c with
  | .next U=>au8 ok g l U s
  | .cont U=>au8 ok g l U s
  | .brk U=>.ok (.next U) s
  | .ret d=>.ok (.ret d) s:=by
 show(if ok s then _ else _)=_
 rw[if_pos h]<;>rfl
theorem be6 (o:Option Int)(i:Int)(s:Sto):zK .eq (zU o) (.int i) s=.ok (.bl (decide (o=some i))) s:=by
 cases o with
 | none=>rfl
 | some j =>
  rw[zt,ae3]
  simp
theorem am6 {P:Pr}[Has P ai2][Has P ah8][Has P ai1][Has P ah0](n:Nat){m:Mc}(hm:m.Ok){r:Rw}(hr:r.length=m.R)(k:Int)(s:Sto) :
  (aa4 P (n+3)).call "ends_above" [m.d,.int k,.tup (za r)] s=.ok (.bl (zb m k r)) s:=by
 have h:(aa4 P (n+3)).call "ends_above" [m.d,.int k,.tup (za r)] s=_:=zd ah0 (n:=n+2) rfl
 rw[h,show(cH some [m.d,.int k,D.tup (za r)]++aA ah0.vs none)=[some m.d,some (.int k),some (D.tup (za r))]from rfl]
 simp -implicitDefEqProofs only[ah0]
 simp -implicitDefEqProofs only[zh,ab4,ae1,ae8,ae4,ag6,ad6,af3,ab2,ac6,ac8,ag0,ad2,ae0,ae5,af9,ad7,af5,ag5,af4,af6,ae7,ag2,ab6,ag7,ag3,af1,af2,ac4,ac7,ag1,ac5,ac0,aa8,aa5,ab5,ac2,aa6,ac3,ag4,ad9,af8,ae9,R.bind_ok,qw,aa3,aa2,aa0,ad5,ad0,ab1,ab3,ad1,ad3,ag,af,aa1,zm,ac1,aa9,ab7,ab0,ab8,ab9,ad8,af0,ae6,ae2,ae3,af7,aa7,ad4,if_true,if_false,ac,decide_true,decide_false,am,aj,aZ9 (P:=P) n hm hr s,be6]
 exact bo6
theorem aD0 {F:Fns}{st:S}{b:XB}{U U1:Env}{s s1:Sto}(h:ex F st U s=.ok (.next U1) s1):xB F (.seq st b) U s=xB F b U1 s1:=by
 show(match ex F st U s with|.ok (.next U1) s1=>xB F b U1 s1|_=>none)=_
 rw[h]
theorem bu1 {F:Fns}{c:E}{a r:XB}{U:Env}{s s1:Sto}{b:Bool}(h:ev F c U s=.ok (.bl b) s1):xB F (.iteT c a r) U s=if b=true then xB F a U s1 else xB F r U s1:=by
 show(match ev F c U s with|.ok (.bl b) s1=>if b then xB F a U s1 else xB F r U s1|_=>none)=_
 rw[h]
theorem bF1 {F:Fns}{c:String}{U:Env}{s:Sto}(h:F.xc c=true):xB F (.rais c) U s=some (c,s):=by
 show(if F.xc c=true then some (c,s)else none)=_
 rw[if_pos h]
theorem bc6 {F:Fns}{f:String}{B:As}{U:Env}{s s1:Sto}{l:List D}(h:an3 F B U s=.ok l s1):xB F (.call f B) U s=F.xcall f l s1:=by
 show(match an3 F B U s with|.ok l s1=>F.xcall f l s1|_=>none)=_
 rw[h]
noncomputable def enD (e:List Nat×Rw):D:=.tup [.str e.1,.tup (za e.2)]
theorem bj3 (e:List Nat×Rw)(s:Sto):ixM (enD e) (.int 0) s=.ok (.str e.1) s:=aJ4 0 rfl
theorem bu3 (e:List Nat×Rw)(s:Sto):ixM (enD e) (.int 1) s=.ok (.tup (za e.2)) s:=aJ4 1 rfl
noncomputable def StM (s:Sto)(p q:Nat)(M:List (List Nat×Rw)):Sto:=(s.set p (.lst (MtD M))).set q (.dit (Sn (M.map (·.2))))
theorem by0 {s:Sto}{p q:Nat}{M:List (List Nat×Rw)}(hp:p<s.length)(h:p≠q):(StM s p q M)[p]?=some (.lst (MtD M)):=by
 unfold StM;rw[aU (cz h)];exact qc hp
theorem cg9 {s:Sto}{p q:Nat}{M:List (List Nat×Rw)}(hq:q<s.length):(StM s p q M)[q]?=some (.dit (Sn (M.map (·.2)))):=by
 unfold StM;exact qc (by simpa using hq)
noncomputable def zx:Ss:=(.cons (.asg (.one 6) (.call "led" (.ex (.var 0) (.ex (.var 1) (.ex (.ix (.var 2) (.cst (.int 1))) (.ex (.var 5) .nil)))))) (.cons (.ite (.cmp .isin (.var 6) (.var 4)) (.cons .cont .nil) .nil) (.cons (.ite (.cmp .eq (.bi .len (.cons (.var 3) .nil)) (.glob "MOST_ROWS")) (.cons .raise .nil) .nil) (.cons (.setIx (.var 4) (.var 6) (.cst (.bl true))) (.cons (.ex (.meth .append (.var 3) (.cons (.tup (.cons (.bin .add (.ix (.var 2) (.cst (.int 0))) (.var 5)) (.cons (.var 6) .nil))) .nil))) (.cons (.ite (.call "ends_above" (.ex (.var 0) (.ex (.var 1) (.ex (.var 6) .nil)))) (.cons .retN .nil) .nil) .nil))))))
noncomputable def mbX:XB:=(.seq (.asg (.one 6) (.call "led" (.ex (.var 0) (.ex (.var 1) (.ex (.ix (.var 2) (.cst (.int 1))) (.ex (.var 5) .nil)))))) (.iteT (.cmp .isin (.var 6) (.var 4)) .no (.iteT (.cmp .eq (.bi .len (.cons (.var 3) .nil)) (.glob "MOST_ROWS")) (.rais "TooMuch") .no)))
noncomputable def ah1:Xf:=⟨5,2,.forX (.one 5) (.seq (.call "letters_of" (.ex (.var 0) .nil))) zx mbX⟩
section
variable {P:Pr} [Has P ai2] [Has P aj0] [Has P ah7] [Has P ah6] [Has P ah8] [Has P an6] [Has P ag8] [Has P ap2] [Has P ai1] [Has P ah2] [HasC P "LETTERS" (.tup ak8)] [HasC P "MOST_ROWS" (.int 300)] [Has P ah0] [Has P ag9]
theorem bK5 [HasE P "TooMuch" []](n:Nat){m:Mc}(hm:m.Ok){k:Int}{e:List Nat×Rw}(he:e.2.length=m.R)(hw:e.1.length<=1000){s:Sto}{p q:Nat}(hp:p<s.length)(hq:q<s.length)(F:p≠q):∀(B:List Nat) (M:List (List Nat×Rw)) (Y y6:Option D),M.length<=300->(∀ d∈M,d.2.length=m.R) ->
  (match inn (zH m k) (zb m k) e B M with
  | .more M'=>∃ z5 z6,au8 (λ u=>chk s u []) (turn (aa4 P (n+3)) (.one 5) zx) (sg B) [some m.d,some (.int k),some (enD e),some (.ref p),some (.ref q),Y,y6] (StM s p q M)=.ok (.next [some m.d,some (.int k),some (enD e),some (.ref p),some (.ref q),z5,z6]) (StM s p q M')
  | .stop M'=>au8 (λ u=>chk s u []) (turn (aa4 P (n+3)) (.one 5) zx) (sg B) [some m.d,some (.int k),some (enD e),some (.ref p),some (.ref q),Y,y6] (StM s p q M)=.ok (.ret .non) (StM s p q M')
  | .over=>au8 (λ u=>chk s u []) (turn (aa4 P (n+3)) (.one 5) zx) (sg B) [some m.d,some (.int k),some (enD e),some (.ref p),some (.ref q),Y,y6] (StM s p q M)=.bad /\
   ∃ M',am5 (λ u=>chk s u []) (λ d U s=>match zQ U (.one 5) d with
    | some U=>exs (aa4 P (n+3)) zx U s
    | none=>.bad) (λ d U s=>match zQ U (.one 5) d with
    | some U=>xB (aa4 P (n+3)) mbX U s
    | none=>none) (sg B) [some m.d,some (.int k),some (enD e),some (.ref p),some (.ref q),Y,y6] (StM s p q M)=some ("TooMuch",StM s p q M'))
 | [],M,Y,y6,_,_=>by
  unfold inn
  exact⟨Y,y6,rfl⟩
 | x::B,M,Y,y6,hM,hs=>by
  unfold inn
  have a5:=hm.R1
  have a4:=hm.R5
  have gp:=by0 (s:=s) (p:=p) (q:=q) (M:=M) hp F
  have gq:=cg9 (s:=s) (p:=p) (q:=q) (M:=M) hq
  have hl:=bN6 (P:=P) n hm he k x (StM s p q M)
  rw[show(bj4 m e.2 x).map (cutO k)=zH m k e.2 x from rfl]at hl
  have G:=bP6 a5 a4 (qi m k e.2 x) gq
  have h:bi .len [.ref p] (StM s p q M)=.ok (.int (M.length:Int)) (StM s p q M):=by rw[an4 gp,show(MtD M).length=M.length from aE ..]
  have a0:∀ U S,ev (aa4 P (n+3)) (.glob "MOST_ROWS") U S=.ok (.int 300) S:=λ U S=>be1
  have a1:sg (x::B)=.str [x]::sg B:=rfl
  have ft:∀(U:Env) (S:Sto),turn (aa4 P (n+3)) (.one 5) zx (.str [x]) U S=match zQ U (.one 5) (.str [x])with
    | some U=>exs (aa4 P (n+3)) zx U S
    | none=>.bad:=λ _ _=>rfl
  have fx:∀ {U:Env} {S:Sto},am5 (λ u=>chk s u []) (λ d U s=>match zQ U (.one 5) d with
    | some U=>exs (aa4 P (n+3)) zx U s
    | none=>.bad) (λ d U s=>match zQ U (.one 5) d with
    | some U=>xB (aa4 P (n+3)) mbX U s
    | none=>none) (.str [x]::sg B) U S=match turn (aa4 P (n+3)) (.one 5) zx (.str [x]) U S with
     | .ok (.next U1) s1=>am5 (λ u=>chk s u []) (λ d U s=>match zQ U (.one 5) d with
      | some U=>exs (aa4 P (n+3)) zx U s
      | none=>.bad) (λ d U s=>match zQ U (.one 5) d with
      | some U=>xB (aa4 P (n+3)) mbX U s
      | none=>none) (sg B) U1 s1
     | .ok (.cont U1) s1=>am5 (λ u=>chk s u []) (λ d U s=>match zQ U (.one 5) d with
      | some U=>exs (aa4 P (n+3)) zx U s
      | none=>.bad) (λ d U s=>match zQ U (.one 5) d with
      | some U=>xB (aa4 P (n+3)) mbX U s
      | none=>none) (sg B) U1 s1
     | .ok _ _=>none
     | _=>match zQ U (.one 5) (.str [x])with
      | some U=>xB (aa4 P (n+3)) mbX U S
      | none=>none:=λ {U S}=>rfl
  by_cases hm1:zH m k e.2 x∈M.map (·.2)
  .rw[if_pos hm1]
   have et:turn (aa4 P (n+3)) (.one 5) zx (.str [x]) [some m.d,some (.int k),some (enD e),some (.ref p),some (.ref q),Y,y6] (StM s p q M)=.ok (.cont [some m.d,some (.int k),some (enD e),some (.ref p),some (.ref q),some (.str [x]),some (.tup (za (zH m k e.2 x)))]) (StM s p q M):=by
    simp -implicitDefEqProofs only[zx]
    simp -implicitDefEqProofs only[zh,ab4,ae1,ae8,ae4,ag6,ad6,af3,ab2,ac6,ac8,ag0,ad2,ae0,ae5,af9,ad7,af5,ag5,af4,af6,ae7,ag2,ab6,ag7,ag3,af1,af2,ac4,ac7,ag1,ac5,ac0,aa8,aa5,ab5,ac2,aa6,ac3,ag4,ad9,af8,ae9,R.bind_ok,qw,aa3,aa2,aa0,ad5,ad0,ab1,ab3,ad1,ad3,ag,af,aa1,zm,ac1,aa9,ab7,ab0,ab8,ab9,ad8,af0,ae6,ae2,ae3,af7,aa7,ad4,if_true,if_false,ac,decide_true,decide_false,am,aj,turn,bu3,hl,qd,G,hm1]
   have ih:=bK5 n hm (k:=k) he hw hp hq F B M (some (.str [x])) (some (.tup (za (zH m k e.2 x)))) hM hs
   rw[a1,al5 (ok:=λ u=>chk s u []) rfl,fx,et]
   exact ih
  .rw[if_neg hm1]
   by_cases h300:M.length=300
   .rw[if_pos h300]
    have et:turn (aa4 P (n+3)) (.one 5) zx (.str [x]) [some m.d,some (.int k),some (enD e),some (.ref p),some (.ref q),Y,y6] (StM s p q M)=.bad:=by
     simp -implicitDefEqProofs only[zx]
     simp -implicitDefEqProofs only[zh,ab4,ae1,ae8,ae4,ag6,ad6,af3,ab2,ac6,ac8,ag0,ad2,ae0,ae5,af9,ad7,af5,ag5,af4,af6,ae7,ag2,ab6,ag7,ag3,af1,af2,ac4,ac7,ag1,ac5,ac0,aa8,aa5,ab5,ac2,aa6,ac3,ag4,ad9,af8,ae9,R.bind_ok,qw,aa3,aa2,aa0,ad5,ad0,ab1,ab3,ad1,ad3,ag,af,aa1,zm,ac1,aa9,ab7,ab0,ab8,ab9,ad8,af0,ae6,ae2,ae3,af7,aa7,ad4,if_true,if_false,ac,decide_true,decide_false,am,aj,turn,bu3,hl,qd,G,hm1,h,a0,show((M.length:Int)=300)=True from eq_true (by omega)]
     rfl
    rw[a1,al5 (ok:=λ u=>chk s u []) rfl,fx,et]
    refine⟨rfl,M,?_⟩
    show xB (aa4 P (n+3)) mbX [some m.d,some (.int k),some (enD e),some (.ref p),some (.ref q),some (.str [x]),y6] (StM s p q M)=_
    have xa:ex (aa4 P (n+3)) (.asg (.one 6) (.call "led" (.ex (.var 0) (.ex (.var 1) (.ex (.ix (.var 2) (.cst (.int 1))) (.ex (.var 5) .nil)))))) [some m.d,some (.int k),some (enD e),some (.ref p),some (.ref q),some (.str [x]),y6] (StM s p q M)=.ok (.next [some m.d,some (.int k),some (enD e),some (.ref p),some (.ref q),some (.str [x]),some (.tup (za (zH m k e.2 x)))]) (StM s p q M):=by
     simp -implicitDefEqProofs only[zh,ab4,ae1,ae8,ae4,ag6,ad6,af3,ab2,ac6,ac8,ag0,ad2,ae0,ae5,af9,ad7,af5,ag5,af4,af6,ae7,ag2,ab6,ag7,ag3,af1,af2,ac4,ac7,ag1,ac5,ac0,aa8,aa5,ab5,ac2,aa6,ac3,ag4,ad9,af8,ae9,R.bind_ok,qw,aa3,aa2,aa0,ad5,ad0,ab1,ab3,ad1,ad3,ag,af,aa1,zm,ac1,aa9,ab7,ab0,ab8,ab9,ad8,af0,ae6,ae2,ae3,af7,aa7,ad4,if_true,if_false,ac,decide_true,decide_false,am,aj,bu3,hl]
    have xb:ev (aa4 P (n+3)) (.cmp .isin (.var 6) (.var 4)) [some m.d,some (.int k),some (enD e),some (.ref p),some (.ref q),some (.str [x]),some (.tup (za (zH m k e.2 x)))] (StM s p q M)=.ok (.bl false) (StM s p q M):=by
     simp -implicitDefEqProofs only[zh,ab4,ae1,ae8,ae4,ag6,ad6,af3,ab2,ac6,ac8,ag0,ad2,ae0,ae5,af9,ad7,af5,ag5,af4,af6,ae7,ag2,ab6,ag7,ag3,af1,af2,ac4,ac7,ag1,ac5,ac0,aa8,aa5,ab5,ac2,aa6,ac3,ag4,ad9,af8,ae9,R.bind_ok,qw,aa3,aa2,aa0,ad5,ad0,ab1,ab3,ad1,ad3,ag,af,aa1,zm,ac1,aa9,ab7,ab0,ab8,ab9,ad8,af0,ae6,ae2,ae3,af7,aa7,ad4,if_true,if_false,ac,decide_true,decide_false,am,aj,qd,G,hm1]
    have xc:ev (aa4 P (n+3)) (.cmp .eq (.bi .len (.cons (.var 3) .nil)) (.glob "MOST_ROWS")) [some m.d,some (.int k),some (enD e),some (.ref p),some (.ref q),some (.str [x]),some (.tup (za (zH m k e.2 x)))] (StM s p q M)=.ok (.bl true) (StM s p q M):=by
     simp -implicitDefEqProofs only[zh,ab4,ae1,ae8,ae4,ag6,ad6,af3,ab2,ac6,ac8,ag0,ad2,ae0,ae5,af9,ad7,af5,ag5,af4,af6,ae7,ag2,ab6,ag7,ag3,af1,af2,ac4,ac7,ag1,ac5,ac0,aa8,aa5,ab5,ac2,aa6,ac3,ag4,ad9,af8,ae9,R.bind_ok,qw,aa3,aa2,aa0,ad5,ad0,ab1,ab3,ad1,ad3,ag,af,aa1,zm,ac1,aa9,ab7,ab0,ab8,ab9,ad8,af0,ae6,ae2,ae3,af7,aa7,ad4,if_true,if_false,ac,decide_true,decide_false,am,aj,h,a0,show((M.length:Int)=300)=True from eq_true (by omega)]
    have xd:(aa4 P (n+3)).xc "TooMuch"=true:=by rw[(bP3 (P:=P)).1];exact HasE.at_ (ts:=[])
    unfold mbX
    rw[aD0 xa,bu1 xb,if_neg (by nofun)]
    rw[bu1 xc,if_pos rfl,bF1 xd]
   .rw[if_neg h300]
    have Z:=bs5 a5 a4 (qi m k e.2 x) gq hm1 (by rw[aE];unfold LIM;omega)
    generalize hU:(StM s p q M).set q (.dit (Sn (M.map (·.2)++[zH m k e.2 x])))=Uu at Z
    have gU:Uu[p]?=some (.lst (MtD M)):=by rw[<-hU,aU (cz F)];exact gp
    have J:=an8 (v:=.tup [.str (e.1++[x]),.tup (za (zH m k e.2 x))]) gU (by rw[show(MtD M).length=M.length from aE ..];unfold LIM;omega)
    have hV:Uu.set p (.lst (MtD M++[.tup [.str (e.1++[x]),.tup (za (zH m k e.2 x))]]))=StM s p q (M++[(e.1++[x],zH m k e.2 x)]):=by
     rw[<-hU]
     unfold StM
     rw[b8,ka _ _ (cz F),b8,bN]
     unfold MtD
     rw[bN];rfl
    rw[hV]at J
    have a2:=am6 (P:=P) n hm (qi m k e.2 x) k (StM s p q (M++[(e.1++[x],zH m k e.2 x)]))
    have a3:=aJ7 (a:=e.1) (b:=[x]) (s:=Uu) (show e.1.length+[x].length<=LIM by unfold LIM;simp;omega)
    cases hab:zb m k (zH m k e.2 x)with
    | true =>
     rw[if_pos rfl]
     have et:turn (aa4 P (n+3)) (.one 5) zx (.str [x]) [some m.d,some (.int k),some (enD e),some (.ref p),some (.ref q),Y,y6] (StM s p q M)=.ok (.ret .non) (StM s p q (M++[(e.1++[x],zH m k e.2 x)])):=by
      rw[hab]at a2
      simp -implicitDefEqProofs only[zx]
      simp -implicitDefEqProofs only[zh,ab4,ae1,ae8,ae4,ag6,ad6,af3,ab2,ac6,ac8,ag0,ad2,ae0,ae5,af9,ad7,af5,ag5,af4,af6,ae7,ag2,ab6,ag7,ag3,af1,af2,ac4,ac7,ag1,ac5,ac0,aa8,aa5,ab5,ac2,aa6,ac3,ag4,ad9,af8,ae9,R.bind_ok,qw,aa3,aa2,aa0,ad5,ad0,ab1,ab3,ad1,ad3,ag,af,aa1,zm,ac1,aa9,ab7,ab0,ab8,ab9,ad8,af0,ae6,ae2,ae3,af7,aa7,ad4,if_true,if_false,ac,decide_true,decide_false,am,aj,turn,bj3,bu3,hl,qd,G,hm1,h,a0,show((M.length:Int)=300)=False from eq_false (by omega),Z,a3,J,a2,bE3]
     rw[a1,al5 (ok:=λ u=>chk s u []) rfl,et]
     rfl
    | false =>
     rw[if_neg (by nofun)]
     have et:turn (aa4 P (n+3)) (.one 5) zx (.str [x]) [some m.d,some (.int k),some (enD e),some (.ref p),some (.ref q),Y,y6] (StM s p q M)=.ok (.next [some m.d,some (.int k),some (enD e),some (.ref p),some (.ref q),some (.str [x]),some (.tup (za (zH m k e.2 x)))]) (StM s p q (M++[(e.1++[x],zH m k e.2 x)])):=by
      rw[hab]at a2
      simp -implicitDefEqProofs only[zx]
      simp -implicitDefEqProofs only[zh,ab4,ae1,ae8,ae4,ag6,ad6,af3,ab2,ac6,ac8,ag0,ad2,ae0,ae5,af9,ad7,af5,ag5,af4,af6,ae7,ag2,ab6,ag7,ag3,af1,af2,ac4,ac7,ag1,ac5,ac0,aa8,aa5,ab5,ac2,aa6,ac3,ag4,ad9,af8,ae9,R.bind_ok,qw,aa3,aa2,aa0,ad5,ad0,ab1,ab3,ad1,ad3,ag,af,aa1,zm,ac1,aa9,ab7,ab0,ab8,ab9,ad8,af0,ae6,ae2,ae3,af7,aa7,ad4,if_true,if_false,ac,decide_true,decide_false,am,aj,turn,bj3,bu3,hl,qd,G,hm1,h,a0,show((M.length:Int)=300)=False from eq_false (by omega),Z,a3,J,a2]
     have ih:=bK5 n hm (k:=k) he hw hp hq F B (M++[(e.1++[x],zH m k e.2 x)]) (some (.str [x])) (some (.tup (za (zH m k e.2 x)))) (by rw[ax];show M.length+1<=300;omega) (λ d hd=>by
      rcases aP.mp hd with z|z
      .exact hs d z
      .rw[ay.mp z];exact qi ..)
     rw[a1,al5 (ok:=λ u=>chk s u []) rfl,fx,et]
     exact ih
end
noncomputable def cf2 (f:Rw->Nat->Rw)(ab:Rw->Bool)(R:Nat)(r0:Rw)(k:Nat)(M:List (List Nat×Rw)):Bres->Prop
 | .more M'=>MOk f ab R r0 k M'/\(∀ e∈M',ab e.2=false)/\M.length<=M'.length
 | .stop M'=>MOk f ab R r0 k M'/\∃(A:List (List Nat×Rw)) (z:List Nat×Rw),M'=A++[z]/\ab z.2=true/\M.length<=A.length
 | .over=>True
theorem am9 {f:Rw->Nat->Rw}{ab:Rw->Bool}{R:Nat}{J:Rw}(G:∀ r x,(f r x).length=R){k:Nat}{e:List Nat×Rw}(hk:e.1.length+1<=k):∀(F:List Nat) (M:List (List Nat×Rw)),MOk f ab R J k M->e∈M->(∀ d∈M,ab d.2=false)->cf2 f ab R J k M (inn f ab e F M)
 | [],M,h,he,hn=>by unfold inn;exact⟨h,hn,aw _⟩
 | x::F,M,h,he,hn=>by
  unfold inn
  by_cases h1:f e.2 x∈M.map (·.2)
  .rw[if_pos h1];exact am9 G hk F M h he hn
  .rw[if_neg h1]
   by_cases h3:M.length=300
   .rw[if_pos h3];trivial
   .rw[if_neg h3]
    have h':=h.snoc (x:=x) G he hk h3
    cases ha:ab (f e.2 x)with
    | true=>rw[if_pos rfl];exact⟨h',M,_,rfl,ha,aw _⟩
    | false =>
     rw[if_neg (by nofun)]
     have Y:=am9 G hk F (M++[(e.1++[x],f e.2 x)]) h' (bh _ he) (λ d hd=>by
      rcases aP.mp hd with z|z
      .exact hn d z
      .rw[ay.mp z];exact ha)
     revert Y
     generalize inn f ab e F (M++[(e.1++[x],f e.2 x)])=B
     have hl:(M++[(e.1++[x],f e.2 x)]).length=M.length+1:=by rw[ax];rfl
     cases B with
     | more M'=>rintro⟨a,b,c⟩;exact⟨a,b,by omega⟩
     | stop M'=>rintro⟨a,A,z,e1,e2,e3⟩;exact⟨a,A,z,e1,e2,by omega⟩
     | over=>exact id
theorem bG4 {s:Sto}{r:Nat}{l:List D}{d:D}(h:s[r]?=some (.lst (l++[d]))):ixM (.ref r) (.int (-1)) s=.ok d s:=by
 have e:ixn (l++[d]).length (-1)=some l.length:=by
  unfold ixn
  rw[if_neg (by omega),if_pos (by rw[ax];show -((l.length+1:Nat):Int)<=-1;omega)]
  congr 1
  rw[ax]
  show(-1+((l.length+1:Nat):Int)).toNat=l.length
  omega
 unfold ixM
 simp only[h,e,af,aK (aw _),ce]
 rfl
theorem aM9 (s:Sto)(M:List (List Nat×Rw)):StM (s++[.lst [],.dit []]) s.length (s.length+1) M=s++[.lst (MtD M),.dit (Sn (M.map (·.2)))]:=by
 unfold StM
 rw[cy,if_neg (by omega),ce,cy,if_neg (by omega),show s.length+1 - s.length=1 by omega]
 rfl
theorem bx5 {s:Sto}{p q:Nat}(h:p≠q)(M B:List (List Nat×Rw)):((StM s p q M).set p (.lst (MtD B))).set q (.dit (Sn (B.map (·.2))))=StM s p q B:=by
 unfold StM
 rw[ka _ _ (cz h),b8,b8]
section
variable {P:Pr} [Has P ai2] [Has P aj0] [Has P ah7] [Has P ah6] [Has P ah8] [Has P an6] [Has P ag8] [Has P ap2] [Has P ai1] [Has P ah2] [HasC P "LETTERS" (.tup ak8)] [HasC P "MOST_ROWS" (.int 300)] [Has P ah0] [Has P ag9] [HasX P "meet_behind" ah1] [HasE P "TooMuch" []]
theorem bx4 (n:Nat){m:Mc}(hm:m.Ok){k:Int}{e:List Nat×Rw}(he:e.2.length=m.R)(hw:e.1.length<=1000){s:Sto}{p q:Nat}(hp:p<s.length)(hq:q<s.length)(G:p≠q){M:List (List Nat×Rw)}(hM:M.length<=300)(hs:∀ d∈M,d.2.length=m.R) :
  match inn (zH m k) (zb m k) e (qr m.L) M with
  | .more h=>(aa4 P (n+4)).call "meet_behind" [m.d,.int k,enD e,.ref p,.ref q] (StM s p q M)=.ok .non (StM s p q h)
  | .stop h=>(aa4 P (n+4)).call "meet_behind" [m.d,.int k,enD e,.ref p,.ref q] (StM s p q M)=.ok .non (StM s p q h)
  | .over=>(aa4 P (n+4)).call "meet_behind" [m.d,.int k,enD e,.ref p,.ref q] (StM s p q M)=.bad/\∃ h,(aa4 P (n+4)).xcall "meet_behind" [m.d,.int k,enD e,.ref p,.ref q] (StM s p q M)=some ("TooMuch",StM s p q h):=by
 have J:=hm.L3
 have Y:(aa4 P (n+4)).call "meet_behind" [m.d,.int k,enD e,.ref p,.ref q] (StM s p q M)=_:=zd ag9 (n:=n+3) rfl
 have x0:(aa4 P (n+4)).xcall "meet_behind" [m.d,.int k,enD e,.ref p,.ref q] (StM s p q M)=_:=aC0 ah1 (n:=n+3) rfl
 have B:(aa4 P (n+3)).call "letters_of" [m.d] (StM s p q M)=.ok (.tup (sg (qr m.L))) (StM s p q M):=by
  have:=aW8 (P:=P) (n+2) (L:=m.L) J [.int m.R,.tup (qR m.bg),.tup (qR m.en),.tup (m.ds.map Dr.d)] (StM s p q M)
  rw[bi0 J]at this
  exact this
 have go:=bK5 (P:=P) n hm (k:=k) he hw hp hq G (qr m.L) M none none hM hs
 have Z:∀ h,zr (StM s p q M) .non (StM s p q h)=.ok .non (StM s p q h):=λ h=>by
  have:=aW6 (s:=StM s p q M) (p:=p) (q:=q) (a:=.lst (MtD h)) (b:=.dit (Sn (h.map (·.2)))) bv8 bS0
  rwa [bx5 G]at this
 rw[show(cH some [m.d,.int k,enD e,.ref p,.ref q]++aA ag9.vs none)=[some m.d,some (.int k),some (enD e),some (.ref p),some (.ref q),none,none]from rfl]at Y
 have hb:ag9.body=.cons (.for_ (.one 5) (.seq (.call "letters_of" (.ex (.var 0) .nil))) zx) .nil:=rfl
 rw[hb]at Y
 cases hB:inn (zH m k) (zb m k) e (qr m.L) M with
 | more h =>
  rw[hB]at go
  obtain⟨z5,z6,go⟩:=go
  rw[Y]
  simp -implicitDefEqProofs only[zh,ab4,ae1,ae8,ae4,ag6,ad6,af3,ab2,ac6,ac8,ag0,ad2,ae0,ae5,af9,ad7,af5,ag5,af4,af6,ae7,ag2,ab6,ag7,ag3,af1,af2,ac4,ac7,ag1,ac5,ac0,aa8,aa5,ab5,ac2,aa6,ac3,ag4,ad9,af8,ae9,R.bind_ok,qw,aa3,aa2,aa0,ad5,ad0,ab1,ab3,ad1,ad3,ag,af,aa1,zm,ac1,aa9,ab7,ab0,ab8,ab9,ad8,af0,ae6,ae2,ae3,af7,aa7,ad4,if_true,if_false,ac,decide_true,decide_false,am,aj,B,qB]
  rw[show au8 (λ F=>chk (StM s p q M) F []) (turn (aa4 P (n+3)) (.one 5) zx) (sg (qr m.L)) [some m.d,some (.int k),some (enD e),some (.ref p),some (.ref q),none,none] (StM s p q M)=_ from go]
  simp -implicitDefEqProofs only[zh,ab4,ae1,ae8,ae4,ag6,ad6,af3,ab2,ac6,ac8,ag0,ad2,ae0,ae5,af9,ad7,af5,ag5,af4,af6,ae7,ag2,ab6,ag7,ag3,af1,af2,ac4,ac7,ag1,ac5,ac0,aa8,aa5,ab5,ac2,aa6,ac3,ag4,ad9,af8,ae9,R.bind_ok,qw,aa3,aa2,aa0,ad5,ad0,ab1,ab3,ad1,ad3,ag,af,aa1,zm,ac1,aa9,ab7,ab0,ab8,ab9,ad8,af0,ae6,ae2,ae3,af7,aa7,ad4,if_true,if_false,ac,decide_true,decide_false,am,aj]
  exact Z h
 | stop h =>
  rw[hB]at go
  rw[Y]
  simp -implicitDefEqProofs only[zh,ab4,ae1,ae8,ae4,ag6,ad6,af3,ab2,ac6,ac8,ag0,ad2,ae0,ae5,af9,ad7,af5,ag5,af4,af6,ae7,ag2,ab6,ag7,ag3,af1,af2,ac4,ac7,ag1,ac5,ac0,aa8,aa5,ab5,ac2,aa6,ac3,ag4,ad9,af8,ae9,R.bind_ok,qw,aa3,aa2,aa0,ad5,ad0,ab1,ab3,ad1,ad3,ag,af,aa1,zm,ac1,aa9,ab7,ab0,ab8,ab9,ad8,af0,ae6,ae2,ae3,af7,aa7,ad4,if_true,if_false,ac,decide_true,decide_false,am,aj,B,qB]
  rw[show au8 (λ F=>chk (StM s p q M) F []) (turn (aa4 P (n+3)) (.one 5) zx) (sg (qr m.L)) [some m.d,some (.int k),some (enD e),some (.ref p),some (.ref q),none,none] (StM s p q M)=_ from go]
  simp -implicitDefEqProofs only[zh,ab4,ae1,ae8,ae4,ag6,ad6,af3,ab2,ac6,ac8,ag0,ad2,ae0,ae5,af9,ad7,af5,ag5,af4,af6,ae7,ag2,ab6,ag7,ag3,af1,af2,ac4,ac7,ag1,ac5,ac0,aa8,aa5,ab5,ac2,aa6,ac3,ag4,ad9,af8,ae9,R.bind_ok,qw,aa3,aa2,aa0,ad5,ad0,ab1,ab3,ad1,ad3,ag,af,aa1,zm,ac1,aa9,ab7,ab0,ab8,ab9,ad8,af0,ae6,ae2,ae3,af7,aa7,ad4,if_true,if_false,ac,decide_true,decide_false,am,aj]
  exact Z h
 | over =>
  rw[hB]at go
  obtain⟨g1,h,g2⟩:=go
  refine⟨?_,h,?_⟩
  .rw[Y]
   simp -implicitDefEqProofs only[zh,ab4,ae1,ae8,ae4,ag6,ad6,af3,ab2,ac6,ac8,ag0,ad2,ae0,ae5,af9,ad7,af5,ag5,af4,af6,ae7,ag2,ab6,ag7,ag3,af1,af2,ac4,ac7,ag1,ac5,ac0,aa8,aa5,ab5,ac2,aa6,ac3,ag4,ad9,af8,ae9,R.bind_ok,qw,aa3,aa2,aa0,ad5,ad0,ab1,ab3,ad1,ad3,ag,af,aa1,zm,ac1,aa9,ab7,ab0,ab8,ab9,ad8,af0,ae6,ae2,ae3,af7,aa7,ad4,if_true,if_false,ac,decide_true,decide_false,am,aj,B,qB]
   rw[show au8 (λ F=>chk (StM s p q M) F []) (turn (aa4 P (n+3)) (.one 5) zx) (sg (qr m.L)) [some m.d,some (.int k),some (enD e),some (.ref p),some (.ref q),none,none] (StM s p q M)=_ from g1]
   rfl
  .rw[x0]
   have ei:evI (aa4 P (n+3)) (.seq (.call "letters_of" (.ex (.var 0) .nil))) [some m.d,some (.int k),some (enD e),some (.ref p),some (.ref q),none,none] (StM s p q M)=.ok ⟨sg (qr m.L),[]⟩ (StM s p q M):=by
    simp -implicitDefEqProofs only[zh,ab4,ae1,ae8,ae4,ag6,ad6,af3,ab2,ac6,ac8,ag0,ad2,ae0,ae5,af9,ad7,af5,ag5,af4,af6,ae7,ag2,ab6,ag7,ag3,af1,af2,ac4,ac7,ag1,ac5,ac0,aa8,aa5,ab5,ac2,aa6,ac3,ag4,ad9,af8,ae9,R.bind_ok,qw,aa3,aa2,aa0,ad5,ad0,ab1,ab3,ad1,ad3,ag,af,aa1,zm,ac1,aa9,ab7,ab0,ab8,ab9,ad8,af0,ae6,ae2,ae3,af7,aa7,ad4,if_true,if_false,ac,decide_true,decide_false,am,aj,B,qB]
   show(match evI (aa4 P (n+3)) (.seq (.call "letters_of" (.ex (.var 0) .nil))) [some m.d,some (.int k),some (enD e),some (.ref p),some (.ref q),none,none] (StM s p q M)with
    | .ok sq s0=>am5 (λ s=>chk s0 s sq.src) (λ d U s=>match zQ U (.one 5) d with
     | some U=>exs (aa4 P (n+3)) zx U s
     | none=>.bad) (λ d U s=>match zQ U (.one 5) d with
     | some U=>xB (aa4 P (n+3)) mbX U s
     | none=>none) sq.its [some m.d,some (.int k),some (enD e),some (.ref p),some (.ref q),none,none] s0
    | _=>none)=_
   rw[ei]
   exact g2
end
theorem by6 {F:Fns}{U U':Env}{s:Sto}{i:Nat}{a b:Int}{e:E}(h:aJ8 U i s=.ok (.int a) s)(B:ev F e U s=.ok (.int b) s)(h3:au6 U i (.int (a+b))=some U'):ex F (.aug i e) U s=.ok (.next U') s:=by
 show(aJ8 U i s).bind (λ x s=>(ev F e U s).bind λ y s=>match x,y with
  | .int a,.int b=>match au6 U i (.int (a+b))with|some U=>R.ok (Ct.next U) s|none=>.bad
  | _,_=>.bad)=_
 rw[h]
 show(ev F e U s).bind _=_
 rw[B]
 show(match au6 U i (.int (a+b))with|some U=>R.ok (Ct.next U) s|none=>.bad)=_
 rw[h3]
@[simp] theorem as1 {F:Fns} {U:Env} {s:Sto}:ev F (.neg (.cst (.int 1))) U s=.ok (.int (-1)) s:=rfl
noncomputable def rmC:E:=(.and (.cmp .lt (.var 5) (.bi .len (.cons (.var 3) .nil))) (.not (.call "ends_above" (.ex (.var 0) (.ex (.var 1) (.ex (.ix (.ix (.var 3) (.neg (.cst (.int 1)))) (.cst (.int 1))) .nil))))))
noncomputable def rmA:As:=(.ex (.var 0) (.ex (.var 1) (.ex (.ix (.var 3) (.var 5)) (.ex (.var 3) (.ex (.var 4) .nil)))))
noncomputable def rmB:Ss:=(.cons (.ex (.call "meet_behind" rmA)) (.cons (.aug 5 (.cst (.int 1))) .nil))
noncomputable def ai7:Xf:=⟨2,4,.seq (.asg (.one 2) (.call "first_row" (.ex (.var 0) .nil))) (.seq (.asg (.one 3) (.lst (.cons (.tup (.cons (.cst (.str [])) (.cons (.var 2) .nil))) .nil))) (.seq (.asg (.one 4) (.dicU (.var 2) (.cst (.bl true)))) (.seq (.asg (.one 5) (.cst (.int 0))) (.whlX rmC rmB (.call "meet_behind" rmA)))))⟩
theorem bg1 {f:Rw->Nat->Rw}{ab:Rw->Bool}{h:List Nat}{n k:Nat}{M:List (List Nat×Rw)}:bfs f ab h (n+1) k M=match M[k]? with
  | none=>.more M
  | some e=>match inn f ab e h M with
   | .more M'=>bfs f ab h n (k+1) M'
   | .stop M'=>.stop M'
   | .over=>.over:=rfl
section
variable {P:Pr} [Has P ai2] [Has P aj0] [Has P ah7] [Has P ah6] [Has P ah8] [Has P an6] [Has P ag8] [Has P ap2] [Has P ai1] [Has P ah2] [HasC P "LETTERS" (.tup ak8)] [HasC P "MOST_ROWS" (.int 300)] [Has P ah0] [Has P ag9] [HasX P "meet_behind" ah1] [HasE P "TooMuch" []]
theorem co5 (n:Nat){m:Mc}(hm:m.Ok){k:Int}{s:Sto}{p q:Nat}(hp:p<s.length)(F:p≠q){A:List (List Nat×Rw)}{z:List Nat×Rw}(hz:z.2.length=m.R){d2:Option D}{j:Nat} :
  ev (aa4 P (n+4)) rmC [some m.d,some (.int k),d2,some (.ref p),some (.ref q),some (.int (j:Int))] (StM s p q (A++[z]))=.ok (.bl (decide (j<(A++[z]).length)&&!zb m k z.2)) (StM s p q (A++[z])):=by
 have J:=by0 (s:=s) (p:=p) (q:=q) (M:=A++[z]) hp F
 have h:bi .len [.ref p] (StM s p q (A++[z]))=.ok (.int ((A++[z]).length:Int)) (StM s p q (A++[z])):=by rw[an4 J,show(MtD (A++[z])).length=(A++[z]).length from aE ..]
 have B:ixM (.ref p) (.int (-1)) (StM s p q (A++[z]))=.ok (enD z) (StM s p q (A++[z])):=by
  refine bG4 (l:=MtD A) ?_
  rw[J]
  unfold MtD
  rw[bN];rfl
 have G:=am6 (P:=P) (n+1) hm hz k (StM s p q (A++[z]))
 unfold rmC
 by_cases hj:j<(A++[z]).length
 .simp -implicitDefEqProofs only[zh,ab4,ae1,ae8,ae4,ag6,ad6,af3,ab2,ac6,ac8,ag0,ad2,ae0,ae5,af9,ad7,af5,ag5,af4,af6,ae7,ag2,ab6,ag7,ag3,af1,af2,ac4,ac7,ag1,ac5,ac0,aa8,aa5,ab5,ac2,aa6,ac3,ag4,ad9,af8,ae9,R.bind_ok,qw,aa3,aa2,aa0,ad5,ad0,ab1,ab3,ad1,ad3,ag,af,aa1,zm,ac1,aa9,ab7,ab0,ab8,ab9,ad8,af0,ae6,ae2,ae3,af7,aa7,ad4,if_true,if_false,ac,decide_true,decide_false,am,aj,h,show((j:Int)<((A++[z]).length:Int))=True from eq_true (by omega),B,as1,bu3,G,show(j<(A++[z]).length)=True from eq_true hj,dJ]
 .simp -implicitDefEqProofs only[zh,ab4,ae1,ae8,ae4,ag6,ad6,af3,ab2,ac6,ac8,ag0,ad2,ae0,ae5,af9,ad7,af5,ag5,af4,af6,ae7,ag2,ab6,ag7,ag3,af1,af2,ac4,ac7,ag1,ac5,ac0,aa8,aa5,ab5,ac2,aa6,ac3,ag4,ad9,af8,ae9,R.bind_ok,qw,aa3,aa2,aa0,ad5,ad0,ab1,ab3,ad1,ad3,ag,af,aa1,zm,ac1,aa9,ab7,ab0,ab8,ab9,ad8,af0,ae6,ae2,ae3,af7,aa7,ad4,if_true,if_false,ac,decide_true,decide_false,am,aj,h,show((j:Int)<((A++[z]).length:Int))=False from eq_false (by omega),show(j<(A++[z]).length)=False from eq_false hj,jR]
noncomputable def RmR (n:Nat)(P:Pr)(m:Mc)(k:Int)(s:Sto)(p q:Nat)(d2:Option D)(j:Nat)(M:List (List Nat×Rw)):Bres->Prop
 | .more M'=>(∃ a,whl (ev (aa4 P (n+4)) rmC) (exs (aa4 P (n+4)) rmB) [some m.d,some (.int k),d2,some (.ref p),some (.ref q),some (.int (j:Int))] (StM s p q M)=.ok (.next [some m.d,some (.int k),d2,some (.ref p),some (.ref q),a]) (StM s p q M'))/\(∀ N,zI (ev (aa4 P (n+4)) rmC) (exs (aa4 P (n+4)) rmB) (xB (aa4 P (n+4)) (.call "meet_behind" rmA)) N [some m.d,some (.int k),d2,some (.ref p),some (.ref q),some (.int (j:Int))] (StM s p q M)=none)
 | .stop M'=>(∃ a,whl (ev (aa4 P (n+4)) rmC) (exs (aa4 P (n+4)) rmB) [some m.d,some (.int k),d2,some (.ref p),some (.ref q),some (.int (j:Int))] (StM s p q M)=.ok (.next [some m.d,some (.int k),d2,some (.ref p),some (.ref q),a]) (StM s p q M'))/\(∀ N,zI (ev (aa4 P (n+4)) rmC) (exs (aa4 P (n+4)) rmB) (xB (aa4 P (n+4)) (.call "meet_behind" rmA)) N [some m.d,some (.int k),d2,some (.ref p),some (.ref q),some (.int (j:Int))] (StM s p q M)=none)
 | .over=>∃ N M',zI (ev (aa4 P (n+4)) rmC) (exs (aa4 P (n+4)) rmB) (xB (aa4 P (n+4)) (.call "meet_behind" rmA)) N [some m.d,some (.int k),d2,some (.ref p),some (.ref q),some (.int (j:Int))] (StM s p q M)=some ("TooMuch",StM s p q M')
noncomputable def aU2 (f:Rw->Nat->Rw)(ab:Rw->Bool)(R:Nat)(r0:Rw):Bres->Prop
 | .more M=>(∃ k,MOk f ab R r0 k M)/\∀ e∈M,ab e.2=false
 | .stop M=>(∃ k,MOk f ab R r0 k M)/\∃ A z,M=A++[z]/\ab z.2=true
 | .over=>True
theorem aE9 {c:Env->Sto->R D}{g:Env->Sto->R Ct}{B:Env->Sto->Option (String×Sto)}{U:Env}{s s1:Sto}(h:c U s=.ok (.bl false) s1):∀ N,zI c g B N U s=none
 | 0=>rfl
 | N+1=>by unfold zI;rw[h]
theorem qI {c:Env->Sto->R D}{g:Env->Sto->R Ct}{B:Env->Sto->Option (String×Sto)}{U U1:Env}{s s1 s2:Sto}(h:c U s=.ok (.bl true) s1)(F:g U s1=.ok (.next U1) s2)(N:Nat):zI c g B (N+1) U s=zI c g B N U1 s2:=by
 show(match c U s with
  | .ok (.bl true) s1=>match g U s1 with
   | .ok (.next U1) s2=>zI c g B N U1 s2
   | .ok (.cont U1) s2=>zI c g B N U1 s2
   | .ok _ _=>none
   | _=>B U s1
  | _=>none)=_
 rw[h]
 show(match g U s1 with
   | .ok (.next U1) s2=>zI c g B N U1 s2
   | .ok (.cont U1) s2=>zI c g B N U1 s2
   | .ok _ _=>none
   | _=>B U s1)=_
 rw[F]
theorem bH0 {c:Env->Sto->R D}{g:Env->Sto->R Ct}{B:Env->Sto->Option (String×Sto)}{U:Env}{s s1:Sto}(h:c U s=.ok (.bl true) s1)(F:g U s1=.bad)(N:Nat):zI c g B (N+1) U s=B U s1:=by
 show(match c U s with
  | .ok (.bl true) s1=>match g U s1 with
   | .ok (.next U1) s2=>zI c g B N U1 s2
   | .ok (.cont U1) s2=>zI c g B N U1 s2
   | .ok _ _=>none
   | _=>B U s1
  | _=>none)=_
 rw[h]
 show(match g U s1 with
   | .ok (.next U1) s2=>zI c g B N U1 s2
   | .ok (.cont U1) s2=>zI c g B N U1 s2
   | .ok _ _=>none
   | _=>B U s1)=_
 rw[F]
theorem aK7 {α:Type}{l:List α}(h:1<=l.length):∃ A z,l=A++[z]:=⟨l.dropLast,l.getLast (by intro e;rw[e]at h;cases h),(List.dropLast_concat_getLast _).symm⟩
theorem bT9 (n:Nat){m:Mc}(hm:m.Ok){k:Int}{s:Sto}{p q:Nat}(hp:p<s.length)(hq:q<s.length)(J:p≠q){d2:Option D}:∀(F j:Nat) (M:List (List Nat×Rw)),301<=F+j->MOk (zH m k) (zb m k) m.R (zC m) j M->(∀ e∈M,zb m k e.2=false) ->
  RmR n P m k s p q d2 j M (bfs (zH m k) (zb m k) (qr m.L) F j M)/\aU2 (zH m k) (zb m k) m.R (zC m) (bfs (zH m k) (zb m k) (qr m.L) F j M)
 | 0,j,M,hf,h,_=>by
  have:=h.hat
  have:=h.len
  omega
 | F+1,j,M,hf,h,hn=>by
  rw[bg1]
  obtain⟨A,z,hz⟩:=aK7 h.pos
  have a4:z.2.length=m.R:=h.sh z (by rw[hz];exact aM _ (ay.mpr rfl))
  have a5:zb m k z.2=false:=hn z (by rw[hz];exact aM _ (ay.mpr rfl))
  have hc:=co5 (P:=P) n hm (k:=k) (s:=s) (p:=p) (q:=q) hp J (A:=A) (z:=z) a4 (d2:=d2) (j:=j)
  rw[<-hz,a5,aj,fT]at hc
  cases he:M[j]? with
  | none =>
   have hj:¬ j<M.length:=λ z=>by rw[au z]at he;cases he
   rw[decide_eq_false hj]at hc
   exact⟨⟨⟨_,aI3 hc⟩,aE9 hc⟩,⟨j,h⟩,hn⟩
  | some e =>
   have hj:j<M.length:=(ae.mp he).1
   have Y:=aR he
   rw[decide_eq_true hj]at hc
   have a6:=h.wl e Y
   have h':MOk (zH m k) (zb m k) m.R (zC m) (j+1) M:=⟨h.len,h.pos,hj,h.sh,h.fold,λ d hd=>fK (h.wl d hd)⟩
   have sp:=am9 (f:=zH m k) (ab:=zb m k) (qi m k) (k:=j+1) (e:=e) (by omega) (qr m.L) M h' Y hn
   have mk:=bx4 (P:=P) n hm (k:=k) (e:=e) (h.sh e Y) (by have:=h.len;omega) hp hq J (M:=M) h.len h.sh
   have gp:=by0 (s:=s) (p:=p) (q:=q) (M:=M) hp J
   have Z:ixM (.ref p) (.int (j:Int)) (StM s p q M)=.ok (enD e) (StM s p q M):=am1 gp (bu9 he)
   have body:∀ G,(aa4 P (n+4)).call "meet_behind" [m.d,.int k,enD e,.ref p,.ref q] (StM s p q M)=.ok .non (StM s p q G)->exs (aa4 P (n+4)) rmB [some m.d,some (.int k),d2,some (.ref p),some (.ref q),some (.int (j:Int))] (StM s p q M)=.ok (.next [some m.d,some (.int k),d2,some (.ref p),some (.ref q),some (.int ((j+1:Nat):Int))]) (StM s p q G):=λ G ec=>by
    have ea:ex (aa4 P (n+4)) (.aug 5 (.cst (.int 1))) [some m.d,some (.int k),d2,some (.ref p),some (.ref q),some (.int (j:Int))] (StM s p q G)=.ok (.next [some m.d,some (.int k),d2,some (.ref p),some (.ref q),some (.int ((j+1:Nat):Int))]) (StM s p q G):=by6 (a:=(j:Int)) (b:=1) rfl rfl rfl
    unfold rmB rmA
    simp -implicitDefEqProofs only[zh,ab4,ae1,ae8,ae4,ag6,ad6,af3,ab2,ac6,ac8,ag0,ad2,ae0,ae5,af9,ad7,af5,ag5,af4,af6,ae7,ag2,ab6,ag7,ag3,af1,af2,ac4,ac7,ag1,ac5,ac0,aa8,aa5,ab5,ac2,aa6,ac3,ag4,ad9,af8,ae9,R.bind_ok,qw,aa3,aa2,aa0,ad5,ad0,ab1,ab3,ad1,ad3,ag,af,aa1,zm,ac1,aa9,ab7,ab0,ab8,ab9,ad8,af0,ae6,ae2,ae3,af7,aa7,ad4,if_true,if_false,ac,decide_true,decide_false,am,aj,Z,ec,ea]
   show RmR n P m k s p q d2 j M (match inn (zH m k) (zb m k) e (qr m.L) M with
     | .more G=>bfs (zH m k) (zb m k) (qr m.L) F (j+1) G
     | .stop G=>.stop G
     | .over=>.over)/\aU2 (zH m k) (zb m k) m.R (zC m) (match inn (zH m k) (zb m k) e (qr m.L) M with
     | .more G=>bfs (zH m k) (zb m k) (qr m.L) F (j+1) G
     | .stop G=>.stop G
     | .over=>.over)
   revert sp mk
   cases hB:inn (zH m k) (zb m k) e (qr m.L) M with
   | more G =>
    rintro⟨s1,s2,s3⟩ mk
    have ih:=bT9 n hm (k:=k) hp hq J (d2:=d2) F (j+1) G (by omega) s1 s2
    have hb:=body G mk
    show RmR n P m k s p q d2 j M (bfs (zH m k) (zb m k) (qr m.L) F (j+1) G)/\aU2 (zH m k) (zb m k) m.R (zC m) (bfs (zH m k) (zb m k) (qr m.L) F (j+1) G)
    revert ih
    generalize bfs (zH m k) (zb m k) (qr m.L) F (j+1) G=B
    cases B with
    | more M2 =>
     rintro⟨⟨⟨a,w⟩,x⟩,y⟩
     refine⟨⟨⟨a,(aq3 hc hb).trans w⟩,λ N=>?_⟩,y⟩
     cases N with
     | zero=>rfl
     | succ N=>rw[qI hc hb];exact x N
    | stop M2 =>
     rintro⟨⟨⟨a,w⟩,x⟩,y⟩
     refine⟨⟨⟨a,(aq3 hc hb).trans w⟩,λ N=>?_⟩,y⟩
     cases N with
     | zero=>rfl
     | succ N=>rw[qI hc hb];exact x N
    | over =>
     rintro⟨⟨N,M2,x⟩,y⟩
     exact⟨⟨N+1,M2,by rw[qI hc hb];exact x⟩,y⟩
   | stop G =>
    rintro⟨s1,A',z',e1,e2,e3⟩ mk
    have hb:=body G mk
    have a1:z'.2.length=m.R:=s1.sh z' (by rw[e1];exact aM _ (ay.mpr rfl))
    have a0:=co5 (P:=P) n hm (k:=k) (s:=s) (p:=p) (q:=q) hp J (A:=A') (z:=z') a1 (d2:=d2) (j:=j+1)
    rw[<-e1,e2,am,Bool.and_false]at a0
    refine⟨⟨⟨_,(aq3 hc hb).trans (aI3 a0)⟩,λ N=>?_⟩,⟨_,s1⟩,A',z',e1,e2⟩
    cases N with
    | zero=>rfl
    | succ N=>rw[qI hc hb];exact aE9 a0 N
   | over =>
    rintro _ ⟨a3,G,a2⟩
    have hbad:exs (aa4 P (n+4)) rmB [some m.d,some (.int k),d2,some (.ref p),some (.ref q),some (.int (j:Int))] (StM s p q M)=.bad:=by
     unfold rmB rmA
     simp -implicitDefEqProofs only[zh,ab4,ae1,ae8,ae4,ag6,ad6,af3,ab2,ac6,ac8,ag0,ad2,ae0,ae5,af9,ad7,af5,ag5,af4,af6,ae7,ag2,ab6,ag7,ag3,af1,af2,ac4,ac7,ag1,ac5,ac0,aa8,aa5,ab5,ac2,aa6,ac3,ag4,ad9,af8,ae9,R.bind_ok,qw,aa3,aa2,aa0,ad5,ad0,ab1,ab3,ad1,ad3,ag,af,aa1,zm,ac1,aa9,ab7,ab0,ab8,ab9,ad8,af0,ae6,ae2,ae3,af7,aa7,ad4,if_true,if_false,ac,decide_true,decide_false,am,aj,Z,a3]
     rfl
    refine⟨⟨1,G,?_⟩,trivial⟩
    rw[bH0 hc hbad]
    have ea:an3 (aa4 P (n+4)) rmA [some m.d,some (.int k),d2,some (.ref p),some (.ref q),some (.int (j:Int))] (StM s p q M)=.ok [m.d,.int k,enD e,.ref p,.ref q] (StM s p q M):=by
     unfold rmA
     simp -implicitDefEqProofs only[zh,ab4,ae1,ae8,ae4,ag6,ad6,af3,ab2,ac6,ac8,ag0,ad2,ae0,ae5,af9,ad7,af5,ag5,af4,af6,ae7,ag2,ab6,ag7,ag3,af1,af2,ac4,ac7,ag1,ac5,ac0,aa8,aa5,ab5,ac2,aa6,ac3,ag4,ad9,af8,ae9,R.bind_ok,qw,aa3,aa2,aa0,ad5,ad0,ab1,ab3,ad1,ad3,ag,af,aa1,zm,ac1,aa9,ab7,ab0,ab8,ab9,ad8,af0,ae6,ae2,ae3,af7,aa7,ad4,if_true,if_false,ac,decide_true,decide_false,am,aj,Z]
    rw[bc6 ea]
    exact a2
end
section
variable {c:Env->Sto->R D} {g:Env->Sto->R Ct} {gx:Env->Sto->Option (String×Sto)}
theorem qH:∀ {N:Nat} {U:Env} {s:Sto} {r:String×Sto},zI c g gx N U s=some r->∀ K,zI c g gx (N+K) U s=some r
 | 0,U,s,r,h,K=>by cases h
 | N+1,U,s,r,h,K=>by
  rw[show N+1+K=(N+K)+1 by omega]
  unfold zI at h ⊢
  split at h
  .rename_i s1 e1
   split at h
   .exact qH h K
   .exact qH h K
   .cases h
   .exact h
  .cases h
theorem aZ0 {N:Nat}{U:Env}{s:Sto}{r:String×Sto}(h:zI c g gx N U s=some r):whlX c g gx U s=some r:=by
 unfold whlX
 have ex:∃ n,(zI c g gx n U s).isSome=true:=⟨N,by rw[h];rfl⟩
 rw[dif_pos ex]
 have hs:=ex.choose_spec
 generalize ex.choose=K at hs ⊢
 cases hK:zI c g gx K U s with
 | none=>rw[hK]at hs;cases hs
 | some r' =>
  have a:=qH h K
  have b:=qH hK N
  rw[fc]at b
  rw[a]at b
  exact b.symm
theorem aG3 {U:Env}{s:Sto}(h:∀ N,zI c g gx N U s=none):whlX c g gx U s=none:=by
 unfold whlX
 rw[dif_neg]
 rintro⟨N,hN⟩
 rw[h N]at hN;cases hN
end
noncomputable def Bk (m:Mc)(k:Int):Bres:=bfs (zH m k) (zb m k) (qr m.L) 301 0 [([],zC m)]
theorem az7 {m:Mc}{k:Int}(hk:0<=k):zb m k (zC m)=false:=by
 unfold zb
 refine decide_eq_false λ h=>?_
 have hl:=ax1 (m.en.filterMap λ q=>(zC m).getD q none)
 rw[show minI (m.en.filterMap λ q=>(zC m).getD q none)=some (k+1)from h]at hl
 obtain⟨q,_,hq⟩:=cF.mp hl.1
 rw[jv]at hq
 unfold zC at hq
 rw[aS]at hq
 by_cases hR:q<m.R
 .rw[dF hR]at hq
  simp only[ag,Option.getD_some]at hq
  split at hq
  .injection hq with hq;omega
  .cases hq
 .rw[bR (by simp;omega)]at hq
  cases hq
theorem ck0 (m:Mc)(k:Int):MOk (zH m k) (zb m k) m.R (zC m) 0 [([],zC m)] :=
 ⟨(by show 1<=300;decide),aw 1,b9 _,λ e he=>by rw[ay.mp he];show(zC m).length=m.R;unfold zC;simp,λ e he=>by rw[ay.mp he];rfl,λ e he=>by rw[ay.mp he];exact aw _⟩
theorem bv1 {f:Rw->Nat->Rw}{ab:Rw->Bool}{R:Nat}{J:Rw}(Y:∀ r x,(f r x).length=R)(F:List Nat):∀(B j:Nat) (M:List (List Nat×Rw)),301<=B+j->MOk f ab R J j M->(∀ e∈M,ab e.2=false)->aU2 f ab R J (bfs f ab F B j M)
 | 0,j,M,hf',h,_=>by
  have:=h.hat
  have:=h.len
  omega
 | B+1,j,M,hf',h,hn=>by
  rw[bg1]
  cases he:M[j]? with
  | none=>exact⟨⟨j,h⟩,hn⟩
  | some e =>
   have hj:j<M.length:=(ae.mp he).1
   have G:=aR he
   have Z:=h.wl e G
   have h':MOk f ab R J (j+1) M:=⟨h.len,h.pos,hj,h.sh,h.fold,λ d hd=>fK (h.wl d hd)⟩
   have sp:=am9 (f:=f) (ab:=ab) Y (k:=j+1) (e:=e) (by omega) F M h' G hn
   show aU2 f ab R J (match inn f ab e F M with
     | .more M'=>bfs f ab F B (j+1) M'
     | .stop M'=>.stop M'
     | .over=>.over)
   revert sp
   cases hB:inn f ab e F M with
   | more M'=>rintro⟨s1,s2,s3⟩;exact bv1 Y F B (j+1) M' (by omega) s1 s2
   | stop M'=>rintro⟨s1,A',z',e1,e2,e3⟩;exact⟨⟨_,s1⟩,A',z',e1,e2⟩
   | over=>exact λ _=>trivial
theorem cl1 (m:Mc){k:Int}(hk:0<=k):aU2 (zH m k) (zb m k) m.R (zC m) (Bk m k) :=
 bv1 (qi m k) (qr m.L) 301 0 [([],zC m)] (by decide) (ck0 m k) (λ e he=>by rw[ay.mp he];exact az7 hk)
theorem bW0 {F:Fns}{U:Env}{s:Sto}(k v:E):ev F (.dicU k v) U s=(ev F k U (s++[.dit []])).bind λ kd s1=>(ev F v U s1).bind λ h s2=>if kd.keyT=true/\s2[s.length]?=some (.dit [])then .ok (.ref s.length) (s2.set s.length (.dit [(kd,h)]))else .bad:=rfl
noncomputable def RmO (P:Pr)(n:Nat)(m:Mc)(k:Int)(s:Sto):Bres->Prop
 | .more M=>(aa4 P (n+5)).call "rows_met" [m.d,.int k] s=.ok (.ref s.length) (s++[.lst (MtD M)])/\(aa4 P (n+5)).xcall "rows_met" [m.d,.int k] s=none
 | .stop M=>(aa4 P (n+5)).call "rows_met" [m.d,.int k] s=.ok (.ref s.length) (s++[.lst (MtD M)])/\(aa4 P (n+5)).xcall "rows_met" [m.d,.int k] s=none
 | .over=>∃ T,(aa4 P (n+5)).xcall "rows_met" [m.d,.int k] s=some ("TooMuch",s++T)
section
variable {P:Pr} [Has P ai2] [Has P aj0] [Has P ah7] [Has P ah6] [Has P ah9] [Has P ah8] [Has P an6] [Has P ai0] [Has P ag8] [Has P ap2] [Has P ai1] [Has P ah2] [HasC P "LETTERS" (.tup ak8)] [HasC P "MOST_ROWS" (.int 300)] [Has P ah0] [Has P ag9] [HasX P "meet_behind" ah1] [HasE P "TooMuch" []] [Has P ai6] [HasX P "rows_met" ai7]
theorem aL2 (n:Nat){m:Mc}(hm:m.Ok){k:Int}(hk:0<=k)(s:Sto):RmO P n m k s (Bk m k):=by
 have e0:(aa4 P (n+5)).call "rows_met" [m.d,.int k] s=_:=zd ai6 (n:=n+4) rfl
 have x0:(aa4 P (n+5)).xcall "rows_met" [m.d,.int k] s=_:=aC0 ai7 (n:=n+4) rfl
 have f1:=aH7 (P:=P) (n+2) hm
 have J:=hm.R1
 have a2:=hm.R5
 have G:(D.tup (za (zC m))).keyT=true:=aw6 J a2 (by unfold zC;simp)
 have go:=(bT9 (P:=P) n hm (k:=k) (s:=s++[.lst [],.dit []]) (p:=s.length) (q:=s.length+1) (by simp) (by simp) (by omega) (d2:=some (.tup (za (zC m)))) 301 0 [([],zC m)] (by decide) (ck0 m k) (λ e he=>by rw[ay.mp he];exact az7 hk)).1
 have Z:=aM9 s [([],zC m)]
 have g1:(s++[O.lst [D.tup [.str [],.tup (za (zC m))]]]++[O.dit []])[s.length+1]?=some (.dit []):=by rw[aK (by simp),ax];simp
 have g2:(s++[O.lst [D.tup [.str [],.tup (za (zC m))]]]++[O.dit []]).set (s.length+1) (.dit [(.tup (za (zC m)),.bl true)])=StM (s++[.lst [],.dit []]) s.length (s.length+1) [([],zC m)]:=by
  rw[Z,cx,cy,if_neg (by omega),show s.length+1 - s.length=1 by omega];rfl
 have g3:(s++[O.lst [D.tup [.str [],.tup (za (zC m))]]]).length=s.length+1:=by simp
 have hb:ai6.body=.cons (.asg (.one 2) (.call "first_row" (.ex (.var 0) .nil))) (.cons (.asg (.one 3) (.lst (.cons (.tup (.cons (.cst (.str [])) (.cons (.var 2) .nil))) .nil))) (.cons (.asg (.one 4) (.dicU (.var 2) (.cst (.bl true)))) (.cons (.asg (.one 5) (.cst (.int 0))) (.cons (.whl rmC rmB) (.cons (.ret (.var 3)) .nil))))):=rfl
 rw[hb,show(cH some [m.d,.int k]++aA ai6.vs none)=[some m.d,some (.int k),none,none,none,none]from rfl]at e0
 have F:∀ h,(∃ a,whl (ev (aa4 P (n+4)) rmC) (exs (aa4 P (n+4)) rmB) [some m.d,some (.int k),some (.tup (za (zC m))),some (.ref s.length),some (.ref (s.length+1)),some (.int ((0:Nat):Int))] (StM (s++[.lst [],.dit []]) s.length (s.length+1) [([],zC m)])=.ok (.next [some m.d,some (.int k),some (.tup (za (zC m))),some (.ref s.length),some (.ref (s.length+1)),a]) (StM (s++[.lst [],.dit []]) s.length (s.length+1) h))->(aa4 P (n+5)).call "rows_met" [m.d,.int k] s=.ok (.ref s.length) (s++[.lst (MtD h)]):=λ h ⟨a,hw⟩=>by
  have hw:whl (ev (aa4 P (n+4)) rmC) (exs (aa4 P (n+4)) rmB) [some m.d,some (.int k),some (.tup (za (zC m))),some (.ref s.length),some (.ref (s.length+1)),some (.int 0)] (StM (s++[.lst [],.dit []]) s.length (s.length+1) [([],zC m)])=.ok (.next [some m.d,some (.int k),some (.tup (za (zC m))),some (.ref s.length),some (.ref (s.length+1)),a]) (StM (s++[.lst [],.dit []]) s.length (s.length+1) h):=hw
  rw[e0]
  simp -implicitDefEqProofs only[zh,ab4,ae1,ae8,ae4,ag6,ad6,af3,ab2,ac6,ac8,ag0,ad2,ae0,ae5,af9,ad7,af5,ag5,af4,af6,ae7,ag2,ab6,ag7,ag3,af1,af2,ac4,ac7,ag1,ac5,ac0,aa8,aa5,ab5,ac2,aa6,ac3,ag4,ad9,af8,ae9,R.bind_ok,qw,aa3,aa2,aa0,ad5,ad0,ab1,ab3,ad1,ad3,ag,af,aa1,zm,ac1,aa9,ab7,ab0,ab8,ab9,ad8,af0,ae6,ae2,ae3,af7,aa7,ad4,if_true,if_false,ac,decide_true,decide_false,am,aj,f1,bW0,G,g3,g1,true_and,g2,hw]
  rw[aM9]
  have:=ar9 (s:=s) (t:=[]) (u:=[.dit (Sn (h.map (·.2)))]) (o:=.lst (MtD h)) bv8
  exact this
 have Y:ex (aa4 P (n+4)) (.asg (.one 2) (.call "first_row" (.ex (.var 0) .nil))) [some m.d,some (.int k),none,none,none,none] s=.ok (.next [some m.d,some (.int k),some (.tup (za (zC m))),none,none,none]) s:=by simp -implicitDefEqProofs only[zh,ab4,ae1,ae8,ae4,ag6,ad6,af3,ab2,ac6,ac8,ag0,ad2,ae0,ae5,af9,ad7,af5,ag5,af4,af6,ae7,ag2,ab6,ag7,ag3,af1,af2,ac4,ac7,ag1,ac5,ac0,aa8,aa5,ab5,ac2,aa6,ac3,ag4,ad9,af8,ae9,R.bind_ok,qw,aa3,aa2,aa0,ad5,ad0,ab1,ab3,ad1,ad3,ag,af,aa1,zm,ac1,aa9,ab7,ab0,ab8,ab9,ad8,af0,ae6,ae2,ae3,af7,aa7,ad4,if_true,if_false,ac,decide_true,decide_false,am,aj,f1]
 have a0:ex (aa4 P (n+4)) (.asg (.one 3) (.lst (.cons (.tup (.cons (.cst (.str [])) (.cons (.var 2) .nil))) .nil))) [some m.d,some (.int k),some (.tup (za (zC m))),none,none,none] s=.ok (.next [some m.d,some (.int k),some (.tup (za (zC m))),some (.ref s.length),none,none]) (s++[O.lst [D.tup [.str [],.tup (za (zC m))]]]):=by simp -implicitDefEqProofs only[zh,ab4,ae1,ae8,ae4,ag6,ad6,af3,ab2,ac6,ac8,ag0,ad2,ae0,ae5,af9,ad7,af5,ag5,af4,af6,ae7,ag2,ab6,ag7,ag3,af1,af2,ac4,ac7,ag1,ac5,ac0,aa8,aa5,ab5,ac2,aa6,ac3,ag4,ad9,af8,ae9,R.bind_ok,qw,aa3,aa2,aa0,ad5,ad0,ab1,ab3,ad1,ad3,ag,af,aa1,zm,ac1,aa9,ab7,ab0,ab8,ab9,ad8,af0,ae6,ae2,ae3,af7,aa7,ad4,if_true,if_false,ac,decide_true,decide_false,am,aj]
 have a3:ex (aa4 P (n+4)) (.asg (.one 4) (.dicU (.var 2) (.cst (.bl true)))) [some m.d,some (.int k),some (.tup (za (zC m))),some (.ref s.length),none,none] (s++[O.lst [D.tup [.str [],.tup (za (zC m))]]])=.ok (.next [some m.d,some (.int k),some (.tup (za (zC m))),some (.ref s.length),some (.ref (s.length+1)),none]) (StM (s++[.lst [],.dit []]) s.length (s.length+1) [([],zC m)]):=by simp -implicitDefEqProofs only[zh,ab4,ae1,ae8,ae4,ag6,ad6,af3,ab2,ac6,ac8,ag0,ad2,ae0,ae5,af9,ad7,af5,ag5,af4,af6,ae7,ag2,ab6,ag7,ag3,af1,af2,ac4,ac7,ag1,ac5,ac0,aa8,aa5,ab5,ac2,aa6,ac3,ag4,ad9,af8,ae9,R.bind_ok,qw,aa3,aa2,aa0,ad5,ad0,ab1,ab3,ad1,ad3,ag,af,aa1,zm,ac1,aa9,ab7,ab0,ab8,ab9,ad8,af0,ae6,ae2,ae3,af7,aa7,ad4,if_true,if_false,ac,decide_true,decide_false,am,aj,bW0,G,g3,g1,true_and,g2]
 have a1:ex (aa4 P (n+4)) (.asg (.one 5) (.cst (.int 0))) [some m.d,some (.int k),some (.tup (za (zC m))),some (.ref s.length),some (.ref (s.length+1)),none] (StM (s++[.lst [],.dit []]) s.length (s.length+1) [([],zC m)])=.ok (.next [some m.d,some (.int k),some (.tup (za (zC m))),some (.ref s.length),some (.ref (s.length+1)),some (.int ((0:Nat):Int))]) (StM (s++[.lst [],.dit []]) s.length (s.length+1) [([],zC m)]):=by simp -implicitDefEqProofs only[zh,ab4,ae1,ae8,ae4,ag6,ad6,af3,ab2,ac6,ac8,ag0,ad2,ae0,ae5,af9,ad7,af5,ag5,af4,af6,ae7,ag2,ab6,ag7,ag3,af1,af2,ac4,ac7,ag1,ac5,ac0,aa8,aa5,ab5,ac2,aa6,ac3,ag4,ad9,af8,ae9,R.bind_ok,qw,aa3,aa2,aa0,ad5,ad0,ab1,ab3,ad1,ad3,ag,af,aa1,zm,ac1,aa9,ab7,ab0,ab8,ab9,ad8,af0,ae6,ae2,ae3,af7,aa7,ad4,if_true,if_false,ac,decide_true,decide_false,am,aj];rfl
 have xr:(aa4 P (n+5)).xcall "rows_met" [m.d,.int k] s=whlX (ev (aa4 P (n+4)) rmC) (exs (aa4 P (n+4)) rmB) (xB (aa4 P (n+4)) (.call "meet_behind" rmA)) [some m.d,some (.int k),some (.tup (za (zC m))),some (.ref s.length),some (.ref (s.length+1)),some (.int ((0:Nat):Int))] (StM (s++[.lst [],.dit []]) s.length (s.length+1) [([],zC m)]):=by
  rw[x0]
  show xB (aa4 P (n+4)) (.seq _ _) [some m.d,some (.int k),none,none,none,none] s=_
  rw[aD0 Y,aD0 a0,aD0 a3,aD0 a1]
  rfl
 show RmO P n m k s (Bk m k)
 unfold Bk
 revert go
 generalize bfs (zH m k) (zb m k) (qr m.L) 301 0 [([],zC m)]=B
 cases B with
 | more M=>rintro⟨a,b⟩;exact⟨F M a,by rw[xr];exact aG3 b⟩
 | stop M=>rintro⟨a,b⟩;exact⟨F M a,by rw[xr];exact aG3 b⟩
 | over =>
  rintro⟨N,h,hN⟩
  refine⟨[.lst (MtD h),.dit (Sn (h.map (·.2)))],?_⟩
  rw[xr,aZ0 hN,aM9]
end
def LL (u w:List Nat):Prop:=u.length<w.length\/(u.length=w.length/\u<w)
def LE (u w:List Nat):Prop:=u=w\/LL u w
theorem ax8:∀ {a b c:List Nat},a<b->b<c->a<c
 | [],[],_,h,_=>absurd h (dz _)
 | _::_,[],_,h,_=>absurd h (by simp)
 | _,_::_,[],_,h=>absurd h (by simp)
 | [],_::_,_::_,_,_=>by simp
 | x::a,y::b,z::c,h,h'=>by
  rw[bM]at h h' ⊢
  rcases h with h|⟨rfl,h⟩
  .rcases h' with h'|⟨rfl,h'⟩
   .exact .inl (jd h h')
   .exact .inl h
  .rcases h' with h'|⟨rfl,h'⟩
   .exact .inl h'
   .exact .inr ⟨rfl,ax8 h h'⟩
theorem bh0:∀ {a b:List Nat},a.length=b.length->a<b->∀ x y,a++[x]<b++[y]
 | [],[],_,h,_,_=>absurd h (dz _)
 | _::_,[],h,_,_,_=>by cases h
 | [],_::_,h,_,_,_=>by cases h
 | u::a,v::b,hl,h,x,y=>by
  rw[bM]at h
  rw[bT,bT,bM]
  rcases h with h|⟨rfl,h⟩
  .exact .inl h
  .exact .inr ⟨rfl,bh0 (by simpa using hl) h x y⟩
theorem aY3:∀ {a:List Nat} {x y:Nat},x<y->a++[x]<a++[y]
 | [],x,y,h=>by rw[cL,cL,bM];exact .inl h
 | u::a,x,y,h=>by rw[bT,bT,bM];exact .inr ⟨rfl,aY3 h⟩
theorem lx_split:∀ {a b:List Nat} {x y:Nat},a.length=b.length->a++[x]<b++[y]->a<b\/(a=b/\x<y)
 | [],[],x,y,_,h=>by
  rw[cL,cL,bM]at h
  rcases h with h|⟨_,h⟩
  .exact .inr ⟨rfl,h⟩
  .exact absurd h (dz _)
 | _::_,[],_,_,h,_=>by cases h
 | [],_::_,_,_,h,_=>by cases h
 | u::a,v::b,x,y,hl,h=>by
  rw[bT,bT,bM]at h
  rw[bM]
  rcases h with h|⟨rfl,h⟩
  .exact .inl (.inl h)
  .rcases lx_split (by simpa using hl) h with g|⟨rfl,g⟩
   .exact .inl (.inr ⟨rfl,g⟩)
   .exact .inr ⟨rfl,g⟩
theorem LL.trans {a b c:List Nat}(h:LL a b)(h':LL b c):LL a c:=by
 rcases h with h|⟨h,g⟩
 .rcases h' with h'|⟨h',g'⟩
  .exact .inl (jd h h')
  .exact .inl (h'▸h)
 .rcases h' with h'|⟨h',g'⟩
  .exact .inl (h▸h')
  .exact .inr ⟨h.trans h',ax8 g g'⟩
theorem LL.irr {a:List Nat}:¬ LL a a:=by
 rintro(h|⟨_,h⟩)
 .exact bF _ h
 .exact dz _ h
theorem LL.snoc {a b:List Nat}(h:LL a b)(x y:Nat):LL (a++[x]) (b++[y]):=by
 rcases h with h|⟨h,g⟩
 .exact .inl (by rw[ax,ax];show a.length+1<b.length+1;omega)
 .exact .inr ⟨by rw[ax,ax,h];rfl,bh0 h g x y⟩
theorem LL.last {a:List Nat}{x y:Nat}(h:x<y):LL (a++[x]) (a++[y]):=.inr ⟨by simp,aY3 h⟩
theorem LL.split {a b:List Nat}{x y:Nat}(h:LL (a++[x]) (b++[y])):LL a b\/(a=b/\x<y):=by
 rcases h with h|⟨h,g⟩
 .rw[ax,ax]at h
  exact .inl (.inl (by have h:a.length+1<b.length+1:=h;omega))
 .rw[ax,ax]at h
  have h:a.length+1=b.length+1:=h
  rcases lx_split (by omega) g with g|g
  .exact .inl (.inr ⟨by omega,g⟩)
  .exact .inr g
theorem LE.trans {a b c:List Nat}(h:LE a b)(h':LE b c):LE a c:=by
 rcases h with rfl|h
 .exact h'
 .rcases h' with rfl|h'
  .exact .inr h
  .exact .inr (h.trans h')
theorem LE.lt {a b c:List Nat}(h:LE a b)(h':LL b c):LL a c:=by
 rcases h with rfl|h
 .exact h'
 .exact h.trans h'
theorem LE.snoc {a b:List Nat}(h:LE a b)(x:Nat):LE (a++[x]) (b++[x]):=by
 rcases h with rfl|h
 .exact .inl rfl
 .exact .inr (h.snoc x x)
section
variable {f:Rw->Nat->Rw} {ab:Rw->Bool} {R:Nat} {r0:Rw} {ls:List Nat}
structure Od (f:Rw->Nat->Rw)(r0:Rw)(ls:List Nat)(j:Nat)(M:List (List Nat×Rw)):Prop where
 hd:([],r0)∈M
 srt:M.Pairwise λ a b=>LL a.1 b.1
 cls:∀ i d,i<j->M[i]?=some d->∀ x∈ls,∃ c∈M,c.2=f d.2 x/\LE c.1 (d.1++[x])
theorem bQ5 {M:List (List Nat×Rw)}(h:M.Pairwise λ a b=>LL a.1 b.1){i j:Nat}{d e:List Nat×Rw}(F:M[i]?=some d)(hj:M[j]?=some e)(hl:LL d.1 e.1):i<j:=by
 obtain⟨G,rfl⟩:=ae.mp F
 obtain⟨B,rfl⟩:=ae.mp hj
 rcases ee i j with q|q|q
 .exact q
 .subst q;exact absurd hl LL.irr
 .exact absurd (hl.trans (cc.mp h j i B G q)) LL.irr
theorem Od.snoc {j:Nat}{M:List (List Nat×Rw)}{z:List Nat×Rw}(h:Od f r0 ls j M)(hj:j<=M.length)(hz:∀ d∈M,LL d.1 z.1):Od f r0 ls j (M++[z]):=by
 refine⟨bh _ h.hd,?_,λ i d B hd x hx=>?_⟩
 .rw[eT]
  refine⟨h.srt,f9 _ _,λ a ha b hb=>?_⟩
  rw[ay.mp hb];exact hz a ha
 .rw[aI (by omega)]at hd
  obtain⟨c,hc,q⟩:=h.cls i d B hd x hx
  exact⟨c,bh _ hc,q⟩
theorem Od.cover {j:Nat}{M:List (List Nat×Rw)}{e:List Nat×Rw}{x:Nat}(h:Od f r0 ls j M)(he:M[j]?=some e)(G:e.2=e.1.foldl f r0)(hc:∀ y∈ls,y<x->∃ c∈M,c.2=f e.2 y/\LE c.1 (e.1++[y])) :
  ∀(n:Nat) (w:List Nat),w.length=n->(∀ c∈w,c∈ls)->LL w (e.1++[x])->∃ d∈M,d.2=w.foldl f r0/\LE d.1 w
 | 0,w,hl,_,_=>by
  rw[bU.mp hl]
  exact⟨_,h.hd,rfl,.inl rfl⟩
 | n+1,w,hl,hw,hL=>by
  obtain⟨F,y,rfl⟩:=aK7 (l:=w) (by omega)
  have J:F.length=n:=by rw[ax]at hl;have hl:F.length+1=n+1:=hl;omega
  have hy:y∈ls:=hw y (aM _ (ay.mpr rfl))
  have Z:∀ c∈F,c∈ls:=λ c hc=>hw c (bh _ hc)
  rw[eA]
  rcases hL.split with g|⟨rfl,g⟩
  .obtain⟨d,hd,d2,dl⟩:=Od.cover h he G hc n F J Z (.inl (by rw[ax];show F.length<e.1.length+1;rcases g with g|⟨g,_⟩<;>omega))
   obtain⟨i,hi⟩:=bV hd
   obtain⟨c,B,Y,cl⟩:=h.cls i d (bQ5 h.srt hi he (dl.lt g)) hi y hy
   exact⟨c,B,by rw[Y,d2];rfl,cl.trans (dl.snoc y)⟩
  .obtain⟨c,B,Y,cl⟩:=hc y hy g
   exact⟨c,B,by rw[Y,G];rfl,cl⟩
end
theorem bo3 (L:Nat):(qr L).Pairwise (· < ·):=by
 unfold qr
 rw[List.pairwise_map]
 exact gA.imp λ h=>by omega
section
variable {f:Rw->Nat->Rw} {ab:Rw->Bool} {R:Nat} {r0:Rw} {ls:List Nat}
structure Pn (f:Rw->Nat->Rw)(r0:Rw)(ls:List Nat)(M:List (List Nat×Rw)):Prop where
 z0:M[0]?=some ([],r0)
 par:∀ i e,M[i]?=some e->(i=0/\e=([],r0))\/∃ i' d x,i'<i/\M[i']?=some d/\x∈ls/\e=(d.1++[x],f d.2 x)
 nd:(M.map (·.2)).Nodup
theorem Pn.snoc {M:List (List Nat×Rw)}{j:Nat}{e:List Nat×Rw}{x:Nat}(h:Pn f r0 ls M)(he:M[j]?=some e)(hx:x∈ls)(hn:f e.2 x ∉ M.map (·.2)):Pn f r0 ls (M++[(e.1++[x],f e.2 x)]):=by
 have h0:=(ae.mp h.z0).1
 have hj:=(ae.mp he).1
 refine⟨by rw[aI h0];exact h.z0,λ i d hd=>?_,?_⟩
 .by_cases hi:i<M.length
  .rw[aI hi]at hd
   rcases h.par i d hd with q|⟨i',d',B,q1,q2,q3,q4⟩
   .exact .inl q
   .exact .inr ⟨i',d',B,q1,by rw[aI (by omega)];exact q2,q3,q4⟩
  .rw[aK (by omega)]at hd
   have e2:=ay.mp (aR hd)
   exact .inr ⟨j,e,x,by omega,by rw[aI hj];exact he,hx,e2⟩
 .rw[bN]
  refine List.nodup_append.mpr ⟨h.nd,by simp,λ a ha b hb=>?_⟩
  rintro rfl
  rw[ay.mp hb]at ha
  exact hn ha
theorem Pn.facts {M:List (List Nat×Rw)}(h:Pn f r0 ls M):∀(i:Nat) (e:List Nat×Rw),M[i]?=some e->e.2=e.1.foldl f r0/\∀ c∈e.1,c∈ls:=by
 intro i
 induction i using jJ with
 | ind i ih =>
  intro e he
  rcases h.par i e he with⟨_,rfl⟩|⟨i',d,x,q1,q2,q3,rfl⟩
  .exact⟨rfl,by nofun⟩
  .obtain⟨k1,k2⟩:=ih i' q1 d q2
   refine⟨?_,λ c hc=>?_⟩
   .show f d.2 x=(d.1++[x]).foldl f r0
    rw[eA,<-k1];rfl
   .rcases aP.mp hc with z|z
    .exact k2 c z
    .rw[ay.mp z];exact q3
theorem Pn.fact {M:List (List Nat×Rw)}(h:Pn f r0 ls M){e:List Nat×Rw}(he:e∈M):e.2=e.1.foldl f r0/\∀ c∈e.1,c∈ls:=by
 obtain⟨i,B⟩:=bV he
 exact h.facts i e B
def Srt (M:List (List Nat×Rw)):Prop:=M.Pairwise λ a b=>LL a.1 b.1
noncomputable def ce2 (f:Rw->Nat->Rw)(ab:Rw->Bool)(r0:Rw)(ls:List Nat):Bres->Prop
 | .more M=>Pn f r0 ls M/\Srt M/\(∀ e∈M,ab e.2=false)/\∀ e∈M,∀ x∈ls,∃ c∈M,c.2=f e.2 x/\LE c.1 (e.1++[x])
 | .stop M=>Pn f r0 ls M/\Srt M/\∃ A z,M=A++[z]/\ab z.2=true/\(∀ e∈A,ab e.2=false)/\∀ e∈M,∀ x∈ls,LL (e.1++[x]) z.1->∃ c∈M,c.2=f e.2 x/\LE c.1 (e.1++[x])
 | .over=>True
noncomputable def ca9 (f:Rw->Nat->Rw)(ab:Rw->Bool)(r0:Rw)(ls:List Nat)(j:Nat)(e:List Nat×Rw):Bres->Prop
 | .more M=>(Od f r0 ls (j+1) M/\Pn f r0 ls M)/\M[j]?=some e/\(∀ d∈M,∃ y,LE d.1 (e.1++[y]))/\∀ d∈M,ab d.2=false
 | .stop M=>ce2 f ab r0 ls (.stop M)
 | .over=>True
theorem aL9 (a:List Nat)(x:Nat):¬ LL (a++[x]) a:=by
 rintro(q|⟨q,_⟩)
 .rw[ax]at q;have q:a.length+1<a.length:=q;omega
 .rw[ax]at q;have q:a.length+1=a.length:=q;omega
theorem aJ0 (hs:ls.Pairwise (· < ·)){j:Nat}{e:List Nat×Rw}:∀(J G:List Nat) (M:List (List Nat×Rw)),G++J=ls->Od f r0 ls j M->Pn f r0 ls M->M[j]?=some e->(∀ y∈G,∃ c∈M,c.2=f e.2 y/\LE c.1 (e.1++[y]))->(∀ d∈M,∀ x∈J,LL d.1 (e.1++[x]))->(∀ d∈M,∃ y,LE d.1 (e.1++[y]))->(∀ d∈M,ab d.2=false)->ca9 f ab r0 ls j e (inn f ab e J M)
 | [],G,M,hd,h,hp,he,hc,_,hy,hn=>by
  unfold inn
  rw[bw]at hd
  subst hd
  refine⟨⟨⟨h.hd,h.srt,λ i d hi hd x hx=>?_⟩,hp⟩,he,hy,hn⟩
  rcases Nat.lt_or_eq_of_le (Nat.le_of_lt_succ hi)with q|q
  .exact h.cls i d q hd x hx
  .subst q
   rw[he]at hd
   cases hd
   exact hc x hx
 | x::J,G,M,hd,h,hpn,he,hc,hu,hy,hn=>by
  have hj:=(ae.mp he).1
  have a1:x∈ls:=by rw[<-hd];exact aM _ (aC ..)
  have hp:∀ y∈ls,y<x->y∈G:=λ y hy hl=>by
   rw[<-hd]at hy
   rcases aP.mp hy with z|z
   .exact z
   .rw[<-hd,eT]at hs
    rcases aH.mp z with rfl|z
    .exact absurd hl (bF _)
    .have:=(dR.mp hs.2.1).1 y z
     omega
  have hx:∀ Y∈J,x<Y:=by
   rw[<-hd,eT]at hs
   exact(dR.mp hs.2.1).1
  have a0:(G++[x])++J=ls:=by rw[cx];exact hd
  unfold inn
  by_cases h1:f e.2 x∈M.map (·.2)
  .rw[if_pos h1]
   obtain⟨c,F,c2⟩:=aQ.mp h1
   refine aJ0 hs J (G++[x]) M a0 h hpn he (λ y Z=>?_) (λ d hd Y B=>hu d hd Y (aq _ B)) hy hn
   rcases aP.mp Z with z|z
   .exact hc y z
   .rw[ay.mp z]
    exact⟨c,F,c2,.inr (hu c F x (aC ..))⟩
  .rw[if_neg h1]
   by_cases h2:M.length=300
   .rw[if_pos h2];trivial
   .rw[if_neg h2]
    have hO:=h.snoc (z:=(e.1++[x],f e.2 x)) (gc hj) λ d hd=>hu d hd x (aC ..)
    have hP:=hpn.snoc he a1 h1
    cases h3:ab (f e.2 x)with
    | true =>
     rw[if_pos rfl]
     refine⟨hP,hO.srt,M,_,rfl,h3,hn,λ d hd Y B hL=>?_⟩
     rcases aP.mp hd with z|z
     .obtain⟨f1,f2⟩:=hpn.fact z
      obtain⟨c,F,c2,cl⟩:=h.cover he (hpn.facts j e he).1 (λ y hy hl=>hc y (hp y hy hl)) _ (d.1++[Y]) rfl (λ c hc=>(aP.mp hc).elim (f2 c) λ q=>by rw[ay.mp q];exact B) hL
      refine⟨c,bh _ F,?_,cl⟩
      rw[c2,eA,<-f1];rfl
     .rw[ay.mp z]at hL
      exact absurd hL (aL9 _ _)
    | false =>
     rw[if_neg (by nofun)]
     refine aJ0 hs J (G++[x]) (M++[(e.1++[x],f e.2 x)]) a0 hO hP (by rw[aI hj];exact he) (λ y Z=>?_) (λ d hd Y B=>?_) (λ d hd=>?_) (λ d hd=>?_)
     .rcases aP.mp Z with z|z
      .obtain⟨c,q,q2⟩:=hc y z
       exact⟨c,bh _ q,q2⟩
      .rw[ay.mp z]
       exact⟨_,aM _ (ay.mpr rfl),rfl,.inl rfl⟩
     .rcases aP.mp hd with z|z
      .exact hu d z Y (aq _ B)
      .rw[ay.mp z];exact LL.last (hx Y B)
     .rcases aP.mp hd with z|z
      .exact hy d z
      .rw[ay.mp z];exact⟨x,.inl rfl⟩
     .rcases aP.mp hd with z|z
      .exact hn d z
      .rw[ay.mp z];exact h3
theorem aX6 (hs:ls.Pairwise (· < ·))(Z:∀ r x,(f r x).length=R):∀(B j:Nat) (M:List (List Nat×Rw)),301<=B+j->MOk f ab R r0 j M->(∀ e∈M,ab e.2=false)->Od f r0 ls j M->Pn f r0 ls M->(∀ e,M[j]?=some e->∀ d∈M,∀ x,LL d.1 (e.1++[x]))->ce2 f ab r0 ls (bfs f ab ls B j M)
 | 0,j,M,hf',h,_,_,_,_=>by
  have:=h.hat
  have:=h.len
  omega
 | B+1,j,M,hf',h,hn,ho,hp,hu=>by
  rw[bg1]
  cases he:M[j]? with
  | none =>
   have hj:M.length<=j:=List.getElem?_eq_none_iff.mp he
   refine⟨hp,ho.srt,hn,λ e F x hx=>?_⟩
   obtain⟨i,Y⟩:=bV F
   exact ho.cls i e (aF (ae.mp Y).1 hj) Y x hx
  | some e =>
   have hj:j<M.length:=(ae.mp he).1
   have F:=aR he
   have a0:=h.wl e F
   have h':MOk f ab R r0 (j+1) M:=⟨h.len,h.pos,hj,h.sh,h.fold,λ d hd=>fK (h.wl d hd)⟩
   have sp:=am9 (f:=f) (ab:=ab) Z (k:=j+1) (e:=e) (by omega) ls M h' F hn
   have sq:=aJ0 (ab:=ab) hs (j:=j) (e:=e) ls [] M rfl ho hp he (by nofun) (λ d hd x _=>hu e he d hd x) (λ d hd=>⟨0,.inr (hu e he d hd 0)⟩) hn
   show ce2 f ab r0 ls (match inn f ab e ls M with
     | .more M'=>bfs f ab ls B (j+1) M'
     | .stop M'=>.stop M'
     | .over=>.over)
   revert sp sq
   cases hB:inn f ab e ls M with
   | more M' =>
    rintro⟨s1,s2,s3⟩ ⟨⟨J,o0⟩,o2,o3,_⟩
    refine aX6 hs Z B (j+1) M' (by omega) s1 s2 J o0 λ e' G d hd x=>?_
    obtain⟨y,hy⟩:=o3 d hd
    refine hy.lt (LL.snoc ?_ y x)
    obtain⟨l1,rfl⟩:=ae.mp o2
    obtain⟨l2,rfl⟩:=ae.mp G
    exact cc.mp J.srt j (j+1) l1 l2 (cC j)
   | stop M'=>exact λ _ q=>q
   | over=>exact λ _ _=>trivial
end
theorem bQ8 (m:Mc){k:Int}(hk:0<=k):ce2 (zH m k) (zb m k) (zC m) (qr m.L) (Bk m k):=by
 refine aX6 (bo3 _) (qi m k) 301 0 [([],zC m)] (by decide) (ck0 m k) (λ e he=>by rw[ay.mp he];exact az7 hk) ⟨ay.mpr rfl,f9 _ _,λ i d h=>absurd h (jB _)⟩ ⟨rfl,λ i e he=>?_,by simp⟩ λ e he d hd x=>?_
 .cases i with
  | zero=>cases he;exact .inl ⟨rfl,rfl⟩
  | succ i=>cases he
 .rw[ay.mp hd]
  exact .inl (by rw[ax];show 0<e.1.length+1;omega)
theorem bb9 {P:Pr}[Has P aj6](n:Nat){m:Mc}(hm:m.Ok)(s:Sto):(aa4 P (n+1)).call "_law_first" [m.d] s=.ok (.tup (za (zC m))) s:=by
 have G:(aa4 P (n+1)).call "_law_first" [m.d] s=_:=zd aj6 (n:=n) rfl
 have J:=hm.R5
 rw[G,show(cH some [m.d]++aA aj6.vs none)=[some m.d]from rfl]
 obtain⟨U1,s1,e1,⟨Y,rfl⟩,_⟩:=aB5 (ok:=λ s1=>chk s s1 []) (g:=ap0 (aa4 P n) (.one 0) (.ix (.lst (.cons (.cst .non) (.cons (.cst (.int 0)) .nil))) (.bi .int (.cons (.cmp .isin (.var 0) (.ix (.var 1) (.cst (.int 2)))) .nil)))) (λ U u=>(∃ T,u=s++T)/\∃ x,U=[x,some m.d])
  (λ k=>zU (if k∈m.bg then some 0 else none)) m.R [none,some m.d] s ⟨⟨[],by simp⟩,none,rfl⟩ (λ _ _ _=>rfl) (by
   rintro j hj U u ⟨⟨T,rfl⟩,x,rfl⟩
   have B:=az2 (s:=s++T++[.lst [.non,.int 0]]) (k:=j) (l:=m.bg)
   have hl:(s++T++[O.lst [.non,.int 0]])[(s++T).length]?=some (.lst [.non,.int 0]):=by simp
   by_cases hb:j∈m.bg
   .have h:ixM (.ref (s++T).length) (.int 1) (s++T++[O.lst [.non,.int 0]])=.ok (.int 0) _:=am1 (j:=1) hl rfl
    refine⟨[some (.int j),some m.d],s++T++[.lst [.non,.int 0]],?_,⟨T++[.lst [.non,.int 0]],by simp⟩,_,rfl⟩
    unfold ap0
    simp -implicitDefEqProofs only[zh,ab4,ae1,ae8,ae4,ag6,ad6,af3,ab2,ac6,ac8,ag0,ad2,ae0,ae5,af9,ad7,af5,ag5,af4,af6,ae7,ag2,ab6,ag7,ag3,af1,af2,ac4,ac7,ag1,ac5,ac0,aa8,aa5,ab5,ac2,aa6,ac3,ag4,ad9,af8,ae9,R.bind_ok,qw,aa3,aa2,aa0,ad5,ad0,ab1,ab3,ad1,ad3,ag,af,aa1,zm,ac1,aa9,ab7,ab0,ab8,ab9,ad8,af0,ae6,ae2,ae3,af7,aa7,ad4,if_true,if_false,ac,decide_true,decide_false,am,aj,ixB,qd,B,hb,aY2,h,zt]
   .have h:ixM (.ref (s++T).length) (.int 0) (s++T++[O.lst [.non,.int 0]])=.ok .non _:=am1 (j:=0) hl rfl
    refine⟨[some (.int j),some m.d],s++T++[.lst [.non,.int 0]],?_,⟨T++[.lst [.non,.int 0]],by simp⟩,_,rfl⟩
    unfold ap0
    simp -implicitDefEqProofs only[zh,ab4,ae1,ae8,ae4,ag6,ad6,af3,ab2,ac6,ac8,ag0,ad2,ae0,ae5,af9,ad7,af5,ag5,af4,af6,ae7,ag2,ab6,ag7,ag3,af1,af2,ac4,ac7,ag1,ac5,ac0,aa8,aa5,ab5,ac2,aa6,ac3,ag4,ad9,af8,ae9,R.bind_ok,qw,aa3,aa2,aa0,ad5,ad0,ab1,ab3,ad1,ad3,ag,af,aa1,zm,ac1,aa9,ab7,ab0,ab8,ab9,ad8,af0,ae6,ae2,ae3,af7,aa7,ad4,if_true,if_false,ac,decide_true,decide_false,am,aj,ixB,qd,B,hb,aY2,h,zP])
 have F:((a8 m.R).map λ k=>zU (if k∈m.bg then some 0 else none))=za (zC m):=by unfold za zC;rw[b7];rfl
 rw[F]at e1
 simp -implicitDefEqProofs only[aj6]
 simp -implicitDefEqProofs only[zh,ab4,ae1,ae8,ae4,ag6,ad6,af3,ab2,ac6,ac8,ag0,ad2,ae0,ae5,af9,ad7,af5,ag5,af4,af6,ae7,ag2,ab6,ag7,ag3,af1,af2,ac4,ac7,ag1,ac5,ac0,aa8,aa5,ab5,ac2,aa6,ac3,ag4,ad9,af8,ae9,R.bind_ok,qw,aa3,aa2,aa0,ad5,ad0,ab1,ab3,ad1,ad3,ag,af,aa1,zm,ac1,aa9,ab7,ab0,ab8,ab9,ad8,af0,ae6,ae2,ae3,af7,aa7,ad4,if_true,if_false,ac,decide_true,decide_false,am,aj,ixR,am0,qt (s:=s) (i:=(m.R:Int)) (by unfold Ww62;omega) (by unfold Ww62;omega),if_pos (show(qN 0 (m.R:Int)).length<=LIM by rw[aB2];unfold LIM;omega),show qf [some m.d] [none,some 0]=[none,some m.d]from rfl,e1,aN4]
 exact zX (λ n=>by unfold D.bnd;exact zz qD n) (by nofun)
noncomputable def mnO (K:Int)(row:Rw):Rw:=row.map (Option.map (min · K))
theorem ba9 {K:Int}{row:Rw}{j:Nat}{o:Option Int}(h:row[j]?=some o):(mnO K row)[j]?=some (o.map (min · K)):=by unfold mnO;rw[aS,h];rfl
theorem bG3 {K:Int}{row:Rw}{j:Nat}{o:Option Int}:mnO K (row.set j o)=(mnO K row).set j (o.map (min · K)):=by unfold mnO;exact kB
theorem aX7 {P:Pr}[Has P al2](n:Nat){m:Mc}(hm:m.Ok){row:List (Option Int)}(a1:row.length=m.R)(k:Int)(c:Nat)(s:Sto) :
  (aa4 P (n+1)).call "_law_led" [m.d,.int k,.tup (za row),.str [c]] s=.ok (.tup (za (zH m k row c))) s:=by
 have e0:(aa4 P (n+1)).call "_law_led" [m.d,.int k,.tup (za row),.str [c]] s=_:=zd al2 (n:=n) rfl
 have h5:=hm.R5
 rw[e0,show(cH some [m.d,.int k,D.tup (za row),.str [c]]++aA al2.vs none)=[some m.d,some (.int k),some (D.tup (za row)),some (.str [c]),none,none,none,none,none,none]from rfl]
 obtain⟨U2,s2,e2,b0,_⟩:=ql (ok:=λ a5=>chk s a5 []) (g:=ap0 (aa4 P n) (.one 0) (.cst .non)) (λ U u=>u=s/\∃ x,U=[x]) (λ _=>some .non) (za row) [none] s ⟨rfl,none,rfl⟩ (λ _ _ _=>rfl) (by
  rintro d _ U u ⟨rfl,x,rfl⟩
  exact⟨[some d],u,by unfold ap0;simp -implicitDefEqProofs only[zh,ab4,ae1,ae8,ae4,ag6,ad6,af3,ab2,ac6,ac8,ag0,ad2,ae0,ae5,af9,ad7,af5,ag5,af4,af6,ae7,ag2,ab6,ag7,ag3,af1,af2,ac4,ac7,ag1,ac5,ac0,aa8,aa5,ab5,ac2,aa6,ac3,ag4,ad9,af8,ae9,R.bind_ok,qw,aa3,aa2,aa0,ad5,ad0,ab1,ab3,ad1,ad3,ag,af,aa1,zm,ac1,aa9,ab7,ab0,ab8,ab9,ad8,af0,ae6,ae2,ae3,af7,aa7,ad4,if_true,if_false,ac,decide_true,decide_false,am,aj],rfl,_,rfl⟩)
 subst b0
 have a4:(za row).filterMap (λ _=>some D.non)=za (mnO (k+1) (row.map λ _=>none)):=by
  unfold za mnO
  rw[b7,b7,cY,<-List.filterMap_eq_map]
  exact qy λ _ _=>rfl
 rw[a4]at e2
 have b1:(za row).length<=LIM:=by rw[ap3,a1];unfold LIM;omega
 have a3:∃ bd,al2.body=.cons (.asg (.one 4) (.mk .list (.comp (.one 0) (.seq (.var 2)) (.cst .non) [none]))) (.cons (.for_ (.tup [5,6,7,8]) (.seq (.ix (.var 0) (.cst (.int 4)))) bd) (.cons (.ret (.mk .tuple (.seq (.var 4)))) .nil))/\bd=(.cons (.ite (.and (.cmp .eq (.var 6) (.var 3)) (.notN (.ix (.var 2) (.var 5)))) (.cons (.asg (.one 9) (.bi .min2 (.cons (.bin .add (.ix (.var 2) (.var 5)) (.var 8)) (.cons (.bin .add (.var 1) (.cst (.int 1))) .nil)))) (.cons (.ite (.or (.isN (.ix (.var 4) (.var 7))) (.cmp .lt (.var 9) (.ix (.var 4) (.var 7)))) (.cons (.setIx (.var 4) (.var 7) (.var 9)) .nil) .nil) .nil)) .nil) .nil):=⟨_,rfl,rfl⟩
 obtain⟨bd,hb1,Y⟩:=a3
 rw[hb1]
 simp -implicitDefEqProofs only[zh,ab4,ae1,ae8,ae4,ag6,ad6,af3,ab2,ac6,ac8,ag0,ad2,ae0,ae5,af9,ad7,af5,ag5,af4,af6,ae7,ag2,ab6,ag7,ag3,af1,af2,ac4,ac7,ag1,ac5,ac0,aa8,aa5,ab5,ac2,aa6,ac3,ag4,ad9,af8,ae9,R.bind_ok,qw,aa3,aa2,aa0,ad5,ad0,ab1,ab3,ad1,ad3,ag,af,aa1,zm,ac1,aa9,ab7,ab0,ab8,ab9,ad8,af0,ae6,ae2,ae3,af7,aa7,ad4,if_true,if_false,ac,decide_true,decide_false,am,aj,qB,am0,if_pos b1,show qf [some m.d,some (.int k),some (D.tup (za row)),some (.str [c]),none,none,none,none,none,none] [none]=[none]from rfl,e2,aQ1,ixD]
 refine ay9 (Ww:=λ r=>r.bind (fin s2)=.ok (.tup (za (zH m k row c))) s2) (λ i U v=>∃(th:List (Option Int)) (y5 y6 y7 y8 y9:Option D),v=s2++[.lst (za (mnO (k+1) th))]/\th.length=m.R/\aJ3 (aJ5 (Sr row) c (m.ds.take i)) th/\U=[some m.d,some (.int k),some (D.tup (za row)),some (.str [c]),some (.ref s2.length),y5,y6,y7,y8,y9])
  ⟨row.map λ _=>none,_,_,_,_,_,rfl,by simp[a1],?_,rfl⟩ (λ _ _ _ _ _=>rfl) ?_ ?_
 .intro j o hk
  rw[aS]at hk
  cases e:row[j]? with
  | none=>rw[e]at hk;cases hk
  | some _ =>
   rw[e]at hk;cases hk
   rintro c' ⟨d,hd,_⟩
   rw[List.take_zero]at hd;cases hd
 .rintro i d U v hi ⟨th,y5,y6,y7,y8,y9,rfl,h,B,rfl⟩
  obtain⟨x,hx,rfl⟩:∃ x,m.ds[i]?=some x/\d=x.d:=by
   rw[aS]at hi
   cases e:m.ds[i]? with
   | none=>rw[e]at hi;cases hi
   | some x=>rw[e]at hi;cases hi;exact⟨x,rfl,rfl⟩
  have hok:=hm.ds.1 x (aR hx)
  have a0:m.ds.take (i+1)=m.ds.take i++[x]:=by
   have hlt:i<m.ds.length:=(ae.mp hx).1
   have e:m.ds[i]=x:=(ae.mp hx).2
   rw[<-e,fU]
  obtain⟨oa,ha⟩:∃ o,row[x.a]?=some o:=⟨row[x.a]'(by rw[a1];exact hok.a),au _⟩
  obtain⟨ob,hb⟩:∃ o,th[x.b]?=some o:=⟨th[x.b]'(by rw[h];exact hok.b),au _⟩
  have g4:(s2++[O.lst (za (mnO (k+1) th))])[s2.length]?=some (.lst (za (mnO (k+1) th))):=by simp
  have ia:ixM (.tup (za row)) (.int x.a) (s2++[O.lst (za (mnO (k+1) th))])=.ok (zU oa) (s2++[O.lst (za (mnO (k+1) th))]):=ix_tup (ay7 ha)
  have ib:ixM (.ref s2.length) (.int x.b) (s2++[O.lst (za (mnO (k+1) th))])=.ok (zU (ob.map (min · (k+1)))) (s2++[O.lst (za (mnO (k+1) th))]):=am1 g4 (ay7 (ba9 hb))
  have F:x.d=.tup [.int x.a,.str [x.l],.int x.b,.int x.t]:=rfl
  by_cases hl:x.l=c
  .cases oa with
   | none =>
    refine aV3 (U:=[some m.d,some (.int k),some (D.tup (za row)),some (.str [c]),some (.ref s2.length),some (.int x.a),some (.str [x.l]),some (.int x.b),some (.int x.t),y9]) (s:=s2++[.lst (za (mnO (k+1) th))]) ?_ ⟨th,_,_,_,_,_,rfl,h,?_,rfl⟩
    .rw[Y]
     simp -implicitDefEqProofs only[zh,ab4,ae1,ae8,ae4,ag6,ad6,af3,ab2,ac6,ac8,ag0,ad2,ae0,ae5,af9,ad7,af5,ag5,af4,af6,ae7,ag2,ab6,ag7,ag3,af1,af2,ac4,ac7,ag1,ac5,ac0,aa8,aa5,ab5,ac2,aa6,ac3,ag4,ad9,af8,ae9,R.bind_ok,qw,aa3,aa2,aa0,ad5,ad0,ab1,ab3,ad1,ad3,ag,af,aa1,zm,ac1,aa9,ab7,ab0,ab8,ab9,ad8,af0,ae6,ae2,ae3,af7,aa7,ad4,if_true,if_false,ac,decide_true,decide_false,am,aj,turn,F,qC,hl,ia,zP]
    .rw[a0]
     refine aC6 B λ c' Z=>?_
     exact bZ6 row x.a none ha c' Z.2
   | some y =>
    have a2:=bf6 B hl (bZ6 row x.a (some y) ha) hb
    have G:(if k+1<y+(x.t:Int)then k+1 else y+(x.t:Int))=min (y+(x.t:Int)) (k+1):=by split<;>omega
    have J:∀ v:Int,setIx (.ref s2.length) (.int x.b) (.int v) (s2++[O.lst (za (mnO (k+1) th))])=.ok () (s2++[.lst (za ((mnO (k+1) th).set x.b (some v)))]):=λ v=>by
     rw[bE2 g4 (by rw[ap3];unfold mnO;rw[aE,h];exact hok.b),cy,if_neg (by omega),ce]
     unfold za
     rw[kB];rfl
    refine aV3 (U:=[some m.d,some (.int k),some (D.tup (za row)),some (.str [c]),some (.ref s2.length),some (.int x.a),some (.str [x.l]),some (.int x.b),some (.int x.t),some (.int (min (y+(x.t:Int)) (k+1)))]) (s:=s2++[.lst (za (mnO (k+1) (th.set x.b (minO ob (some (y+x.t))))))]) ?_ ⟨th.set x.b (minO ob (some (y+x.t))),_,_,_,_,_,rfl,by rw[bp];exact h,by rw[a0];exact a2,rfl⟩
    rw[bG3,Y]
    cases ob with
    | none =>
     rw[jK,zP]at ib
     show turn _ _ _ _ _ _=R.ok _ (s2++[O.lst (za ((mnO (k+1) th).set x.b (some (min (y+(x.t:Int)) (k+1)))))])
     simp -implicitDefEqProofs only[zh,ab4,ae1,ae8,ae4,ag6,ad6,af3,ab2,ac6,ac8,ag0,ad2,ae0,ae5,af9,ad7,af5,ag5,af4,af6,ae7,ag2,ab6,ag7,ag3,af1,af2,ac4,ac7,ag1,ac5,ac0,aa8,aa5,ab5,ac2,aa6,ac3,ag4,ad9,af8,ae9,R.bind_ok,qw,aa3,aa2,aa0,ad5,ad0,ab1,ab3,ad1,ad3,ag,af,aa1,zm,ac1,aa9,ab7,ab0,ab8,ab9,ad8,af0,ae6,ae2,ae3,af7,aa7,ad4,if_true,if_false,ac,decide_true,decide_false,am,aj,turn,F,qC,hl,ia,ib,zt,show(D.int y=D.non)=False from eq_false (by nofun),aB0,G,J]
    | some z =>
     rw[ag,zt]at ib
     by_cases hlt:min (y+(x.t:Int)) (k+1)<min z (k+1)
     .have em:minO (some z) (some (y+(x.t:Int)))=some (y+x.t):=by show(if y+(x.t:Int)<z then _ else _)=_;rw[if_pos (by omega)]
      rw[em]
      show turn _ _ _ _ _ _=R.ok _ (s2++[O.lst (za ((mnO (k+1) th).set x.b (some (min (y+(x.t:Int)) (k+1)))))])
      simp -implicitDefEqProofs only[zh,ab4,ae1,ae8,ae4,ag6,ad6,af3,ab2,ac6,ac8,ag0,ad2,ae0,ae5,af9,ad7,af5,ag5,af4,af6,ae7,ag2,ab6,ag7,ag3,af1,af2,ac4,ac7,ag1,ac5,ac0,aa8,aa5,ab5,ac2,aa6,ac3,ag4,ad9,af8,ae9,R.bind_ok,qw,aa3,aa2,aa0,ad5,ad0,ab1,ab3,ad1,ad3,ag,af,aa1,zm,ac1,aa9,ab7,ab0,ab8,ab9,ad8,af0,ae6,ae2,ae3,af7,aa7,ad4,if_true,if_false,ac,decide_true,decide_false,am,aj,turn,F,qC,hl,ia,ib,zt,show(D.int y=D.non)=False from eq_false (by nofun),show(D.int (min z (k+1))=D.non)=False from eq_false (by nofun),aB0,G,hlt,J]
     .have em:(minO (some z) (some (y+(x.t:Int)))).map (min · (k+1))=some (min z (k+1)):=by
       show((if y+(x.t:Int)<z then some (y+(x.t:Int))else some z):Option Int).map _=_
       split
       .show some (min (y+(x.t:Int)) (k+1))=_;congr 1;omega
       .rfl
      have a6:(mnO (k+1) th).set x.b (some (min z (k+1)))=mnO (k+1) th:=by
       have hg:=ba9 (K:=k+1) hb
       have b3:x.b<(mnO (k+1) th).length:=(ae.mp hg).1
       have e3:(mnO (k+1) th)[x.b]=some (min z (k+1)):=(ae.mp hg).2
       rw[<-e3,gN]
      rw[em,a6]
      simp -implicitDefEqProofs only[zh,ab4,ae1,ae8,ae4,ag6,ad6,af3,ab2,ac6,ac8,ag0,ad2,ae0,ae5,af9,ad7,af5,ag5,af4,af6,ae7,ag2,ab6,ag7,ag3,af1,af2,ac4,ac7,ag1,ac5,ac0,aa8,aa5,ab5,ac2,aa6,ac3,ag4,ad9,af8,ae9,R.bind_ok,qw,aa3,aa2,aa0,ad5,ad0,ab1,ab3,ad1,ad3,ag,af,aa1,zm,ac1,aa9,ab7,ab0,ab8,ab9,ad8,af0,ae6,ae2,ae3,af7,aa7,ad4,if_true,if_false,ac,decide_true,decide_false,am,aj,turn,F,qC,hl,ia,ib,zt,show(D.int y=D.non)=False from eq_false (by nofun),show(D.int (min z (k+1))=D.non)=False from eq_false (by nofun),aB0,G,hlt]
  .refine aV3 (U:=[some m.d,some (.int k),some (D.tup (za row)),some (.str [c]),some (.ref s2.length),some (.int x.a),some (.str [x.l]),some (.int x.b),some (.int x.t),y9]) (s:=s2++[.lst (za (mnO (k+1) th))]) ?_ ⟨th,_,_,_,_,_,rfl,h,?_,rfl⟩
   .rw[Y]
    simp -implicitDefEqProofs only[zh,ab4,ae1,ae8,ae4,ag6,ad6,af3,ab2,ac6,ac8,ag0,ad2,ae0,ae5,af9,ad7,af5,ag5,af4,af6,ae7,ag2,ab6,ag7,ag3,af1,af2,ac4,ac7,ag1,ac5,ac0,aa8,aa5,ab5,ac2,aa6,ac3,ag4,ad9,af8,ae9,R.bind_ok,qw,aa3,aa2,aa0,ad5,ad0,ab1,ab3,ad1,ad3,ag,af,aa1,zm,ac1,aa9,ab7,ab0,ab8,ab9,ad8,af0,ae6,ae2,ae3,af7,aa7,ad4,if_true,if_false,ac,decide_true,decide_false,am,aj,turn,F,qC,hl]
   .rw[a0]
    exact aC6 B λ c' Z=>hl Z.1
 .rintro U v ⟨th,y5,y6,y7,y8,y9,rfl,h,B,rfl⟩
  rw[aE,jw]at B
  have b2:mnO (k+1) th=zH m k row c:=by
   rw[bX7 h B]
   unfold mnO zH
   exact iz λ o _=>(bH9 k o).symm
  have a2:bj6 (.ref s2.length) (s2++[O.lst (za (mnO (k+1) th))])=.ok (za (mnO (k+1) th)) (s2++[O.lst (za (mnO (k+1) th))]):=by
   unfold bj6
   simp only[show(s2++[O.lst (za (mnO (k+1) th))])[s2.length]?=some (.lst (za (mnO (k+1) th)))by simp]
  simp -implicitDefEqProofs only[zh,ab4,ae1,ae8,ae4,ag6,ad6,af3,ab2,ac6,ac8,ag0,ad2,ae0,ae5,af9,ad7,af5,ag5,af4,af6,ae7,ag2,ab6,ag7,ag3,af1,af2,ac4,ac7,ag1,ac5,ac0,aa8,aa5,ab5,ac2,aa6,ac3,ag4,ad9,af8,ae9,R.bind_ok,qw,aa3,aa2,aa0,ad5,ad0,ab1,ab3,ad1,ad3,ag,af,aa1,zm,ac1,aa9,ab7,ab0,ab8,ab9,ad8,af0,ae6,ae2,ae3,af7,aa7,ad4,if_true,if_false,ac,decide_true,decide_false,am,aj,a2,aN4]
  rw[b2]
  exact zX (λ n=>by unfold D.bnd;exact zz qD n) (by nofun)
theorem bE7 {P:Pr}[Has P as7](n:Nat){m:Mc}(hm:m.Ok){row:List (Option Int)}(J:row.length=m.R)(s:Sto) :
  (aa4 P (n+1)).call "_law_end" [m.d,.tup (za row)] s=.ok (zU (bE6 m row)) s:=by
 have Z:(aa4 P (n+1)).call "_law_end" [m.d,.tup (za row)] s=_:=zd as7 (n:=n) rfl
 have h5:=bu4 hm
 rw[Z,show(cH some [m.d,D.tup (za row)]++aA as7.vs none)=[some m.d,some (D.tup (za row))]from rfl]
 obtain⟨U3,s3,e3,G,_⟩:=ql (ok:=λ B=>chk s B []) (g:=aA3 (aa4 P n) (.one 0) (.notN (.ix (.var 1) (.var 0))) (.ix (.var 1) (.var 0))) (λ U u=>u=s/\∃ x,U=[x,some (D.tup (za row))]) (λ d=>match d with|.int i=>(row.getD i.toNat none).map D.int|_=>none) (qR m.en) [none,some (D.tup (za row))] s ⟨rfl,none,rfl⟩ (λ _ _ h=>rfl) (by
  rintro d hd U u ⟨rfl,x,rfl⟩
  obtain⟨q,hq,rfl⟩:=aQ.mp hd
  have hlt:q<row.length:=by rw[J];exact hm.en.1 q hq
  have ix:=ix_tup (s:=u) (ay7 (au hlt))
  refine⟨[some (.int q),some (D.tup (za row))],u,?_,rfl,_,rfl⟩
  have hg:row.getD ((q:Int).toNat) none=row[q]:=by simp[jv,hlt]
  unfold aA3
  simp only[hg]
  cases e:row[q]with
  | none=>rw[e]at ix;simp -implicitDefEqProofs only[zh,ab4,ae1,ae8,ae4,ag6,ad6,af3,ab2,ac6,ac8,ag0,ad2,ae0,ae5,af9,ad7,af5,ag5,af4,af6,ae7,ag2,ab6,ag7,ag3,af1,af2,ac4,ac7,ag1,ac5,ac0,aa8,aa5,ab5,ac2,aa6,ac3,ag4,ad9,af8,ae9,R.bind_ok,qw,aa3,aa2,aa0,ad5,ad0,ab1,ab3,ad1,ad3,ag,af,aa1,zm,ac1,aa9,ab7,ab0,ab8,ab9,ad8,af0,ae6,ae2,ae3,af7,aa7,ad4,if_true,if_false,ac,decide_true,decide_false,am,aj,ix,zP,jK]
  | some y=>rw[e]at ix;simp -implicitDefEqProofs only[zh,ab4,ae1,ae8,ae4,ag6,ad6,af3,ab2,ac6,ac8,ag0,ad2,ae0,ae5,af9,ad7,af5,ag5,af4,af6,ae7,ag2,ab6,ag7,ag3,af1,af2,ac4,ac7,ag1,ac5,ac0,aa8,aa5,ab5,ac2,aa6,ac3,ag4,ad9,af8,ae9,R.bind_ok,qw,aa3,aa2,aa0,ad5,ad0,ab1,ab3,ad1,ad3,ag,af,aa1,zm,ac1,aa9,ab7,ab0,ab8,ab9,ad8,af0,ae6,ae2,ae3,af7,aa7,ad4,if_true,if_false,ac,decide_true,decide_false,am,aj,ix,zt,show(D.int y=D.non)=False from eq_false (by nofun)])
 subst G
 have F:(qR m.en).filterMap (λ d=>match d with|.int i=>(row.getD i.toNat none).map D.int|_=>none)=(m.en.filterMap λ q=>row.getD q none).map D.int:=by
  unfold qR
  rw[cY,List.map_filterMap]
  exact qy λ q _=>rfl
 rw[F]at e3
 have Y:(qR m.en).length<=LIM:=by unfold qR;rw[aE];unfold LIM;omega
 simp -implicitDefEqProofs only[as7]
 simp -implicitDefEqProofs only[zh,ab4,ae1,ae8,ae4,ag6,ad6,af3,ab2,ac6,ac8,ag0,ad2,ae0,ae5,af9,ad7,af5,ag5,af4,af6,ae7,ag2,ab6,ag7,ag3,af1,af2,ac4,ac7,ag1,ac5,ac0,aa8,aa5,ab5,ac2,aa6,ac3,ag4,ad9,af8,ae9,R.bind_ok,qw,aa3,aa2,aa0,ad5,ad0,ab1,ab3,ad1,ad3,ag,af,aa1,zm,ac1,aa9,ab7,ab0,ab8,ab9,ad8,af0,ae6,ae2,ae3,af7,aa7,ad4,if_true,if_false,ac,decide_true,decide_false,am,aj,ixE,qB,qF,if_pos Y,show qf [some m.d,some (D.tup (za row))] [none,some 1]=[none,some (D.tup (za row))]from rfl,e3,bj2]
 exact aw2
theorem bQ1 {L:Nat}(h3:L<=3)(s:Sto):slM (.str [97,98,99]) none (some (L:Int)) s=.ok (.str ([97,98,99].take L)) s:=by
 show R.ok (D.str (aB6 [97,98,99] none (some (L:Int)))) s=_
 unfold aB6
 simp only[loB,hiB,sbd,dw,kC]
 rw[if_pos (by omega),bZ]
 show R.ok (D.str (List.take (min L 3) [97,98,99])) s=_
 rw[Nat.min_eq_left h3]
section
variable {P:Pr} [Has P aj6] [Has P al2] [Has P as7] [Has P bz0]
end
theorem cj2 {s:Sto}{n:Nat}(o:Option Int):eqv s n (zU o) (zU o)=some true:=by
 cases o with
 | none=>cases n<;>rfl
 | some i =>
  show eqv s n (.int i) (.int i)=_
  cases n<;>(show some (i==i)=_;simp)
theorem ci4 {s:Sto}{n:Nat}(w:List Nat):eqv s n (.str w) (.str w)=some true:=by
 cases n<;>(show some (w==w)=_;simp)
theorem bo4 {s:Sto}{n:Nat}:∀ {l:List D},(∀ d∈l,eqv s n d d=some true)->eqL (eqv s n) l l=some true
 | [],_=>rfl
 | a::l,h=>by
  show(match eqv s n a a,eqL (eqv s n) l l with
   | some x,some y=>some (x&&y)
   | _,_=>none)=_
  rw[h a (aC ..),bo4 λ d hd=>h d (aq _ hd)];rfl
theorem bi6 {s:Sto}{n:Nat}(r:Rw):eqv s (n+1) (.tup (za r)) (.tup (za r))=some true:=by
 show eqL (eqv s n) (za r) (za r)=_
 refine bo4 λ d hd=>?_
 obtain⟨o,_,rfl⟩:=aQ.mp hd
 exact cj2 o
theorem bZ8 {s:Sto}{n:Nat}(M:List (List Nat×Rw)):eqL (eqv s (n+2)) (MtD M) (MtD M)=some true:=by
 refine bo4 λ d hd=>?_
 obtain⟨e,_,rfl⟩:=aQ.mp hd
 show eqL (eqv s (n+1)) [.str e.1,.tup (za e.2)] [.str e.1,.tup (za e.2)]=_
 refine bo4 λ d hd=>?_
 rcases aH.mp hd with rfl|hd
 .exact ci4 _
 .rw[ay.mp hd];exact bi6 _
theorem bM3 {s:Sto}{a b x y:Nat}{M:List (List Nat×Rw)}(ha:s[a]?=some (.lst [.ref x]))(hb:s[b]?=some (.lst [.ref y]))(hx:s[x]?=some (.lst (MtD M)))(hy:s[y]?=some (.lst (MtD M))):zK .ne (.ref a) (.ref b) s=.ok (.bl false) s:=by
 have e2:eqv s 29 (.ref x) (.ref y)=some true:=by
  show(match s[x]?,s[y]? with
   | some (.lst l),some (.lst m)=>if l.length=m.length then eqL (eqv s 28) l m else some false
   | _,_=>none)=_
  rw[hx,hy]
  show(if(MtD M).length=(MtD M).length then eqL (eqv s 28) (MtD M) (MtD M)else some false)=_
  rw[if_pos rfl,bZ8 (n:=26)]
 have e:eqv s DEEP (.ref a) (.ref b)=some true:=by
  show(match s[a]?,s[b]? with
   | some (.lst l),some (.lst m)=>if l.length=m.length then eqL (eqv s 29) l m else some false
   | _,_=>none)=_
  rw[ha,hb]
  show(if[D.ref x].length=[D.ref y].length then eqL (eqv s 29) [D.ref x] [D.ref y]else some false)=_
  rw[if_pos (show[D.ref x].length=[D.ref y].length from rfl)]
  show(match eqv s 29 (.ref x) (.ref y),some true with
   | some x,some y=>some (x&&y)
   | _,_=>none)=_
  rw[e2];rfl
 show(match eqv s DEEP (.ref a) (.ref b)with|some r=>R.ok (D.bl (!r)) s|none=>.bad)=_
 rw[e];rfl
theorem bR0 (r:Rw)(s:Sto):zK .eq (.tup (za r)) (.tup (za r)) s=.ok (.bl true) s:=by
 show(match eqv s DEEP (.tup (za r)) (.tup (za r))with|some r=>R.ok (D.bl r) s|none=>.bad)=_
 rw[show eqv s DEEP (.tup (za r)) (.tup (za r))=some true from bi6 (n:=29) r]
theorem bC6 (l:List D)(s:Sto):bi .isTup [.tup l] s=.ok (.bl true) s:=rfl
theorem bF4 (l:List Nat)(s:Sto):bi .isStr [.str l] s=.ok (.bl true) s:=rfl
theorem bA7 (i:Int)(s:Sto):bi .isInt [.int i] s=.ok (.bl true) s:=rfl
theorem bq1 (i:Int)(s:Sto):bi .isBool [.int i] s=.ok (.bl false) s:=rfl
theorem bk6 {s:Sto}{r:Nat}{l:List D}(h:s[r]?=some (.lst l)):bi .isList [.ref r] s=.ok (.bl true) s:=by
 show bi1 (isK 5) [.ref r] s=_
 simp only[bi1,isK,h]
 rfl
theorem cr5 (v w:List Nat)(s:Sto):zK .eq (.str v) (.str w) s=.ok (.bl (decide (v=w))) s:=by
 show R.ok (D.bl (v==w)) s=_
 congr 2
 by_cases h:v=w<;>simp[h]
theorem cj3 (v w:List Nat)(s:Sto):zK .ne (.str v) (.str w) s=.ok (.bl (!decide (v=w))) s:=by
 show R.ok (D.bl (!(v==w))) s=_
 congr 3
 by_cases h:v=w<;>simp[h]
theorem bc7 {P:Pr}[Has P aj2](n:Nat)(r:Rw)(s:Sto):(aa4 P (n+1)).call "_law_is_row" [.tup (za r),.tup (za r)] s=.ok (.bl true) s:=by
 have F:(aa4 P (n+1)).call "_law_is_row" [.tup (za r),.tup (za r)] s=_:=zd aj2 (n:=n) rfl
 rw[F,show(cH some [D.tup (za r),.tup (za r)]++aA aj2.vs none)=[some (.tup (za r)),some (.tup (za r)),none]from rfl]
 simp -implicitDefEqProofs only[aj2]
 have B:aF7 (.tup (za r)) s=.ok ⟨za r,[]⟩ s:=rfl
 obtain⟨U1,s1,e1,rfl,x,rfl⟩:=qp (ok:=λ h=>chk s h []) (g:=turn (aa4 P n) (.one 2) (.cons (.ite (.and (.notN (.var 2)) (.or (.not (.bi .isInt (.cons (.var 2) .nil))) (.bi .isBool (.cons (.var 2) .nil)))) (.cons (.ret (.cst (.bl false))) .nil) .nil) .nil)) (λ j U u=>u=s/\∃ x:Option D,U=[some (.tup (za r)),some (.tup (za r)),x]) (za r) 0 [some (.tup (za r)),some (.tup (za r)),none] s ⟨rfl,_,rfl⟩ (λ _ _ _ _ _=>rfl) (by
  rintro j d U u hj ⟨rfl,x,rfl⟩
  obtain⟨o,_,rfl⟩:=aQ.mp (aR hj)
  refine⟨[some (.tup (za r)),some (.tup (za r)),some (zU o)],u,.inl ?_,rfl,_,rfl⟩
  cases o with
  | none=>simp -implicitDefEqProofs only[zh,ab4,ae1,ae8,ae4,ag6,ad6,af3,ab2,ac6,ac8,ag0,ad2,ae0,ae5,af9,ad7,af5,ag5,af4,af6,ae7,ag2,ab6,ag7,ag3,af1,af2,ac4,ac7,ag1,ac5,ac0,aa8,aa5,ab5,ac2,aa6,ac3,ag4,ad9,af8,ae9,R.bind_ok,qw,aa3,aa2,aa0,ad5,ad0,ab1,ab3,ad1,ad3,ag,af,aa1,zm,ac1,aa9,ab7,ab0,ab8,ab9,ad8,af0,ae6,ae2,ae3,af7,aa7,ad4,if_true,if_false,ac,decide_true,decide_false,am,aj,turn,zP,show(D.non=D.non)=True from eq_true rfl]
  | some i=>simp -implicitDefEqProofs only[zh,ab4,ae1,ae8,ae4,ag6,ad6,af3,ab2,ac6,ac8,ag0,ad2,ae0,ae5,af9,ad7,af5,ag5,af4,af6,ae7,ag2,ab6,ag7,ag3,af1,af2,ac4,ac7,ag1,ac5,ac0,aa8,aa5,ab5,ac2,aa6,ac3,ag4,ad9,af8,ae9,R.bind_ok,qw,aa3,aa2,aa0,ad5,ad0,ab1,ab3,ad1,ad3,ag,af,aa1,zm,ac1,aa9,ab7,ab0,ab8,ab9,ad8,af0,ae6,ae2,ae3,af7,aa7,ad4,if_true,if_false,ac,decide_true,decide_false,am,aj,turn,zt,show(D.int i=D.non)=False from eq_false (by nofun),bA7,bq1])
 simp -implicitDefEqProofs only[zh,ab4,ae1,ae8,ae4,ag6,ad6,af3,ab2,ac6,ac8,ag0,ad2,ae0,ae5,af9,ad7,af5,ag5,af4,af6,ae7,ag2,ab6,ag7,ag3,af1,af2,ac4,ac7,ag1,ac5,ac0,aa8,aa5,ab5,ac2,aa6,ac3,ag4,ad9,af8,ae9,R.bind_ok,qw,aa3,aa2,aa0,ad5,ad0,ab1,ab3,ad1,ad3,ag,af,aa1,zm,ac1,aa9,ab7,ab0,ab8,ab9,ad8,af0,ae6,ae2,ae3,af7,aa7,ad4,if_true,if_false,ac,decide_true,decide_false,am,aj,bC6,bx2,B,e1,bR0]
 exact zp (λ _=>rfl) (by nofun)
noncomputable def Wd (L:List (List Nat×Rw)):List (D×D):=L.map λ e=>(.str e.1,.tup (za e.2))
noncomputable def At (L:List (List Nat×Rw)):List (D×D):=L.map λ e=>(.tup (za e.2),.str e.1)
theorem aL3:∀ {L:List (List Nat×Rw)},Srt L->∀ {d:List Nat×Rw},d∈L->look (.str d.1) (Wd L)=some (.tup (za d.2))
 | a::L,h,d,hd=>by
  show(if D.str a.1=.str d.1 then some (D.tup (za a.2))else look (.str d.1) (Wd L))=_
  rcases aH.mp hd with rfl|hd
  .rw[if_pos rfl]
  .have hl:=(dR.mp h).1 d hd
   rw[if_neg (λ z=>by injection z with z;rw[z]at hl;exact LL.irr hl)]
   exact aL3 (dR.mp h).2 hd
theorem aS0 {w:List Nat}:∀ {L:List (List Nat×Rw)},(∀ e∈L,e.1≠w)->look (.str w) (Wd L)=none
 | [],_=>rfl
 | a::L,h=>by
  show(if D.str a.1=.str w then some (D.tup (za a.2))else look (.str w) (Wd L))=_
  rw[if_neg (λ z=>by injection z with z;exact h a (aC ..) z)]
  exact aS0 λ e he=>h e (aq _ he)
theorem cd2 {e:List Nat×Rw}{L:List (List Nat×Rw)}(h:∀ d∈L,d.1≠e.1):as2 (.str e.1) (.tup (za e.2)) (Wd L)=Wd (L++[e]):=by
 unfold as2
 rw[aS0 h]
 unfold Wd
 rw[bN];rfl
theorem aM3 {d:List Nat×Rw}:∀ {L:List (List Nat×Rw)},(L.map (·.2)).Nodup->d∈L->look (.tup (za d.2)) (At L)=some (.str d.1)
 | a::L,h,hd=>by
  show(if D.tup (za a.2)=.tup (za d.2)then some (D.str a.1)else look (.tup (za d.2)) (At L))=_
  rcases aH.mp hd with rfl|hd
  .rw[if_pos rfl]
  .have hl:a.2 ∉ L.map (·.2)/\(L.map (·.2)).Nodup:=dM.mp h
   rw[if_neg (λ z=>hl.1 (aQ.mpr ⟨d,hd,(az9 z).symm⟩))]
   exact aM3 hl.2 hd
theorem aO4 {r:Rw}:∀ {L:List (List Nat×Rw)},r ∉ L.map (·.2)->look (.tup (za r)) (At L)=none
 | [],_=>rfl
 | a::L,h=>by
  show(if D.tup (za a.2)=.tup (za r)then some (D.str a.1)else look (.tup (za r)) (At L))=_
  rw[if_neg (λ z=>h (aQ.mpr ⟨a,aC ..,az9 z⟩))]
  exact aO4 λ z=>h (aq _ z)
theorem cb4 {e:List Nat×Rw}{L:List (List Nat×Rw)}(h:e.2 ∉ L.map (·.2)):as2 (.tup (za e.2)) (.str e.1) (At L)=At (L++[e]):=by
 unfold as2
 rw[aO4 h]
 unfold At
 rw[bN];rfl
theorem Srt.ne {L:List (List Nat×Rw)}{i:Nat}{e:List Nat×Rw}(h:Srt L)(he:L[i]?=some e):∀ d∈L.take i,d.1≠e.1:=λ d hd z=>by
 obtain⟨j,hj⟩:=bV hd
 have B:=(ae.mp hj).1
 rw[bD]at B
 rw[cN (by omega)]at hj
 obtain⟨l1,rfl⟩:=ae.mp hj
 obtain⟨F,rfl⟩:=ae.mp he
 have:=cc.mp h j i l1 F (by omega)
 rw[z]at this
 exact LL.irr this
theorem av2 {L:List (List Nat×Rw)}{i:Nat}{e:List Nat×Rw}(he:L[i]?=some e):L.take (i+1)=L.take i++[e]:=by
 obtain⟨h,rfl⟩:=ae.mp he
 rw[fU]
theorem bM0 {L:List (List Nat×Rw)}{i:Nat}{e:List Nat×Rw}(h:(L.map (·.2)).Nodup)(he:L[i]?=some e):e.2 ∉ (L.take i).map (·.2):=λ z=>by
 rw[List.map_take]at z
 obtain⟨j,hj⟩:=bV z
 have B:=(ae.mp hj).1
 rw[bD]at B
 rw[cN (by omega)]at hj
 have F:(L.map (·.2))[i]?=some e.2:=by rw[aS,he];rfl
 obtain⟨l1,q1⟩:=ae.mp hj
 obtain⟨G,q2⟩:=ae.mp F
 have:=(cc.mp h) j i l1 G (by omega)
 exact this (q1.trans q2.symm)
noncomputable abbrev ar1:S:=(.ite (.or (.not (.bi .isTup (.cons (.var 5) .nil))) (.or (.cmp .ne (.bi .len (.cons (.var 5) .nil)) (.cst (.int 2))) (.not (.bi .isStr (.cons (.ix (.var 5) (.cst (.int 0))) .nil))))) (.cons (.ret (.cst (.bl false))) .nil) .nil)
noncomputable abbrev ar2:S:=(.asg (.one 6) (.call "_law_first" (.ex (.var 0) .nil)))
noncomputable abbrev ar3:S:=(.ite (.cmp .ne (.ix (.var 5) (.cst (.int 0))) (.cst (.str []))) (.cons (.ite (.or (.cmp .notin (.slU (.ix (.var 5) (.cst (.int 0))) (.neg (.cst (.int 1)))) (.var 4)) (.cmp .notin (.ix (.ix (.var 5) (.cst (.int 0))) (.neg (.cst (.int 1)))) (.slU (.lst (.cons (.cst (.str [97])) (.cons (.cst (.str [98])) (.cons (.cst (.str [99])) .nil)))) (.ix (.var 0) (.cst (.int 0)))))) (.cons (.ret (.cst (.bl false))) .nil) .nil) (.cons (.asg (.one 6) (.call "_law_led" (.ex (.var 0) (.ex (.var 1) (.ex (.ix (.var 4) (.slU (.ix (.var 5) (.cst (.int 0))) (.neg (.cst (.int 1))))) (.ex (.ix (.ix (.var 5) (.cst (.int 0))) (.neg (.cst (.int 1)))) .nil)))))) .nil)) .nil)
noncomputable abbrev ar4:S:=(.ite (.or (.not (.call "_law_is_row" (.ex (.ix (.var 5) (.cst (.int 1))) (.ex (.var 6) .nil)))) (.cmp .isin (.var 6) (.var 3))) (.cons (.ret (.cst (.bl false))) .nil) .nil)
noncomputable abbrev ar5:S:=(.setIx (.var 3) (.var 6) (.cst (.bl true)))
noncomputable abbrev ar6:S:=(.setIx (.var 4) (.ix (.var 5) (.cst (.int 0))) (.var 6))
theorem aX5 (s:Sto)(x:Nat):∀ l:List Nat,inL s (.str [x]) (sg l)=some (decide (x∈l))
 | []=>rfl
 | a::l=>by
  show(match eqv s DEEP (.str [a]) (.str [x]),inL s (.str [x]) (sg l)with
   | some a,some b=>some (a||b)
   | _,_=>none)=_
  rw[aX5 s x l,show eqv s DEEP (.str [a]) (.str [x])=some ([a]==[x])from rfl]
  by_cases h:x=a
  .subst h;simp
  .have h':¬ a=x:=λ z=>h z.symm
   simp[h,h']
theorem bC4 (d:List Nat)(x:Nat)(s:Sto):slM (.str (d++[x])) none (some (-1)) s=.ok (.str d) s:=by
 show R.ok (D.str (aB6 (d++[x]) none (some (-1)))) s=_
 congr 2
 unfold aB6
 simp only[loB,hiB,sbd,dw,kC]
 rw[if_neg (by omega),ax]
 have:(-1+((d.length+[x].length:Nat):Int)).toNat=d.length:=by show(-1+((d.length+1:Nat):Int)).toNat=d.length;omega
 rw[this]
 exact List.take_left' rfl
theorem bq5 (d:List Nat)(x:Nat)(s:Sto):ixM (.str (d++[x])) (.int (-1)) s=.ok (.str [x]) s:=by
 show(match(ixn (d++[x]).length (-1)).bind λ j=>(d++[x])[j]? with|some c=>R.ok (D.str [c]) s|none=>.bad)=_
 have:ixn (d++[x]).length (-1)=some d.length:=by
  unfold ixn
  rw[if_neg (by omega),ax,if_pos (by show -((d.length+1:Nat):Int)<=-1;omega)]
  congr 1
  show(-1+((d.length+1:Nat):Int)).toNat=d.length
  omega
 rw[this]
 show(match(d++[x])[d.length]? with|some c=>R.ok (D.str [c]) s|none=>.bad)=_
 rw[aK (aw _),ce]
 rfl
section
variable {s T:Sto} {a b o:O}
theorem ga0:(s++(a::b::T))[s.length]?=some a:=by rw[aK (aw _),ce];rfl
theorem ga1:(s++(a::b::T))[s.length+1]?=some b:=by rw[aK (by omega),show s.length+1 - s.length=1 by omega];rfl
theorem sa0:(s++(a::b::T)).set s.length o=s++(o::b::T):=by rw[eD _ _ (aw _),ce];rfl
theorem sa1:(s++(a::b::T)).set (s.length+1) o=s++(a::o::T):=by rw[eD _ _ (by omega),show s.length+1 - s.length=1 by omega];rfl
end
theorem cm6 {u:Sto}{p:Nat}{L:List (List Nat×Rw)}(g:u[p]?=some (.dic (Wd L)))(hs:Srt L){d:List Nat×Rw}(hd:d∈L):inM (.str d.1) (.ref p) u=.ok true u:=by
 show(match u[p]? with
  | some (.lst l)=>match inL u (.str d.1) l with|some r=>R.ok r u|none=>.bad
  | some (.dic l)=>if(D.str d.1).key then .ok (look (.str d.1) l).isSome u else .bad
  | some (.dit l)=>if(D.str d.1).keyT then .ok (look (.str d.1) l).isSome u else .bad
  | _=>.bad)=_
 rw[g]
 show(if true=true then R.ok (look (.str d.1) (Wd L)).isSome u else .bad)=_
 rw[aL3 hs hd];rfl
theorem cg3 {u:Sto}{p:Nat}{L:List (List Nat×Rw)}(g:u[p]?=some (.dic (Wd L)))(hs:Srt L){d:List Nat×Rw}(hd:d∈L):ixM (.ref p) (.str d.1) u=.ok (.tup (za d.2)) u:=by
 unfold ixM
 simp only[g,show(D.str d.1).key=true from rfl,if_true,aL3 hs hd]
theorem bQ6 {u:Sto}{p:Nat}{L:List (List Nat×Rw)}(g:u[p]?=some (.dic (Wd L))){e:List Nat×Rw}(h:∀ d∈L,d.1≠e.1)(hl:L.length<LIM):setIx (.ref p) (.str e.1) (.tup (za e.2)) u=.ok () (u.set p (.dic (Wd (L++[e])))):=by
 unfold setIx
 simp only[g,show(D.str e.1).key=true from rfl,show(Wd L).length<LIM by unfold Wd;rw[aE];exact hl,decide_true,iG,if_true,cd2 h]
section
variable {P:Pr} [Has P aj6] [Has P aG6] [Has P as7] [Has P aj2]
local macro_rules|`(‹0›)=>`([some m.d,some (.int k),some (.ref q),some (.ref s.length),some (.ref (s.length+1)),some (enD e),some (.tup (za e.2))])
theorem bH3 (n:Nat){m:Mc}(hm:m.Ok){k:Int}{M:List (List Nat×Rw)}(hp:Pn (zH m k) (zC m) (qr m.L) M)(hs:Srt M)(hl:M.length<=300)(Z:∀ e∈M,e.2.length=m.R){s T:Sto}{q i:Nat}{e:List Nat×Rw}(he:M[i]?=some e){y6:Option D} :
  ∃ h b6,exs (aa4 P (n+2)) (.cons ar1 (.cons ar2 (.cons ar3 (.cons ar4 (.cons ar5 (.cons ar6 .nil)))))) [some m.d,some (.int k),some (.ref q),some (.ref s.length),some (.ref (s.length+1)),some (enD e),y6] (s++(O.dit (Sn ((M.take i).map (·.2)))::.dic (Wd (M.take i))::T))=.ok (.next [some m.d,some (.int k),some (.ref q),some (.ref s.length),some (.ref (s.length+1)),some (enD e),b6]) (s++(O.dit (Sn ((M.take (i+1)).map (·.2)))::.dic (Wd (M.take (i+1)))::h)):=by
 have hi:=(ae.mp he).1
 have b3:=aR he
 have c2:∀(row:Rw) (c:Nat) (S:Sto),row.length=m.R->(aa4 P (n+2)).call "_law_led" [m.d,.int k,.tup (za row),.str [c]] S=.ok (.tup (za (zH m k row c))) S:=λ row c S hr=>by
  have:Has P al2:=inferInstanceAs (Has P aG6)
  exact aX7 (P:=P) (n+1) hm hr k c S
 have F:=λ S=>bb9 (P:=P) (n+1) hm S
 have F:∀ S,(aa4 P (n+2)).call "_law_first" [m.d] S=.ok (.tup (za (zC m))) S:=F
 have b4:∀(r:Rw) S,(aa4 P (n+2)).call "_law_is_row" [.tup (za r),.tup (za r)] S=.ok (.bl true) S:=λ r S=>bc7 (P:=P) (n+1) r S
 have b0:Srt (M.take i):=kE (i6 _ _) hs
 have b1:=av2 he
 have c1:=hs.ne he
 have hnd:=bM0 hp.nd he
 have Y:=hm.R1
 have b2:=hm.R5
 have a0:=Z e b3
 have J:(M.take i).length<LIM:=by rw[bD];unfold LIM;omega
 have a1:∀ S,ex (aa4 P (n+2)) ar1 [some m.d,some (.int k),some (.ref q),some (.ref s.length),some (.ref (s.length+1)),some (enD e),y6] S=.ok (.next [some m.d,some (.int k),some (.ref q),some (.ref s.length),some (.ref (s.length+1)),some (enD e),y6]) S:=λ S=>by
  have t1:bi .isTup [enD e] S=.ok (.bl true) S:=rfl
  have t2:bi .len [enD e] S=.ok (.int 2) S:=rfl
  simp -implicitDefEqProofs only[zh,ab4,ae1,ae8,ae4,ag6,ad6,af3,ab2,ac6,ac8,ag0,ad2,ae0,ae5,af9,ad7,af5,ag5,af4,af6,ae7,ag2,ab6,ag7,ag3,af1,af2,ac4,ac7,ag1,ac5,ac0,aa8,aa5,ab5,ac2,aa6,ac3,ag4,ad9,af8,ae9,R.bind_ok,qw,aa3,aa2,aa0,ad5,ad0,ab1,ab3,ad1,ad3,ag,af,aa1,zm,ac1,aa9,ab7,ab0,ab8,ab9,ad8,af0,ae6,ae2,ae3,af7,aa7,ad4,if_true,if_false,ac,decide_true,decide_false,am,aj,t1,t2,bj3,bF4,show((2:Int)=2)=True from eq_true rfl]
 have a2:∀ S,ex (aa4 P (n+2)) ar2 [some m.d,some (.int k),some (.ref q),some (.ref s.length),some (.ref (s.length+1)),some (enD e),y6] S=.ok (.next [some m.d,some (.int k),some (.ref q),some (.ref s.length),some (.ref (s.length+1)),some (enD e),some (.tup (za (zC m)))]) S:=λ S=>by
  simp -implicitDefEqProofs only[zh,ab4,ae1,ae8,ae4,ag6,ad6,af3,ab2,ac6,ac8,ag0,ad2,ae0,ae5,af9,ad7,af5,ag5,af4,af6,ae7,ag2,ab6,ag7,ag3,af1,af2,ac4,ac7,ag1,ac5,ac0,aa8,aa5,ab5,ac2,aa6,ac3,ag4,ad9,af8,ae9,R.bind_ok,qw,aa3,aa2,aa0,ad5,ad0,ab1,ab3,ad1,ad3,ag,af,aa1,zm,ac1,aa9,ab7,ab0,ab8,ab9,ad8,af0,ae6,ae2,ae3,af7,aa7,ad4,if_true,if_false,ac,decide_true,decide_false,am,aj,F]
 have a3:∃ h,ex (aa4 P (n+2)) ar3 [some m.d,some (.int k),some (.ref q),some (.ref s.length),some (.ref (s.length+1)),some (enD e),some (.tup (za (zC m)))] (s++(O.dit (Sn ((M.take i).map (·.2)))::.dic (Wd (M.take i))::T))=.ok (.next ‹0›) (s++(O.dit (Sn ((M.take i).map (·.2)))::.dic (Wd (M.take i))::h)):=by
  rcases hp.par i e he with⟨_,rfl⟩|⟨i',d,x,q1,q2,q3,rfl⟩
  .refine⟨T,?_⟩
   simp -implicitDefEqProofs only[zh,ab4,ae1,ae8,ae4,ag6,ad6,af3,ab2,ac6,ac8,ag0,ad2,ae0,ae5,af9,ad7,af5,ag5,af4,af6,ae7,ag2,ab6,ag7,ag3,af1,af2,ac4,ac7,ag1,ac5,ac0,aa8,aa5,ab5,ac2,aa6,ac3,ag4,ad9,af8,ae9,R.bind_ok,qw,aa3,aa2,aa0,ad5,ad0,ab1,ab3,ad1,ad3,ag,af,aa1,zm,ac1,aa9,ab7,ab0,ab8,ab9,ad8,af0,ae6,ae2,ae3,af7,aa7,ad4,if_true,if_false,ac,decide_true,decide_false,am,aj,bj3,cj3]
  .have G:d∈M.take i:=aR (by rw[cN q1];exact q2)
   have b5:=Z d (aR q2)
   have h3:=hm.L3
   refine⟨T++[.lst ak8]++[.lst (ak8.take m.L)],?_⟩
   generalize hu:s++(O.dit (Sn ((M.take i).map (·.2)))::.dic (Wd (M.take i))::T)=u
   have g1:u[s.length+1]?=some (.dic (Wd (M.take i))):=by rw[<-hu];exact ga1
   have e1:s++(O.dit (Sn ((M.take i).map (·.2)))::.dic (Wd (M.take i))::(T++[.lst ak8]++[.lst (ak8.take m.L)]))=u++[.lst ak8]++[.lst (ak8.take m.L)]:=by rw[<-hu];simp
   rw[e1]
   have i1:inM (.str d.1) (.ref (s.length+1)) u=.ok true u:=cm6 g1 b0 G
   have sl:=bW2 (L:=m.L) (s:=u++[.lst ak8]) (k:=u.length) h3 bq7
   have i2:inM (.str [x]) (.ref (u++[O.lst ak8]).length) (u++[.lst ak8]++[.lst (ak8.take m.L)])=.ok true (u++[.lst ak8]++[.lst (ak8.take m.L)]):=by
    have g:(u++[.lst ak8]++[O.lst (ak8.take m.L)])[(u++[O.lst ak8]).length]?=some (.lst (ak8.take m.L)):=bq7
    rw[bi0 h3]at g ⊢
    unfold inM
    simp only[g,aX5,decide_eq_true q3]
   have i3:ixM (.ref (s.length+1)) (.str d.1) (u++[.lst ak8]++[.lst (ak8.take m.L)])=.ok (.tup (za d.2)) (u++[.lst ak8]++[.lst (ak8.take m.L)]):=cg3 (zo (zo g1)) b0 G
   have al:aj1 (.lst [.str [97],.str [98],.str [99]]) u=.ok (.ref u.length) (u++[.lst ak8]):=rfl
   have e0:∀ S,ixM (enD (d.1++[x],zH m k d.2 x)) (.int 0) S=.ok (.str (d.1++[x])) S:=λ S=>bj3 _ S
   have nw:∀ S,zK .ne (.str (d.1++[x])) (.str []) S=.ok (.bl true) S:=λ S=>by rw[cj3];simp
   simp -implicitDefEqProofs only[ae8,zh,ab4,ae1,ae4,ad7,ag5,ag2,ad2,ae0,bw8,as1,ae7,aa8,ac0,ab6,ab5,aa5,ad1,ad3,ad9,ae9,ag4,R.bind_ok,ad4,if_true,if_false,ac,zm,e0,nw,bC4,aR5,i1,am,bq5,aa7,ixL,al,sl,i2,i3,c2 _ _ _ b5,qw,ad5,ad0,ag,aa1]
 obtain⟨h,a3⟩:=a3
 refine⟨h,some (.tup (za e.2)),?_⟩
 have kl:((M.take i).map (·.2)).length<LIM:=by rw[aE];exact J
 have a4:ex (aa4 P (n+2)) ar4 ‹0› (s++(O.dit (Sn ((M.take i).map (·.2)))::.dic (Wd (M.take i))::h))=.ok (.next ‹0›) (s++(O.dit (Sn ((M.take i).map (·.2)))::.dic (Wd (M.take i))::h)):=by
  have B:=bP6 Y b2 a0 (q:=s.length) (ga0 (s:=s) (T:=h) (a:=O.dit (Sn ((M.take i).map (·.2)))) (b:=.dic (Wd (M.take i))))
  rw[decide_eq_false hnd]at B
  simp -implicitDefEqProofs only[zh,ab4,ae1,ae8,ae4,ag6,ad6,af3,ab2,ac6,ac8,ag0,ad2,ae0,ae5,af9,ad7,af5,ag5,af4,af6,ae7,ag2,ab6,ag7,ag3,af1,af2,ac4,ac7,ag1,ac5,ac0,aa8,aa5,ab5,ac2,aa6,ac3,ag4,ad9,af8,ae9,R.bind_ok,qw,aa3,aa2,aa0,ad5,ad0,ab1,ab3,ad1,ad3,ag,af,aa1,zm,ac1,aa9,ab7,ab0,ab8,ab9,ad8,af0,ae6,ae2,ae3,af7,aa7,ad4,if_true,if_false,ac,decide_true,decide_false,am,aj,bu3,b4,qd,B]
 have a5:ex (aa4 P (n+2)) ar5 ‹0› (s++(O.dit (Sn ((M.take i).map (·.2)))::.dic (Wd (M.take i))::h))=.ok (.next ‹0›) (s++(O.dit (Sn ((M.take (i+1)).map (·.2)))::.dic (Wd (M.take i))::h)):=by
  have B:=bs5 Y b2 a0 (q:=s.length) (ga0 (s:=s) (T:=h) (a:=O.dit (Sn ((M.take i).map (·.2)))) (b:=.dic (Wd (M.take i)))) hnd kl
  rw[sa0,show(M.take i).map (·.2)++[e.2]=(M.take (i+1)).map (·.2)by rw[b1,bN];rfl]at B
  simp -implicitDefEqProofs only[zh,ab4,ae1,ae8,ae4,ag6,ad6,af3,ab2,ac6,ac8,ag0,ad2,ae0,ae5,af9,ad7,af5,ag5,af4,af6,ae7,ag2,ab6,ag7,ag3,af1,af2,ac4,ac7,ag1,ac5,ac0,aa8,aa5,ab5,ac2,aa6,ac3,ag4,ad9,af8,ae9,R.bind_ok,qw,aa3,aa2,aa0,ad5,ad0,ab1,ab3,ad1,ad3,ag,af,aa1,zm,ac1,aa9,ab7,ab0,ab8,ab9,ad8,af0,ae6,ae2,ae3,af7,aa7,ad4,if_true,if_false,ac,decide_true,decide_false,am,aj,B]
 have a6:ex (aa4 P (n+2)) ar6 ‹0› (s++(O.dit (Sn ((M.take (i+1)).map (·.2)))::.dic (Wd (M.take i))::h))=.ok (.next ‹0›) (s++(O.dit (Sn ((M.take (i+1)).map (·.2)))::.dic (Wd (M.take (i+1)))::h)):=by
  have B:=bQ6 (p:=s.length+1) (ga1 (s:=s) (T:=h) (a:=O.dit (Sn ((M.take (i+1)).map (·.2)))) (b:=.dic (Wd (M.take i)))) c1 J
  rw[sa1,<-b1]at B
  simp -implicitDefEqProofs only[zh,ab4,ae1,ae8,ae4,ag6,ad6,af3,ab2,ac6,ac8,ag0,ad2,ae0,ae5,af9,ad7,af5,ag5,af4,af6,ae7,ag2,ab6,ag7,ag3,af1,af2,ac4,ac7,ag1,ac5,ac0,aa8,aa5,ab5,ac2,aa6,ac3,ag4,ad9,af8,ae9,R.bind_ok,qw,aa3,aa2,aa0,ad5,ad0,ab1,ab3,ad1,ad3,ag,af,aa1,zm,ac1,aa9,ab7,ab0,ab8,ab9,ad8,af0,ae6,ae2,ae3,af7,aa7,ad4,if_true,if_false,ac,decide_true,decide_false,am,aj,bj3,B]
 rw[zh,a1,R.bind_ok,zm,zh,a2,R.bind_ok,zm,zh,a3,R.bind_ok,zm,zh,a4,R.bind_ok,zm,zh,a5,R.bind_ok,zm,zh,a6,R.bind_ok,zm,ab4]
theorem aL1 [Has P ai8](n:Nat){m:Mc}(hm:m.Ok){k:Int}{M:List (List Nat×Rw)}(hp:Pn (zH m k) (zC m) (qr m.L) M)(hs:Srt M)(hl:M.length<=300)(G:∀ e∈M,e.2.length=m.R){s:Sto}{q:Nat}(g:s[q]?=some (.lst (MtD M))):(aa4 P (n+3)).call "_law_are_rows" [m.d,.int k,.ref q] s=.ok (.bl true) s:=by
 have e0:(aa4 P (n+3)).call "_law_are_rows" [m.d,.int k,.ref q] s=_:=zd ai8 (n:=n+2) rfl
 rw[e0,show(cH some [m.d,D.int k,D.ref q]++aA ai8.vs none)=[some m.d,some (.int k),some (.ref q),none,none,none,none]from rfl]
 have hq:=(ae.mp g).1
 have h0:=(ae.mp hp.z0).1
 have J:(MtD M).length=M.length:=aE ..
 have ln:bi .len [.ref q] s=.ok (.int (M.length:Int)) s:=by rw[an4 g,J]
 have Z:ex (aa4 P (n+2)) (.ite (.or (.not (.bi .isList (.cons (.var 2) .nil))) (.or (.cmp .eq (.bi .len (.cons (.var 2) .nil)) (.cst (.int 0))) (.cmp .gt (.bi .len (.cons (.var 2) .nil)) (.cst (.int 300))))) (.cons (.ret (.cst (.bl false))) .nil) .nil) [some m.d,some (.int k),some (.ref q),none,none,none,none] s=.ok (.next [some m.d,some (.int k),some (.ref q),none,none,none,none]) s:=by
  simp -implicitDefEqProofs only[zh,ab4,ae1,ae8,ae4,ag6,ad6,af3,ab2,ac6,ac8,ag0,ad2,ae0,ae5,af9,ad7,af5,ag5,af4,af6,ae7,ag2,ab6,ag7,ag3,af1,af2,ac4,ac7,ag1,ac5,ac0,aa8,aa5,ab5,ac2,aa6,ac3,ag4,ad9,af8,ae9,R.bind_ok,qw,aa3,aa2,aa0,ad5,ad0,ab1,ab3,ad1,ad3,ag,af,aa1,zm,ac1,aa9,ab7,ab0,ab8,ab9,ad8,af0,ae6,ae2,ae3,af7,aa7,ad4,if_true,if_false,ac,decide_true,decide_false,am,aj,bk6 g,ln,show((M.length:Int)=0)=False from eq_false (by omega),show((300:Int)<(M.length:Int))=False from eq_false (by omega)]
 have c2:ex (aa4 P (n+2)) (.asg (.one 3) .dicT) [some m.d,some (.int k),some (.ref q),none,none,none,none] s=.ok (.next [some m.d,some (.int k),some (.ref q),some (.ref s.length),none,none,none]) (s++[.dit []]):=by
  simp -implicitDefEqProofs only[zh,ab4,ae1,ae8,ae4,ag6,ad6,af3,ab2,ac6,ac8,ag0,ad2,ae0,ae5,af9,ad7,af5,ag5,af4,af6,ae7,ag2,ab6,ag7,ag3,af1,af2,ac4,ac7,ag1,ac5,ac0,aa8,aa5,ab5,ac2,aa6,ac3,ag4,ad9,af8,ae9,R.bind_ok,qw,aa3,aa2,aa0,ad5,ad0,ab1,ab3,ad1,ad3,ag,af,aa1,zm,ac1,aa9,ab7,ab0,ab8,ab9,ad8,af0,ae6,ae2,ae3,af7,aa7,ad4,if_true,if_false,ac,decide_true,decide_false,am,aj,show ev (aa4 P (n+2)) .dicT [some m.d,some (.int k),some (.ref q),none,none,none,none] s=.ok (.ref s.length) (s++[.dit []])from rfl]
 have c3:ex (aa4 P (n+2)) (.asg (.one 4) (.dic .nil .nil)) [some m.d,some (.int k),some (.ref q),some (.ref s.length),none,none,none] (s++[.dit []])=.ok (.next [some m.d,some (.int k),some (.ref q),some (.ref s.length),some (.ref (s.length+1)),none,none]) (s++[.dit [],.dic []]):=by
  have e:ev (aa4 P (n+2)) (.dic .nil .nil) [some m.d,some (.int k),some (.ref q),some (.ref s.length),none,none,none] (s++[.dit []])=.ok (.ref (s.length+1)) (s++[.dit [],.dic []]):=by
   show R.ok (D.ref (s++[O.dit []]).length) (s++[O.dit []]++[O.dic []])=_
   rw[ax,cx];rfl
  simp -implicitDefEqProofs only[zh,ab4,ae1,ae8,ae4,ag6,ad6,af3,ab2,ac6,ac8,ag0,ad2,ae0,ae5,af9,ad7,af5,ag5,af4,af6,ae7,ag2,ab6,ag7,ag3,af1,af2,ac4,ac7,ag1,ac5,ac0,aa8,aa5,ab5,ac2,aa6,ac3,ag4,ad9,af8,ae9,R.bind_ok,qw,aa3,aa2,aa0,ad5,ad0,ab1,ab3,ad1,ad3,ag,af,aa1,zm,ac1,aa9,ab7,ab0,ab8,ab9,ad8,af0,ae6,ae2,ae3,af7,aa7,ad4,if_true,if_false,ac,decide_true,decide_false,am,aj,e]
 have sq:aF7 (.ref q) (s++[.dit [],.dic []])=.ok ⟨MtD M,[q]⟩ (s++[.dit [],.dic []]):=by simp only[aF7,zo g]
 have key:=qp (ok:=λ F=>chk (s++[.dit [],.dic []]) F [q]) (g:=turn (aa4 P (n+2)) (.one 5) (.cons ar1 (.cons ar2 (.cons ar3 (.cons ar4 (.cons ar5 (.cons ar6 .nil))))))) (λ j U u=>j<=M.length/\∃(T:Sto) (Y y6:Option D),u=s++(O.dit (Sn ((M.take j).map (·.2)))::.dic (Wd (M.take j))::T)/\U=[some m.d,some (.int k),some (.ref q),some (.ref s.length),some (.ref (s.length+1)),Y,y6]) (MtD M) 0 [some m.d,some (.int k),some (.ref q),some (.ref s.length),some (.ref (s.length+1)),none,none] (s++[.dit [],.dic []])
  ⟨b9 _,[],_,_,rfl,rfl⟩ (λ _ _ _ _ h=>by
   obtain⟨_,T,_,_,rfl,_⟩:=h
   simp[chk,aI hq]) (by
   rintro j d U u hj ⟨_,T,Y,y6,rfl,rfl⟩
   rw[dC]
   have B:=hj
   unfold MtD at B
   rw[aS]at B
   obtain⟨e,he,rfl⟩:=bJ.mp B
   obtain⟨T',a0,h⟩:=bH3 (P:=P) n hm hp hs hl G (s:=s) (T:=T) (q:=q) he (y6:=y6)
   exact⟨_,_,.inl h,(ae.mp he).1,T',_,_,rfl,rfl⟩)
 obtain⟨U1,s1,e1,_,T,Y,y6,rfl,rfl⟩:=key
 rw[show ai8.body=.cons (.ite (.or (.not (.bi .isList (.cons (.var 2) .nil))) (.or (.cmp .eq (.bi .len (.cons (.var 2) .nil)) (.cst (.int 0))) (.cmp .gt (.bi .len (.cons (.var 2) .nil)) (.cst (.int 300))))) (.cons (.ret (.cst (.bl false))) .nil) .nil) (.cons (.asg (.one 3) .dicT) (.cons (.asg (.one 4) (.dic .nil .nil)) (.cons (.for_ (.one 5) (.seq (.var 2)) (.cons ar1 (.cons ar2 (.cons ar3 (.cons ar4 (.cons ar5 (.cons ar6 .nil))))))) (.cons (.ret (.cst (.bl true))) .nil))))from rfl]
 rw[zh,Z,R.bind_ok,zm,zh,c2,R.bind_ok,zm,zh,c3,R.bind_ok,zm]
 simp -implicitDefEqProofs only[zh,ab4,ae1,ae8,ae4,ag6,ad6,af3,ab2,ac6,ac8,ag0,ad2,ae0,ae5,af9,ad7,af5,ag5,af4,af6,ae7,ag2,ab6,ag7,ag3,af1,af2,ac4,ac7,ag1,ac5,ac0,aa8,aa5,ab5,ac2,aa6,ac3,ag4,ad9,af8,ae9,R.bind_ok,qw,aa3,aa2,aa0,ad5,ad0,ab1,ab3,ad1,ad3,ag,af,aa1,zm,ac1,aa9,ab7,ab0,ab8,ab9,ad8,af0,ae6,ae2,ae3,af7,aa7,ad4,if_true,if_false,ac,decide_true,decide_false,am,aj,sq,e1]
 exact zX (λ _=>rfl) (by nofun)
end
noncomputable abbrev wa1:S:=(.setIx (.var 5) (.var 7) (.var 6))
noncomputable abbrev wa2:S:=(.ite (.and (.cmp .eq (.call "_law_end" (.ex (.var 0) (.ex (.var 7) .nil))) (.bin .add (.var 1) (.cst (.int 1)))) (.cmp .ne (.var 6) (.ix (.ix (.var 2) (.neg (.cst (.int 1)))) (.cst (.int 0))))) (.cons (.ret (.cst (.bl false))) .nil) .nil)
noncomputable abbrev wb1:S:=(.ite (.cmp .ge (.tup (.cons (.bi .len (.cons (.ix (.ix (.var 2) (.var 8)) (.cst (.int 0))) .nil)) (.cons (.ix (.ix (.var 2) (.var 8)) (.cst (.int 0))) .nil))) (.tup (.cons (.bi .len (.cons (.ix (.ix (.var 2) (.bin .add (.var 8) (.cst (.int 1)))) (.cst (.int 0))) .nil)) (.cons (.ix (.ix (.var 2) (.bin .add (.var 8) (.cst (.int 1)))) (.cst (.int 0))) .nil)))) (.cons (.ret (.cst (.bl false))) .nil) .nil)
noncomputable abbrev wc1:S:=(.asg (.one 10) (.tup (.cons (.bin .add (.bi .len (.cons (.var 6) .nil)) (.cst (.int 1))) (.cons (.bin .add (.var 6) (.var 9)) .nil))))
noncomputable abbrev wc2:S:=(.ite (.and (.var 4) (.cmp .ge (.var 10) (.var 3))) (.cons .cont .nil) .nil)
noncomputable abbrev wc3:S:=(.asg (.one 11) (.call "_law_led" (.ex (.var 0) (.ex (.var 1) (.ex (.var 7) (.ex (.var 9) .nil))))))
noncomputable abbrev wc4:S:=(.ite (.or (.cmp .notin (.var 11) (.var 5)) (.cmp .gt (.tup (.cons (.bi .len (.cons (.ix (.var 5) (.var 11)) .nil)) (.cons (.ix (.var 5) (.var 11)) .nil))) (.var 10))) (.cons (.ret (.cst (.bl false))) .nil) .nil)
noncomputable abbrev wcI:I:=(.seq (.slU (.cst (.str [97,98,99])) (.ix (.var 0) (.cst (.int 0)))))
theorem bT3 {x y:List Nat}(h:LL x y):geP (x.length:Int) x (y.length:Int) y=false:=by
 unfold geP
 rcases h with h|⟨h,g⟩
 .rw[if_neg (by omega)]
  exact decide_eq_false (by omega)
 .rw[if_pos (by omega),decide_eq_true g];rfl
theorem ca7 {x y:List Nat}(h:geP (x.length:Int) x (y.length:Int) y=false):LL x y:=by
 unfold geP at h
 by_cases e:x.length=y.length
 .rw[if_pos (by omega)]at h
  refine .inr ⟨e,?_⟩
  cases hd:decide (x<y)with
  | true=>exact of_decide_eq_true hd
  | false=>rw[hd]at h;cases h
 .rw[if_neg (by omega)]at h
  have:=of_decide_eq_false h
  exact .inl (by omega)
theorem bS2 {x y:List Nat}(h:LE x y):gtP (x.length:Int) x (y.length:Int) y=false:=by
 unfold gtP
 rcases h with rfl|h|⟨h,g⟩
 .rw[if_pos rfl]
  exact decide_eq_false (dz _)
 .rw[if_neg (by omega)]
  exact decide_eq_false (by omega)
 .rw[if_pos (by omega)]
  exact decide_eq_false λ z=>dz _ (ax8 g z)
theorem aL4 (i j:Int)(x y:List Nat)(s:Sto):zK .ge (.tup [.int i,.str x]) (.tup [.int j,.str y]) s=.ok (.bl (geP i x j y)) s:=rfl
theorem bB2 (i j:Int)(x y:List Nat)(s:Sto):zK .gt (.tup [.int i,.str x]) (.tup [.int j,.str y]) s=.ok (.bl (gtP i x j y)) s:=rfl
theorem aP4 {u:Sto}{q:Nat}{l:List D}{d:D}(h:u[q]?=some (.lst (l++[d]))):ixM (.ref q) (.int (-1)) u=.ok d u:=by
 have e:ixn (l++[d]).length (-1)=some l.length:=by
  unfold ixn
  rw[if_neg (by omega),ax,if_pos (by show -((l.length+1:Nat):Int)<=-1;omega)]
  congr 1
  show(-1+((l.length+1:Nat):Int)).toNat=l.length
  omega
 unfold ixM
 simp only[h,e,af,aK (aw _),ce,List.getElem?_cons_zero]
theorem ck4 {u:Sto}{p R:Nat}{L:List (List Nat×Rw)}(g:u[p]?=some (.dit (At L)))(B:1<=R)(h:R<=5)(hn:(L.map (·.2)).Nodup){d:List Nat×Rw}(hd:d∈L)(hR:d.2.length=R):inM (.tup (za d.2)) (.ref p) u=.ok true u:=by
 unfold inM
 simp only[g,aw6 B h hR,if_true,aM3 hn hd,fv]
theorem ci8 {u:Sto}{p R:Nat}{L:List (List Nat×Rw)}(g:u[p]?=some (.dit (At L)))(B:1<=R)(h:R<=5)(hn:(L.map (·.2)).Nodup){d:List Nat×Rw}(hd:d∈L)(hR:d.2.length=R):ixM (.ref p) (.tup (za d.2)) u=.ok (.str d.1) u:=by
 unfold ixM
 simp only[g,aw6 B h hR,if_true,aM3 hn hd]
theorem bx7 {u:Sto}{p R:Nat}{L:List (List Nat×Rw)}(g:u[p]?=some (.dit (At L)))(B:1<=R)(h:R<=5){e:List Nat×Rw}(hn:e.2 ∉ L.map (·.2))(hR:e.2.length=R)(hl:L.length<LIM):setIx (.ref p) (.tup (za e.2)) (.str e.1) u=.ok () (u.set p (.dit (At (L++[e])))):=by
 unfold setIx
 simp only[g,aw6 B h hR,show(At L).length<LIM by unfold At;rw[aE];exact hl,decide_true,iG,if_true,cb4 hn]
section
variable {P:Pr} [Has P aj6] [Has P aG6] [Has P as7] [Has P aj2]
local macro_rules|`(‹0›)=>`((.tup [.int (z.1.length:Int),.str z.1]))
theorem bp9 [Has P ah3](n:Nat){m:Mc}(hm:m.Ok){k:Int}{M A:List (List Nat×Rw)}{z:List Nat×Rw}(hp:Pn (zH m k) (zC m) (qr m.L) M)(hs:Srt M)(hl:M.length<=300)(Z:∀ e∈M,e.2.length=m.R)(hz:M=A++[z])(hA:∀ e∈A,zb m k e.2=false)
  (hc:∀ e∈M,∀ x∈qr m.L,(zb m k z.2=true->LL (e.1++[x]) z.1)->∃ c∈M,c.2=zH m k e.2 x/\LE c.1 (e.1++[x])) (e4:∀ e∈M,e.1.length<=1000) {s:Sto} {q:Nat} (g:s[q]?=some (.lst (MtD M))):(aa4 P (n+2)).call "_law_is_whole_list" [m.d,.int k,.ref q] s=.ok (.bl true) s:=by
 have e0:(aa4 P (n+2)).call "_law_is_whole_list" [m.d,.int k,.ref q] s=_:=zd ah3 (n:=n+1) rfl
 have hq:=(ae.mp g).1
 have h0:=(ae.mp hp.z0).1
 have a5:=hm.R1
 have a4:=hm.R5
 have b5:(MtD M).length=M.length:=aE ..
 have gl:∀ T,(s++T)[q]?=some (.lst (MtD A++[enD z])):=λ T=>by
  rw[zo g,hz];unfold MtD;rw[bN];rfl
 have d0:s[q]?=some (.lst (MtD A++[enD z])):=by rw[g,hz];unfold MtD;rw[bN];rfl
 have f1:z∈M:=by rw[hz];exact aM _ (ay.mpr rfl)
 have il:∀ T,ixM (.ref q) (.int (-1)) (s++T)=.ok (enD z) (s++T):=λ T=>aP4 (gl T)
 have b6:ixM (.ref q) (.int (-1)) s=.ok (enD z) s:=aP4 d0
 have f3:∀(row:Rw) (c:Nat) (S:Sto),row.length=m.R->(aa4 P (n+1)).call "_law_led" [m.d,.int k,.tup (za row),.str [c]] S=.ok (.tup (za (zH m k row c))) S:=λ row c S hr=>by
  have:Has P al2:=inferInstanceAs (Has P aG6)
  exact aX7 (P:=P) n hm hr k c S
 have en:∀(row:Rw) (S:Sto),row.length=m.R->(aa4 P (n+1)).call "_law_end" [m.d,.tup (za row)] S=.ok (zU (bE6 m row)) S:=λ row S hr=>bE7 (P:=P) n hm hr S
 have b4:∀(row:Rw) S,zK .eq (zU (bE6 m row)) (.int (k+1)) S=.ok (.bl (zb m k row)) S:=λ row S=>be6 _ _ S
 have c1:ex (aa4 P (n+1)) (.asg (.one 3) (.tup (.cons (.bi .len (.cons (.ix (.ix (.var 2) (.neg (.cst (.int 1)))) (.cst (.int 0))) .nil)) (.cons (.ix (.ix (.var 2) (.neg (.cst (.int 1)))) (.cst (.int 0))) .nil)))) [some m.d,some (.int k),some (.ref q),none,none,none,none,none,none,none,none,none] s=.ok (.next [some m.d,some (.int k),some (.ref q),some ‹0›,none,none,none,none,none,none,none,none]) s:=by
  simp -implicitDefEqProofs only[zh,ab4,ae1,ae8,ae4,ag6,ad6,af3,ab2,ac6,ac8,ag0,ad2,ae0,ae5,af9,ad7,af5,ag5,af4,af6,ae7,ag2,ab6,ag7,ag3,af1,af2,ac4,ac7,ag1,ac5,ac0,aa8,aa5,ab5,ac2,aa6,ac3,ag4,ad9,af8,ae9,R.bind_ok,qw,aa3,aa2,aa0,ad5,ad0,ab1,ab3,ad1,ad3,ag,af,aa1,zm,ac1,aa9,ab7,ab0,ab8,ab9,ad8,af0,ae6,ae2,ae3,af7,aa7,ad4,if_true,if_false,ac,decide_true,decide_false,am,aj,as1,b6,bj3,at7]
 have c2:ex (aa4 P (n+1)) (.asg (.one 4) (.cmp .eq (.call "_law_end" (.ex (.var 0) (.ex (.ix (.ix (.var 2) (.neg (.cst (.int 1)))) (.cst (.int 1))) .nil))) (.bin .add (.var 1) (.cst (.int 1))))) [some m.d,some (.int k),some (.ref q),some ‹0›,none,none,none,none,none,none,none,none] s=.ok (.next [some m.d,some (.int k),some (.ref q),some ‹0›,some (.bl (zb m k z.2)),none,none,none,none,none,none,none]) s:=by
  simp -implicitDefEqProofs only[zh,ab4,ae1,ae8,ae4,ag6,ad6,af3,ab2,ac6,ac8,ag0,ad2,ae0,ae5,af9,ad7,af5,ag5,af4,af6,ae7,ag2,ab6,ag7,ag3,af1,af2,ac4,ac7,ag1,ac5,ac0,aa8,aa5,ab5,ac2,aa6,ac3,ag4,ad9,af8,ae9,R.bind_ok,qw,aa3,aa2,aa0,ad5,ad0,ab1,ab3,ad1,ad3,ag,af,aa1,zm,ac1,aa9,ab7,ab0,ab8,ab9,ad8,af0,ae6,ae2,ae3,af7,aa7,ad4,if_true,if_false,ac,decide_true,decide_false,am,aj,as1,b6,bu3,en _ _ (Z z f1),b4]
 have c3:ex (aa4 P (n+1)) (.asg (.one 5) .dicT) [some m.d,some (.int k),some (.ref q),some ‹0›,some (.bl (zb m k z.2)),none,none,none,none,none,none,none] s=.ok (.next [some m.d,some (.int k),some (.ref q),some ‹0›,some (.bl (zb m k z.2)),some (.ref s.length),none,none,none,none,none,none]) (s++[.dit []]):=by
  simp -implicitDefEqProofs only[zh,ab4,ae1,ae8,ae4,ag6,ad6,af3,ab2,ac6,ac8,ag0,ad2,ae0,ae5,af9,ad7,af5,ag5,af4,af6,ae7,ag2,ab6,ag7,ag3,af1,af2,ac4,ac7,ag1,ac5,ac0,aa8,aa5,ab5,ac2,aa6,ac3,ag4,ad9,af8,ae9,R.bind_ok,qw,aa3,aa2,aa0,ad5,ad0,ab1,ab3,ad1,ad3,ag,af,aa1,zm,ac1,aa9,ab7,ab0,ab8,ab9,ad8,af0,ae6,ae2,ae3,af7,aa7,ad4,if_true,if_false,ac,decide_true,decide_false,am,aj,show ev (aa4 P (n+1)) .dicT [some m.d,some (.int k),some (.ref q),some ‹0›,some (.bl (zb m k z.2)),none,none,none,none,none,none,none] s=.ok (.ref s.length) (s++[.dit []])from rfl]
 have sq:∀ T,aF7 (.ref q) (s++T)=.ok ⟨MtD M,[q]⟩ (s++T):=λ T=>by simp only[aF7,zo g]
 have key:=qp (ok:=λ a0=>chk (s++[.dit []]) a0 [q]) (g:=turn (aa4 P (n+1)) (.tup [6,7]) (.cons wa1 (.cons wa2 .nil))) (λ j U u=>j<=M.length/\u=s++[.dit (At (M.take j))]/\∃ y6 Y:Option D,U=[some m.d,some (.int k),some (.ref q),some ‹0›,some (.bl (zb m k z.2)),some (.ref s.length),y6,Y,none,none,none,none]) (MtD M) 0 [some m.d,some (.int k),some (.ref q),some ‹0›,some (.bl (zb m k z.2)),some (.ref s.length),none,none,none,none,none,none] (s++[.dit []])
  ⟨b9 _,rfl,_,_,rfl⟩ (λ _ _ _ _ h=>by
   obtain⟨_,rfl,_⟩:=h
   simp[chk,aI hq]) (by
   rintro j d U u hj ⟨_,rfl,y6,Y,rfl⟩
   rw[dC]
   unfold MtD at hj
   rw[aS]at hj
   obtain⟨e,he,rfl⟩:=bJ.mp hj
   have G:=aR he
   have e5:=(ae.mp he).1
   have i0:=bx7 (u:=s++[.dit (At (M.take j))]) (p:=s.length) bq7 a5 a4 (bM0 hp.nd he) (Z e G) (by rw[bD];unfold LIM;omega)
   rw[eD _ _ (aw _),ce,<-av2 he]at i0
   have i0:setIx (.ref s.length) (.tup (za e.2)) (.str e.1) (s++[.dit (At (M.take j))])=.ok () (s++[.dit (At (M.take (j+1)))]):=i0
   refine⟨[some m.d,some (.int k),some (.ref q),some ‹0›,some (.bl (zb m k z.2)),some (.ref s.length),some (.str e.1),some (.tup (za e.2)),none,none,none,none],s++[.dit (At (M.take (j+1)))],.inl ?_,e5,rfl,_,_,rfl⟩
   cases hab:zb m k e.2 with
   | false=>simp -implicitDefEqProofs only[zh,ab4,ae1,ae8,ae4,ag6,ad6,af3,ab2,ac6,ac8,ag0,ad2,ae0,ae5,af9,ad7,af5,ag5,af4,af6,ae7,ag2,ab6,ag7,ag3,af1,af2,ac4,ac7,ag1,ac5,ac0,aa8,aa5,ab5,ac2,aa6,ac3,ag4,ad9,af8,ae9,R.bind_ok,qw,aa3,aa2,aa0,ad5,ad0,ab1,ab3,ad1,ad3,ag,af,aa1,zm,ac1,aa9,ab7,ab0,ab8,ab9,ad8,af0,ae6,ae2,ae3,af7,aa7,ad4,if_true,if_false,ac,decide_true,decide_false,am,aj,turn,i0,en _ _ (Z e G),b4,hab]
   | true =>
    have f0:e=z:=by
     rw[hz]at G
     rcases aP.mp G with w|w
     .rw[hA e w]at hab;cases hab
     .exact ay.mp w
    have nw:∀ S,zK .ne (.str e.1) (.str z.1) S=.ok (.bl false) S:=λ S=>by rw[cj3,f0];simp
    simp -implicitDefEqProofs only[zh,ab4,ae1,ae8,ae4,ag6,ad6,af3,ab2,ac6,ac8,ag0,ad2,ae0,ae5,af9,ad7,af5,ag5,af4,af6,ae7,ag2,ab6,ag7,ag3,af1,af2,ac4,ac7,ag1,ac5,ac0,aa8,aa5,ab5,ac2,aa6,ac3,ag4,ad9,af8,ae9,R.bind_ok,qw,aa3,aa2,aa0,ad5,ad0,ab1,ab3,ad1,ad3,ag,af,aa1,zm,ac1,aa9,ab7,ab0,ab8,ab9,ad8,af0,ae6,ae2,ae3,af7,aa7,ad4,if_true,if_false,ac,decide_true,decide_false,am,aj,turn,i0,en _ _ (Z e G),b4,hab,as1,il,bj3,nw])
 obtain⟨U1,s1,e1,_,rfl,y6,Y,rfl⟩:=key
 rw[dC,b5,jw]at e1
 generalize hU:s++[O.dit (At M)]=Uu at e1
 have gq:Uu[q]?=some (.lst (MtD M)):=by rw[<-hU];exact zo g
 have gp:Uu[s.length]?=some (.dit (At M)):=by rw[<-hU];exact bq7
 have g0:aF7 (.ref q) Uu=.ok ⟨MtD M,[q]⟩ Uu:=by simp only[aF7,gq]
 have b0:∀(j:Nat) (e:List Nat×Rw),M[j]?=some e->ixM (.ref q) (.int (j:Int)) Uu=.ok (enD e) Uu:=λ j e he=>am1 gq (bu9 he)
 have ln:bi .len [.ref q] Uu=.ok (.int (M.length:Int)) Uu:=by rw[an4 gq,b5]
 have key:=qp (ok:=λ a0=>chk Uu a0 []) (g:=turn (aa4 P (n+1)) (.one 8) (.cons wb1 .nil)) (λ j U u=>u=Uu/\∃ J:Option D,U=[some m.d,some (.int k),some (.ref q),some ‹0›,some (.bl (zb m k z.2)),some (.ref s.length),y6,Y,J,none,none,none]) (qN 0 ((M.length:Int) - 1)) 0 [some m.d,some (.int k),some (.ref q),some ‹0›,some (.bl (zb m k z.2)),some (.ref s.length),y6,Y,none,none,none,none] Uu
  ⟨rfl,_,rfl⟩ (λ _ _ _ _ _=>rfl) (by
   rintro j d U u hj ⟨rfl,J,rfl⟩
   obtain⟨a6,rfl⟩:=an0 hj
   rw[gB]
   have c4:j<M.length:=by omega
   have a6:j+1<M.length:=by omega
   have x1:=b0 j M[j] (au c4)
   have x2:=b0 (j+1) M[j+1] (au a6)
   rw[show((j+1:Nat):Int)=(j:Int)+1 by omega]at x2
   have hL:=cc.mp hs j (j+1) c4 a6 (cC j)
   refine⟨[some m.d,some (.int k),some (.ref q),some ‹0›,some (.bl (zb m k z.2)),some (.ref s.length),y6,Y,some (.int (j:Int)),none,none,none],u,.inl ?_,rfl,_,rfl⟩
   generalize M[j]=ea at x1 hL
   generalize M[j+1]=eb at x2 hL
   simp -implicitDefEqProofs only[zh,ab4,ae1,ae8,ae4,ag6,ad6,af3,ab2,ac6,ac8,ag0,ad2,ae0,ae5,af9,ad7,af5,ag5,af4,af6,ae7,ag2,ab6,ag7,ag3,af1,af2,ac4,ac7,ag1,ac5,ac0,aa8,aa5,ab5,ac2,aa6,ac3,ag4,ad9,af8,ae9,R.bind_ok,qw,aa3,aa2,aa0,ad5,ad0,ab1,ab3,ad1,ad3,ag,af,aa1,zm,ac1,aa9,ab7,ab0,ab8,ab9,ad8,af0,ae6,ae2,ae3,af7,aa7,ad4,if_true,if_false,ac,decide_true,decide_false,am,aj,turn,x1,x2,bj3,at7,aL4,bT3 hL])
 obtain⟨U2,s2,e2,rfl,J,rfl⟩:=key
 have b3:∀(e:List Nat×Rw),e∈M->∀(y9 F B:Option D),∃ z9 a1 a2:Option D,ex (aa4 P (n+1)) (.for_ (.one 9) wcI (.cons wc1 (.cons wc2 (.cons wc3 (.cons wc4 .nil))))) [some m.d,some (.int k),some (.ref q),some ‹0›,some (.bl (zb m k z.2)),some (.ref s.length),some (.str e.1),some (.tup (za e.2)),J,y9,F,B] s2=.ok (.next [some m.d,some (.int k),some (.ref q),some ‹0›,some (.bl (zb m k z.2)),some (.ref s.length),some (.str e.1),some (.tup (za e.2)),J,z9,a1,a2]) s2:=λ e G y9 F B=>by
  have f2:evI (aa4 P (n+1)) wcI [some m.d,some (.int k),some (.ref q),some ‹0›,some (.bl (zb m k z.2)),some (.ref s.length),some (.str e.1),some (.tup (za e.2)),J,y9,F,B] s2=.ok ⟨sg (qr m.L),[]⟩ s2:=by
   have h3:=hm.L3
   have sS:aF7 (.str ([97,98,99].take m.L)) s2=.ok ⟨sg (qr m.L),[]⟩ s2:=by
    rw[<-bi0 h3]
    rcases(show m.L=0\/m.L=1\/m.L=2\/m.L=3 by omega)with w|w|w|w<;>rw[w]<;>rfl
   simp -implicitDefEqProofs only[zh,ab4,ae1,ae8,ae4,ag6,ad6,af3,ab2,ac6,ac8,ag0,ad2,ae0,ae5,af9,ad7,af5,ag5,af4,af6,ae7,ag2,ab6,ag7,ag3,af1,af2,ac4,ac7,ag1,ac5,ac0,aa8,aa5,ab5,ac2,aa6,ac3,ag4,ad9,af8,ae9,R.bind_ok,qw,aa3,aa2,aa0,ad5,ad0,ab1,ab3,ad1,ad3,ag,af,aa1,zm,ac1,aa9,ab7,ab0,ab8,ab9,ad8,af0,ae6,ae2,ae3,af7,aa7,ad4,if_true,if_false,ac,decide_true,decide_false,am,aj,bw8,ixL,bQ1 h3,sS]
  have key:=qp (ok:=λ a0=>chk s2 a0 []) (g:=turn (aa4 P (n+1)) (.one 9) (.cons wc1 (.cons wc2 (.cons wc3 (.cons wc4 .nil))))) (λ j U u=>u=s2/\∃ y9 F B:Option D,U=[some m.d,some (.int k),some (.ref q),some ‹0›,some (.bl (zb m k z.2)),some (.ref s.length),some (.str e.1),some (.tup (za e.2)),J,y9,F,B]) (sg (qr m.L)) 0 [some m.d,some (.int k),some (.ref q),some ‹0›,some (.bl (zb m k z.2)),some (.ref s.length),some (.str e.1),some (.tup (za e.2)),J,y9,F,B] s2
   ⟨rfl,_,_,_,rfl⟩ (λ _ _ _ _ _=>rfl) (by
    rintro j d U u hj ⟨rfl,y9,F,B,rfl⟩
    obtain⟨x,hx,rfl⟩:=aQ.mp (aR hj)
    have ad:∀ S,ao3 .add (.str e.1) (.str [x]) S=.ok (.str (e.1++[x])) S:=λ S=>aJ7 (by have:=e4 e G;simp;unfold LIM;omega)
    have f5:((e.1.length:Int)+1)=((e.1++[x]).length:Int):=by rw[ax];rfl
    have mo:∀ U5:Option D,ex (aa4 P (n+1)) wc1 [some m.d,some (.int k),some (.ref q),some ‹0›,some (.bl (zb m k z.2)),U5,some (.str e.1),some (.tup (za e.2)),J,some (.str [x]),F,B] u=.ok (.next [some m.d,some (.int k),some (.ref q),some ‹0›,some (.bl (zb m k z.2)),U5,some (.str e.1),some (.tup (za e.2)),J,some (.str [x]),some (.tup [.int ((e.1++[x]).length:Int),.str (e.1++[x])]),B]) u:=λ U5=>by
     simp -implicitDefEqProofs only[zh,ab4,ae1,ae8,ae4,ag6,ad6,af3,ab2,ac6,ac8,ag0,ad2,ae0,ae5,af9,ad7,af5,ag5,af4,af6,ae7,ag2,ab6,ag7,ag3,af1,af2,ac4,ac7,ag1,ac5,ac0,aa8,aa5,ab5,ac2,aa6,ac3,ag4,ad9,af8,ae9,R.bind_ok,qw,aa3,aa2,aa0,ad5,ad0,ab1,ab3,ad1,ad3,ag,af,aa1,zm,ac1,aa9,ab7,ab0,ab8,ab9,ad8,af0,ae6,ae2,ae3,af7,aa7,ad4,if_true,if_false,ac,decide_true,decide_false,am,aj,at7,ad,f5]
    cases hb:(zb m k z.2&&geP ((e.1++[x]).length:Int) (e.1++[x]) (z.1.length:Int) z.1)with
    | true =>
     obtain⟨b1,b2⟩:=eN.mp hb
     refine⟨[some m.d,some (.int k),some (.ref q),some ‹0›,some (.bl (zb m k z.2)),some (.ref s.length),some (.str e.1),some (.tup (za e.2)),J,some (.str [x]),some (.tup [.int ((e.1++[x]).length:Int),.str (e.1++[x])]),B],u,.inr ?_,rfl,_,_,_,rfl⟩
     simp -implicitDefEqProofs only[turn,qw,ad5,ad0,ag]
     rw[zh,mo,R.bind_ok,zm]
     simp -implicitDefEqProofs only[zh,ab4,ae1,ae8,ae4,ag6,ad6,af3,ab2,ac6,ac8,ag0,ad2,ae0,ae5,af9,ad7,af5,ag5,af4,af6,ae7,ag2,ab6,ag7,ag3,af1,af2,ac4,ac7,ag1,ac5,ac0,aa8,aa5,ab5,ac2,aa6,ac3,ag4,ad9,af8,ae9,R.bind_ok,qw,aa3,aa2,aa0,ad5,ad0,ab1,ab3,ad1,ad3,ag,af,aa1,zm,ac1,aa9,ab7,ab0,ab8,ab9,ad8,af0,ae6,ae2,ae3,af7,aa7,ad4,if_true,if_false,ac,decide_true,decide_false,am,aj,b1,aL4,b2]
    | false =>
     have hL:zb m k z.2=true->LL (e.1++[x]) z.1:=λ q=>by
      rw[q,dJ]at hb
      exact ca7 hb
     obtain⟨c,a3,c2,cl⟩:=hc e G x hx hL
     have i1:=ck4 gp a5 a4 hp.nd a3 (Z c a3)
     have i2:=ci8 gp a5 a4 hp.nd a3 (Z c a3)
     rw[c2]at i1 i2
     refine⟨[some m.d,some (.int k),some (.ref q),some ‹0›,some (.bl (zb m k z.2)),some (.ref s.length),some (.str e.1),some (.tup (za e.2)),J,some (.str [x]),some (.tup [.int ((e.1++[x]).length:Int),.str (e.1++[x])]),some (.tup (za (zH m k e.2 x)))],u,.inl ?_,rfl,_,_,_,rfl⟩
     simp -implicitDefEqProofs only[turn,qw,ad5,ad0,ag]
     rw[zh,mo,R.bind_ok,zm]
     have w2:ex (aa4 P (n+1)) wc2 [some m.d,some (.int k),some (.ref q),some ‹0›,some (.bl (zb m k z.2)),some (.ref s.length),some (.str e.1),some (.tup (za e.2)),J,some (.str [x]),some (.tup [.int ((e.1++[x]).length:Int),.str (e.1++[x])]),B] u=.ok (.next [some m.d,some (.int k),some (.ref q),some ‹0›,some (.bl (zb m k z.2)),some (.ref s.length),some (.str e.1),some (.tup (za e.2)),J,some (.str [x]),some (.tup [.int ((e.1++[x]).length:Int),.str (e.1++[x])]),B]) u:=by
      cases hb1:zb m k z.2 with
      | false=>simp -implicitDefEqProofs only[zh,ab4,ae1,ae8,ae4,ag6,ad6,af3,ab2,ac6,ac8,ag0,ad2,ae0,ae5,af9,ad7,af5,ag5,af4,af6,ae7,ag2,ab6,ag7,ag3,af1,af2,ac4,ac7,ag1,ac5,ac0,aa8,aa5,ab5,ac2,aa6,ac3,ag4,ad9,af8,ae9,R.bind_ok,qw,aa3,aa2,aa0,ad5,ad0,ab1,ab3,ad1,ad3,ag,af,aa1,zm,ac1,aa9,ab7,ab0,ab8,ab9,ad8,af0,ae6,ae2,ae3,af7,aa7,ad4,if_true,if_false,ac,decide_true,decide_false,am,aj]
      | true =>
       rw[hb1,dJ]at hb
       simp -implicitDefEqProofs only[zh,ab4,ae1,ae8,ae4,ag6,ad6,af3,ab2,ac6,ac8,ag0,ad2,ae0,ae5,af9,ad7,af5,ag5,af4,af6,ae7,ag2,ab6,ag7,ag3,af1,af2,ac4,ac7,ag1,ac5,ac0,aa8,aa5,ab5,ac2,aa6,ac3,ag4,ad9,af8,ae9,R.bind_ok,qw,aa3,aa2,aa0,ad5,ad0,ab1,ab3,ad1,ad3,ag,af,aa1,zm,ac1,aa9,ab7,ab0,ab8,ab9,ad8,af0,ae6,ae2,ae3,af7,aa7,ad4,if_true,if_false,ac,decide_true,decide_false,am,aj,aL4,hb]
     rw[zh,w2,R.bind_ok,zm]
     simp -implicitDefEqProofs only[zh,ab4,ae1,ae8,ae4,ag6,ad6,af3,ab2,ac6,ac8,ag0,ad2,ae0,ae5,af9,ad7,af5,ag5,af4,af6,ae7,ag2,ab6,ag7,ag3,af1,af2,ac4,ac7,ag1,ac5,ac0,aa8,aa5,ab5,ac2,aa6,ac3,ag4,ad9,af8,ae9,R.bind_ok,qw,aa3,aa2,aa0,ad5,ad0,ab1,ab3,ad1,ad3,ag,af,aa1,zm,ac1,aa9,ab7,ab0,ab8,ab9,ad8,af0,ae6,ae2,ae3,af7,aa7,ad4,if_true,if_false,ac,decide_true,decide_false,am,aj,f3 _ _ _ (Z e G),aR5,i1,i2,at7,bB2,bS2 cl])
  obtain⟨U3,s3,e3,rfl,z9,a1,a2,rfl⟩:=key
  exact⟨z9,a1,a2,by rw[ad6,f2,R.bind_ok];exact e3⟩
 have key:=qp (ok:=λ a0=>chk s2 a0 [q]) (g:=turn (aa4 P (n+1)) (.tup [6,7]) (.cons (.for_ (.one 9) wcI (.cons wc1 (.cons wc2 (.cons wc3 (.cons wc4 .nil))))) .nil)) (λ j U u=>u=s2/\∃ y6 Y y9 F B:Option D,U=[some m.d,some (.int k),some (.ref q),some ‹0›,some (.bl (zb m k z.2)),some (.ref s.length),y6,Y,J,y9,F,B]) (MtD M) 0 [some m.d,some (.int k),some (.ref q),some ‹0›,some (.bl (zb m k z.2)),some (.ref s.length),y6,Y,J,none,none,none] s2
  ⟨rfl,_,_,_,_,_,rfl⟩ (λ _ _ _ _ h=>by rw[h.1];simp[chk]) (by
   rintro j d U u hj ⟨rfl,y6,Y,y9,F,B,rfl⟩
   obtain⟨e,G,rfl⟩:=aQ.mp (aR hj)
   obtain⟨z9,a1,a2,h⟩:=b3 e G y9 F B
   refine⟨[some m.d,some (.int k),some (.ref q),some ‹0›,some (.bl (zb m k z.2)),some (.ref s.length),some (.str e.1),some (.tup (za e.2)),J,z9,a1,a2],u,.inl ?_,rfl,_,_,_,_,_,rfl⟩
   simp -implicitDefEqProofs only[turn,aa3,aa0,aa2,ad5,ad0,ag,af]
   rw[zh,h,R.bind_ok,zm,ab4])
 obtain⟨U3,s3,e3,rfl,w6,w7,y9,F,B,rfl⟩:=key
 have x0:ixM (.ref q) (.int 0) s3=.ok (enD ([],zC m)) s3:=b0 0 _ hp.z0
 rw[e0,show(cH some [m.d,D.int k,D.ref q]++aA ah3.vs none)=[some m.d,some (.int k),some (.ref q),none,none,none,none,none,none,none,none,none]from rfl]
 rw[show ah3.body=.cons (.asg (.one 3) (.tup (.cons (.bi .len (.cons (.ix (.ix (.var 2) (.neg (.cst (.int 1)))) (.cst (.int 0))) .nil)) (.cons (.ix (.ix (.var 2) (.neg (.cst (.int 1)))) (.cst (.int 0))) .nil)))) (.cons (.asg (.one 4) (.cmp .eq (.call "_law_end" (.ex (.var 0) (.ex (.ix (.ix (.var 2) (.neg (.cst (.int 1)))) (.cst (.int 1))) .nil))) (.bin .add (.var 1) (.cst (.int 1))))) (.cons (.asg (.one 5) .dicT) (.cons (.for_ (.tup [6,7]) (.seq (.var 2)) (.cons wa1 (.cons wa2 .nil))) (.cons (.for_ (.one 8) (.rng1 (.bin .sub (.bi .len (.cons (.var 2) .nil)) (.cst (.int 1)))) (.cons wb1 .nil)) (.cons (.for_ (.tup [6,7]) (.seq (.var 2)) (.cons (.for_ (.one 9) wcI (.cons wc1 (.cons wc2 (.cons wc3 (.cons wc4 .nil))))) .nil)) (.cons (.ret (.cmp .eq (.ix (.ix (.var 2) (.cst (.int 0))) (.cst (.int 0))) (.cst (.str [])))) .nil))))))from rfl]
 rw[zh,c1,R.bind_ok,zm,zh,c2,R.bind_ok,zm,zh,c3,R.bind_ok,zm]
 have d1:ex (aa4 P (n+1)) (.for_ (.tup [6,7]) (.seq (.var 2)) (.cons wa1 (.cons wa2 .nil))) [some m.d,some (.int k),some (.ref q),some ‹0›,some (.bl (zb m k z.2)),some (.ref s.length),none,none,none,none,none,none] (s++[.dit []])=.ok (.next [some m.d,some (.int k),some (.ref q),some ‹0›,some (.bl (zb m k z.2)),some (.ref s.length),y6,Y,none,none,none,none]) s3:=by
  rw[ad6,show evI (aa4 P (n+1)) (.seq (.var 2)) [some m.d,some (.int k),some (.ref q),some ‹0›,some (.bl (zb m k z.2)),some (.ref s.length),none,none,none,none,none,none] (s++[.dit []])=.ok ⟨MtD M,[q]⟩ (s++[.dit []])from sq _,R.bind_ok]
  exact e1
 rw[zh,d1,R.bind_ok,zm]
 have f4:bn7 (.int ((M.length:Int) - 1)) s3=.ok ⟨qN 0 ((M.length:Int) - 1),[]⟩ s3:=qt (by unfold Ww62;omega) (by unfold Ww62;omega)
 have hv:evI (aa4 P (n+1)) (.rng1 (.bin .sub (.bi .len (.cons (.var 2) .nil)) (.cst (.int 1)))) [some m.d,some (.int k),some (.ref q),some ‹0›,some (.bl (zb m k z.2)),some (.ref s.length),y6,Y,none,none,none,none] s3=.ok ⟨qN 0 ((M.length:Int) - 1),[]⟩ s3:=by
  simp -implicitDefEqProofs only[zh,ab4,ae1,ae8,ae4,ag6,ad6,af3,ab2,ac6,ac8,ag0,ad2,ae0,ae5,af9,ad7,af5,ag5,af4,af6,ae7,ag2,ab6,ag7,ag3,af1,af2,ac4,ac7,ag1,ac5,ac0,aa8,aa5,ab5,ac2,aa6,ac3,ag4,ad9,af8,ae9,R.bind_ok,qw,aa3,aa2,aa0,ad5,ad0,ab1,ab3,ad1,ad3,ag,af,aa1,zm,ac1,aa9,ab7,ab0,ab8,ab9,ad8,af0,ae6,ae2,ae3,af7,aa7,ad4,if_true,if_false,ac,decide_true,decide_false,am,aj,ln,f4]
 have d2:ex (aa4 P (n+1)) (.for_ (.one 8) (.rng1 (.bin .sub (.bi .len (.cons (.var 2) .nil)) (.cst (.int 1)))) (.cons wb1 .nil)) [some m.d,some (.int k),some (.ref q),some ‹0›,some (.bl (zb m k z.2)),some (.ref s.length),y6,Y,none,none,none,none] s3=.ok (.next [some m.d,some (.int k),some (.ref q),some ‹0›,some (.bl (zb m k z.2)),some (.ref s.length),y6,Y,J,none,none,none]) s3:=by
  rw[ad6,hv,R.bind_ok]
  exact e2
 have d3:ex (aa4 P (n+1)) (.for_ (.tup [6,7]) (.seq (.var 2)) (.cons (.for_ (.one 9) wcI (.cons wc1 (.cons wc2 (.cons wc3 (.cons wc4 .nil))))) .nil)) [some m.d,some (.int k),some (.ref q),some ‹0›,some (.bl (zb m k z.2)),some (.ref s.length),y6,Y,J,none,none,none] s3=.ok (.next [some m.d,some (.int k),some (.ref q),some ‹0›,some (.bl (zb m k z.2)),some (.ref s.length),w6,w7,J,y9,F,B]) s3:=by
  rw[ad6,show evI (aa4 P (n+1)) (.seq (.var 2)) [some m.d,some (.int k),some (.ref q),some ‹0›,some (.bl (zb m k z.2)),some (.ref s.length),y6,Y,J,none,none,none] s3=.ok ⟨MtD M,[q]⟩ s3 from g0,R.bind_ok]
  exact e3
 rw[zh,d2,R.bind_ok,zm,zh,d3,R.bind_ok,zm]
 simp -implicitDefEqProofs only[zh,ab4,ae1,ae8,ae4,ag6,ad6,af3,ab2,ac6,ac8,ag0,ad2,ae0,ae5,af9,ad7,af5,ag5,af4,af6,ae7,ag2,ab6,ag7,ag3,af1,af2,ac4,ac7,ag1,ac5,ac0,aa8,aa5,ab5,ac2,aa6,ac3,ag4,ad9,af8,ae9,R.bind_ok,qw,aa3,aa2,aa0,ad5,ad0,ab1,ab3,ad1,ad3,ag,af,aa1,zm,ac1,aa9,ab7,ab0,ab8,ab9,ad8,af0,ae6,ae2,ae3,af7,aa7,ad4,if_true,if_false,ac,decide_true,decide_false,am,aj,x0,bj3,cr5]
 rw[<-hU]
 exact zX (λ _=>rfl) (by nofun)
end
theorem aL5 {P:Pr}[Has P aj5][Has P ak1][Has P ai5](n:Nat){s:Sto}{r:Nat}(hs:∃ b,s[r]?=some (zS b)):McR s r ((aa4 P (n+3)).call "_law_machine" [.ref r] s):=by
 have e0:(aa4 P (n+3)).call "_law_machine" [.ref r] s=_:=zd ai5 (n:=n+2) rfl
 have hr:=bw6 hs
 obtain⟨a,b1,ha,e1⟩:=qO (P:=P) (n+1) hs 3 (by decide) (by decide)
 obtain⟨c,b2,hc,e2⟩:=qO (P:=P) (n+1) (az8 (b:=b1) hr) 5 (by decide) (by decide)
 rw[b8]at e2
 obtain⟨m1,b3,hm1,e3⟩:=qO (P:=P) (n+1) (az8 (b:=b2) hr) 13 (by decide) (by decide)
 rw[b8]at e3
 obtain⟨m2,Y,b0,e4⟩:=qO (P:=P) (n+1) (az8 (b:=b3) hr) 8 (by decide) (by decide)
 rw[b8]at e4
 obtain⟨m3,b5,a5,e5⟩:=qO (P:=P) (n+1) (az8 (b:=Y) hr) 31 (by decide) (by decide)
 rw[b8]at e5
 rw[e0]
 simp -implicitDefEqProofs [ai5,e1,e2,e3,e4]
 obtain⟨many,bb,hmany,hif⟩:∃(many:Nat) (bb:Nat×Nat),many<=75/\(if(m2:Int)=7 then
   ((aa4 P (n+2)).call "_law_take" [D.ref r,D.int 31] (List.set s r (zS Y))).bind λ d s =>
    R.ok
     (Ct.next [some (D.ref r),some (D.int (1+↑a)),some (D.int (1+↑c)),some d,none,none]) s
   else
    R.ok
     (Ct.next
      [some (D.ref r),some (D.int (1+↑a)),some (D.int (1+↑c)),some (D.int ↑m1),none,none])
     (List.set s r (zS Y)))=.ok (.next [some (.ref r),some (.int (1+a)),some (.int (1+c)),some (.int many),none,none]) (s.set r (zS bb)):=by
  by_cases h7:(m2:Int)=7
  .exact⟨m3,b5,by omega,by rw[if_pos h7,e5];rfl⟩
  .exact⟨m1,Y,by omega,by rw[if_neg h7]⟩
 rw[hif]
 simp -implicitDefEqProofs
 rw[qt (by unfold Ww62;omega) (by unfold Ww62;omega)]
 simp only[R.bind_ok]
 refine ay9 (Ww:=McR s r) (λ j U u=>∃(b:Nat×Nat) (l:List Dr) (x:Option D),(∀ d∈l,d.Ok ⟨a+1,c+1,[],[],[]⟩)/\l.length=j/\U=[some (.ref r),some (.int (1+a)),some (.int (1+c)),some (.int many),some (.ref s.length),x]/\u=s.set r (zS b)++[.lst (l.map Dr.d)]) ⟨bb,[],none,by simp,rfl,rfl,rfl⟩ (λ _ _ _ _ _=>rfl) ?_ ?_
 .rintro j d U u hj ⟨b,l,x,hl,B,rfl,rfl⟩
  obtain⟨a6,rfl⟩:=an0 hj
  obtain⟨k1,J,b6,F⟩:=ax7 (P:=P) (n+1) (t:=[.lst (l.map Dr.d)]) hr b (1+c) (by omega) (aA2 (by omega))
  obtain⟨k2,Z,a3,G⟩:=ax7 (P:=P) (n+1) (t:=[.lst (l.map Dr.d)]) hr J (1+a) (by omega) (aA2 (by omega))
  obtain⟨k3,c3,a2,f3⟩:=ax7 (P:=P) (n+1) (t:=[.lst (l.map Dr.d)]) hr Z (1+c) (by omega) (aA2 (by omega))
  obtain⟨k4,c4,a4,f4⟩:=ax7 (P:=P) (n+1) (t:=[.lst (l.map Dr.d)]) hr c3 4 (by decide) (by decide)
  refine aV3 (U:=[some (.ref r),some (.int (1+a)),some (.int (1+c)),some (.int many),some (.ref s.length),some (.int j)]) (s:=s.set r (zS c4)++[.lst ((l++[(⟨k1,97+k2,k3,k4⟩:Dr)]).map Dr.d)]) ?_ ⟨c4,l++[(⟨k1,97+k2,k3,k4⟩:Dr)],_,?_,?_,rfl,rfl⟩
  .simp -implicitDefEqProofs [turn,F,G,f3,f4,cc2 (show k2<3 by omega)]
   rw[bY6 (by unfold LIM;simp;omega)]
   rfl
  .intro d hd
   rcases aP.mp hd with h|h
   .exact hl d h
   .rw[ay.mp h];constructor<;>simp only<;>omega
  .simp[B]
 .rintro U u ⟨b,l,x,hl,B,rfl,rfl⟩
  obtain⟨l1,J,g1,F⟩:=aN1 (P:=P) n (s:=s.set r (zS b)++[.lst (l.map Dr.d)]) (r:=r) ⟨b,zo (qc hr)⟩ (c+1) (by omega)
  rw[aA6 (by rw[bp];exact hr),b8]at F
  obtain⟨l2,Z,g2,G⟩:=aN1 (P:=P) n (s:=s.set r (zS J)++[.lst (l.map Dr.d)]) (r:=r) ⟨J,zo (qc hr)⟩ (c+1) (by omega)
  rw[aA6 (by rw[bp];exact hr),b8]at G
  rw[show((c+1:Nat):Int)=1+(c:Int)by omega]at F G
  have a1:(s.set r (zS Z)++[O.lst (l.map Dr.d)])[s.length]?=some (.lst (l.map Dr.d)):=by rw[aK (by simp)];simp
  have a0:l.length<=75:=by
   rw[B];simp[qN];omega
  simp -implicitDefEqProofs [F,G,bj6,a1,mk]
  refine⟨⟨a+1,c+1,l1,l2,l⟩,Z,⟨by simp,by simp;omega,by simp,by simp;omega,g1,g2,λ x hx=>?_,a0⟩,?_⟩
  .have:=hl x hx
   exact⟨this.a,this.l,this.b,this.t⟩
  .rw[show((1:Int)+(a:Int))=((a+1:Nat):Int)by omega,show((1:Int)+(c:Int))=((c+1:Nat):Int)by omega]
   exact as8 (bZ4 ⟨a+1,c+1,l1,l2,l⟩) (by nofun) rfl
noncomputable def aj7:Tf:=⟨2,0,(.cons (.ret (.lst (.cons (.call "rows_met" (.ex (.var 0) (.ex (.var 1) .nil))) .nil))) .nil),.call "rows_met" (.ex (.var 0) (.ex (.var 1) .nil)), "TooMuch",0,.noe,.nil,.nil⟩
noncomputable abbrev bL0:Ss:=(.cons (.asg (.one 2) (.call "_law_bag" (.ex (.var 0) (.ex (.var 1) .nil)))) (.cons (.asg (.one 3) (.call "_law_machine" (.ex (.var 2) .nil))) (.cons (.asg (.one 4) (.call "_law_bound" (.ex (.var 2) .nil))) (.cons (.asg (.one 5) (.call "_law_met" (.ex (.var 3) (.ex (.var 4) .nil)))) (.cons (.ite (.cmp .eq (.bi .len (.cons (.var 5) .nil)) (.cst (.int 0))) (.cons .cont .nil) .nil) (.cons (.ite (.or (.not (.call "_law_are_rows" (.ex (.var 3) (.ex (.var 4) (.ex (.ix (.var 5) (.cst (.int 0))) .nil))))) (.not (.call "_law_is_whole_list" (.ex (.var 3) (.ex (.var 4) (.ex (.ix (.var 5) (.cst (.int 0))) .nil)))))) (.cons (.ret (.cst (.bl false))) .nil) .nil) (.cons (.asg (.one 6) (.mk .list (.seq (.ix (.var 5) (.cst (.int 0)))))) (.cons (.ex (.meth .reverse (.ix (.var 5) (.cst (.int 0))) .nil)) (.cons (.ex (.meth .append (.ix (.var 5) (.cst (.int 0))) (.cons (.tup (.cons (.cst (.str [])) (.cons (.tup .nil) .nil))) .nil))) (.cons (.ite (.cmp .ne (.call "_law_met" (.ex (.var 3) (.ex (.var 4) .nil))) (.lst (.cons (.var 6) .nil))) (.cons (.ret (.cst (.bl false))) .nil) .nil) .nil))))))))))
theorem bb7 {s:Sto}{o:O}:zr s (.ref (s.length+1)) (s++[o,.lst [.ref s.length]])=.ok (.ref (s.length+1)) (s++[o,.lst [.ref s.length]]):=by
 unfold zr
 rw[aq5,if_pos rfl]
 simp only
 rw[if_neg (by omega),aK (by omega),show s.length+1 - s.length=1 by omega]
 show(if(O.lst [D.ref s.length]).bnd s.length=true then _ else _)=_
 rw[if_neg]
 show ¬(decide (s.length<s.length)&&true)=true
 simp
theorem by2 {s:Sto}{r:Nat}{l:List D}(h:s[r]?=some (.lst l)):meth .reverse (.ref r) [] s=.ok .non (s.set r (.lst l.reverse)):=by
 unfold meth
 simp only[h]
section
variable {P:Pr} [Has P ai2] [Has P aj0] [Has P ah7] [Has P ah6] [Has P ah9] [Has P ah8] [Has P an6] [Has P ai0] [Has P ag8] [Has P ap2] [Has P ai1] [Has P ah2] [HasC P "LETTERS" (.tup ak8)] [HasC P "MOST_ROWS" (.int 300)] [Has P ah0] [Has P ag9] [HasX P "meet_behind" ah1] [HasE P "TooMuch" []] [Has P ai6] [HasX P "rows_met" ai7] [HasT P "_law_met" aj7]
noncomputable def MeO (P:Pr)(n:Nat)(m:Mc)(k:Int)(s:Sto):Bres->Prop
 | .more M=>(aa4 P (n+6)).call "_law_met" [m.d,.int k] s=.ok (.ref (s.length+1)) (s++[.lst (MtD M),.lst [.ref s.length]])
 | .stop M=>(aa4 P (n+6)).call "_law_met" [m.d,.int k] s=.ok (.ref (s.length+1)) (s++[.lst (MtD M),.lst [.ref s.length]])
 | .over=>(aa4 P (n+6)).call "_law_met" [m.d,.int k] s=.ok (.ref s.length) (s++[.lst []])
theorem bW8 (n:Nat){m:Mc}(hm:m.Ok){k:Int}(hk:0<=k)(s:Sto):MeO P n m k s (Bk m k):=by
 have Y:(aa4 P (n+6)).call "_law_met" [m.d,.int k] s=_:=bI2 aj7 (n:=n+5) rfl
 have Z:=aL2 (P:=P) n hm hk s
 have ea:an3 (aa4 P (n+5)) (.ex (.var 0) (.ex (.var 1) .nil)) [some m.d,some (.int k)] s=.ok [m.d,.int k] s:=by simp -implicitDefEqProofs only[zh,ab4,ae1,ae8,ae4,ag6,ad6,af3,ab2,ac6,ac8,ag0,ad2,ae0,ae5,af9,ad7,af5,ag5,af4,af6,ae7,ag2,ab6,ag7,ag3,af1,af2,ac4,ac7,ag1,ac5,ac0,aa8,aa5,ab5,ac2,aa6,ac3,ag4,ad9,af8,ae9,R.bind_ok,qw,aa3,aa2,aa0,ad5,ad0,ab1,ab3,ad1,ad3,ag,af,aa1,zm,ac1,aa9,ab7,ab0,ab8,ab9,ad8,af0,ae6,ae2,ae3,af7,aa7,ad4,if_true,if_false,ac,decide_true,decide_false,am,aj]
 have xe:xB (aa4 P (n+5)) aj7.xb ([m.d,.int k].map some++aA aj7.vs none) s=(aa4 P (n+5)).xcall "rows_met" [m.d,.int k] s:=by
  show xB (aa4 P (n+5)) (.call "rows_met" _) [some m.d,some (.int k)] s=_
  exact bc6 ea
 rw[bl9 rfl]at Y
 have F:∀ M,(aa4 P (n+5)).call "rows_met" [m.d,.int k] s=.ok (.ref s.length) (s++[.lst (MtD M)])->(aa4 P (n+5)).xcall "rows_met" [m.d,.int k] s=none->(aa4 P (n+6)).call "_law_met" [m.d,.int k] s=.ok (.ref (s.length+1)) (s++[.lst (MtD M),.lst [.ref s.length]]):=λ M G J=>by
  rw[Y]
  unfold aJ6
  rw[xe,J]
  show((exs (aa4 P (n+5)) (.cons (.ret (.lst (.cons (.call "rows_met" (.ex (.var 0) (.ex (.var 1) .nil))) .nil))) .nil) [some m.d,some (.int k)] s).bind _)=_
  have eb:exs (aa4 P (n+5)) (.cons (.ret (.lst (.cons (.call "rows_met" (.ex (.var 0) (.ex (.var 1) .nil))) .nil))) .nil) [some m.d,some (.int k)] s=.ok (.ret (.ref (s.length+1))) (s++[.lst (MtD M),.lst [.ref s.length]]):=by
   simp -implicitDefEqProofs only[zh,ab4,ae1,ae8,ae4,ag6,ad6,af3,ab2,ac6,ac8,ag0,ad2,ae0,ae5,af9,ad7,af5,ag5,af4,af6,ae7,ag2,ab6,ag7,ag3,af1,af2,ac4,ac7,ag1,ac5,ac0,aa8,aa5,ab5,ac2,aa6,ac3,ag4,ad9,af8,ae9,R.bind_ok,qw,aa3,aa2,aa0,ad5,ad0,ab1,ab3,ad1,ad3,ag,af,aa1,zm,ac1,aa9,ab7,ab0,ab8,ab9,ad8,af0,ae6,ae2,ae3,af7,aa7,ad4,if_true,if_false,ac,decide_true,decide_false,am,aj,G]
   rw[ax,cx];rfl
  rw[eb]
  exact bb7
 revert Z
 generalize Bk m k=B
 cases B with
 | more M=>rintro⟨G,J⟩;exact F M G J
 | stop M=>rintro⟨G,J⟩;exact F M G J
 | over =>
  rintro⟨T,h⟩
  show _=_
  rw[Y]
  unfold aJ6
  rw[xe,h]
  have hc:(aa4 P (n+5)).xc "TooMuch"=true:=by rw[(bP3 (P:=P)).1];exact HasE.at_ (ts:=[])
  show(if "TooMuch"=aj7.c/\(aa4 P (n+5)).xc "TooMuch"=true/\aj7.h.ok (aa4 P (n+5)).xt=true then _ else _)=_
  rw[if_pos ⟨rfl,hc,rfl⟩]
  show zr s (.ref (s++T).length) ((s++T)++[.lst []])=_
  rw[ax,cx]
  exact ar9 (s:=s) (t:=T) (u:=[]) (o:=.lst []) rfl
theorem cj9 [Has P ai4][Has P aG2][Has P aj5][Has P ak1][Has P ai5][Has P al3][Has P aj6][Has P aG6][Has P as7][Has P aj2][Has P ai8][Has P ah3](n:Nat):cm2 P (n+7):=by
 intro ns hl
 have e0:(aa4 P (n+7)).call "law" [.ref 0] [.ro (ns.map D.int)]=_:=zd ai4 (n:=n+6) rfl
 rw[e0,show(cH some [D.ref 0]++aA ai4.vs none)=[some (D.ref 0),none,none,none,none,none,none]from rfl]
 rw[show ai4.body=.cons (.for_ (.one 1) (.rng1 (.cst (.int 2))) bL0) (.cons (.ret (.cst (.bl true))) .nil)from rfl]
 have step:∀(j:Nat) (u:Sto),u[0]?=some (.ro (ns.map D.int))->∀ F J Z G Y y6:Option D,∃ U' u',(turn (aa4 P (n+6)) (.one 1) bL0 (.int (j:Int)) [some (D.ref 0),F,J,Z,G,Y,y6] u=.ok (.next U') u'\/turn (aa4 P (n+6)) (.one 1) bL0 (.int (j:Int)) [some (D.ref 0),F,J,Z,G,Y,y6] u=.ok (.cont U') u')/\u'[0]?=some (.ro (ns.map D.int))/\∃ F J Z G Y y6:Option D,U'=[some (D.ref 0),F,J,Z,G,Y,y6]:=by
  intro j u hu F J Z G Y y6
  have hb:=bW3 (P:=P) (n+5) ns j u 0 hu hl
  generalize bL1 ns j=b0 at hb
  obtain⟨m,b1,hm,em⟩:=aL5 (P:=P) (n+3) (s:=u++[zS b0]) (r:=u.length) ⟨b0,bq7⟩
  rw[cy,if_neg (by omega),ce]at em
  have em:(aa4 P (n+6)).call "_law_machine" [.ref u.length] (u++[zS b0])=.ok m.d (u++[zS b1]):=em
  have ek:=bq0 (P:=P) (n+4) b1 (u++[zS b1]) u.length bq7
  rw[cy,if_neg (by omega),ce]at ek
  generalize g2:bd b1=kb at ek
  obtain⟨k,b2⟩:=kb
  have ek:(aa4 P (n+6)).call "_law_bound" [.ref u.length] (u++[zS b1])=.ok (.int (k:Int)) (u++[zS b2]):=ek
  generalize hS:u++[zS b2]=S at ek
  have a5:S[0]?=some (.ro (ns.map D.int)):=by rw[<-hS];exact zo hu
  have g3:0<S.length:=(ae.mp a5).1
  have hk:(0:Int)<=(k:Int):=by omega
  have me:=bW8 (P:=P) n hm hk
  have bo:=cl1 m hk
  have oo:=bQ8 m hk
  have fb:∀(S':Sto),(aa4 P (n+6)).call "_law_bag" [.ref 0,.int (j:Int)] u=.ok (.ref u.length) (u++[zS b0]):=λ _=>hb
  have b4:∀(M A:List (List Nat×Rw)) (z:List Nat×Rw),M=A++[z]->(∃ q,MOk (zH m k) (zb m k) m.R (zC m) q M)->Pn (zH m k) (zC m) (qr m.L) M->Srt M->(∀ e∈A,zb m k e.2=false)->(∀ e∈M,∀ x∈qr m.L,(zb m k z.2=true->LL (e.1++[x]) z.1)->∃ c∈M,c.2=zH m k e.2 x/\LE c.1 (e.1++[x]))->(∀ s,(aa4 P (n+6)).call "_law_met" [m.d,.int (k:Int)] s=.ok (.ref (s.length+1)) (s++[.lst (MtD M),.lst [.ref s.length]])) ->
    ∃ U' u',(turn (aa4 P (n+6)) (.one 1) bL0 (.int (j:Int)) [some (D.ref 0),F,J,Z,G,Y,y6] u=.ok (.next U') u'\/turn (aa4 P (n+6)) (.one 1) bL0 (.int (j:Int)) [some (D.ref 0),F,J,Z,G,Y,y6] u=.ok (.cont U') u')/\u'[0]?=some (.ro (ns.map D.int))/\∃ F J Z G Y y6:Option D,U'=[some (D.ref 0),F,J,Z,G,Y,y6]:=by
   rintro M A z hz ⟨q,hM⟩ hp hs hA hc hme
   have a4:=hM.len
   have m1:=hme S
   generalize a3:S++[O.lst (MtD M),.lst [.ref S.length]]=S1 at m1
   have g0:S1[S.length]?=some (.lst (MtD M)):=by rw[<-a3];exact ga0
   have g1:S1[S.length+1]?=some (.lst [.ref S.length]):=by rw[<-a3];exact ga1
   have f2:S1[0]?=some (.ro (ns.map D.int)):=by rw[<-a3];exact zo a5
   have ar:=aL1 (P:=P) (n+3) hm hp hs a4 hM.sh g0
   have wh:=bp9 (P:=P) (n+4) hm hp hs a4 hM.sh hz hA hc (λ e he=>by have:=hM.wl e he;have:=hM.hat;omega) g0
   have ar:(aa4 P (n+6)).call "_law_are_rows" [m.d,.int (k:Int),.ref S.length] S1=.ok (.bl true) S1:=ar
   have wh:(aa4 P (n+6)).call "_law_is_whole_list" [m.d,.int (k:Int),.ref S.length] S1=.ok (.bl true) S1:=wh
   have f4:ixM (.ref (S.length+1)) (.int 0) S1=.ok (.ref S.length) S1:=am1 (j:=0) g1 rfl
   have ln:bi .len [.ref (S.length+1)] S1=.ok (.int 1) S1:=by rw[an4 g1];rfl
   have sq:bj6 (.ref S.length) S1=.ok (MtD M) S1:=by simp only[bj6,g0]
   have f5:S.length+2=S1.length:=by rw[<-a3,ax];rfl
   generalize a0:S1++[O.lst (MtD M)]=S2
   have b3:S2[S.length]?=some (.lst (MtD M)):=by rw[<-a0];exact zo g0
   have a6:S2[S.length+1]?=some (.lst [.ref S.length]):=by rw[<-a0];exact zo g1
   have e3:S2[S1.length]?=some (.lst (MtD M)):=by rw[<-a0];exact bq7
   have f1:S2[0]?=some (.ro (ns.map D.int)):=by rw[<-a0];exact zo f2
   have l2:S.length<S2.length:=(ae.mp b3).1
   have f3:ixM (.ref (S.length+1)) (.int 0) S2=.ok (.ref S.length) S2:=am1 (j:=0) a6 rfl
   have rv:=by2 b3
   generalize a1:S2.set S.length (.lst (MtD M).reverse)=S3 at rv
   have d0:S3[S.length]?=some (.lst (MtD M).reverse):=by rw[<-a1];exact aZ l2
   have c3:S3[S.length+1]?=some (.lst [.ref S.length]):=by rw[<-a1,aU (by omega)];exact a6
   have d3:S3[S1.length]?=some (.lst (MtD M)):=by rw[<-a1,aU (by omega)];exact e3
   have e4:S3[0]?=some (.ro (ns.map D.int)):=by rw[<-a1,aU (by omega)];exact f1
   have c2:ixM (.ref (S.length+1)) (.int 0) S3=.ok (.ref S.length) S3:=am1 (j:=0) c3 rfl
   have ap:=an8 (v:=.tup [.str [],.tup []]) d0 (by rw[iq,show(MtD M).length=M.length from aE ..];unfold LIM;omega)
   generalize b5:S3.set S.length (.lst ((MtD M).reverse++[.tup [.str [],.tup []]]))=S4 at ap
   have d2:S4[S1.length]?=some (.lst (MtD M)):=by rw[<-b5,aU (by omega)];exact d3
   have f0:S4[0]?=some (.ro (ns.map D.int)):=by rw[<-b5,aU (by omega)];exact e4
   have m2:=hme S4
   generalize a2:S4++[O.lst (MtD M),.lst [.ref S4.length]]=S5 at m2
   have e5:S5[S4.length]?=some (.lst (MtD M)):=by rw[<-a2];exact ga0
   have b6:S5[S4.length+1]?=some (.lst [.ref S4.length]):=by rw[<-a2];exact ga1
   have e2:S5[S1.length]?=some (.lst (MtD M)):=by rw[<-a2];exact zo d2
   have c1:S5[0]?=some (.ro (ns.map D.int)):=by rw[<-a2];exact zo f0
   have ne:=bM3 (s:=S5++[.lst [.ref S1.length]]) (a:=S4.length+1) (b:=S5.length) (x:=S4.length) (y:=S1.length) (zo b6) bq7 (zo e5) (zo e2)
   refine⟨[some (D.ref 0),some (.int (j:Int)),some (.ref u.length),some m.d,some (.int (k:Int)),some (.ref (S.length+1)),some (.ref S1.length)],S5++[.lst [.ref S1.length]],.inl ?_,zo c1,_,_,_,_,_,_,rfl⟩
   simp -implicitDefEqProofs only[zh,ab4,ae1,ae8,ae4,ag6,ad6,af3,ab2,ac6,ac8,ag0,ad2,ae0,ae5,af9,ad7,af5,ag5,af4,af6,ae7,ag2,ab6,ag7,ag3,af1,af2,ac4,ac7,ag1,ac5,ac0,aa8,aa5,ab5,ac2,aa6,ac3,ag4,ad9,af8,ae9,R.bind_ok,qw,aa3,aa2,aa0,ad5,ad0,ab1,ab3,ad1,ad3,ag,af,aa1,zm,ac1,aa9,ab7,ab0,ab8,ab9,ad8,af0,ae6,ae2,ae3,af7,aa7,ad4,if_true,if_false,ac,decide_true,decide_false,am,aj,turn,hb,em,ek,hS,m1,ln,show((1:Int)=0)=False from eq_false (by decide),f4,ar,wh,sq,aQ1,a0,f3,rv,c2,ap,m2,ne]
  have c4:∀ s,MeO P n m k s (Bk m k):=me
  revert c4 bo oo
  clear me
  generalize Bk m k=B
  cases B with
  | more M =>
   rintro bo ⟨hp,hs,ha,hc⟩ me
   obtain⟨A,z,hz⟩:=aK7 (l:=M) (by obtain⟨⟨q,hM⟩,_⟩:=bo;exact hM.pos)
   exact b4 M A z hz bo.1 hp hs (λ e he=>ha e (by rw[hz];exact bh _ he)) (λ e he x hx _=>hc e he x hx) me
  | stop M =>
   rintro bo ⟨hp,hs,A,z,hz,hab,hA,hc⟩ me
   exact b4 M A z hz bo.1 hp hs hA (λ e he x hx h=>hc e he x hx (h hab)) me
  | over =>
   rintro _ _ me
   have m1:(aa4 P (n+6)).call "_law_met" [m.d,.int (k:Int)] S=.ok (.ref S.length) (S++[.lst []]):=me S
   have ln:bi .len [.ref S.length] (S++[O.lst []])=.ok (.int 0) (S++[O.lst []]):=by rw[an4 bq7];rfl
   refine⟨[some (D.ref 0),some (.int (j:Int)),some (.ref u.length),some m.d,some (.int (k:Int)),some (.ref S.length),y6],S++[.lst []],.inr ?_,zo a5,_,_,_,_,_,_,rfl⟩
   simp -implicitDefEqProofs only[zh,ab4,ae1,ae8,ae4,ag6,ad6,af3,ab2,ac6,ac8,ag0,ad2,ae0,ae5,af9,ad7,af5,ag5,af4,af6,ae7,ag2,ab6,ag7,ag3,af1,af2,ac4,ac7,ag1,ac5,ac0,aa8,aa5,ab5,ac2,aa6,ac3,ag4,ad9,af8,ae9,R.bind_ok,qw,aa3,aa2,aa0,ad5,ad0,ab1,ab3,ad1,ad3,ag,af,aa1,zm,ac1,aa9,ab7,ab0,ab8,ab9,ad8,af0,ae6,ae2,ae3,af7,aa7,ad4,if_true,if_false,ac,decide_true,decide_false,am,aj,turn,hb,em,ek,hS,m1,ln,show((0:Int)=0)=True from eq_true rfl]
 have key:=qp (ok:=λ d1=>chk [O.ro (ns.map D.int)] d1 []) (g:=turn (aa4 P (n+6)) (.one 1) bL0) (λ j U u=>u[0]?=some (.ro (ns.map D.int))/\∃ F J Z G Y y6:Option D,U=[some (D.ref 0),F,J,Z,G,Y,y6]) (qN 0 2) 0 [some (D.ref 0),none,none,none,none,none,none] [O.ro (ns.map D.int)]
  ⟨rfl,_,_,_,_,_,_,rfl⟩ (λ _ _ _ _ _=>rfl) (by
   rintro j d U u hj ⟨hu,F,J,Z,G,Y,y6,rfl⟩
   obtain⟨_,rfl⟩:=an0 hj
   rw[gB]
   exact step j u hu F J Z G Y y6)
 obtain⟨U1,s1,e1,_,F,J,Z,G,Y,y6,rfl⟩:=key
 simp -implicitDefEqProofs only[zh,ab4,ae1,ae8,ae4,ag6,ad6,af3,ab2,ac6,ac8,ag0,ad2,ae0,ae5,af9,ad7,af5,ag5,af4,af6,ae7,ag2,ab6,ag7,ag3,af1,af2,ac4,ac7,ag1,ac5,ac0,aa8,aa5,ab5,ac2,aa6,ac3,ag4,ad9,af8,ae9,R.bind_ok,qw,aa3,aa2,aa0,ad5,ad0,ab1,ab3,ad1,ad3,ag,af,aa1,zm,ac1,aa9,ab7,ab0,ab8,ab9,ad8,af0,ae6,ae2,ae3,af7,aa7,ad4,if_true,if_false,ac,decide_true,decide_false,am,aj,qt (i:=2) (s:=[O.ro (ns.map D.int)]) (by decide) (by decide),e1]
 exact bf7 _ _
end
end DV
end
local macro_rules | `(tactic| walk_at "sc") => `(tactic| exact ⟨rfl, rfl, rfl, by decide +kernel, rfl, by decide +kernel, by decide +kernel⟩)
local macro_rules | `(tactic| walk_at "df") => `(tactic| (dsimp only; exact ⟨_, _, _, _, _, _, _, _, _, _, by k_is, by k_is, by k_is, by k_is⟩))
noncomputable section
namespace My
open PySem L2
noncomputable def top (i:Nat):Stmt:=PySem.Challenge.pw_leasttolls_k16_rows_met.main.body.getD i (.Pass ⟨0,0,0,0⟩)
noncomputable def ak0:List Str:=[]
noncomputable abbrev s_letters_of:Stmt:=top 2
noncomputable abbrev aw5:Stmt:=top 3
noncomputable abbrev aq8:Stmt:=top 4
noncomputable abbrev aF8:Stmt:=top 5
noncomputable abbrev aw7:Stmt:=top 6
noncomputable abbrev bg5:Stmt:=top 8
noncomputable abbrev aZ8:Stmt:=top 9
noncomputable abbrev bU2:Stmt:=top 11
noncomputable abbrev at1:Stmt:=top 12
noncomputable abbrev ao5:Stmt:=top 13
noncomputable abbrev bQ3:Stmt:=top 14
noncomputable abbrev aP5:Stmt:=top 15
noncomputable abbrev aj9:Stmt:=top 21
noncomputable abbrev ao8:Stmt:=top 22
noncomputable abbrev ai9:Stmt:=top 23
noncomputable abbrev av4:Stmt:=top 25
noncomputable abbrev at3:Stmt:=top 26
noncomputable abbrev ao7:Stmt:=top 27
noncomputable abbrev al1:Stmt:=top 28
noncomputable abbrev ao9:Stmt:=top 29
noncomputable abbrev ao6:Stmt:=top 30
noncomputable abbrev av5:Stmt:=top 31
noncomputable abbrev aw8:Stmt:=top 32
noncomputable abbrev al6:Stmt:=top 33
noncomputable abbrev ao0:Stmt:=top 34
noncomputable abbrev ak7:Stmt:=top 35
noncomputable abbrev aj4:Stmt:=top 36
noncomputable abbrev aE7:Stmt:=top 37
noncomputable def tb:List (String×lY×Stmt):=[("letters_of",DV.ah2,s_letters_of),("rooms_of",DV.ah6,aw5),("begins_of",DV.ah9,aq8),("ends_of",DV.ah8,aF8),("doors_of",DV.ah7,aw7),("least",DV.ai2,bg5),("added",DV.aj0,aZ8),("cut",DV.an6,bU2),("first_row",DV.ai0,at1),("least_into",DV.ag8,ao5),("led",DV.ap2,bQ3),("end_of",DV.ai1,aP5),("rows_met",DV.ai6,aj9),("ends_above",DV.ah0,ao8),("meet_behind",DV.ag9,ai9),("_law_bag",DV.aG2,av4),("_law_take",DV.aj5,at3),("_law_rooms",DV.ak1,ao7),("_law_machine",DV.ai5,al1),("_law_bound",DV.al3,ao9),("_law_first",DV.aj6,ao6),("_law_led",DV.aG6,av5),("_law_end",DV.as7,aw8),("_law_is_row",DV.aj2,al6),("_law_are_rows",DV.ai8,ak7),("_law_is_whole_list",DV.ah3,aj4),("law",DV.ai4,aE7)]
noncomputable def cj4:List (String×kR):=[("LETTERS",.tup [.str [97],.str [98],.str [99]]),("MOST_ROWS",.int (300))]
noncomputable def cr2:List (String×DV.Lm):=[]
noncomputable def tbl:List (String×lY):=tb.map λ p=>(p.1,p.2.1)
noncomputable def xtb:List (String×DV.Xf):=[("meet_behind",DV.ah1),("rows_met",DV.ai7)]
noncomputable def ttb:List (String×m6):=[("_law_met",DV.aj7)]
noncomputable def dl:List (String×Stmt):=[("meet_behind",ai9),("rows_met",aj9),("_law_met",ao0)]
noncomputable def xcs:List String:=["TooMuch"]
noncomputable def xts:List String:=[]
noncomputable def P:lh:=⟨λ f=>tbl.lookup f,λ f=>cr2.lookup f,λ x=>cj4.lookup x,λ f=>xtb.lookup f,λ f=>ttb.lookup f,λ c=>xcs.contains c,λ c=>xts.contains c,λ _=>none⟩
instance:DV.HasX P "meet_behind" DV.ah1:=⟨rfl⟩
instance:DV.HasX P "rows_met" DV.ai7:=⟨rfl⟩
instance:DV.HasT P "_law_met" DV.aj7:=⟨rfl,rfl⟩
instance:DV.HasE P "TooMuch" []:=⟨rfl,by decide⟩
instance:DV.HasC P "LETTERS" (.tup [.str [97],.str [98],.str [99]]):=⟨rfl⟩
instance:DV.HasC P "MOST_ROWS" (.int (300)):=⟨rfl⟩
instance:DV.Has P DV.ah2:=⟨rfl⟩
instance:DV.Has P DV.ah6:=⟨rfl⟩
instance:DV.Has P DV.ah9:=⟨rfl⟩
instance:DV.Has P DV.ah8:=⟨rfl⟩
instance:DV.Has P DV.ah7:=⟨rfl⟩
instance:DV.Has P DV.ai2:=⟨rfl⟩
instance:DV.Has P DV.aj0:=⟨rfl⟩
instance:DV.Has P DV.an6:=⟨rfl⟩
instance:DV.Has P DV.ai0:=⟨rfl⟩
instance:DV.Has P DV.ag8:=⟨rfl⟩
instance:DV.Has P DV.ap2:=⟨rfl⟩
instance:DV.Has P DV.ai1:=⟨rfl⟩
instance:DV.Has P DV.ai6:=⟨rfl⟩
instance:DV.Has P DV.ah0:=⟨rfl⟩
instance:DV.Has P DV.ag9:=⟨rfl⟩
instance:DV.Has P DV.aG2:=⟨rfl⟩
instance:DV.Has P DV.aj5:=⟨rfl⟩
instance:DV.Has P DV.ak1:=⟨rfl⟩
instance:DV.Has P DV.ai5:=⟨rfl⟩
instance:DV.Has P DV.al3:=⟨rfl⟩
instance:DV.Has P DV.aj6:=⟨rfl⟩
instance:DV.Has P DV.aG6:=⟨rfl⟩
instance:DV.Has P DV.as7:=⟨rfl⟩
instance:DV.Has P DV.aj2:=⟨rfl⟩
instance:DV.Has P DV.ai8:=⟨rfl⟩
instance:DV.Has P DV.ah3:=⟨rfl⟩
instance:DV.Has P DV.ai4:=⟨rfl⟩
theorem aD1:DT ak0 P "letters_of" DV.ah2 s_letters_of:=⟨["machine"],["machine"],by walk_at "sc",rfl,rfl,λ _ _ _ _ _ _=>bd1 (λ _=>rfl),.inl (by decide +kernel)⟩
theorem aT8:DT ak0 P "rooms_of" DV.ah6 aw5:=⟨["machine"],["machine"],by walk_at "sc",rfl,rfl,λ _ _ _ _ _ _=>bd1 (λ _=>rfl),.inl (by decide +kernel)⟩
theorem aK6:DT ak0 P "begins_of" DV.ah9 aq8:=⟨["machine"],["machine"],by walk_at "sc",rfl,rfl,λ _ _ _ _ _ _=>bd1 (λ _=>rfl),.inl (by decide +kernel)⟩
theorem aZ7:DT ak0 P "ends_of" DV.ah8 aF8:=⟨["machine"],["machine"],by walk_at "sc",rfl,rfl,λ _ _ _ _ _ _=>bd1 (λ _=>rfl),.inl (by decide +kernel)⟩
theorem aU1:DT ak0 P "doors_of" DV.ah7 aw7:=⟨["machine"],["machine"],by walk_at "sc",rfl,rfl,λ _ _ _ _ _ _=>bd1 (λ _=>rfl),.inl (by decide +kernel)⟩
theorem bB9:DT ak0 P "least" DV.ai2 bg5:=⟨["prices"],["prices"],by walk_at "sc",rfl,rfl,λ _ _ _ _ _ _=>bd1 (λ _=>rfl),.inl (by decide +kernel)⟩
theorem bA3:DT ak0 P "added" DV.aj0 aZ8:=⟨["one", "other"],["one", "other"],by walk_at "sc",rfl,rfl,λ _ _ _ _ _ _=>bd2 (λ _ _=>rfl),.inl (by decide +kernel)⟩
theorem cl9:DT ak0 P "cut" DV.an6 bU2:=⟨["price", "k"],["price", "k"],by walk_at "sc",rfl,rfl,λ _ _ _ _ _ _=>bd2 (λ _ _=>rfl),.inl (by decide +kernel)⟩
theorem aI5:DT ak0 P "first_row" DV.ai0 at1:=⟨["machine", "begins"],["machine"],by walk_at "sc",rfl,rfl,λ _ _ _ _ _ _=>bd1 (λ _=>rfl),.inl (by decide +kernel)⟩
theorem aH3:DT ak0 P "least_into" DV.ag8 ao5:=⟨["machine", "row", "letter", "room"],["machine", "row", "letter", "room"],by walk_at "sc",rfl,rfl,λ _ _ _ _ _ _=>bd4 (λ _ _ _ _=>rfl),.inl (by decide +kernel)⟩
theorem cn1:DT ak0 P "led" DV.ap2 bQ3:=⟨["machine", "k", "row", "letter"],["machine", "k", "row", "letter"],by walk_at "sc",rfl,rfl,λ _ _ _ _ _ _=>bd4 (λ _ _ _ _=>rfl),.inl (by decide +kernel)⟩
theorem bp2:DT ak0 P "end_of" DV.ai1 aP5:=⟨["machine", "row"],["machine", "row"],by walk_at "sc",rfl,rfl,λ _ _ _ _ _ _=>bd2 (λ _ _=>rfl),.inl (by decide +kernel)⟩
theorem aT0:DT ak0 P "rows_met" DV.ai6 aj9:=⟨["machine", "k", "first", "met", "seen", "at"],["machine", "k"],by walk_at "sc",rfl,rfl,λ _ _ _ _ _ _=>bd2 (λ _ _=>rfl),.inl (by decide +kernel)⟩
theorem aE8:DT ak0 P "ends_above" DV.ah0 ao8:=⟨["machine", "k", "row"],["machine", "k", "row"],by walk_at "sc",rfl,rfl,λ _ _ _ _ _ _=>bd3 (λ _ _ _=>rfl),.inl (by decide +kernel)⟩
theorem ax6:DT ak0 P "meet_behind" DV.ag9 ai9:=⟨["machine", "k", "entry", "met", "seen", "letter", "row"],["machine", "k", "entry", "met", "seen"],by walk_at "sc",rfl,rfl,λ _ _ _ _ _ _=>bd5 (λ _ _ _ _ _=>rfl),.inl (by decide +kernel)⟩
theorem aW3:DT ak0 P "_law_bag" DV.aG2 av4:=⟨["_law_script", "_law_at", "_law_cell", "_law_mix", "_law_k"],["_law_script", "_law_at"],by walk_at "sc",rfl,rfl,λ _ _ _ _ _ _=>bd2 (λ _ _=>rfl),.inl (by decide +kernel)⟩
theorem aM0:DT ak0 P "_law_take" DV.aj5 at3:=⟨["_law_bag_here", "_law_many", "_law_digit", "_law_number", "_law_room"],["_law_bag_here", "_law_many"],by walk_at "sc",rfl,rfl,λ _ _ _ _ _ _=>bd2 (λ _ _=>rfl),.inl (by decide +kernel)⟩
theorem aH5:DT ak0 P "_law_rooms" DV.ak1 ao7:=⟨["_law_bag_here", "_law_many", "_law_bits"],["_law_bag_here", "_law_many"],by walk_at "sc",rfl,rfl,λ _ _ _ _ _ _=>bd2 (λ _ _=>rfl),.inl (by decide +kernel)⟩
theorem au2:DT ak0 P "_law_machine" DV.ai5 al1:=⟨["_law_bag_here", "_law_letters", "_law_rooms_here", "_law_many", "_law_doors", "_law_k"],["_law_bag_here"],by walk_at "sc",rfl,rfl,λ _ _ _ _ _ _=>bd1 (λ _=>rfl),.inl (by decide +kernel)⟩
theorem aF3:DT ak0 P "_law_bound" DV.al3 ao9:=⟨["_law_bag_here"],["_law_bag_here"],by walk_at "sc",rfl,rfl,λ _ _ _ _ _ _=>bd1 (λ _=>rfl),.inl (by decide +kernel)⟩
theorem aF6:DT ak0 P "_law_first" DV.aj6 ao6:=⟨["_law_machine_here"],["_law_machine_here"],by walk_at "sc",rfl,rfl,λ _ _ _ _ _ _=>bd1 (λ _=>rfl),.inl (by decide +kernel)⟩
theorem aT7:DT ak0 P "_law_led" DV.aG6 av5:=⟨["_law_machine_here", "_law_k", "_law_row", "_law_letter", "_law_found", "_law_start", "_law_sign", "_law_goal", "_law_cost", "_law_come"],["_law_machine_here", "_law_k", "_law_row", "_law_letter"],by walk_at "sc",rfl,rfl,λ _ _ _ _ _ _=>bd4 (λ _ _ _ _=>rfl),.inl (by decide +kernel)⟩
theorem aV8:DT ak0 P "_law_end" DV.as7 aw8:=⟨["_law_machine_here", "_law_row"],["_law_machine_here", "_law_row"],by walk_at "sc",rfl,rfl,λ _ _ _ _ _ _=>bd2 (λ _ _=>rfl),.inl (by decide +kernel)⟩
theorem aA0:DT ak0 P "_law_is_row" DV.aj2 al6:=⟨["_law_found", "_law_due", "_law_entry"],["_law_found", "_law_due"],by walk_at "sc",rfl,rfl,λ _ _ _ _ _ _=>bd2 (λ _ _=>rfl),.inl (by decide +kernel)⟩
theorem at2:DT ak0 P "_law_are_rows" DV.ai8 ak7:=⟨["_law_machine_here", "_law_k", "_law_met_here", "_law_rows", "_law_words", "_law_entry", "_law_row"],["_law_machine_here", "_law_k", "_law_met_here"],by walk_at "sc",rfl,rfl,λ _ _ _ _ _ _=>bd3 (λ _ _ _=>rfl),.inl (by decide +kernel)⟩
theorem qK:DT ak0 P "_law_is_whole_list" DV.ah3 aj4:=⟨["_law_machine_here", "_law_k", "_law_met_here", "_law_last", "_law_stops", "_law_at", "_law_word", "_law_row", "_law_j", "_law_letter", "_law_more", "_law_further"],["_law_machine_here", "_law_k", "_law_met_here"],by walk_at "sc",rfl,rfl,λ _ _ _ _ _ _=>bd3 (λ _ _ _=>rfl),.inl (by decide +kernel)⟩
theorem bw4:FnScope ["_law_script", "_law_at", "_law_bag_here", "_law_machine_here", "_law_k", "_law_found", "_law_kept"] ["_law_script"] (defScope aE7):=by walk_at "sc"
theorem bM1:mSs ⟨["_law_script", "_law_at", "_law_bag_here", "_law_machine_here", "_law_k", "_law_found", "_law_kept"],defScope aE7,λ _ _ _=>false⟩ DV.ai4.body (zA aE7)=true:=by decide +kernel
theorem ca3:co0 "law" aE7 ["_law_script"]:=λ _ _ _ _ _ _=>bd1 λ _=>rfl
theorem ch9:DT ak0 P "law" DV.ai4 aE7:=⟨_,_,bw4,rfl,rfl,ca3,.inl bM1⟩
theorem ay1:DTB ak0 P "meet_behind" DV.ah1.ps DV.ah1.vs (λ h S=>mX h DV.ah1.body S) ai9:=⟨["machine", "k", "entry", "met", "seen", "letter", "row"],["machine", "k", "entry", "met", "seen"],by walk_at "sc",rfl,rfl,λ _ _ _ _ _ _=>bd5 (λ _ _ _ _ _=>rfl),.inl (by decide +kernel)⟩
theorem aV5:DTB ak0 P "rows_met" DV.ai7.ps DV.ai7.vs (λ h S=>mX h DV.ai7.body S) aj9:=⟨["machine", "k", "first", "met", "seen", "at"],["machine", "k"],by walk_at "sc",rfl,rfl,λ _ _ _ _ _ _=>bd2 (λ _ _=>rfl),.inl (by decide +kernel)⟩
theorem aX0:DTB ak0 P "_law_met" DV.aj7.ps DV.aj7.vs (λ h S=>mT h DV.aj7 S) ao0:=⟨["_law_machine_here", "_law_k"],["_law_machine_here", "_law_k"],by walk_at "sc",rfl,rfl,λ _ _ _ _ _ _=>bd2 (λ _ _=>rfl),.inl (by decide +kernel)⟩
theorem cf8:∀ p∈tb,DT ak0 P p.1 p.2.1 p.2.2:=by
 intro p hp
 unfold tb at hp
 simp only[aH,bW,or_false]at hp
 rcases hp with rfl|rfl|rfl|rfl|rfl|rfl|rfl|rfl|rfl|rfl|rfl|rfl|rfl|rfl|rfl|rfl|rfl|rfl|rfl|rfl|rfl|rfl|rfl|rfl|rfl|rfl|rfl
 .exact aD1
 .exact aT8
 .exact aK6
 .exact aZ7
 .exact aU1
 .exact bB9
 .exact bA3
 .exact cl9
 .exact aI5
 .exact aH3
 .exact cn1
 .exact bp2
 .exact aT0
 .exact aE8
 .exact ax6
 .exact aW3
 .exact aM0
 .exact aH5
 .exact au2
 .exact aF3
 .exact aF6
 .exact aT7
 .exact aV8
 .exact aA0
 .exact at2
 .exact qK
 .exact ch9
theorem bT6 {l:cZ}{w:World}{K:ah}{h:Heap}{mg:yC}{fa:Addr}(X:K.In h)(G:h.Ns bf mg)(a4:mg "law"=some (.ref fa))(hD:∀ p∈tb,ce7 K p.1 p.2.2)(hz:∀ x∈bNames,cf K bf x=some none)
  {B:Addr} {a2:yI} {a3:Nat} {a1:yE} {Z a0 Y:Tok} (gc_LETTERS:cf K bf "LETTERS"=some (some (.ref B))) (gl_LETTERS:K.lookup B=some ⟨.type "tuple",a2,.seq #[.str ⟨#[97]⟩ Z,.str ⟨#[98]⟩ a0,.str ⟨#[99]⟩ Y] a3,a1⟩)
  {J:Tok} (gc_MOST_ROWS:cf K bf "MOST_ROWS"=some (some (.int (300) J)))
  (hT:∀ x∈ak0,(bv K x).isSome=true) (tnd:decide (((bA2 ak0 K).map (·.1)).Nodup)=true) (hDx:∀ p∈dl,ce7 K p.1 p.2) (hcl:bz5 K xcs xts=true)
  : ∃ fd:bS,(∀(s:ai) (v:Value),jL s fd ⟨[v],[]⟩ [("_law_script",v)])/\∀ base:Heap,K.In base->base.Ns bf mg->BM mg base->bE0 K ak0 base->FnOk l.prog w K mg base CX0 39 fa fd ["_law_script"] (spB ak0 K):=by
 have hP:PrOk (bG6 ak0 P K) (ca1 ak0 K) P mg w:=by
  refine⟨λ f d h=>aS2 (tbl:=tbl) (λ p hp=>?_) f d h,λ x d h=>aY4 (tbl:=cj4) ?_ x d h,λ x hx=>iR X G (hz x hx),cm3 X G,trivial,of_decide_eq_true tnd,aK4 (tbl:=xtb) (λ p hp=>?_),aK4 (tbl:=ttb) (λ p hp=>?_),(ar7 X G hcl).1,(ar7 X G hcl).2.1,(ar7 X G hcl).2.2.1,(ar7 X G hcl).2.2.2.1,(ar7 X G hcl).2.2.2.2.1,(ar7 X G hcl).2.2.2.2.2.1,(ar7 X G hcl).2.2.2.2.2.2,λ _ _ h=>(by cases h)⟩
  .obtain⟨r,hr,rfl⟩:=aQ.mp hp
   exact good_of X G hT (hD r hr) (cf8 r hr)
  .intro p hp
   unfold cj4 at hp
   simp only[aH,bW,or_false]at hp
   rcases hp with rfl|rfl
   .exact bH2 (ci X G gc_LETTERS) gl_LETTERS rfl rfl (show 3<=1000 by decide) (.cons (.str _ _ (by decide)) (.cons (.str _ _ (by decide)) (.cons (.str _ _ (by decide)) (.nil))))
   .exact bB0 (ci X G gc_MOST_ROWS)
  .unfold xtb at hp
   simp only[aH,bW,or_false]at hp
   rcases hp with rfl|rfl
   .exact ap4 X G hT (hDx ("meet_behind",ai9) (by unfold dl;simp)) ay1
   .exact ap4 X G hT (hDx ("rows_met",aj9) (by unfold dl;simp)) aV5
  .unfold ttb at hp
   simp only[aH,bW,or_false]at hp
   subst hp
   .exact ap4 X G hT (hDx ("_law_met",ao0) (by unfold dl;simp)) aX0
 obtain⟨f,od,an,sl,oc,kV,dc,pm,cd,ct,a,l0,c,k⟩:=hD ("law",DV.ai4,aE7) (by unfold tb;simp)
 have e:=a4.symm.trans (ci X G a)
 cases e
 have F:=bs3 (st:=aE7) l0 c k
 refine⟨_,λ s v=>.of_eq rfl,λ base _ _ bm hk=>(bS3 hP (bt9 hT bm hk) 7 (bE5 hP (bt9 hT bm hk) 7) (d:=DV.ai4) (f := "law") rfl ⟨F,ci X G a,F.binds ca3⟩ bw4 rfl rfl bM1 bg2).imp (λ vs H Q E q=>bN8 (λ ns h=>DV.cj9 (P:=P) 1 ns h) vs H Q E (bp8 hT q))⟩
end My
end
open PySem PySem.W PyProof.Rows
set_option maxRecDepth 100000 in
set_option maxHeartbeats 0 in
theorem PySem.Challenge.cw_leasttolls_k16_rows_met_holds : PySem.Challenge.rw_leasttolls_k16_rows_met.Holds := by
 refine My.GT.2 ?_
 delta My.GT
 dsimp only
 k_fill
 refine L2.ba1 (l:=PySem.Challenge.rw_leasttolls_k16_rows_met) (n:=63) (k:=39) (x := "_law_script") (sp:=L2.spB My.ak0) My.ak0 rfl (by decide) rfl ⟨rfl,by decide,by decide⟩ (ts:=[]) (λ w h Y=>⟨PySem.W.kIn_of Y,λ _ hP=>absurd hP (bW)⟩) (λ w=>?R) (λ w=>?NT) ?F (λ K H a ns hl hB hS hF=>L2.bQ9 hl hB hS hF)
 case R=>kernel_rfl
 case NT=>kernel_rfl
 case F =>
  intro w mg fa h KX G hmg
  refine' My.bT6 KX G hmg ?hD ?hz ?gc_LETTERS ?gl_LETTERS ?gc_MOST_ROWS ?hT ?tnd ?hDx ?hcl
  case hD =>
   intro p hp
   unfold My.tb at hp
   simp only[aH,bW,or_false]at hp
   rcases hp with rfl|rfl|rfl|rfl|rfl|rfl|rfl|rfl|rfl|rfl|rfl|rfl|rfl|rfl|rfl|rfl|rfl|rfl|rfl|rfl|rfl|rfl|rfl|rfl|rfl|rfl|rfl
   all_goals walk_at "df"
  case hz =>
   intro x hx
   unfold L2.bNames at hx
   simp only[aH,bW,or_false]at hx
   rcases hx with rfl|rfl|rfl|rfl|rfl|rfl|rfl|rfl|rfl|rfl|rfl|rfl|rfl|rfl|rfl|rfl|rfl|rfl<;>k_is
  (case gc_LETTERS=>k_is)
  (case gl_LETTERS=>k_is)
  (case gc_MOST_ROWS=>k_is)
  case hT =>
   intro x hx;cases hx
  (case tnd=>kernel_rfl)
  case hDx =>
   intro p hp
   unfold My.dl at hp
   simp only[aH,bW,or_false]at hp
   rcases hp with rfl|rfl|rfl
   all_goals walk_at "df"
  (case hcl=>kernel_rfl)
