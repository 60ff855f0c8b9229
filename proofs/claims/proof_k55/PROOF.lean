import PyProof.Rows.All
import Wide.All
import OpenK.AllK
import Wide.FinOn
import PyProof.EqAt
import PyProof.EqKinds
import PyProof.TupleCall
import PyProof.MinMaxWalk
import PyProof.WalkInts
import PyProof.NeKinds
import PyProof.SliceStr2
import PyProof.StrBlockI
import PyProof.MaxThree
import PyProof.ZipIter
import PyProof.Draws
import PyProof.EnumMake
import PyProof.ListMulRoad
import PyProof.Rows.StrRev
import PyProof.DictItems
import PyProof.ListRange
import PyProof.AutoIntG2
import PyProof.FactsAll.int_6
import KE.IntBitsLaws
import PySem.Challenge.RW_leasttolls_k55_behind
set_option Elab.async false
set_option linter.all false
set_option maxRecDepth 100000
set_option maxHeartbeats 4000000
open PySem renaming wpAny_bind->ab,Shared->ai,wpAny_pure->am,sizeLine->aI,mem_of_lookup->aK,Program->aO,cellsFrom->aW,Around->a0,wpAny_newObj_type->bv,bootBuiltins->bA,starEach->bE,wpAny_truthy_bool->bO,wpAny_setField_rec->bQ,wpAny_field->bS,wpAny_callSpecial?_slot->bU,wpAny_call_entry->cb,mainGlobals->cf,wpAny_seqItems->cr,FuncData->cy,binaryOp->cC,Arguments->cD,wpAny_typeNameOfWhole_itemiter->cG,NameKind->cI,compareOp->cK,sysModules->cL,wpAny_mono->cM,assignEach->cR,wpAny_typeNameOf_itemiter->cY,wpAny_passesOwn->cZ,wpAny_pyIter_list->c5,sizeLine_eq->c6,behindInMarks->c8,wpAny_holding->c9,sliceBounds->dq,wpAny_Call_Name_kw->du,tupleKind_room_in1->dz,pushCells_keeps->dE,attributeBase->dG,foldedSetIterable->dM,relabel->dQ,wpAny_letGo->dS,IsItemIter->dW,argBest->dY,isTrue->eB,IsPair->eD,backTo->eJ,wpAny_tryCatch->eP,wpAny_isOneOf_itemiter->eS,pushCells->fc,getItem->fh,bindArgs->fi,wpAny_updateSeq_pair->ft,pyNext->fB,letOwnedTupleGo->fC,tupleKind->fP,swapsWith->fQ,Paired->fR,newFunctionEnv->fX,wpAny_rule->fZ,firstArgMember->f6,wpAny_binaryOp_repeat_ref->f8,codeAny->gi,InCallC->gj,slot_list_getitem->gk,slicePicked->gu,wpAny_dictEntries->gy,IsPart->gG,wpAny_getItem_list_slice->gH,wpAny_comprehension_free->gJ,plainId_quiet->gK,wpAny_onRaise->gM,wpAny_attempt->gN,noFill_tuple_add->gS,wpAny_getItem_str_slice->gU,DictEntry->gZ,builtinsNs->hG,assign->hJ,name_of_addr->hV,wpAny_typeOf->hW,typeIs_int->ic,call_meets->ie,codeAny_compStart_list->ii,Builtin->ip,wpAny_execs_nil->iC,codeAny_builtin->iD,wpAny_updateSeq->iE,wpAny_dictEpoch->iG,wpAny_storeName_local->iK,wpAny_isTrue_Compare1->iL,codeAny_call_function->iM,wpAny_storeName_cell->iW,wpAny_setField->i8,strIterType->i9,storeName->jh,Keyword->ji,callerA->jj,seqItems?->jk,valueAt->jl,wpAny_standAt->js,swappedStores->jt,seq_tuple_add->ju,evalPart_none->jw,IsItemIterOut->jy,pyIter->jF,rawInt->jG,wpAny_pyIter_tuple->jH,typeIs_str->jK,holding->jU,wpAny_assign_Name->jW,codeAny_mono->j0,concat_meets->j1,wpAny_sequenceKey->j2,seqIndex_neg->j4,notedBy->j5,call_meetsIn->j9,wpAny_pyIter_slot->kg,slicePick->kr,wpAny_isInstance->kA,wpAny_pyIter_zip->kB,seqSlot_of->kC,wpAny_Dict_empty->kD,seqIndex_of->kF,keywordEach->kG,wpAny_of_eq->kH,BindsTo->kO,call->kQ,wpAny_Name->kR,PlainAttrs->kT,lastMarks->lq,Within->lx,Result->ly
open List renaming getElem?_eq_some_iff->ac,getElem?_eq_getElem->ag,length_map->aq,size_toArray->ar,length_append->aw,getElem?_map->az,mem_cons_of_mem->aF,replicate->aG,mem_map->aH,map_cons->aJ,getElem?_append_left->aL,getElem?_append_right->aM,mem_cons_self->aN,mem_cons->aP,mem_of_getElem?->aQ,getD_eq_getElem?_getD->aR,mem_append->aX,getElem?_set_ne->aY,mem_append_right->aZ,mem_map_of_mem->be,mem_singleton->bf,length_cons->bh,range->bj,getElem?_set_self->bn,filterMap_map->bo,all_eq_true->bq,lookup_cons->bw,length_set->bz,mem_append_left->bB,not_mem_nil->bC,filterMap_eq_map->bH,filterMap_cons->bJ,append_nil->bK,length_take->bL,nil_append->bM,mem_range->bN,map_nil->bP,getElem?_eq_none->bT,cons_append->bV,append_assoc->bX,take_append_getElem->cc,replicate_succ->ci,length_eq_zero_iff->cj,getElem?_toArray->cq,length_reverse->cE,mem_filterMap->cF,mem_iff_getElem->cJ,map_map->cO,take_length->cQ,length_singleton->cW,find?_cons->c0,getElem?_of_mem->c7,getElem?_range->di,any_eq_true->dj,take_append_of_le_length->dt,take_of_length_le->dA,set_set->dB,foldl_cons->dD,set_getElem_self->dJ,reverse_cons->dN,flatten_cons->dP,length_drop->dX,getElem_mem->dZ,getElem?_zip_eq_some->d6,drop_eq_getElem_cons->d7,all_cons->eg,of_mem_zip->eh,length_nil->em,map_append->et,getElem?_cons_succ->eG,getElem?_cons_zero->eI,forIn_nil->eO,length_range->eU,drop_zero->eV,filterMap_append->e8,pairwise_append->fA,nodup_cons->fD,forIn_cons->fF,pairwise_map->gC,length_filterMap_le->gL,any_cons->gO,getElem?_replicate->gR,drop_eq_nil_of_le->iz,mem_filter->iB,set_append->iJ,getElem?_reverse->iR,take_append_drop->iU,length->iZ,filterMap->i7,mem_of_mem_drop->jc,mem_of_mem_take->jd,take_zero->jg,length_pos_iff->jp,map_congr_left->jq,getElem?_take->jQ,map_filterMap->jS,pairwise_cons->jT,flatMap_cons->kj,zipIdx_cons->kx,zipIdx_nil->kK,foldl->kU,getD->lv,all_nil->lF,map_set->lJ,lookup->lM,map->lQ
open PySem.W renaming Frag->ae,tabIn->bD,kia_one->b9,kitOne->cS,keepIn->cT,CodeHd->dk,fnOf->dv,envX->dw,OpenLaw->dC,mg_of->dH,kla_fn->eQ,nsIn->eX,codeIn->fV,methodObj->gd,fnX->gv,cellsFrom_some->hU,instObj->iA,lookIn->iX,findIn->iY,tabObj->je,kitx_tuple->jI,kitx_list->jX,kitx_dict->jY,plainGet->km,codeHdIn->ku,TabsAt->kY,noTabs->kZ,WalkO->lc
open PySem.Heap renaming get?_push_of_some->af,get?_push_size->av,lt_size->aE,SameBut->bF,size_push->bW,get?_update_other->cn,get?_update_self->dI,ExtBut->fq,get?_push_ne->j8
open Nat renaming le_refl->aj,le_trans->ao,ne_of_lt->ax,lt_of_lt_of_le->ay,lt_irrefl->bI,zero_le->cz,ne_of_gt->cB,le_succ->dU,lt_succ_self->fe,le_of_lt->fL,le_of_succ_le->gm,lt_succ_of_lt->gq,lt_trichotomy->gz,add_comm->ig,lt_trans->ik,zero_add->iq,pow_le_pow_right->jf,lt_or_ge->kh,sub_self->ki,min_le_right->kn,le_of_not_lt->kt,mul_add->kI,min_eq_left->kN,mul_le_mul->k6,succ_mul->lC,mul_comm->lD,add_zero->lH,pow_succ->lI,sub_zero->lK
open Bool renaming and_eq_true->ak,false_eq_true->au,false_ne_true->aS,not_true->aU,not_false->aV,or_eq_true->cx,eq_iff_iff->eA,not_eq_true'->eW,or_eq_false_iff->fw,and_true->gP,and_eq_true_iff->iV,true_and->jA,false_or->lh,and_self->ln
open Option.some renaming inj->aA
open Option renaming map_some->aB,bind_some->aC,isSome_some->fY,isSome_map->gx,isSome_iff_exists->gF,join_some->g9,map_eq_some_iff->io,isSome_none->jO,getD_none->kq
open Int renaming toNat_natCast->bp,le_refl->fm,mul_le_mul_of_nonneg_left->fy,toNat_of_nonneg->fK,zero_add->fO,fdiv_eq_ediv_of_nonneg->fT,one_mul->gA,sub_zero->iy,le_antisymm->iI,ofNat_lt->j6,natCast_mul->kL,ediv_one->lz,le_total->lG
open PySem.Builtin.SmallTypes renaming nextOf->bu,ownedTupleIsFree->cu,ownedTupleHandOut->d8
open PyProof.Rows renaming slot_tuple_getitem->bG,callWith_type1->dL,kindOf->e9,AllBare->gh,envOfC->gE,subscriptTail_builtinR->hX,entry_tuple_getitem->jm,Constant_none->jr,tupleItemsOf_->jv,subscriptTail->jx,args_tuple_getitem->jJ,tail_any->j3,IntsAre->kP,Subscript_->kS
open PySem.Builtin.Str renaming strSliceIndices->bR,tooLong->la
open PySem.F renaming slot_dict_itemiterator_next->bZ,plain_min_loop->cP,slot_tuple_iterator_next->cU,plainAttrs_list->dm,args_tuple_add_2->ed,slot_int_rmul->eC,entry_tuple_add->eF,slot_tuple_add->eK,slot_list_extend->eN,slot_tuple_mul->eR,args_dict_itemiterator_next_1->eY,slot_dict_get->eZ,entry_dict_itemiterator_next->fg,slot_dict_itemiterator_iter->fx,args_tuple_iterator_next_1->fH,slot_zip_next->fI,entry_tuple_iterator_next->fN,slot_dict_getitem->f9,type_list_extend->gQ,entry_min_loop->gT,slot_tuple_rmul->gW,args_dict_get_3->gX,plainAttrs_dict->gY,slot_dict_items->g6,entry_dict_get->ir,slot_dict_items_iter->iu,slot_list_append->iO,args_int_rmul_2->i6,slot_int_index->jn,entry_int_rmul->jo,fills_int_mul->jL,slot_str_getitem->jN,args_zip_next_1->j7,entry_zip_next->kz
open PySem.Str renaming ofString->cw
open Function renaming comp->cA
open List.Nodup renaming length_le_of_subset->cH
open False renaming elim->cN
open Ne renaming symm->cV
open PySem.Builtin.Slice renaming slicePlaces->cX,sliceAdjust->d5,sliceApplied->fW,slicePartIndex->kJ,sliceFields->k8
open PySem.Builtin.Tuple renaming tupleExact->db,tupleItemsOf->dR,tupleTooMany->f7,tupleIsExact->kW
open PySem.Builtin.List renaming listTooLong->dg
open Array renaming length_toList->dh,getElem?_toList->iQ,append_assoc->jE,toList->jV
open PySem.Builtin.Dict_items renaming ownsTuple->dF,ownedTupleFields->ee,ownedTupleIsFree->ef,pairFromOwner->eT,newIterator->kE,dictOf->k9
open PySem.Paired renaming length->d9,snoc->lO
open PySem.Calls renaming callWith_builtin->eM,Name_function_global->fS,spliced_cons->fU,evalArgs_plain->i5,spliced_nil->jZ
open PySem.Around renaming under_plainId->fj,frames_deeper->i4
open PySem.Txt renaming slice->fG
open PySem.Heap.SameBut renaming update->fJ
open PySem.Builtin.Builtins renaming bindParams->fM
open PySem.W.OpenLaw renaming wellSaid->gD
open Classical renaming propDecidable->g8
open PySem.Obj renaming mapSeq->hZ,data_mapFields->jP
open PySem.SeqAt renaming EqAt->iw,RcNeAt->lE,RcAt->lS
open PySem.SeqAt.EqAt renaming same->iH,int_str->jC,str_int->jD,of_refs->jR
open PySem.Builtin.Dict renaming showsAll->iP
open PySem.Shared renaming TypeIs->jz
open Prod.mk renaming injEq->jB
open PySem.Walks renaming list->jM
open PyProof.Rows.IsTup renaming new->ko
open PySem.PassesOwn renaming never->kM
open PySem.Builtin renaming bitAnd->kX
open PySem.Value renaming isStrOf->lf,isInt->lL
open PySem.CmpOf renaming ints_lt->li
open List.Pairwise renaming imp_of_mem->lj,filter->lP
open PySem.Builtin.Range renaming rangeSize->lp
open PySem.StrLaws renaming found_one->lu
open PySem.W.OpenRow renaming toRowW->lw
open PySem.Heap.Ns renaming new->lN
open PySem.Heap.IsSliceOf renaming new->lR
noncomputable section
namespace L2
open PySem PySem.Spec PyProof.Rows
theorem head_of {l:dC}{q:aO}{loose:List Str}{H:PySem.W.Hook}{N:Nat}{d:DefRec}{h:List (Str×Expr)}
  (left:PySem.W.LeftO l.row.prog q loose (λ s=>PySem.W.xlAt q [] s&&PySem.W.recOk (PySem.W.RowW.records (lw l.row)) s) H.obs H.val N)
  (y:PySem.W.defOf q l.row.name=some (d,h)) (hp:l.row.prog.theDef l.row.name=some (d.params,d.body,d.scope)) (hk:PySem.W.kwWritten? d.params.kwonlyargs d.params.kw_defaults=some h) (z:(!l.row.writes||l.row.records.isEmpty)=true)
  (k1:l.row.wellSaid=true) (ok:(PySem.W.chainsOk q&&PySem.W.opensWell l.row.prog&&(PySem.W.frees l.row.toRowW&&l.row.within.isEmpty))=true) (hb:l.row.prog.bare) (hw:l.row.toRowW.promised)
  (call:lc q loose (PySem.W.XL q []) H.says l.row.toRowW d h λ f vs=>kQ f vs):l.row.Holds :=
 PySem.W.holds_open left H.of H.keeps (λ s e=>PySem.W.xl_of s (iV.mp e).1) PySem.W.XL.keeps y hp hk (λ s e=>PySem.W.recFacts_of (iV.mp e).2) z k1 ok hb hw call
end L2
end
noncomputable section
namespace My
open PySem L2
noncomputable def nmS:Stmt->Bool
 | .Assign [.Name x _] _ _=>decide (x=("__name__":Str))
 | _=>false
noncomputable def vq:aO:={ PySem.Challenge.pw_leasttolls_k55_behind with main:={ (PySem.Challenge.pw_leasttolls_k55_behind).main with body:=(PySem.Challenge.pw_leasttolls_k55_behind).main.body.filter λ s=>!nmS s } }
inductive IsL:dC->Prop|mk:IsL PySem.Challenge.rw_leasttolls_k55_behind
theorem bO9 {l:dC}(h:IsL l):PySem.Challenge.rw_leasttolls_k55_behind=l:=by cases h;rfl
noncomputable def lwp:{ l:dC // IsL l }:=by
 refine⟨?p,?h⟩
 case h =>
  have e:PySem.Challenge.rw_leasttolls_k55_behind=?p:=by
   conv=>lhs;reduce
  exact e▸IsL.mk
theorem ws1:gD lwp.1=true:=by k_qdec
theorem ws:gD PySem.Challenge.rw_leasttolls_k55_behind=true:=by
 rw[bO9 lwp.2];exact ws1
end My
end
section
open PySem PySem.W PyProof.Rows
local macro_rules | `(tactic| o_head $H) => `(tactic| refine L2.head_of (q := My.vq) (loose := []) (H := $H) (N := 4000) (λ w => by kernel_rfl) (by rfl) (by rfl) (by rfl) rfl (by assumption) (by decide +kernel) ⟨rfl, rfl, rfl, rfl, rfl, by decide +kernel⟩ ?_ ?_)
set_option maxRecDepth 100000 in
set_option maxHeartbeats 0 in
noncomputable def My.GT:{ G:Prop // G->PySem.Challenge.rw_leasttolls_k55_behind.Holds }:=by
 refine⟨?G,?h⟩
 case h =>
  intro g
  w_on;refine holds_law My.ws λ said=>?_;k_head;(focus w_witness2)
  exact g
end
noncomputable section
namespace L2
open PySem PySem.Spec PyProof.Rows
noncomputable abbrev Key:=Sum Int Str
noncomputable def aR3:Key->Value->Bool
 | .inl k,v=>lL k v
 | .inr x,v=>lf x v
noncomputable def cf4 (w:World):Key->Int
 | .inl k=>hashInt k
 | .inr x=>hashStr w x
theorem zt:∀ {k:Key} {v:Value},aR3 k v=true->(∃ i t,k=Sum.inl i/\v=Value.int i t)\/(∃ x t,k=Sum.inr x/\v=Value.str x t)
 | .inl i,v,h=>by
  obtain⟨t,e⟩:=Value.isInt_shape (k:=i) (v:=v) h
  exact .inl ⟨i,t,rfl,e⟩
 | .inr x,v,h=>by
  obtain⟨t,e⟩:=Value.isStrOf_shape (x:=x) (v:=v) h
  exact .inr ⟨x,t,rfl,e⟩
theorem aY6 (i:Int)(t:Tok):aR3 (.inl i) (.int i t)=true:=by simp[aR3,lL]
theorem aW5 (x:Str)(t:Tok):aR3 (.inr x) (.str x t)=true:=by simp[aR3,lf]
theorem bS3 (a b:Int):decide ((Sum.inl a:Key)=Sum.inl b)=(a==b):=by
 by_cases e:a=b
 ·subst e;simp
 ·have h:¬(Sum.inl a:Key)=Sum.inl b:=λ q=>e (Sum.inl.inj q)
  rw[decide_eq_false h]
  exact(beq_eq_false_iff_ne.mpr e).symm
theorem bM8 (a b:Str):decide ((Sum.inr a:Key)=Sum.inr b)=decide (a=b):=by
 by_cases e:a=b
 ·subst e;simp
 ·have h:¬(Sum.inr a:Key)=Sum.inr b:=λ q=>e (Sum.inr.inj q)
  rw[decide_eq_false h,decide_eq_false e]
theorem bI6 (a:Int)(b:Str):decide ((Sum.inl a:Key)=Sum.inr b)=false:=decide_eq_false (λ q=>nomatch q)
theorem bL8 (a:Str)(b:Int):decide ((Sum.inr a:Key)=Sum.inl b)=false:=decide_eq_false (λ q=>nomatch q)
noncomputable def zx (prog:aO)(w:World):PySem.KeyKind prog w Key where
 is:=aR3
 hash:=cf4 w
 inj:=λ v a b ha hb=>by
  rcases zt ha with⟨i,t,rfl,rfl⟩|⟨x,t,rfl,rfl⟩
  ·rcases zt hb with⟨j,u,rfl,e⟩|⟨y,u,rfl,e⟩
   ·injection e with e1 _;rw[e1]
   ·exact nomatch e
  ·rcases zt hb with⟨j,u,rfl,e⟩|⟨y,u,rfl,e⟩
   ·exact nomatch e
   ·injection e with e1 _;rw[e1]
 byValue:=λ k v h=>by
  rcases zt h with⟨i,t,rfl,rfl⟩|⟨x,t,rfl,rfl⟩<;>rfl
 pyHash:=λ hv h=>by
  rcases zt hv with⟨i,t,rfl,rfl⟩|⟨x,t,rfl,rfl⟩
  ·exact wpAny_pyHash_int h
  ·exact wpAny_pyHash_str h
 eqBool:=λ hu hv h=>by
  rcases zt hu with⟨i,t,rfl,rfl⟩|⟨x,t,rfl,rfl⟩
  ·rcases zt hv with⟨j,u,rfl,rfl⟩|⟨y,u,rfl,rfl⟩
   ·rw[bS3]at h;exact wpAny_eqBool_int h
   ·rw[bI6]at h;exact jC i t y u _ _ _ _ h
  ·rcases zt hv with⟨j,u,rfl,rfl⟩|⟨y,u,rfl,rfl⟩
   ·rw[bL8]at h;exact jD x t j u _ _ _ _ h
   ·rw[bM8]at h;exact wpAny_eqBool_str h
 «strs»:=λ k x t v h=>by
  rcases zt h with⟨i,u,rfl,e⟩|⟨y,u,rfl,e⟩
  ·exact nomatch e
  ·injection e with e1 _
   subst e1
   cases v<;>rfl
theorem aJ3 (prog:aO)(w:World)(i:Int)(t:Tok):(zx prog w).is (.inl i) (.int i t)=true:=aY6 i t
theorem aI3 (prog:aO)(w:World)(x:Str)(t:Tok):(zx prog w).is (.inr x) (.str x t)=true:=aW5 x t
inductive V where
 | non|bl (b:Bool)|int (i:Int)|str (x:Str)|byt (b:Array UInt8)|flt (b:UInt64)|ref (a:Addr)|ty (n:String)
 deriving DecidableEq
noncomputable def RelV:V->Value->Prop
 | .non,u=>u=Value.none
 | .bl b,u=>u=Value.bool b
 | .int i,u=>∃ t,u=Value.int i t
 | .str x,u=>∃ t,u=Value.str x t
 | .byt b,u=>∃ t,u=Value.bytes b t
 | .flt b,u=>∃ t,u=Value.float b t
 | .ref a,u=>u=Value.ref a
 | .ty n,u=>u=Value.type n
abbrev Vals:List V->List Value->Prop:=fR RelV
theorem Vals.length {h:List V}{us:List Value}(r:Vals h us):h.length=us.length:=d9 r
theorem Vals.get:∀ {h:List V} {us:List Value} {i:Nat} {x:V},Vals h us->h[i]?=some x->∃ u,us[i]?=some u/\RelV x u
 | _,_,_,_,.nil,e=>by simp at e
 | _,_,0,_,.cons r _,e=>by simp at e;subst e;exact⟨_,rfl,r⟩
 | _,_,i+1,x,.cons _ t,e=>by
  obtain⟨u,z,y⟩:=Vals.get (i:=i) (x:=x) t (by simpa using e)
  exact⟨u,by simpa using z,y⟩
theorem Vals.set {x:V}{u:Value}(r:RelV x u):∀ {h:List V} {us:List Value} (i:Nat),Vals h us->Vals (h.set i x) (us.set i u)
 | _,_,_,.nil=>.nil
 | _,_,0,.cons _ t=>.cons r t
 | _,_,i+1,.cons q t=>.cons q (Vals.set r i t)
theorem Vals.append:∀ {h ys:List V} {us ws:List Value},Vals h us->Vals ys ws->Vals (h++ys) (us++ws)
 | _,_,_,_,.nil,s=>s
 | _,_,_,_,.cons r t,s=>.cons r (Vals.append t s)
theorem Vals.take:∀ {h:List V} {us:List Value} (n:Nat),Vals h us->Vals (h.take n) (us.take n)
 | _,_,0,_=>.nil
 | _,_,_+1,.nil=>.nil
 | _,_,n+1,.cons r t=>.cons r (Vals.take n t)
theorem Vals.drop:∀ {h:List V} {us:List Value} (n:Nat),Vals h us->Vals (h.drop n) (us.drop n)
 | _,_,0,r=>r
 | _,_,_+1,.nil=>.nil
 | _,_,n+1,.cons _ t=>Vals.drop n t
noncomputable def aR4:Option V->Option Value->Prop
 | some v,some u=>RelV v u
 | none,none=>True
 | _,_=>False
def KV {κ:Type}:List (κ×V)->List (κ×Value)->Prop:=fR λ(p:κ×V) (q:κ×Value)=>p.1=q.1/\RelV p.2 q.2
noncomputable def kV:Key->V
 | .inl i=>.int i
 | .inr x=>.str x
inductive HO where
 | lst (xs:List V)
 | tup (xs:List V)
 | dK (kvs:List (Key×V))|dT (kvs:List (List Key×V))
 | set (S:Int->Bool) (n:Nat)
 | ins (C dx:Addr) (fs:List (Str×V))
 | own (x:Addr)
 | xd (fs:List (Str×V))
 | met (f x:Addr)
 | rng (lo hi:Int)
 | frz (o:Obj) (u:HO)
 | tbl (ps:Array Value)
 | ext (φ:Heap->Prop)
noncomputable abbrev Hp:=Addr->Option HO
noncomputable def upd (H:Hp)(a:Addr)(o:HO):Hp:=λ b=>if b=a then some o else H b
theorem zh {H:Hp}{a:Addr}{o:HO}:upd H a o a=some o:=by unfold upd;rw[if_pos rfl]
theorem zd {H:Hp}{a b:Addr}{o:HO}(h:b≠a):upd H a o b=H b:=by unfold upd;rw[if_neg h]
theorem bA3 {H:Hp}{a b:Addr}{o u:HO}(h:H a=some o)(h':H b=some u)(d:o≠u):a≠b:=by
 intro e;subst e;rw[h]at h';exact d (aA h')
theorem zm {H:Hp}{a b:Addr}{o:HO}(h:H a=some o)(h':H b=none):a≠b:=by
 intro e;subst e;rw[h]at h';cases h'
section
variable (P:aO) (w:World)
noncomputable def ag7 (H:Hp)(h:Heap)(a:Addr):HO->Prop
 | .lst xs=>xs.length<=aI/\∃(its:List Value) (n:Nat),Vals xs its/\h.get? a=some { cls:=.type "list",data:=.seq its.toArray n }
 | .tup xs=>xs.length<=aI/\∃ its:List Value,Vals xs its/\IsTup h a its.toArray
 | .dK kvs=>kvs.length<=aI/\(a==cL)=false/\∃ vs,KV kvs vs/\h.DictOf (zx P w) a vs
 | .dT kvs=>kvs.length<=aI/\(a==cL)=false/\∃ xs:List (List Key×Addr×Value),
   fR (λ(p:List Key×V) (q:List Key×Addr×Value)=>p.1=q.1/\H q.2.1=some (.tup (p.1.map kV))/\RelV p.2 q.2.2) kvs xs /\
   ∃ o es ep,h.get? a=some o/\o.ExactDict/\o.data=.dict es ep/\es.toList=xs.map (entryOfKey (fP (zx P w)))/\(xs.map (·.1)).Nodup
 | .set S n=>h.SetOf (intKind P w) a S n
 | .ins C dx fs=>H dx=some (.own a)/\fs.length<=1000/\dx≠a/\h.get? a=some (iA C dx) /\
   ∃ mA,h.Ns1 dx mA/\(∀ f,aR4 (fs.lookup f) (mA f))/\lx mA (fs.map (·.1))
 | .own _=>∃ o,h.get? a=some o
 | .xd fs=>∃ mA,h.Ns1 a mA/\∀ f,aR4 (fs.lookup f) (mA f)
 | .rng lo hi=>∃ t u v,h.get? a=some { cls:=.type "range",data:=.fields #[.int lo t,.int hi u,.int 1 v] }
 | .frz o u=>h.get? a=some o/\ag7 H h a u
 | .tbl ps=>h.get? a=some { cls:=.none,data:=.fields ps }
 | .met f x=>h.get? a=some (gd (.ref f) (.ref x))
 | .ext φ=>φ h/\(∃ o,h.get? a=some o)/\∀ h1 h2:Heap,φ h1->(∀ o,h1.get? a=some o->h2.get? a=some o)->φ h2
def HOk (H:Hp)(h:Heap):Prop:=∀ a o,H a=some o->ag7 P w H h a o
end
section
variable {P:aO} {w:World} {H H':Hp} {h h':Heap} {a:Addr} {o:HO}
theorem ag7.lt (x:ag7 P w H h a o):a<h.objs.size:=by
 cases o with
 | lst xs=>obtain⟨_,_,_,_,e⟩:=x;exact aE e
 | tup xs=>obtain⟨_,_,_,p⟩:=x;exact p.lt
 | dK kvs=>obtain⟨_,_,_,_,o,_,_,e,_⟩:=x;exact aE e
 | dT kvs=>obtain⟨_,_,_,_,o,_,_,e,_⟩:=x;exact aE e
 | set S n=>obtain⟨o,_,_,_,e,_⟩:=x;exact aE e
 | ins C dx fs=>obtain⟨_,_,_,e,_⟩:=x;exact aE e
 | own y=>obtain⟨_,e⟩:=x;exact aE e
 | xd fs=>obtain⟨_,⟨_,_,_,e,_⟩,_⟩:=x;exact aE e
 | rng lo hi=>obtain⟨_,_,_,e⟩:=x;exact aE e
 | frz ob u=>obtain⟨e,_⟩:=x;exact aE e
 | tbl ps=>exact aE (show h.get? a=some _ from x)
 | met f y=>exact aE (show h.get? a=some _ from x)
 | ext φ=>obtain⟨_,⟨_,e⟩,_⟩:=x;exact aE e
theorem fR.mapP {α β:Type}{F G:α->β->Prop}:∀ {h:List α} {l₂:List β},fR F h l₂->(∀ a b,F a b->G a b)->fR G h l₂
 | _,_,.nil,_=>.nil
 | _,_,.cons r t,f=>.cons (f _ _ r) (fR.mapP t f)
theorem ag7.stay (x:ag7 P w H h a o)(k:∀ b u,(b=a\/H b=some (.own a))->h.get? b=some u->h'.get? b=some u)
  (ho:∀ b,H b=some (.own a)->H' b=some (.own a)) (Z:∀ b J,H b=some (.tup J)->H' b=some (.tup J)):ag7 P w H' h' a o:=by
 induction o with
 | lst J=>obtain⟨z,its,n,r,e⟩:=x;exact⟨z,its,n,r,k _ _ (.inl rfl) e⟩
 | tup J=>obtain⟨z,its,r,ob,e,c⟩:=x;exact⟨z,its,r,ob,k _ _ (.inl rfl) e,c⟩
 | dK kvs=>obtain⟨z,y,vs,r,ob,es,G,e,c⟩:=x;exact⟨z,y,vs,r,ob,es,G,k _ _ (.inl rfl) e,c⟩
 | dT kvs =>
  obtain⟨z,y,J,r,ob,es,G,e,c⟩:=x
  exact⟨z,y,J,fR.mapP r λ p q z=>⟨z.1,Z _ _ z.2.1,z.2.2⟩,ob,es,G,k _ _ (.inl rfl) e,c⟩
 | set S n=>obtain⟨ob,es,G,t,e,c⟩:=x;exact⟨ob,es,G,t,k _ _ (.inl rfl) e,c⟩
 | ins C dx fs =>
  obtain⟨d,z,ne,e,Y,⟨od,es,G,e2,c⟩,r⟩:=x
  exact⟨ho _ d,z,ne,k _ _ (.inl rfl) e,Y,⟨od,es,G,k _ _ (.inr d) e2,c⟩,r⟩
 | own y=>obtain⟨ob,e⟩:=x;exact⟨ob,k _ _ (.inl rfl) e⟩
 | xd fs=>obtain⟨Y,⟨od,es,G,e,c⟩,r⟩:=x;exact⟨Y,⟨od,es,G,k _ _ (.inl rfl) e,c⟩,r⟩
 | rng lo hi=>obtain⟨t,u,v,e⟩:=x;exact⟨t,u,v,k _ _ (.inl rfl) e⟩
 | frz ob u ih=>obtain⟨e,q⟩:=x;exact⟨k _ _ (.inl rfl) e,ih q⟩
 | tbl ps =>
  have e:h.get? a=some { cls:=.none,data:=.fields ps }:=x
  show h'.get? a=some { cls:=.none,data:=.fields ps }
  exact k a _ (.inl rfl) e
 | met f y =>
  have e:h.get? a=some (gd (.ref f) (.ref y)):=x
  show h'.get? a=some (gd (.ref f) (.ref y))
  exact k a _ (.inl rfl) e
 | ext φ=>obtain⟨p,⟨o,e⟩,st⟩:=x;exact⟨st _ _ p λ o q=>k _ _ (.inl rfl) q,⟨o,k _ _ (.inl rfl) e⟩,st⟩
theorem HOk.lt (x:HOk P w H h)(e:H a=some o):a<h.objs.size:=(x a o e).lt
theorem HOk.fresh (x:HOk P w H h)(e:h.objs.size<=a):H a=none:=by
 cases q:H a with
 | none=>rfl
 | some u=>exact absurd (ay (x.lt q) e) (bI _)
theorem HOk.kept (x:HOk P w H h)(k:∀ b u,h.get? b=some u->h'.get? b=some u):HOk P w H h':=λ a o e =>
 (x a o e).stay (λ b u _ q=>k b u q) (λ _ q=>q) λ _ _ q=>q
theorem HOk.laid (x:HOk P w H h)(k:∀ b u,h.get? b=some u->h'.get? b=some u)(hp:h.objs.size<=a)(new:ag7 P w (upd H a o) h' a o):HOk P w (upd H a o) h':=λ b u e=>by
 have hn:=x.fresh hp
 by_cases hb:b=a
 ·subst hb;rw[zh]at e;cases e;exact new
 ·rw[zd hb]at e
  exact(x b u e).stay (λ c v _ q=>k c v q) (λ c q=>by rw[zd (zm q hn)];exact q) λ c y q=>by rw[zd (zm q hn)];exact q
end
def Rd (H:Hp)(a:Addr)(u:HO):Prop:=H a=some u\/∃ o,H a=some (.frz o u)
theorem Rd.ok {P:aO}{w:World}{H:Hp}{h:Heap}{a:Addr}{u:HO}(r:Rd H a u)(x:HOk P w H h):ag7 P w H h a u:=by
 rcases r with r|⟨o,r⟩
 ·exact x a u r
 ·obtain⟨_,q⟩:=x a _ r
  exact q
noncomputable def Mut:Option HO->Prop
 | some (.lst _)=>True
 | some (.dK _)=>True
 | some (.dT _)=>True
 | some (.set _ _)=>True
 | some (.ins _ _ _)=>True
 | some (.ext _)=>True
 | _=>False
section
variable {P:aO} {w:World} {H:Hp} {h h':Heap} {x e:Addr} {o':HO}
theorem HOk.write (ok:HOk P w H h)(mu:Mut (H x))(Z:e=x\/H e=some (.own x))(k:∀ b u,b≠e->h.get? b=some u->h'.get? b=some u)(Y:∃ u,h'.get? e=some u)
  (new:ag7 P w (upd H x o') h' x o'):HOk P w (upd H x o') h':=λ b u q=>by
 have C:∀ c y,H c=some (.own y)->c≠x:=λ c y r z=>by subst z;rw[r]at mu;exact mu
 have G:∀ c J,H c=some (.tup J)->c≠x:=λ c J r z=>by subst z;rw[r]at mu;exact mu
 by_cases hb:b=x
 ·subst hb;rw[zh]at q;cases q;exact new
 ·rw[zd hb]at q
  by_cases hbe:b=e
  ·have q':H b=some (.own x):=by
    rcases Z with z|z
    ·exact absurd (hbe.trans z) hb
    ·rw[hbe];exact z
   rw[q]at q';cases q'
   obtain⟨v,hv⟩:=Y
   exact⟨v,by rw[hbe];exact hv⟩
  ·refine(ok b u q).stay (λ c v hc r=>k c v ?_ r) (λ c r=>by rw[zd (C c b r)];exact r) λ c J r=>by rw[zd (G c J r)];exact r
   rcases hc with rfl|hc
   ·exact hbe
   ·rintro rfl
    rcases Z with z|z
    ·exact C c b hc z
    ·rw[hc]at z;cases z;exact hb rfl
end
structure Un (fs ex:List Addr)(H H':Hp)(h h':Heap):Prop where
 keep:∀ b o,h.get? b=some o->H b=none->b ∉ fs->b ∉ ex->h'.get? b=some o
 slot:∀ b o,h.get? b=some o->H b=none->b∈fs->b ∉ ex->∃ sl,h'.get? b=some { o with slots:=sl }
 free:∀ b o,h.get? b=some o->H b=none->b ∉ ex->H' b=none
 there:∀ b o,h.get? b=some o->b ∉ ex->∃ o',h'.get? b=some o'
 tups:∀ b xs,H b=some (.tup xs)->H' b=some (.tup xs)
 frzs:∀ b o u,H b=some (.frz o u)->H' b=some (.frz o u)
 tbls:∀ b ps,H b=some (.tbl ps)->∃ more,H' b=some (.tbl (ps++more))
section
variable {fs fs' ex ex':List Addr} {H H1 H2:Hp} {h h1 h2 h':Heap} {a x e:Addr} {o:HO}
theorem Un.any (u:Un fs ex H H1 h h1){b:Addr}{ob:Obj}(q:h.get? b=some ob)(n:H b=none)(hx:b ∉ ex):∃ sl,h1.get? b=some { ob with slots:=sl }:=by
 by_cases hb:b∈fs
 ·exact u.slot b ob q n hb hx
 ·exact⟨ob.slots,u.keep b ob q n hb hx⟩
theorem Un.kept (k:∀ b u,h.get? b=some u->h'.get? b=some u):Un fs ex H H h h' :=
 ⟨λ b ob q _ _ _=>k b ob q,λ b ob q _ _ _=>⟨ob.slots,k b ob q⟩,λ _ _ _ n _=>n,λ b ob q _=>⟨ob,k b ob q⟩,λ _ _ q=>q,λ _ _ _ q=>q,λ _ ps q=>⟨#[],by rw[q];simp⟩⟩
theorem Un.refl:Un fs ex H H h h:=Un.kept λ _ _ q=>q
theorem Un.laid (k:∀ b u,h.get? b=some u->h'.get? b=some u)(hp:h.objs.size<=a)(hn:H a=none):Un fs ex H (upd H a o) h h' where
 keep:=λ b u q _ _ _=>k b u q
 slot:=λ b u q _ _ _=>⟨u.slots,k b u q⟩
 free:=λ b u q n _=>by rw[zd (ax (ay (aE q) hp))];exact n
 there:=λ b u q _=>⟨u,k b u q⟩
 tups:=λ b y q=>by rw[zd (zm q hn)];exact q
 frzs:=λ b u y q=>by rw[zd (zm q hn)];exact q
 tbls:=λ b ps q=>⟨#[],by rw[zd (zm q hn),q];simp⟩
theorem Un.write (mu:Mut (H x))(G:e=x\/H e=some (.own x))(k:∀ b u,b≠e->h.get? b=some u->h'.get? b=some u)(C:∃ u,h'.get? e=some u):Un fs ex H (upd H x o) h h':=by
 have hx:∀ b,H b=none->b≠x:=λ b n z=>by subst z;rw[n]at mu;exact mu
 have hb:∀ b,H b=none->b≠e:=λ b n z=>by
  subst z
  rcases G with r|r
  ·exact hx b n r
  ·rw[n]at r;cases r
 have y:∀ b u,H b=some u->¬ Mut (some u)->b≠x:=λ b u q Y z=>by subst z;rw[q]at mu;exact Y mu
 refine⟨λ b u q n _ _=>k b u (hb b n) q,λ b u q n _ _=>⟨u.slots,k b u (hb b n) q⟩,λ b u q n _=>by rw[zd (hx b n)];exact n,λ b u q _=>?_,
  λ b J q=>by rw[zd (y b _ q λ z=>z)];exact q,λ b u J q=>by rw[zd (y b _ q λ z=>z)];exact q,λ b ps q=>⟨#[],by rw[zd (y b _ q λ z=>z),q];simp⟩⟩
 by_cases hbe:b=e
 ·subst hbe;exact C
 ·exact⟨u,k b u hbe q⟩
end
noncomputable def trk (h:Heap)(H:Hp):List Addr:=(bj h.objs.size).filter λ a=>(H a).isSome
noncomputable def be1 (h:Heap)(H:Hp):Heap:=PySem.W.hideAll h (trk h H)
theorem aV6 (h:Heap)(H:Hp):(be1 h H).objs.size=h.objs.size:=PySem.W.hideAll_size _ _
theorem ao7 {h:Heap}{H:Hp}{b:Addr}{o:Obj}(e:h.get? b=some o)(n:H b=none):(be1 h H).get? b=some o :=
 PySem.W.hideAll_get _ e λ y=>by
  have q:(H b).isSome=true:=(iB.mp y).2
  rw[n]at q;simp at q
theorem by4 {h:Heap}{H:Hp}{b:Addr}{o:Obj}(e:(be1 h H).get? b=some o):h.get? b=some o/\H b=none:=by
 have e':h.get? b=some o:=PySem.W.of_hideAll (trk h H) e
 refine⟨e',?_⟩
 cases q:H b with
 | none=>rfl
 | some x =>
  have y:b∈trk h H:=iB.mpr ⟨bN.mpr (aE e'),by simp[q]⟩
  have z:(be1 h H).get? b=none:=PySem.W.hideAll_none (trk h H) y
  rw[z]at e;cases e
noncomputable def bB6 (g h:Heap)(L:Addr):List (Addr×Obj):=(bj h.objs.size).filterMap λ a=>if a=L\/(g.get? a).isSome=true then none else(h.get? a).map λ o=>(a,o)
noncomputable def rest (g h:Heap)(L d:Addr):List (Addr×Obj):=(bB6 g h L).filter λ p=>decide (p.1≠d)
structure Mod (K:ae)(mg:Str->Option Value)(base:Heap):Prop where
 kin:K.In base
 glob:base.Ns cf mg
 blt:∃ mb,base.Ns hG mb/\∀ x:Str,x ≠ "__name__"->mb x=bA x
 nolimit:base.NoLimit
structure Cx where
 prog:aO
 w:World
 K:ae
 mg:Str->Option Value
 base:Heap
 A:a0
 N:List Str
 s₀:ai
 H₀:Hp
 env:Env
 outer:List Env
 stack:List Env
 ex:List Addr
 fn:Str->Bool
 calm:Bool
 pn:List (Addr×Obj)
 xe:Value->ai->Prop
noncomputable def frs (l:List Env):List Addr:=l.filterMap (·.frame)
noncomputable abbrev Cx.fs (X:Cx):List Addr:=frs X.outer
def Vis (sc:Scope)(x:Str):Prop:=sc.names.lookup x=some .local\/sc.names.lookup x=some .cell\/sc.names.lookup x=some .free
def Loc (sc:Scope)(x:Str):Prop:=sc.names.lookup x=some .local\/sc.names.lookup x=some .cell
def Look (env:Env)(h:Heap)(m:Str->Option Value)(x:Str)(u:Value):Prop :=
 (env.kindOf x=some .local/\m x=some u)\/((env.kindOf x=some .cell\/env.kindOf x=some .free)/\∃ c,env.cells.lookup x=some c/\h.IsCell c (some u))
structure Cx.Ok (X:Cx):Prop where
 mod:Mod X.K X.mg X.base
 kind:X.env.scope.kind=.function
 glob:X.env.globals=cf
 blt:X.env.builtins=hG
 above:X.s₀.heap.objs.size<=X.env.locals
 inj:∀ x y c,X.env.cells.lookup x=some c->X.env.cells.lookup y=some c->x=y
 has:∀ x,(X.env.kindOf x=some .cell\/X.env.kindOf x=some .free)->∃ c,X.env.cells.lookup x=some c
 cab:∀ x c,X.fn x=true->X.env.cells.lookup x=some c->X.s₀.heap.objs.size<=c
 hd:X.calm=true->X.A.handled=none
 frames:X.A.frames=some X.stack
 stk:X.stack=X.outer\/(X.stack=X.env::X.outer/\X.env.frame=some X.env.locals)
 exf:∀ b∈X.ex,b≠X.env.locals/\∀ x c,X.env.cells.lookup x=some c->c≠b
 bs:∀ b o,X.base.get? b=some o->X.s₀.heap.get? b=some o/\X.H₀ b=none
 bsz:X.base.objs.size<=X.s₀.heap.objs.size
 noex:∀ b o,X.base.get? b=some o->b ∉ X.ex
 exfs:∀ b∈X.ex,b ∉ X.fs
 funs:X.s₀.heap.FunFrames X.base X.outer
 frf:∀ b∈X.fs,X.H₀ b=none
structure Inv (X:Cx)(pins:List (Addr×Obj))(σ:List (Option V))(H:Hp)(s:ai):Prop where
 ok:X.Ok
 os:s.os=X.s₀.os
 bare:gh s.gens
 base:Un X.fs X.ex X.H₀ H X.s₀.heap s.heap
 loc:∃ m,s.heap.Ns X.env.locals m/\∀(i:Nat) (x:Str) (v:V),X.N[i]?=some x->σ[i]?=some (some v)->Vis X.env.scope x->∃ u,RelV v u/\Look X.env s.heap m x u
 cell:∀ x c,X.env.cells.lookup x=some c->∃ v,s.heap.IsCell c v
 free:H X.env.locals=none
 freeC:∀ x c,X.env.cells.lookup x=some c->H c=none
 pin:∀ p∈X.pn++pins,s.heap.get? p.1=some p.2/\H p.1=none/\p.1≠X.env.locals/\p.1 ∉ X.fs/\∀ v,p.2.data≠.cell v
 hok:HOk X.prog X.w H s.heap
 len:σ.length=X.N.length
section
variable {X:Cx} {pins:List (Addr×Obj)} {σ:List (Option V)} {H H':Hp} {s:ai} {h':Heap}
theorem Cx.Ok.nofr (ok:X.Ok){b:Addr}{o:Obj}(e:X.base.get? b=some o):b ∉ X.fs:=λ hb=>by
 have:=(ok.funs.mem hb).1
 rw[e]at this;cases this
theorem Inv.bs (I:Inv X pins σ H s):∀ b o,X.base.get? b=some o->s.heap.get? b=some o/\H b=none:=λ b o e =>
 ⟨I.base.keep b o (I.ok.bs b o e).1 (I.ok.bs b o e).2 (I.ok.nofr e) (I.ok.noex b o e),I.base.free b o (I.ok.bs b o e).1 (I.ok.bs b o e).2 (I.ok.noex b o e)⟩
theorem Inv.bk (I:Inv X pins σ H s):∀ b o,X.base.get? b=some o->s.heap.get? b=some o:=λ b o e=>(I.bs b o e).1
theorem Inv.mod (I:Inv X pins σ H s):Mod X.K X.mg X.base:=I.ok.mod
theorem Inv.kIn (I:Inv X pins σ H s):X.K.In s.heap:=I.ok.mod.kin.keeps I.bk
theorem Inv.lt (I:Inv X pins σ H s):X.env.locals<s.heap.objs.size:=let⟨_,hn,_⟩:=I.loc;hn.lt
theorem Inv.sz (I:Inv X pins σ H s):X.s₀.heap.objs.size<=s.heap.objs.size:=ao I.ok.above (fL I.lt)
theorem Inv.nofs (I:Inv X pins σ H s){a:Addr}(h:s.heap.objs.size<=a):a ∉ X.fs:=λ hb=>by
 obtain⟨_,o,ho,_⟩:=I.ok.funs.mem hb
 exact absurd (ay (aE ho) (ao I.sz h)) (bI _)
theorem Inv.cne (I:Inv X pins σ H s):∀ x c,X.env.cells.lookup x=some c->c≠X.env.locals:=λ x c e z=>by
 obtain⟨v,o,ho,hd⟩:=I.cell x c e
 obtain⟨m,⟨C,es,G,h,y,_⟩,_⟩:=I.loc
 rw[z,h]at ho;cases ho;rw[y]at hd;cases hd
theorem Inv.funs (I:Inv X pins σ H s):s.heap.FunFrames X.base X.outer:=by
 have all:∀(l:List Env),(∀ b∈frs l,b∈X.fs)->X.s₀.heap.FunFrames X.base l->s.heap.FunFrames X.base l:=by
  intro l
  induction l with
  | nil=>intro _ _;trivial
  | cons env r ih =>
   intro hs hl
   obtain⟨hk,⟨L,o,y,hn,ho,hd⟩,hr⟩:=hl
   have h:L∈X.fs:=hs L (by unfold frs;rw[bJ,y];exact aN)
   obtain⟨sl,e⟩:=I.base.slot L o ho (I.ok.frf L h) h λ z=>I.ok.exfs L z h
   exact⟨hk,⟨L,_,y,hn,e,hd⟩,ih (λ b hb=>hs b (by unfold frs;rw[bJ,y];exact aF _ hb)) hr⟩
 exact all X.outer (λ _ hb=>hb) I.ok.funs
theorem Inv.stack (I:Inv X pins σ H s):s.heap.FunFrames X.base X.stack:=by
 rcases I.ok.stk with e|⟨e,h⟩
 ·rw[e];exact I.funs
 ·rw[e]
  obtain⟨m,hn,_⟩:=I.loc
  refine .cons (by rw[I.ok.kind];decide) h hn ?_ I.funs
  exact Heap.get?_none_of_le (ao I.ok.bsz I.ok.above)
theorem Inv.stkSub (I:Inv X pins σ H s):∀ b∈frs X.stack,b∈X.env.locals::X.fs:=λ b hb=>by
 rcases I.ok.stk with e|⟨e,h⟩
 ·rw[e]at hb;exact aF _ hb
 ·rw[e]at hb
  unfold frs at hb
  rw[bJ,h]at hb
  exact hb
theorem Inv.stkFree (I:Inv X pins σ H s):∀ b∈frs X.stack,H b=none:=λ b hb=>by
 rcases aP.mp (I.stkSub b hb)with e|hb
 ·rw[e];exact I.free
 ·obtain⟨_,o,ho,_⟩:=I.ok.funs.mem hb
  exact I.base.free b o ho (I.ok.frf b hb) λ z=>I.ok.exfs b z hb
theorem Inv.step {g':Array GenState}{t':Nat}{d':Drawn}{ch:List Addr}(I:Inv X pins σ H s)
  (h:∀ b∈ch,(b∈X.ex\/X.s₀.heap.objs.size<=b)/\b≠X.env.locals/\(∀ x c,X.env.cells.lookup x=some c->c≠b)/\∀ p∈X.pn++pins,p.1≠b)
  (keep:∀ b o,b≠X.env.locals->b ∉ X.fs->b ∉ ch->s.heap.get? b=some o->H b=none->h'.get? b=some o)
  (slot:∀ b o,b≠X.env.locals->b∈X.fs->b ∉ ch->s.heap.get? b=some o->H b=none->∃ sl,h'.get? b=some { o with slots:=sl }) (free:∀ b o,b ∉ ch->s.heap.get? b=some o->H b=none->H' b=none)
  (there:∀ b o,b ∉ ch->s.heap.get? b=some o->∃ Y,h'.get? b=some Y)
  (tups:∀ b J,H b=some (.tup J)->H' b=some (.tup J)) (frzs:∀ b o u,H b=some (.frz o u)->H' b=some (.frz o u)) (tbls:∀ b ps,H b=some (.tbl ps)->∃ a1,H' b=some (.tbl (ps++a1)))
  (ns:∀ m,s.heap.Ns X.env.locals m->h'.Ns X.env.locals m) (hok:HOk X.prog X.w H' h') (hg:gh g') :
  Inv X pins σ H' { s with heap:=h',gens:=g',drawn:=d',toks:=t' }:=by
 have Z:∀ b o,X.s₀.heap.get? b=some o->b≠X.env.locals:=λ b o e=>ax (ay (aE e) I.ok.above)
 have G:∀ b o,X.s₀.heap.get? b=some o->b ∉ X.ex->b ∉ ch:=λ b o e hx hb=>by
  rcases(h b hb).1 with z|z
  ·exact hx z
  ·exact absurd (ay (aE e) z) (bI _)
 have C:∀ x c,X.env.cells.lookup x=some c->∀ v,s.heap.IsCell c v->h'.IsCell c v:=λ x c e v ⟨o,ho,hd⟩=>by
  have y:c ∉ ch:=λ z=>(h c z).2.2.1 x c e rfl
  by_cases hc:c∈X.fs
  ·obtain⟨sl,q⟩:=slot c o (I.cne x c e) hc y ho (I.freeC x c e)
   exact⟨_,q,hd⟩
  ·exact⟨o,keep c o (I.cne x c e) hc y ho (I.freeC x c e),hd⟩
 refine⟨I.ok,I.os,hg,⟨λ b o e n hb hx=>?_,λ b o e n hb hx=>?_,λ b o e n hx=>?_,λ b o e hx=>?_,λ b J e=>tups b J (I.base.tups b J e),λ b o J e=>frzs b o J (I.base.frzs b o J e),λ b ps e=>?_⟩,?_,λ x c e=>?_,?_,λ x c e=>?_,λ p hp=>?_,hok,I.len⟩
 ·exact keep b o (Z b o e) hb (G b o e hx) (I.base.keep b o e n hb hx) (I.base.free b o e n hx)
 ·obtain⟨sl,e1⟩:=I.base.slot b o e n hb hx
  obtain⟨a2,e2⟩:=slot b _ (Z b o e) hb (G b o e hx) e1 (I.base.free b o e n hx)
  exact⟨a2,e2⟩
 ·obtain⟨Y,e1⟩:=I.base.there b o e hx
  exact free b Y (G b o e hx) e1 (I.base.free b o e n hx)
 ·obtain⟨Y,e1⟩:=I.base.there b o e hx
  exact there b Y (G b o e hx) e1
 ·obtain⟨m1,e1⟩:=I.base.tbls b ps e
  obtain⟨m2,e2⟩:=tbls b _ e1
  exact⟨m1++m2,by rw[e2,jE]⟩
 ·obtain⟨m,hn,hl⟩:=I.loc
  refine⟨m,ns m hn,λ i x v e1 e2 e3=>?_⟩
  obtain⟨u,r,l⟩:=hl i x v e1 e2 e3
  refine⟨u,r,?_⟩
  rcases l with l|⟨k,c,e,z⟩
  ·exact .inl l
  ·exact .inr ⟨k,c,e,C x c e _ z⟩
 ·obtain⟨v,z⟩:=I.cell x c e
  exact⟨v,C x c e v z⟩
 ·obtain⟨m,⟨o,_,_,ho,_⟩,_⟩:=I.loc
  exact free _ o (λ z=>(h _ z).2.1 rfl) ho I.free
 ·obtain⟨v,o,ho,hd⟩:=I.cell x c e
  exact free c o (λ z=>(h c z).2.2.1 x c e rfl) ho (I.freeC x c e)
 ·obtain⟨e,n,ne,nf,d⟩:=I.pin p hp
  have y:p.1 ∉ ch:=λ z=>(h p.1 z).2.2.2 p hp rfl
  exact⟨keep p.1 p.2 ne nf y e n,free p.1 p.2 y e n,ne,nf,d⟩
theorem Inv.un {t':Nat}(I:Inv X pins σ H s)(u:Un X.fs [] H H' s.heap h')(hok:HOk X.prog X.w H' h'):Inv X pins σ H' { s with heap:=h',toks:=t' }:=by
 obtain⟨m,⟨o,es,ep,ho,r⟩,_⟩:=id I.loc
 obtain⟨sl,G⟩:=u.any ho I.free (by simp)
 exact I.step (g':=s.gens) (d':=s.drawn) (ch:=[]) (λ _ z=>nomatch z) (λ b o _ hb _ e n=>u.keep b o e n hb (by simp)) (λ b o _ hb _ e n=>u.slot b o e n hb (by simp)) (λ b o _ e n=>u.free b o e n (by simp)) (λ b o _ e=>u.there b o e (by simp)) u.tups u.frzs u.tbls (λ m' J=>by
  obtain⟨Z,C,y,h,Y⟩:=J
  rw[ho]at h;cases h
  exact⟨_,C,y,G,Y⟩) hok I.bare
theorem Inv.call {g':Array GenState}{t':Nat}{d':Drawn}{ch:List Addr}(I:Inv X pins σ H s)(u:Un (frs X.stack) ch H H' s.heap h')(hok:HOk X.prog X.w H' h')(hg:gh g')
  (h:∀ b∈ch,(b∈X.ex\/X.s₀.heap.objs.size<=b)/\b≠X.env.locals/\(∀ x c,X.env.cells.lookup x=some c->c≠b)/\∀ p∈X.pn++pins,p.1≠b) :
  Inv X pins σ H' { s with heap:=h',gens:=g',drawn:=d',toks:=t' }:=by
 obtain⟨m,⟨o,es,ep,ho,r⟩,_⟩:=id I.loc
 obtain⟨sl,C⟩:=u.any ho I.free λ z=>(h _ z).2.1 rfl
 exact I.step (ch:=ch) h (λ b o C hb hc e n=>u.keep b o e n (λ z=>(aP.mp (I.stkSub b z)).elim C hb) hc) (λ b o _ _ hc e n=>u.any e n hc) (λ b o hc e n=>u.free b o e n hc) (λ b o hc e=>u.there b o e hc) u.tups u.frzs u.tbls (λ m' Z=>by
  obtain⟨o',G,J,y,Y⟩:=Z
  rw[ho]at y;cases y
  exact⟨_,G,J,C,Y⟩) hok hg
theorem Inv.turned {t':Nat}{it:Addr}(I:Inv X pins σ H s)(k:∀ b o,b≠it->s.heap.get? b=some o->h'.get? b=some o)(hn:H it=none)(y:it≠X.env.locals)
  (C:it∈X.ex\/X.s₀.heap.objs.size<=it) (G:∀ x c,X.env.cells.lookup x=some c->c≠it) (h3:∀ p∈X.pn++pins,p.1≠it):Inv X pins σ H { s with heap:=h',toks:=t' }:=by
 have h:∀ b u,H b=some u->b≠it:=λ b u e z=>by rw[z,hn]at e;cases e
 refine I.step (g':=s.gens) (d':=s.drawn) (ch:=[it]) (λ b hb=>?_) (λ b o _ _ hc e _=>k b o (λ z=>hc (by simp[z])) e) (λ b o _ _ hc e _=>⟨o.slots,k b o (λ z=>hc (by simp[z])) e⟩) (λ _ _ _ _ n=>n)
  (λ b o hc e=>⟨o,k b o (λ z=>hc (by simp[z])) e⟩) (λ _ _ e=>e) (λ _ _ _ e=>e) (λ b ps e=>⟨#[],by rw[e];simp⟩) (λ m J=>?_) (λ b u e=>?_) I.bare
 ·have e:b=it:=by simpa using hb
  subst e
  exact⟨C,y,G,h3⟩
 ·obtain⟨o,es,Y,ho,r⟩:=J
  exact⟨o,es,Y,k _ o (cV y) ho,r⟩
 ·refine(I.hok b u e).stay (λ c v hc q=>k c v ?_ q) (λ _ q=>q) λ _ _ q=>q
  rcases hc with z|z
  ·rw[z];exact h b u e
  ·exact h c _ z
theorem Inv.tok (I:Inv X pins σ H s)(t:Nat):Inv X pins σ H { s with toks:=t }:=I.un (h':=s.heap) (t':=t) Un.refl I.hok
theorem Inv.kept {t':Nat}(I:Inv X pins σ H s)(k:∀ b u,s.heap.get? b=some u->h'.get? b=some u):Inv X pins σ H { s with heap:=h',toks:=t' }:=I.un (Un.kept k) (I.hok.kept k)
theorem Inv.laid {a:Addr}{o:HO}{t':Nat}(I:Inv X pins σ H s)(k:∀ b u,s.heap.get? b=some u->h'.get? b=some u)(hp:s.heap.objs.size<=a)(new:ag7 X.prog X.w (upd H a o) h' a o) :
  Inv X pins σ (upd H a o) { s with heap:=h',toks:=t' }:=I.un (Un.laid k hp (I.hok.fresh hp)) (I.hok.laid k hp new)
theorem Inv.write {x e:Addr}{o:HO}{t':Nat}(I:Inv X pins σ H s)(mu:Mut (H x))(y:e=x\/H e=some (.own x))(k:∀ b u,b≠e->s.heap.get? b=some u->h'.get? b=some u)(h:∃ u,h'.get? e=some u)
  (new:ag7 X.prog X.w (upd H x o) h' x o):Inv X pins σ (upd H x o) { s with heap:=h',toks:=t' }:=I.un (Un.write mu y k h) (I.hok.write mu y k h new)
theorem Inv.pins_of {y:List (Addr×Obj)}(I:Inv X pins σ H s)(h:∀ p∈y,s.heap.get? p.1=some p.2/\H p.1=none/\p.1≠X.env.locals/\p.1 ∉ X.fs/\∀ v,p.2.data≠.cell v):Inv X y σ H s :=
 ⟨I.ok,I.os,I.bare,I.base,I.loc,I.cell,I.free,I.freeC,λ p hp=>(aX.mp hp).elim (λ z=>I.pin p (bB _ z)) (h p),I.hok,I.len⟩
theorem aL7 {N:List Str}(hN:N.Nodup){i j:Nat}{x:Str}(a:N[i]?=some x)(b:N[j]?=some x):i=j:=by
 obtain⟨y,e1⟩:=ac.mp a
 obtain⟨h,e2⟩:=ac.mp b
 exact(List.getElem_inj hN).mp (e1.trans e2.symm)
theorem az9 {M:Model}{A:a0}{E:Value->ai->Prop}{i:Nat}{x:Str}{v:V}{u:Value}{Q:Unit->ai->Prop}(I:Inv X pins σ H s)(hN:X.N.Nodup)(hi:X.N[i]?=some x)(hx:Loc X.env.scope x)(r:RelV v u)
  (h:∀ s',Inv X pins (σ.set i (some v)) H s'->(∃ a,bF a s.heap s'.heap/\(a=X.env.locals\/X.env.cells.lookup x=some a))->Q () s') (hf:X.fn x=true\/X.env.scope.names.lookup x=some .local:=by first|exact .inl rfl|exact .inr rfl|assumption):wpAny M A (jh X.env x u) Q E s:=by
 obtain⟨m,hn,hl⟩:=id I.loc
 have a3:(X.env.scope.kind==.class||(X.env.scope.kind==.module&&X.env.locals != X.env.globals))=false:=by rw[I.ok.kind];rfl
 have Z:i < σ.length:=by rw[I.len];exact(ac.mp hi).1
 have cne:=I.cne
 have C:∀ {a:Addr} {h':Heap},(∃ o,s.heap.get? a=some o/\H a=none)->bF a s.heap h'->HOk X.prog X.w H h':=λ {a h'} ha hs b ob e=>by
  obtain⟨_,_,G⟩:=ha
  refine(I.hok b ob e).stay (λ c w' hc q=>(hs.2 c ?_).trans q) (λ _ q=>q) λ _ _ q=>q
  rintro rfl
  rcases hc with rfl|hc
  ·rw[G]at e;cases e
  ·rw[G]at hc;cases hc
 rcases hx with hk|hk
 ·refine iK hk hn (λ h' a4 hs=>?_) a3
  obtain⟨oL,_,_,a5,_⟩:=id hn
  refine h _ ⟨I.ok,I.os,I.bare,⟨λ b o e n hb hx=>?_,λ b o e n hb hx=>?_,I.base.free,λ b o e hx=>?_,I.base.tups,I.base.frzs,I.base.tbls⟩,⟨_,a4,λ j y v' e1 e2 e3=>?_⟩,λ y c e=>?_,I.free,I.freeC,λ p hp=>?_,C ⟨oL,a5,I.free⟩ hs,by simpa using I.len⟩ ⟨_,hs,.inl rfl⟩
  ·exact(hs.2 b (ax (ay (aE e) I.ok.above))).trans (I.base.keep b o e n hb hx)
  ·obtain⟨sl,e1⟩:=I.base.slot b o e n hb hx
   exact⟨sl,(hs.2 b (ax (ay (aE e) I.ok.above))).trans e1⟩
  ·obtain⟨o',e1⟩:=I.base.there b o e hx
   exact⟨o',(hs.2 b (ax (ay (aE e) I.ok.above))).trans e1⟩
  ·by_cases hj:j=i
   ·subst hj
    rw[hi]at e1;cases e1
    rw[bn Z]at e2
    cases e2
    exact⟨u,r,.inl ⟨hk,by simp⟩⟩
   ·rw[aY (cV hj)]at e2
    obtain⟨u',r',q⟩:=hl j y v' e1 e2 e3
    refine⟨u',r',?_⟩
    rcases q with⟨k,e⟩|⟨k,c,e,z⟩
    ·refine .inl ⟨k,?_⟩
     have:y≠x:=λ e=>hj (aL7 hN e1 (e▸hi))
     simp[this,e]
    ·exact .inr ⟨k,c,e,z.sameBut hs (cne y c e)⟩
  ·obtain⟨w',z⟩:=I.cell y c e
   exact⟨w',z.sameBut hs (cne y c e)⟩
  ·obtain⟨e,n,ne,nf,d⟩:=I.pin p hp
   exact⟨(hs.2 p.1 ne).trans e,n,ne,nf,d⟩
 ·have J:X.fn x=true:=by
   rcases hf with z|z
   ·exact z
   ·rw[z]at hk;cases hk
  obtain⟨c,hc⟩:=I.ok.has x (.inl hk)
  obtain⟨w',z⟩:=I.cell x c hc
  refine iW I.ok.kind hk hc z (λ h' Y hs=>?_)
  obtain⟨oc,a2,a1⟩:=id z
  refine h { s with heap:=h' } ⟨I.ok,I.os,I.bare,⟨λ b o e n hb hx=>?_,λ b o e n hb hx=>?_,I.base.free,λ b o e hx=>?_,I.base.tups,I.base.frzs,I.base.tbls⟩,⟨m,hn.sameBut hs (cV (cne x c hc)),λ j y v' e1 e2 e3=>?_⟩,λ y c' e=>?_,I.free,I.freeC,λ p hp=>?_,C ⟨oc,a2,I.freeC x c hc⟩ hs,by simpa using I.len⟩ ⟨c,hs,.inr hc⟩
  ·exact(hs.2 b (ax (ay (aE e) (I.ok.cab x c J hc)))).trans (I.base.keep b o e n hb hx)
  ·obtain⟨sl,e1⟩:=I.base.slot b o e n hb hx
   exact⟨sl,(hs.2 b (ax (ay (aE e) (I.ok.cab x c J hc)))).trans e1⟩
  ·obtain⟨o',e1⟩:=I.base.there b o e hx
   exact⟨o',(hs.2 b (ax (ay (aE e) (I.ok.cab x c J hc)))).trans e1⟩
  ·by_cases hj:j=i
   ·subst hj
    rw[hi]at e1;cases e1
    rw[bn Z]at e2
    cases e2
    exact⟨u,r,.inr ⟨.inl hk,c,hc,Y⟩⟩
   ·rw[aY (cV hj)]at e2
    obtain⟨u',r',q⟩:=hl j y v' e1 e2 e3
    refine⟨u',r',?_⟩
    rcases q with q|⟨k,c',e,z'⟩
    ·exact .inl q
    ·refine .inr ⟨k,c',e,z'.sameBut hs ?_⟩
     rintro rfl
     exact hj (aL7 hN e1 (I.ok.inj _ _ _ e hc▸hi))
  ·by_cases hcc:c'=c
   ·subst hcc;exact⟨_,Y⟩
   ·obtain⟨w2,z2⟩:=I.cell y c' e
    exact⟨w2,z2.sameBut hs hcc⟩
  ·obtain⟨e,n,ne,nf,d⟩:=I.pin p hp
   refine⟨(hs.2 p.1 ?_).trans e,n,ne,nf,d⟩
   intro q
   rw[q,a2]at e
   have q':oc=p.2:=aA e
   exact d w' (by rw[<-q'];exact a1)
theorem aN5 {M:Model}{A:a0}{E:Value->ai->Prop}{i:Nat}{x:Str}{v:V}{u:Value}{Q:Unit->ai->Prop}(I:Inv X pins σ H s)(hN:X.N.Nodup)(hi:X.N[i]?=some x)(hx:Loc X.env.scope x)(r:RelV v u)
  (h:∀ s',Inv X pins (σ.set i (some v)) H s'->Q () s') (z:X.fn x=true\/X.env.scope.names.lookup x=some .local:=by first|exact .inl rfl|exact .inr rfl|assumption):wpAny M A (jh X.env x u) Q E s :=
 az9 I hN hi hx r (λ s' y _=>h s' y) z
theorem Inv.call' {s':ai}{ch:List Addr}(I:Inv X pins σ H s)(ho:s'.os=s.os)(u:Un (frs X.stack) ch H H' s.heap s'.heap)(hok:HOk X.prog X.w H' s'.heap)(hg:gh s'.gens)
  (h:∀ b∈ch,(b∈X.ex\/X.s₀.heap.objs.size<=b)/\b≠X.env.locals/\(∀ x c,X.env.cells.lookup x=some c->c≠b)/\∀ p∈X.pn++pins,p.1≠b):Inv X pins σ H' s':=by
 obtain⟨h',g',d',t',y⟩:=s'
 have e:y=s.os:=ho
 subst e
 exact I.call (g':=g') (t':=t') (d':=d') u hok hg h
end
abbrev XK:=Value->Option Addr->Hp->Prop
noncomputable abbrev St:=List (Option V)
abbrev VK:=V->Hp->Prop
abbrev TE:=St->Hp->VK->Prop
abbrev TT:=St->Hp->(Bool->Hp->Prop)->Prop
abbrev TA:=St->Hp->(List V->Hp->Prop)->Prop
structure Ends where
 nx:St->Hp->Prop
 rt:VK
 bk:St->Hp->Prop:=λ _ _=>False
 ct:St->Hp->Prop:=λ _ _=>False
abbrev TS:=Ends->St->Hp->Prop
def EP (X:Cx)(pins:List (Addr×Obj))(σ:St)(Q:VK)(u:Value)(s':ai):Prop:=∃ v H',Inv X pins σ H' s'/\RelV v u/\Q v H'
def TP (X:Cx)(pins:List (Addr×Obj))(σ:St)(Q:Bool->Hp->Prop)(b:Bool)(s':ai):Prop:=∃ H',Inv X pins σ H' s'/\Q b H'
def AP (X:Cx)(pins:List (Addr×Obj))(σ:St)(Q:List V->Hp->Prop)(us:List Value)(s':ai):Prop:=∃ vs H',Inv X pins σ H' s'/\Vals vs us/\Q vs H'
def SP (X:Cx)(pins:List (Addr×Obj))(D:Ends)(f:Flow)(s':ai):Prop :=
 match f with
 | .next=>∃ σ' H',Inv X pins σ' H' s'/\D.nx σ' H'
 | .brk=>∃ σ' H',Inv X pins σ' H' s'/\D.bk σ' H'
 | .cont=>∃ σ' H',Inv X pins σ' H' s'/\D.ct σ' H'
 | .ret u=>∃ v σ' H',Inv X pins σ' H' s'/\RelV v u/\D.rt v H'
def PE (X:Cx)(e:Expr)(t:TE):Prop :=
 ∀(pins:List (Addr×Obj)) (s:ai) (σ:St) (H:Hp) (Q:VK),Inv X pins σ H s->t σ H Q->wpAny (model X.prog X.w) X.A (eval e X.env) (EP X pins σ Q) X.xe s
def PT (X:Cx)(e:Expr)(t:TT):Prop :=
 ∀(pins:List (Addr×Obj)) (s:ai) (σ:St) (H:Hp) (Q:Bool->Hp->Prop),Inv X pins σ H s->t σ H Q->wpAny (model X.prog X.w) X.A (eB e X.env (eval e X.env)) (TP X pins σ Q) X.xe s
def PW (X:Cx)(e:Expr)(t:TT):Prop :=
 ∀(whole:Sem Value) (pins:List (Addr×Obj)) (s:ai) (σ:St) (H:Hp) (Q:Bool->Hp->Prop),Inv X pins σ H s->t σ H Q->wpAny (model X.prog X.w) X.A (eB e X.env whole) (TP X pins σ Q) X.xe s
theorem PW.pt {X:Cx}{e:Expr}{t:TT}(h:PW X e t):PT X e t:=h _
def PA (X:Cx)(es:List Expr)(t:TA):Prop :=
 ∀(pos:Pos) (pins:List (Addr×Obj)) (s:ai) (σ:St) (H:Hp) (Q:List V->Hp->Prop),Inv X pins σ H s->t σ H Q->wpAny (model X.prog X.w) X.A (spliced (eJ pos (bE es X.env))) (AP X pins σ Q) X.xe s
def PS (X:Cx)(st:Stmt)(t:TS):Prop :=
 ∀(pins:List (Addr×Obj)) (s:ai) (σ:St) (H:Hp) (D:Ends),Inv X pins σ H s->t D σ H->wpAny (model X.prog X.w) X.A (exec st X.env) (SP X pins D) X.xe s
def PSs (X:Cx)(st:List Stmt)(t:TS):Prop :=
 ∀(pins:List (Addr×Obj)) (s:ai) (σ:St) (H:Hp) (D:Ends),Inv X pins σ H s->t D σ H->wpAny (model X.prog X.w) X.A (execs st X.env) (SP X pins D) X.xe s
theorem thn {α:Type}{t:Sem α}{Q y:α->ai->Prop}{M:Model}{A:a0}{E:Value->ai->Prop}{s:ai}(h:wpAny M A t Q E s)(z:∀ a s,Q a s->y a s):wpAny M A t y E s:=cM h z λ _ _ x=>x
section
variable {X:Cx}
theorem bin {a b:Expr}{J tb:TE}(ha:PE X a J)(hb:PE X b tb){z:List (Addr×Obj)}{s:ai}{σ:St}{H:Hp}{R:V->V->Hp->Prop}(I:Inv X z σ H s)(h:J σ H λ x G=>tb σ G λ y C=>R x y C)
  {α:Type} {Q:α->ai->Prop} {f:Value->Value->Sem α}
  (hf:∀ v u s2 x y C,Inv X z σ C s2->RelV x v->RelV y u->R x y C->wpAny (model X.prog X.w) X.A (f v u) Q X.xe s2) :
  wpAny (model X.prog X.w) X.A (eval a X.env) (λ v Z=>wpAny (model X.prog X.w) X.A (eval b X.env) (λ u Y=>wpAny (model X.prog X.w) X.A (f v u) Q X.xe Y) X.xe Z) X.xe s:=by
 refine thn (ha z s σ H _ I h) λ v s1 ⟨x,G,I1,r1,q1⟩=>?_
 refine thn (hb z s1 σ G _ I1 q1) λ u s2 ⟨y,C,I2,r2,q2⟩=>?_
 exact hf v u s2 x y C I2 r1 r2 q2
def bO8 (i:Nat):TE:=λ σ H Q=>∃ v,σ[i]?=some (some v)/\Q v H
def tC (v:V):TE:=λ _ H Q=>Q v H
theorem aO3 {i:Nat}{x:Str}{pos:Pos}(hN:X.N[i]?=some x)(hv:Vis X.env.scope x)(hd:(x==("__debug__":Str))=false:=by decide)(z:(x==("__classdict__":Str))=false:=by decide):PE X (.Name x pos) (bO8 i):=by
 intro y s σ H Q I h
 obtain⟨v,e,h⟩:=h
 obtain⟨m,hn,hl⟩:=I.loc
 obtain⟨u,r,l⟩:=hl i x v hN e hv
 have fin:EP X y σ Q u s:=⟨v,H,I,r,h⟩
 rcases l with⟨hk,C⟩|⟨hk,c,hc,hcell⟩
 ·exact kR (wpAny_loadName_local I.ok.kind hk hn C fin) hd
 ·rcases hk with hk|hk
  ·exact kR (wpAny_loadName_cell I.ok.kind hk hc hcell fin) hd
  ·exact kR (wpAny_loadName_free I.ok.kind hk hc hcell fin z) hd
theorem br2 {i j pos}:PE X (.Constant (.int i) j pos) (tC (.int i)):=λ _ _ _ H _ I h=>wpAny_Constant_int ⟨.int i,H,I.tok _,⟨_,rfl⟩,h⟩
theorem ca7 {b j pos}:PE X (.Constant (.bool b) j pos) (tC (.bl b)):=λ _ _ _ H _ I h=>Constant_bool ⟨.bl b,H,I,rfl,h⟩
theorem bH3 {j pos}:PE X (.Constant .none j pos) (tC .non):=λ _ _ _ H _ I h=>jr ⟨.non,H,I,rfl,h⟩
theorem bQ4 {x j pos}:PE X (.Constant (.str x) j pos) (tC (.str x)):=λ _ _ _ H _ I h=>Calls.Constant_str ⟨.str x,H,I.tok _,⟨_,rfl⟩,h⟩
def Gl (X:Cx)(x:Str):Prop:=X.env.kindOf x=some .globalImplicit
theorem aH2 {E:Value->ai->Prop}{y:List (Addr×Obj)}{s:ai}{σ:St}{H:Hp}{x:Str}{u:Value}{pos:Pos}{Q:Value->ai->Prop}(I:Inv X y σ H s)(hg:Gl X x)(z:X.mg x=some u)(h:Q u s)
  (hd:(x==("__debug__":Str))=false:=by decide):wpAny (model X.prog X.w) X.A (eval (.Name x pos) X.env) Q E s :=
 fS I.ok.kind hg (Calls.loadGlobal_global (by rw[I.ok.glob];exact I.mod.glob.keeps I.bk) z h) hd
theorem au7 {E:Value->ai->Prop}{y:List (Addr×Obj)}{s:ai}{σ:St}{H:Hp}{x:Str}{u:Value}{pos:Pos}{Q:Value->ai->Prop}(I:Inv X y σ H s)(hg:Gl X x)(z:X.mg x=none)(hv:bA x=some u)(h:Q u s)
  (hn:x ≠ "__name__":=by decide) (hd:(x==("__debug__":Str))=false:=by decide):wpAny (model X.prog X.w) X.A (eval (.Name x pos) X.env) Q E s:=by
 obtain⟨J,G,C⟩:=I.mod.blt
 exact fS I.ok.kind hg (Calls.loadGlobal_builtin (by rw[I.ok.glob];exact I.mod.glob.keeps I.bk) z (by rw[I.ok.blt];exact G.keeps I.bk) ((C x hn).trans hv) h) hd
theorem bD4 {x:Str}{v:V}{u:Value}{pos:Pos}(hg:Gl X x)(y:X.mg x=some u)(r:RelV v u)(hd:(x==("__debug__":Str))=false:=by decide):PE X (.Name x pos) (tC v) :=
 λ _ _ _ H _ I h=>aH2 I hg y ⟨v,H,I,r,h⟩ hd
theorem bz1 {x:Str}{v:V}{u:Value}{pos:Pos}(hg:Gl X x)(y:X.mg x=none)(hv:bA x=some u)(r:RelV v u)(hn:x ≠ "__name__":=by decide)(hd:(x==("__debug__":Str))=false:=by decide):PE X (.Name x pos) (tC v) :=
 λ _ _ _ H _ I h=>au7 I hg y hv ⟨v,H,I,r,h⟩ hn hd
variable {a b:Expr} {ta tb:TE} {pos:Pos}
def PC (X:Cx)(op:CmpOp)(a b:Expr)(t:TE):Prop :=
 ∀(pins:List (Addr×Obj)) (s:ai) (σ:St) (H:Hp) (Q:VK),Inv X pins σ H s->t σ H Q ->
  wpAny (model X.prog X.w) X.A (eval a X.env) (λ v s₁=>wpAny (model X.prog X.w) X.A (eval b X.env) (λ u s₂=>wpAny (model X.prog X.w) X.A (cK op v u) (EP X pins σ Q) X.xe s₂) X.xe s₁) X.xe s
theorem aL8 (b:Expr){op:CmpOp}(h:op≠.In)(y:op≠.NotIn):c8 op b=false:=by
 have e1:(op==CmpOp.In)=false:=by cases op<;>first|rfl|exact absurd rfl h
 have e2:(op==CmpOp.NotIn)=false:=by cases op<;>first|rfl|exact absurd rfl y
 cases b<;>simp[c8,e1,e2]
def cc0 (ta:TE):TE:=λ σ H Q=>ta σ H λ x H1=>Q (.bl (decide (x=.non))) H1
def bG5 (ta:TE):TE:=λ σ H Q=>ta σ H λ x H1=>Q (.bl (!decide (x=.non))) H1
theorem RelV.none_iff {x:V}{v:Value}(r:RelV x v):(v==Value.none)=decide (x=.non):=by
 cases x with
 | non=>cases r;rfl
 | bl _=>cases r;rfl
 | int _=>obtain⟨t,rfl⟩:=r;rfl
 | str _=>obtain⟨t,rfl⟩:=r;rfl
 | byt _=>obtain⟨t,rfl⟩:=r;rfl
 | flt _=>obtain⟨t,rfl⟩:=r;rfl
 | ref _=>cases r;rfl
 | ty _=>cases r;rfl
theorem bm9 {j pos'}(ha:PE X a ta):PC X .Is a (.Constant .none j pos') (cc0 ta):=by
 intro y s σ H Q I h
 refine thn (ha y s σ H _ I h) λ v s1 ⟨x,G,z,r1,C⟩=>?_
 exact jr (is_none_gen ⟨.bl _,G,z,by rw[r1.none_iff];rfl,C⟩)
theorem aV3 {j pos'}(ha:PE X a ta):PC X .IsNot a (.Constant .none j pos') (bG5 ta):=by
 intro y s σ H Q I h
 refine thn (ha y s σ H _ I h) λ v s1 ⟨x,G,z,r1,C⟩=>?_
 exact jr (isnot_none_gen ⟨.bl _,G,z,by rw[r1.none_iff];rfl,C⟩)
def tB (t:TE):TT:=λ σ H Q=>t σ H λ x H1=>∃ c,x=.bl c/\Q c H1
theorem bq0 {op:CmpOp}{t:TE}(h:PC X op a b t)(z:c8 op b=false:=by first|exact aL8 _ (by decide) (by decide)|rfl):PE X (.Compare a [op] [b] pos) t:=λ y s σ H Q I hw=>wpAny_Compare1 (h y s σ H Q I hw) z
theorem bn7 {op:CmpOp}{t:TE}(h:PC X op a b t)(z:c8 op b=false:=by first|exact aL8 _ (by decide) (by decide)|rfl):PT X (.Compare a [op] [b] pos) (tB t):=by
 intro y s σ H Q I hw
 refine iL (thn (h y s σ H _ I hw) λ v s1 z=>thn z λ u s2 J=>thn J λ c s3 ⟨x,Y,C,r1,G⟩=>?_) z
 obtain⟨d,rfl,q⟩:=G
 cases r1
 exact bO ⟨Y,C,q⟩
theorem bL9 {e:Expr}{t:TE}(h:PE X e t)(C:∀ y,eB e X.env y=(do let v <- y;standAt e.pos;jU [v] (truthy v)):=by intro _;rfl):PT X e (tB t):=by
 intro z s σ H Q I hw
 refine isTrue_plain (thn (h z s σ H _ I hw) λ v s1 ⟨x,Y,G,r1,J⟩=>?_) (C _)
 obtain⟨d,rfl,q⟩:=J
 cases r1
 exact bO ⟨Y,G,q⟩
variable {tA tB':TT} {rest:List Expr}
def cb9 (t u:TT):TT:=λ σ H Q=>t σ H λ c H1=>if c=true then u σ H1 Q else Q false H1
def tOr (t u:TT):TT:=λ σ H Q=>t σ H λ c H1=>if c=true then Q true H1 else u σ H1 Q
def cd5 (t:TT):TT:=λ σ H Q=>t σ H λ c H1=>Q (!c) H1
theorem bs0 (ha:PT X a tA):PW X (.BoolOp .And [a] pos) tA:=by
 intro z y s σ H Q I h
 refine isTrue_and (thn (ha y s σ H Q I h) λ c s1 e=>?_)
 cases c with
 | true=>exact isTrue_and_nil e
 | false=>exact e
theorem bF7 (ha:PT X a tA):PW X (.BoolOp .Or [a] pos) tA:=by
 intro z y s σ H Q I h
 refine isTrue_or (thn (ha y s σ H Q I h) λ c s1 e=>?_)
 cases c with
 | false=>exact isTrue_or_nil e
 | true=>exact e
theorem bp3 (ha:PT X a tA)(hb:PW X (.BoolOp .And (b::rest) pos) tB'):PW X (.BoolOp .And (a::b::rest) pos) (cb9 tA tB'):=by
 intro J y s σ H Q I h
 refine isTrue_and (thn (ha y s σ H _ I h) λ c s1 ⟨G,z,C⟩=>?_)
 cases c with
 | true=>exact hb J y s1 σ G Q z C
 | false=>exact⟨G,z,C⟩
theorem bI7 (ha:PT X a tA)(hb:PW X (.BoolOp .Or (b::rest) pos) tB'):PW X (.BoolOp .Or (a::b::rest) pos) (tOr tA tB'):=by
 intro J y s σ H Q I h
 refine isTrue_or (thn (ha y s σ H _ I h) λ c s1 ⟨G,z,C⟩=>?_)
 cases c with
 | true=>exact⟨G,z,C⟩
 | false=>exact hb J y s1 σ G Q z C
theorem bQ2 (ha:PT X a tA):PT X (.UnaryOp .Not a pos) (cd5 tA):=by
 intro y s σ H Q I h
 exact isTrue_not (ha y s σ H (λ c z=>Q (!c) z) I h)
def bM3 (ta tb:TE):TE:=λ σ H Q=>ta σ H λ x H1=>∃ c,x=.bl c/\if c=true then tb σ H1 Q else Q (.bl false) H1
def cc9 (ta tb:TE):TE:=λ σ H Q=>ta σ H λ x H1=>∃ c,x=.bl c/\if c=true then Q (.bl true) H1 else tb σ H1 Q
def bP3 (ta:TE):TE:=λ σ H Q=>ta σ H λ x H1=>∃ c,x=.bl c/\Q (.bl (!c)) H1
theorem bo7 {op}{t:TE}(h:PE X a t):PE X (.BoolOp op [a] pos) t:=λ y s σ H Q I hw=>BoolOp_one (h y s σ H Q I hw)
theorem bq3 (ha:PE X a ta)(hb:PE X (.BoolOp .And (b::rest) pos) tb):PE X (.BoolOp .And (a::b::rest) pos) (bM3 ta tb):=by
 intro y s σ H Q I h
 refine BoolOp_and (thn (ha y s σ H _ I h) λ v s1 ⟨x,G,C,r1,z⟩=>?_)
 obtain⟨c,rfl,z⟩:=z
 cases r1
 refine bO ?_
 cases c with
 | true=>exact hb y s1 σ G Q C z
 | false=>exact⟨.bl false,G,C,rfl,z⟩
theorem bI9 (ha:PE X a ta)(hb:PE X (.BoolOp .Or (b::rest) pos) tb):PE X (.BoolOp .Or (a::b::rest) pos) (cc9 ta tb):=by
 intro y s σ H Q I h
 refine BoolOp_or (thn (ha y s σ H _ I h) λ v s1 ⟨x,G,C,r1,z⟩=>?_)
 obtain⟨c,rfl,z⟩:=z
 cases r1
 refine bO ?_
 cases c with
 | false=>exact hb y s1 σ G Q C z
 | true=>exact⟨.bl true,G,C,rfl,z⟩
theorem bH0 (ha:PE X a ta):PE X (.UnaryOp .Not a pos) (bP3 ta):=by
 intro y s σ H Q I h
 refine UnaryOp_ (thn (ha y s σ H _ I h) λ v s1 ⟨x,G,C,r1,z⟩=>?_)
 obtain⟨c,rfl,z⟩:=z
 cases r1
 exact not_of (bO ⟨.bl (!c),G,C,rfl,z⟩)
def tIf (t:TT)(ta tb:TE):TE:=λ σ H Q=>t σ H λ c H1=>if c=true then ta σ H1 Q else tb σ H1 Q
theorem bg4 {c:Expr}(hc:PT X c tA)(ha:PE X a ta)(hb:PE X b tb):PE X (.IfExp c a b pos) (tIf tA ta tb):=by
 intro y s σ H Q I h
 refine wpAny_IfExp (thn (hc y s σ H _ I h) λ d s1 ⟨G,z,C⟩=>?_)
 cases d with
 | true=>exact ha y s1 σ G Q z C
 | false=>exact hb y s1 σ G Q z C
end
def SqL (K:ae)(H:Hp)(a:Addr)(xs:List V):Prop :=
 Rd H a (.lst xs) \/
  ∃(o:Obj) (its:Array Value) (n:Nat),K.lookup a=some o/\o.cls=.type "list"/\o.dict=none/\o.data=.seq its n/\its.size<=aI/\Vals xs its.toList
def SqT (K:ae)(H:Hp)(a:Addr)(xs:List V):Prop :=
 Rd H a (.tup xs) \/
  ∃(o:Obj) (its:Array Value) (n:Nat),K.lookup a=some o/\o.cls=.type "tuple"/\o.data=.seq its n/\its.size<=aI/\Vals xs its.toList
noncomputable def cg2:Value->Option V
 | .none=>some .non
 | .bool b=>some (.bl b)
 | .int i _=>some (.int i)
 | .str x _=>some (.str x)
 | .bytes b _=>some (.byt b)
 | .float b _=>some (.flt b)
 | .ref a=>some (.ref a)
 | .type n=>some (.ty n)
 | _=>none
theorem RelV.abs {x:V}{u:Value}(r:RelV x u):cg2 u=some x:=by
 cases x with
 | non=>cases r;rfl
 | bl _=>cases r;rfl
 | int _=>obtain⟨t,rfl⟩:=r;rfl
 | str _=>obtain⟨t,rfl⟩:=r;rfl
 | byt _=>obtain⟨t,rfl⟩:=r;rfl
 | flt _=>obtain⟨t,rfl⟩:=r;rfl
 | ref _=>cases r;rfl
 | ty _=>cases r;rfl
theorem RelV.inj {x y:V}{u:Value}(r:RelV x u)(q:RelV y u):x=y:=aA (r.abs.symm.trans q.abs)
theorem Vals.inj:∀ {h ys:List V} {us:List Value},Vals h us->Vals ys us->h=ys
 | _,_,_,.nil,.nil=>rfl
 | _,_,_,.cons r t,.cons r' t'=>by rw[r.inj r',Vals.inj t t']
section
variable {X:Cx} {pins:List (Addr×Obj)} {σ:St} {H:Hp} {s:ai} {a:Addr} {xs ys:List V}
theorem SqL.of {K:ae}(h:H a=some (.lst xs)):SqL K H a xs:=.inl (.inl h)
theorem SqT.of {K:ae}(h:H a=some (.tup xs)):SqT K H a xs:=.inl (.inl h)
theorem Inv.list (I:Inv X pins σ H s)(h:SqL X.K H a xs):∃ its:List Value,Vals xs its/\PlainL s.heap a its.toArray/\xs.length<=aI:=by
 rcases h with h|⟨o,its,n,hk,hc,hd,hs,hz,r⟩
 ·obtain⟨z,its,n,r,e⟩:=h.ok I.hok
  exact⟨its,r,⟨_,n,e,rfl,rfl,rfl⟩,z⟩
 ·refine⟨its.toList,r,⟨o,n,I.kIn a o hk,hc,hd,by simpa using hs⟩,?_⟩
  have e:=r.length
  simp only[dh]at e
  omega
theorem Inv.tuple (I:Inv X pins σ H s)(h:SqT X.K H a xs):∃ its:List Value,Vals xs its/\IsTup s.heap a its.toArray/\xs.length<=aI:=by
 rcases h with h|⟨o,its,n,hk,hc,hs,hz,r⟩
 ·obtain⟨z,its,r,p⟩:=h.ok I.hok
  exact⟨its,r,p,z⟩
 ·refine⟨its.toList,r,⟨o,I.kIn a o hk,hc,n,by simpa using hs⟩,?_⟩
  have e:=r.length
  simp only[dh]at e
  omega
theorem Inv.list_inj (I:Inv X pins σ H s)(h:SqL X.K H a xs)(h':SqL X.K H a ys):xs=ys:=by
 obtain⟨its,r,⟨o,n,e,_,_,d⟩,_⟩:=I.list h
 obtain⟨its',y,⟨z,C,e',_,_,d'⟩,_⟩:=I.list h'
 rw[e]at e';cases e'
 rw[d]at d'
 injection d' with d1 _
 have:its=its':=by simpa using congrArg jV d1
 subst this
 exact r.inj y
theorem Inv.tuple_inj (I:Inv X pins σ H s)(h:SqT X.K H a xs)(h':SqT X.K H a ys):xs=ys:=by
 obtain⟨its,r,⟨o,e,_,n,d⟩,_⟩:=I.tuple h
 obtain⟨its',y,⟨z,e',_,C,d'⟩,_⟩:=I.tuple h'
 rw[e]at e';cases e'
 rw[d]at d'
 injection d' with d1 _
 have:its=its':=by simpa using congrArg jV d1
 subst this
 exact r.inj y
end
noncomputable abbrev Cx.wish (X:Cx)(E:Value->ai->Prop):Cx:={ X with xe:=E }
noncomputable abbrev Cx.nox (X:Cx):Cx:=X.wish λ _ _=>False
theorem Cx.Ok.wish {X:Cx}(ok:X.Ok)(E:Value->ai->Prop):(X.wish E).Ok :=
 ⟨ok.mod,ok.kind,ok.glob,ok.blt,ok.above,ok.inj,ok.has,ok.cab,ok.hd,ok.frames,ok.stk,ok.exf,ok.bs,ok.bsz,ok.noex,ok.exfs,ok.funs,ok.frf⟩
theorem Cx.Ok.unwish {X:Cx}{E:Value->ai->Prop}(ok:(X.wish E).Ok):X.Ok :=
 ⟨ok.mod,ok.kind,ok.glob,ok.blt,ok.above,ok.inj,ok.has,ok.cab,ok.hd,ok.frames,ok.stk,ok.exf,ok.bs,ok.bsz,ok.noex,ok.exfs,ok.funs,ok.frf⟩
section
variable {X:Cx} {pins:List (Addr×Obj)} {σ:St} {H:Hp} {s:ai} {E:Value->ai->Prop}
theorem Inv.wish (I:Inv X pins σ H s)(E:Value->ai->Prop):Inv (X.wish E) pins σ H s:=⟨I.ok.wish E,I.os,I.bare,I.base,I.loc,I.cell,I.free,I.freeC,I.pin,I.hok,I.len⟩
theorem Inv.unwish (I:Inv (X.wish E) pins σ H s):Inv X pins σ H s:=⟨I.ok.unwish,I.os,I.bare,I.base,I.loc,I.cell,I.free,I.freeC,I.pin,I.hok,I.len⟩
theorem SP.unwish {D:Ends}{f:Flow}{s':ai}(h:SP (X.wish E) pins D f s'):SP X pins D f s':=by
 cases f with
 | next=>obtain⟨σ',H',I,q⟩:=h;exact⟨σ',H',I.unwish,q⟩
 | brk=>obtain⟨σ',H',I,q⟩:=h;exact⟨σ',H',I.unwish,q⟩
 | cont=>obtain⟨σ',H',I,q⟩:=h;exact⟨σ',H',I.unwish,q⟩
 | ret u=>obtain⟨v,σ',H',I,r,q⟩:=h;exact⟨v,σ',H',I.unwish,r,q⟩
theorem PSs.nox {st:List Stmt}{t:TS}(h:PSs X.nox st t):PSs X st t:=λ y s σ H D I hw =>
 cM (h y s σ H D (I.wish _) hw) (λ _ _ q=>q.unwish) λ _ _ z=>cN z
end
section
variable {X:Cx} {st:Stmt} {rest:List Stmt} {t u:TS} {e:Expr} {te:TE} {pos:Pos}
def bQ8:TS:=λ D σ H=>D.nx σ H
noncomputable def cb8 (t u:TS):TS:=λ D σ H=>t { D with nx:=u D } σ H
theorem aT9:PSs X [] bQ8:=λ _ _ σ H _ I h=>iC ⟨σ,H,I,h⟩
theorem aM2 (G:PS X st t)(C:PSs X rest u):PSs X (st::rest) (cb8 t u):=by
 intro y s σ H D I h
 refine wpAny_execs_cons (thn (G y s σ H { D with nx:=u D } I h) λ f s1 q=>?_)
 cases f with
 | next =>
  obtain⟨σ',H',z,q⟩:=q
  exact C y s1 σ' H' D z q
 | ret v=>exact q
 | brk=>exact q
 | cont=>exact q
theorem Inv.quiet {h:List (Addr×Obj)}{σ:St}{H:Hp}{s:ai}(I:Inv X h σ H s):interactive X.env=false:=by simp[interactive,I.ok.kind]
def bL6 (te:TE):TS:=λ D σ H=>te σ H λ _ H1=>D.nx σ H1
theorem bA1 (z:PE X e te)(hs:fQ e none pos.line X.env=pure false:=by rfl):PS X (.Expr e pos) (bL6 te):=by
 intro y s σ H D I h
 exact wpAny_Expr_any (thn (z y s σ H _ I h) λ v s1 ⟨x,J,C,r1,G⟩=>⟨σ,J,C,G⟩) I.quiet hs
def cc5 (te:TE):TS:=λ D σ H=>te σ H D.rt
theorem bo5 (z:PE X e te):PS X (.Return (some e) pos) (cc5 te):=by
 intro y s σ H D I h
 exact wpAny_Return_some (thn (z y s σ H _ I h) λ v s1 ⟨x,J,C,r1,G⟩=>⟨x,σ,J,C,r1,G⟩)
def cc1 (c:TT)(t u:TS):TS:=λ D σ H=>c σ H λ b H1=>if b=true then t D σ H1 else u D σ H1
theorem bV6 {c:Expr}{a b:List Stmt}{tc:TT}(hc:PT X c tc)(ha:PSs X a t)(hb:PSs X b u):PS X (.If c a b pos) (cc1 tc t u):=by
 intro y s σ H D I h
 refine wpAny_If (thn (hc y s σ H _ I h) λ d s1 ⟨G,z,C⟩=>?_)
 cases d with
 | true=>exact ha y s1 σ G D z C
 | false=>exact hb y s1 σ G D z C
def bS8:TS:=λ _ _ _=>False
theorem be6:PS X st bS8:=λ _ _ _ _ _ _ h=>h.elim
end
abbrev TG:=V->St->Hp->(St->Hp->Prop)->Prop
abbrev TGs:=List V->St->Hp->(St->Hp->Prop)->Prop
def PG (X:Cx)(target:Expr)(t:TG):Prop :=
 ∀(pins:List (Addr×Obj)) (s:ai) (σ:St) (H:Hp) (v:V) (u:Value) (Q:St->Hp->Prop),Inv X pins σ H s->RelV v u->t v σ H Q ->
  wpAny (model X.prog X.w) X.A (hJ target X.env u) (λ _ s'=>∃ σ' H',Inv X pins σ' H' s'/\Q σ' H') X.xe s
def PGs (X:Cx)(ts:List Expr)(t:TGs):Prop :=
 ∀(pins:List (Addr×Obj)) (s:ai) (σ:St) (H:Hp) (vs:List V) (us:List Value) (Q:St->Hp->Prop),Inv X pins σ H s->Vals vs us->t vs σ H Q ->
  wpAny (model X.prog X.w) X.A (assignInOrder ((cR ts X.env).map (·.2)) us) (λ _ s'=>∃ σ' H',Inv X pins σ' H' s'/\Q σ' H') X.xe s
abbrev bT3:=V->V->V->Hp->(Hp->Prop)->Prop
def ca1 (X:Cx)(t:bT3):Prop :=
 ∀(pins:List (Addr×Obj)) (s:ai) (σ:St) (H:Hp) (o i v:V) (ov iv u:Value) (Q:Hp->Prop),Inv X pins σ H s->RelV o ov->RelV i iv->RelV v u->t o i v H Q ->
  wpAny (model X.prog X.w) X.A (setItem ov iv u) (λ _ s'=>∃ H',Inv X pins σ H' s'/\Q H') X.xe s
section
variable {X:Cx} {pos:Pos}
def as7 (i:Nat):TG:=λ v σ H Q=>Q (σ.set i (some v)) H
theorem ay7 {i:Nat}{x:Str}(hN:X.N.Nodup)(hi:X.N[i]?=some x)(hx:Loc X.env.scope x)(C:X.fn x=true\/X.env.scope.names.lookup x=some .local:=by first|exact .inl rfl|exact .inr rfl|assumption):PG X (.Name x pos) (as7 i):=by
 intro y s σ H v u Q I r h
 exact jW (aN5 I hN hi hx r (λ s' z=>⟨_,H,z,h⟩) C)
def bX4:TGs:=λ vs σ H Q=>vs=[]/\Q σ H
def bj1 (t:TG)(u:TGs):TGs:=λ vs σ H Q=>∃ v r,vs=v::r/\t v σ H λ σ' H'=>u r σ' H' Q
theorem aZ9:PGs X [] bX4:=by
 intro y s σ H vs us Q I r h
 obtain⟨e,h⟩:=h
 subst e
 cases r
 exact assignInOrder_nil ⟨σ,H,I,h⟩
theorem ax2 {e:Expr}{es:List Expr}{t:TG}{u:TGs}(C:PG X e t)(J:PGs X es u)
  (hs:(cR (e::es) X.env).map (·.2)=hJ e X.env::(cR es X.env).map (·.2):=by rfl):PGs X (e::es) (bj1 t u):=by
 intro y s σ H vs us Q I r h
 obtain⟨v,Z,e1,h⟩:=h
 subst e1
 cases r with
 | cons r rr =>
  rw[hs]
  refine assignInOrder_cons (thn (C y s σ H _ _ _ I r h) λ _ s1 ⟨σ1,Y,G,z⟩=>?_)
  exact J y s1 σ1 Y _ _ Q G rr z
def bU7 (K:ae)(n:Nat)(t:TGs):TG:=λ v σ H Q=>∃ a xs,v=.ref a/\SqT K H a xs/\xs.length=n/\t xs σ H Q
theorem bp4 {es:List Expr}{k:Nat}{t:TGs}{n:Nat}(hc:X.calm=true)(h:PGs X es t)
  (hn:(cR es X.env).length=n:=by rfl) (z:(cR es X.env).findIdx? (·.1)=none:=by rfl):PG X (.Tuple es k pos) (bU7 X.K n t):=by
 intro y s σ H v u Q I r hw
 obtain⟨a,Y,e1,hq,hl,hw⟩:=hw
 subst e1
 cases r
 obtain⟨its,C,G,hz⟩:=I.tuple hq
 refine assign_Tuple_tuple (I.ok.hd hc) G (by simp[hn,<-hl,C.length]) z λ h' hx=>?_
 have J:Inv X y σ H { s with heap:=h' }:=I.kept (t':=s.toks) λ b o e=>hx b o (ax (aE e)) e
 exact h y _ σ H Y _ Q J (by simpa using C) hw
def cb7 (to ti:TE)(t:bT3):TG:=λ v σ H Q=>to σ H λ o H1=>ti σ H1 λ i H2=>t o i v H2 λ H3=>Q σ H3
theorem bK6 {o i:Expr}{G J:TE}{t:bT3}(ho:PE X o G)(hi:PE X i J)(hs:ca1 X t)
  (ha:∀ v,hJ (.Subscript o i pos) X.env v=(do
   let C <- jU [v] (eval o X.env)
   let iv <- jU [v,C] (eval i X.env)
   standAt pos
   jU [v,C,iv] (setItem C iv v)
   release [v,C,iv] []):=by intro _;rfl):PG X (.Subscript o i pos) (cb7 G J t):=by
 intro z s σ H v u Q I r h
 rw[ha]
 refine ab (c9 (thn (ho z s σ H _ I h) λ C s1 ⟨x,H1,I1,r1,Z⟩=>?_))
 refine ab (c9 (thn (hi z s1 σ H1 _ I1 Z) λ iv s2 ⟨y,H2,Y,r2,q2⟩=>?_))
 refine ab (js (ab (c9 (thn (hs z s2 σ H2 x y v C iv u _ Y r1 r2 r q2) λ _ s3 ⟨H3,I3,q3⟩=>?_))))
 exact wpAny_release ⟨σ,H3,I3,q3⟩
def bj2 (te:TE)(g:TG):TS:=λ D σ H=>te σ H λ x H1=>g x σ H1 D.nx
theorem bq6 {tg e:Expr}{te:TE}{g:TG}(z:PE X e te)(hg:PG X tg g)(hs:swapsWithSole [tg] e pos.line X.env=pure false:=by rfl)(hw:jt [tg] e X.env=pure none:=by rfl)
  (Y:(cR [tg] X.env).map (·.2)=[hJ tg X.env]:=by rfl):PS X (.Assign [tg] e pos) (bj2 te g):=by
 intro y s σ H D I h
 refine wpAny_Assign_stores (thn (z y s σ H _ I h) λ v s1 ⟨x,J,C,r1,G⟩=>?_) hs hw
 rw[Y]
 exact thn (hg y s1 σ J x v _ C r1 G) λ _ s2 q=>q
theorem bn5 {i:Nat}{x:Str}{e:Expr}{te:TE}{z:Pos}(hN:X.N.Nodup)(hi:X.N[i]?=some x)(hx:Loc X.env.scope x)(G:PE X e te)(hs:fQ e (some (.Name x z)) pos.line X.env=pure false:=by rfl)(hf:X.fn x=true\/X.env.scope.names.lookup x=some .local:=by first|exact .inl rfl|exact .inr rfl|assumption) :
  PS X (.Assign [.Name x z] e pos) (bj2 te (as7 i)):=by
 intro C s σ H D I h
 refine wpAny_Assign_Name (thn (G C s σ H _ I h) λ v s1 ⟨y,H1,Z,r1,Y⟩=>?_) hs
 exact aN5 Z hN hi hx r1 (λ s2 J=>⟨_,H1,J,Y⟩) hf
end
section
variable {X:Cx} {pos:Pos}
def bo3 (c:TT)(tb:TS):TS:=λ D σ H=>∃ W:Nat->St->Hp->Prop,(∃ m,W m σ H)/\∀ m σ H,W m σ H ->
 c σ H λ b H1=>if b=true then ∃ N:St->Hp->Prop,(∀ σ' H',N σ' H'->∃ m',m'<m/\W m' σ' H')/\tb { D with nx:=N,ct:=N,bk:=D.nx } σ H1 else D.nx σ H1
theorem bg0 {c:Expr}{body:List Stmt}{tc:TT}{tb:TS}(hp:PassesOwn (model X.prog X.w) X.A X.env X.xe)(hc:PT X c tc)(hb:PSs X body tb):PS X (.While c body [] pos) (bo3 tc tb):=by
 intro y s σ H D I h
 obtain⟨W,⟨m0,w0⟩,turn⟩:=h
 refine wpAny_While (codeAny_whileLoop (λ n s'=>∃ σ' H',Inv X y σ' H' s'/\W n σ' H') ?_ m0 ⟨σ,H,I,w0⟩)
 rintro n s1 ⟨σ1,H1,I1,w1⟩
 refine cZ hp (thn (hc y s1 σ1 H1 _ I1 (turn n σ1 H1 w1)) λ b s2 ⟨H2,Z,q2⟩=>?_)
 cases b with
 | true =>
  obtain⟨N,hN,q2⟩:=q2
  rw[if_pos rfl]
  refine cZ hp (thn (hb y s2 σ1 H2 _ Z q2) λ f s3 q3=>?_)
  cases f with
  | next =>
   obtain⟨σ3,z,G,J⟩:=q3
   obtain⟨m',Y,C⟩:=hN σ3 z J
   exact⟨m',Y,σ3,z,G,C⟩
  | cont =>
   obtain⟨σ3,z,G,J⟩:=q3
   obtain⟨m',Y,C⟩:=hN σ3 z J
   exact⟨m',Y,σ3,z,G,C⟩
  | brk=>exact q3
  | ret v=>exact q3
 | false =>
  rw[if_neg aS]
  exact iC ⟨σ1,H2,Z,q2⟩
end
structure It where
 go:Nat->Hp->Prop
 yld:Nat->Hp->V->Hp->Prop
 stop:Nat->Hp->Prop
def FpOk (X:Cx)(pins:List (Addr×Obj))(H:Hp)(b:Addr):Prop :=
 H b=none/\b≠X.env.locals/\b ∉ X.fs/\(b∈X.ex\/X.s₀.heap.objs.size<=b)/\(∀ x c,X.env.cells.lookup x=some c->c≠b)/\∀ p∈X.pn++pins,p.1≠b
theorem Inv.fpOk {X:Cx}{h:List (Addr×Obj)}{σ:St}{H H':Hp}{s:ai}{b:Addr}(I:Inv X h σ H s)(hb:s.heap.objs.size<=b)(hn:H' b=none):FpOk X h H' b:=by
 refine⟨hn,cB (ay I.lt hb),I.nofs hb,.inr (ao I.sz hb),λ x c e z=>?_,λ p hp z=>?_⟩
 ·obtain⟨v,q⟩:=I.cell x c e
  exact absurd (ay q.lt (by rw[z];exact hb)) (bI _)
 ·exact absurd (ay (aE (I.pin p hp).1) (by rw[z];exact hb)) (bI _)
structure Turn (P:aO)(w:World)(K:ae)(tg:Expr)(J:It)(fp:List Addr)(it:Addr)(tn:Nat->Heap->Prop):Prop where
 mem:it∈fp
 obj:∀ i h,tn i h->∀ b∈fp,∃ o,h.get? b=some o/\∀ v,o.data≠.cell v
 keep:∀ i h h',tn i h->(∀ b∈fp,∀ o,h.get? b=some o->h'.get? b=some o)->tn i h'
 item:∀(X:Cx),X.prog=P->X.w=w->X.K=K->X.calm=true->∀(i:Nat) (pins:List (Addr×Obj)) (s:ai) (σ:St) (H:Hp) (E:Value->ai->Prop),Inv X pins σ H s->(∀ b∈fp,FpOk X pins H b)->tn i s.heap->J.go i H ->
  wpAny (model P w) X.A (fB (.ref it)) (λ r s1=>∃ u,r=some u /\
   wpAny (model P w) X.A (fC tg (.ref it) u) (λ _ s2=>∃ x H',Inv X pins σ H' s2/\RelV x u/\J.yld i H x H'/\tn (i+1) s2.heap/\∀ b∈fp,H' b=none) E s1) E s
 done:∀(X:Cx),X.prog=P->X.w=w->X.K=K->X.calm=true->∀(i:Nat) (pins:List (Addr×Obj)) (s:ai) (σ:St) (H:Hp) (E:Value->ai->Prop),Inv X pins σ H s->(∀ b∈fp,FpOk X pins H b)->tn i s.heap->J.stop i H ->
  wpAny (model P w) X.A (fB (.ref it)) (λ r s1=>r=none/\Inv X pins σ H s1) E s
 self:∀(A:a0) (i:Nat) (s:ai) (Q:Value->ai->Prop) (E:Value->ai->Prop),tn i s.heap->Q (.ref it) s->wpAny (model P w) A (jF (.ref it)) Q E s
abbrev TI:=St->Hp->(It->Hp->Prop)->Prop
def PIE (X:Cx)(pins:List (Addr×Obj))(σ:St)(tg:Expr)(R:It->Hp->Prop)(itv:Value)(s2:ai):Prop :=
 ∃(it:Addr) (fp:List Addr) (tn:Nat->Heap->Prop) (J:It) (H':Hp),itv=.ref it/\Inv X pins σ H' s2/\Turn X.prog X.w X.K tg J fp it tn/\tn 0 s2.heap/\(∀ b∈fp,FpOk X pins H' b)/\R J H'
def PI (X:Cx)(tg iter:Expr)(wi:TI):Prop :=
 ∀(pins:List (Addr×Obj)) (s:ai) (σ:St) (H:Hp) (R:It->Hp->Prop),Inv X pins σ H s->wi σ H R ->
  wpAny (model X.prog X.w) X.A (eval iter X.env) (λ v s1=>wpAny (model X.prog X.w) X.A (jF v) (PIE X pins σ tg R) X.xe s1) X.xe s
theorem bm8 {M : Model} {A : Around} {E : Value -> Shared -> Prop} {s : Shared} {tg : Expr} {it : Addr} {u : Value} {o : Obj} {n : String} {vs : Array Value} {Q : Unit -> Shared -> Prop} (ho : s.heap.get? it = some o) (hc : o.cls = .type n) (hd : o.data = .fields vs)
    (hn : ["enumerate", "zip", "dict_itemiterator", "dict_reverseitemiterator", "odict_iterator", "itertools.zip_longest", "itertools.pairwise"].contains n = false) (hQ : Q () s) : wpAny M A (fC tg (.ref it) u) Q E s := by
  unfold fC
  cases tg <;> first
    | exact am hQ
    | (cases u <;> first
        | exact am hQ
        | (refine ab (wpAny_load ho ?_)
           rw[hc, hd]
           show wpAny M A (if(["enumerate", "zip", "dict_itemiterator", "dict_reverseitemiterator", "odict_iterator", "itertools.zip_longest", "itertools.pairwise"].contains n && vs[0]? == some (jG _)) = true then _ else _) Q E s
           rw[if_neg (by intro h; rw[hn, Bool.false_and]at h; cases h)]
           exact am hQ))
noncomputable def Itl (K:ae)(a:Addr):It :=
 ⟨λ i H=>∃ xs x,SqL K H a xs/\xs[i]?=some x,λ i H x H'=>H'=H/\∀ xs,SqL K H a xs->xs[i]?=some x,λ i H=>∃ xs,SqL K H a xs/\xs.length<=i⟩
noncomputable def Itt (K:ae)(a:Addr):It :=
 ⟨λ i H=>∃ xs x,SqT K H a xs/\xs[i]?=some x,λ i H x H'=>H'=H/\∀ xs,SqT K H a xs->xs[i]?=some x,λ i H=>∃ xs,SqT K H a xs/\xs.length<=i⟩
noncomputable def Itr (lo:Int)(n:Nat):It:=⟨λ i _=>i<n,λ i H x H'=>H'=H/\x=.int (lo+i),λ i _=>n<=i⟩
theorem bd6 {P:aO}{w:World}{K:ae}{tg:Expr}(a it:Addr):Turn P w K tg (Itl K a) [it] it (λ i h=>h.IsListIter it a i) where
 mem:=by simp
 obj:=λ i h st b hb=>by
  have e:b=it:=by simpa using hb
  subst e
  obtain⟨o,e,c,d⟩:=st
  exact⟨o,e,λ v z=>by rw[d]at z;cases z⟩
 keep:=λ i h h' st k=>st.at λ o e=>k it (by simp) o e
 item:=by
  intro X hP hw hK hc i y s σ H E I G st hg
  subst hP hw hK
  obtain⟨xs,x,hq,hx⟩:=hg
  obtain⟨its,rv,p,hz⟩:=I.list hq
  obtain⟨u,hu,ru⟩:=rv.get hx
  obtain⟨J,Y,f2,f3,Z,f5⟩:=G it (by simp)
  refine wpAny_pyNext_list_item st p.isList (x:=u) (by simpa using hu) λ h' C sb=>?_
  have I1:Inv X y σ H { s with heap:=h' }:=I.turned (t':=s.toks) (λ b o hb e=>(sb.2 b hb).trans e) J Y f3 Z f5
  obtain⟨o,e,c,d⟩:=id C
  exact⟨u,rfl,bm8 (s:={ s with heap:=h' }) e c d (by decide) ⟨x,H,I1,ru,⟨rfl,λ ys hy=>by rw[I.list_inj hy hq];exact hx⟩,C,λ b hb=>(G b hb).1⟩⟩
 done:=by
  intro X hP hw hK hc i y s σ H E I G st hg
  subst hP hw hK
  obtain⟨xs,hq,hx⟩:=hg
  obtain⟨its,rv,p,hz⟩:=I.list hq
  obtain⟨J,Y,f2,f3,Z,f5⟩:=G it (by simp)
  have hl:=rv.length
  exact wpAny_pyNext_list_end (I.ok.hd hc) st p.isList (by simp;omega) λ h' eb=>⟨rfl,I.turned (t':=s.toks) (λ b o hb e=>eb b o hb e) J Y f3 Z f5⟩
 self:=λ _ _ _ _ _ st h=>wpAny_pyIter_listiter st h
theorem aS3 {P:aO}{w:World}{K:ae}{tg:Expr}(a it:Addr):Turn P w K tg (Itt K a) [it] it (λ i h=>h.IsTupleIter it a i) where
 mem:=by simp
 obj:=λ i h st b hb=>by
  have e:b=it:=by simpa using hb
  subst e
  obtain⟨o,e,c,d⟩:=st
  exact⟨o,e,λ v z=>by rw[d]at z;cases z⟩
 keep:=λ i h h' st k=>st.at λ o e=>k it (by simp) o e
 item:=by
  intro X hP hw hK hc i y s σ H E I G st hg
  subst hP hw hK
  obtain⟨xs,x,hq,hx⟩:=hg
  obtain⟨its,rv,p,hz⟩:=I.tuple hq
  obtain⟨u,hu,ru⟩:=rv.get hx
  obtain⟨J,Y,f2,f3,Z,f5⟩:=G it (by simp)
  refine wpAny_pyNext_tuple_item st (show s.heap.IsTuple a its.toArray from p) (x:=u) (by simpa using hu) λ h' C sb=>?_
  have I1:Inv X y σ H { s with heap:=h' }:=I.turned (t':=s.toks) (λ b o hb e=>(sb.2 b hb).trans e) J Y f3 Z f5
  obtain⟨o,e,c,d⟩:=id C
  exact⟨u,rfl,bm8 (s:={ s with heap:=h' }) e c d (by decide) ⟨x,H,I1,ru,⟨rfl,λ ys hy=>by rw[I.tuple_inj hy hq];exact hx⟩,C,λ b hb=>(G b hb).1⟩⟩
 done:=by
  intro X hP hw hK hc i y s σ H E I G st hg
  subst hP hw hK
  obtain⟨xs,hq,hx⟩:=hg
  obtain⟨its,rv,p,hz⟩:=I.tuple hq
  obtain⟨J,Y,f2,f3,Z,f5⟩:=G it (by simp)
  have hl:=rv.length
  exact wpAny_pyNext_tuple_end (I.ok.hd hc) st (show s.heap.IsTuple a its.toArray from p) (by simp;omega) λ h' eb=>⟨rfl,I.turned (t':=s.toks) (λ b o hb e=>eb b o hb e) J Y f3 Z f5⟩
 self:=λ _ _ _ _ _ st h=>wpAny_pyIter_tupleiter st h
theorem aS8 {P:aO}{w:World}{K:ae}{tg:Expr}(it:Addr)(lo:Int)(n:Nat):Turn P w K tg (Itr lo n) [it] it (λ i h=>IsRangeIter h it (lo+(i:Nat)*1) ((n:Int) - (i:Nat)) 1) where
 mem:=by simp
 obj:=λ i h st b hb=>by
  have e:b=it:=by simpa using hb
  subst e
  exact⟨_,st,λ v z=>by
   have z':Data.fields _=Data.cell v:=z
   cases z'⟩
 keep:=λ i h h' st k=>k it (by simp) _ st
 item:=by
  intro X hP hw hK hc i y s σ H E I G st hg
  subst hP hw hK
  obtain⟨J,Y,f2,f3,Z,f5⟩:=G it (by simp)
  have W:=Walks.range (prog:=X.prog) (w:=X.w) (I.ok.hd hc) it lo 1 n
  refine W.item i s _ _ hg st λ v h' tk hv C kk=>?_
  obtain⟨t,rfl⟩:=hv
  have I1:Inv X y σ H { s with heap:=h',toks:=tk }:=I.turned (λ b o hb e=>kk b o (by simpa using hb) e) J Y f3 Z f5
  refine⟨_,rfl,bm8 (s:={ s with heap:=h',toks:=tk }) (n := "range_iterator") C rfl rfl (by decide) ⟨.int (lo+i),H,I1,⟨t,?_⟩,⟨rfl,rfl⟩,C,λ b hb=>(G b hb).1⟩⟩
  rw[Int.mul_one]
 done:=by
  intro X hP hw hK hc i y s σ H E I G st hg
  subst hP hw hK
  obtain⟨J,Y,f2,f3,Z,f5⟩:=G it (by simp)
  exact wpAny_pyNext_range_end (I.ok.hd hc) st (by have:n<=i:=hg;omega) λ h' eb=>⟨rfl,I.turned (t':=s.toks) (λ b o hb e=>eb b o hb e) J Y f3 Z f5⟩
 self:=λ _ _ _ _ _ st h=>wpAny_pyIter_rangeiter st h
section
variable {X:Cx} {tg:Expr}
def bC5 (K:ae)(tl:TE):TI:=λ σ H R=>tl σ H λ x H1=>∃ a,x=.ref a/\(∃ xs,SqL K H1 a xs)/\R (Itl K a) H1
def ca8 (K:ae)(tl:TE):TI:=λ σ H R=>tl σ H λ x H1=>∃ a,x=.ref a/\(∃ xs,SqT K H1 a xs)/\R (Itt K a) H1
theorem bD9 {l:Expr}{C:TE}(hl:PE X l C):PI X tg l (bC5 X.K C):=by
 intro y s σ H R I h
 refine thn (hl y s σ H _ I h) λ v s1 ⟨x,J,z,r1,G⟩=>?_
 obtain⟨a,e,⟨Z,hq⟩,q⟩:=G
 subst e
 cases r1
 obtain⟨its,Y,p,hz⟩:=z.list hq
 refine c5 p.isList ?_
 refine⟨s1.heap.objs.size,[s1.heap.objs.size],_,_,J,rfl,z.kept (t':=s1.toks) λ b o e=>af _ e,bd6 a _,⟨_,av _ rfl,rfl,rfl⟩,λ b hb=>?_,q⟩
 have e:b=s1.heap.objs.size:=by simpa using hb
 subst e
 exact z.fpOk (aj _) (z.hok.fresh (aj _))
theorem bM4 {l:Expr}{C:TE}(hl:PE X l C):PI X tg l (ca8 X.K C):=by
 intro y s σ H R I h
 refine thn (hl y s σ H _ I h) λ v s1 ⟨x,J,z,r1,G⟩=>?_
 obtain⟨a,e,⟨Z,hq⟩,q⟩:=G
 subst e
 cases r1
 obtain⟨its,Y,p,hz⟩:=z.tuple hq
 refine jH (show s1.heap.IsTuple a its.toArray from p) ?_
 refine⟨s1.heap.objs.size,[s1.heap.objs.size],_,_,J,rfl,z.kept (t':=s1.toks) λ b o e=>af _ e,aS3 a _,⟨_,av _ rfl,rfl,rfl⟩,λ b hb=>?_,q⟩
 have e:b=s1.heap.objs.size:=by simpa using hb
 subst e
 exact z.fpOk (aj _) (z.hok.fresh (aj _))
theorem bg3 {h:List (Addr×Obj)}{σ:St}{H:Hp}{s:ai}{R:It->Hp->Prop}{E:Value->ai->Prop}{lo hi:Int}{t u v:Tok}{tk:Nat}(I:Inv X h σ H s)(z:-(2^62)<=lo)(C:lo<2^62)(h3:-(2^62)<=hi)(G:hi<2^62)
  (q:R (Itr lo (hi - lo).toNat) H):wpAny (model X.prog X.w) X.A (jF (.ref s.heap.objs.size)) (PIE X h σ tg R) E { s with heap:=s.heap.push { cls:=.type "range",data:=.fields #[.int lo t,.int hi u,.int 1 v] },toks:=tk }:=by
 refine wpAny_pyIter_range (IsRange.new ..) (small_one z C h3 G) ?_
 have y:Inv X h σ H { s with heap:=s.heap.push { cls:=.type "range",data:=.fields #[.int lo t,.int hi u,.int 1 v] },toks:=tk }:=I.kept λ b o e=>af _ e
 refine⟨(s.heap.push { cls:=.type "range",data:=.fields #[.int lo t,.int hi u,.int 1 v] }).objs.size,[(s.heap.push { cls:=.type "range",data:=.fields #[.int lo t,.int hi u,.int 1 v] }).objs.size],_,_,H,rfl,
  y.kept (t':=tk) λ b o e=>af _ e,aS8 _ lo (hi - lo).toNat,?_,λ b hb=>?_,q⟩
 ·have e1:lo+((0:Nat):Int)*1=lo:=by simp
  have e2:(((hi - lo).toNat:Nat):Int) - ((0:Nat):Int)=lp lo hi 1:=by rw[rangeSize_one];split<;>omega
  show IsRangeIter _ _ (lo+((0:Nat):Int)*1) ((((hi - lo).toNat:Nat):Int) - ((0:Nat):Int)) 1
  rw[e1,e2]
  exact av _ rfl
 ·have e:b=(s.heap.push { cls:=.type "range",data:=.fields #[.int lo t,.int hi u,.int 1 v] }).objs.size:=by simpa using hb
  subst e
  exact y.fpOk (aj _) (y.hok.fresh (aj _))
def bF0 (ta:TA):TI:=λ σ H R=>ta σ H λ vs H1=>∃ j:Int,vs=[.int j]/\-(2^62)<=j/\j<2^62/\R (Itr 0 j.toNat) H1
theorem aZ8 {a:Expr}{C:TA}{p pos:Pos}(hg:Gl X "range")(J:X.mg "range"=none)(ha:PA X [a] C)(hs:bE [a] X.env=[(false,eval a X.env)]:=by rfl):PI X tg (.Call (.Name "range" p) [a] [] pos) (bF0 C):=by
 intro y s σ H R I h
 refine Call_ (au7 I hg J boot_range (dL (thn (ha pos y s σ H _ I h) λ us s1 ⟨vs,Y,G,r1,z⟩=>?_) hs rfl))
 obtain⟨j,e,z,q2,q⟩:=z
 subst e
 cases r1 with
 | cons r rr =>
  cases rr
  obtain⟨t,rfl⟩:=r
  exact call_range_1 (bg3 G (by omega) (by omega) z q2 (by simpa using q))
def cd8 (wi:TI)(g:TG)(tb:TS):TS:=λ D σ H=>wi σ H λ J H1=>∃ W:Nat->Nat->St->Hp->Prop,(∃ m,W 0 m σ H1)/\∀ i m σ H,W i m σ H ->
 (J.stop i H/\D.nx σ H)\/(J.go i H/\∃ N:St->Hp->Prop,(∀ σ' H',N σ' H'->∃ m',m'<m/\W (i+1) m' σ' H')/\∀ x H',J.yld i H x H'->g x σ H' λ σ2 H2=>tb { D with nx:=N,ct:=N,bk:=D.nx } σ2 H2)
noncomputable def aF1 (fp:List Addr)(h:Heap):List (Addr×Obj):=fp.filterMap λ b=>(h.get? b).map λ o=>(b,o)
theorem qG {y:List Addr}{h:Heap}{b:Addr}{o:Obj}(hb:b∈y)(e:h.get? b=some o):(b,o)∈aF1 y h:=cF.mpr ⟨b,hb,by rw[e];rfl⟩
theorem aT5 {y:List Addr}{h:Heap}{p:Addr×Obj}(hp:p∈aF1 y h):p.1∈y/\h.get? p.1=some p.2:=by
 obtain⟨b,hb,e⟩:=cF.mp hp
 cases q:h.get? b with
 | none=>rw[q]at e;cases e
 | some o =>
  rw[q]at e
  have e':(b,o)=p:=aA e
  subst e'
  exact⟨hb,q⟩
theorem Inv.pinned {h:List (Addr×Obj)}{σ:St}{H:Hp}{s:ai}{y:List Addr}(I:Inv X h σ H s)(Y:∀ b∈y,FpOk X h H b)(ho:∀ b∈y,∃ o,s.heap.get? b=some o/\∀ v,o.data≠.cell v):Inv X (h++aF1 y s.heap) σ H s :=
 I.pins_of λ p hp=>(aX.mp hp).elim (λ z=>I.pin p (aZ _ z)) λ z=>by
  obtain⟨hb,e⟩:=aT5 z
  obtain⟨G,J,C,_⟩:=Y p.1 hb
  obtain⟨o,e',d⟩:=ho p.1 hb
  rw[e]at e';cases e'
  exact⟨e,G,J,C,d⟩
theorem Inv.unpinned {h y:List (Addr×Obj)}{σ:St}{H:Hp}{s:ai}(I:Inv X (h++y) σ H s):Inv X h σ H s:=I.pins_of λ p hp=>I.pin p (aZ _ (bB _ hp))
theorem bR2 {iter:Expr}{body:List Stmt}{wi:TI}{g:TG}{tb:TS}{pos:Pos}(hp:PassesOwn (model X.prog X.w) X.A X.env X.xe)(hc:X.calm=true)(hi:PI X tg iter wi)(hg:PG X tg g)(hb:PSs X body tb)
  (hs:∀ x,dM iter X.env x=pure x:=by intro _;rfl):PS X (.For tg iter body [] pos) (cd8 wi g tb):=by
 intro y s σ H D I h
 refine wpAny_For (thn (hi y s σ H _ I h) λ v s1 h1=>thn h1 λ a7 s2 h2=>?_) hs
 obtain⟨it,fp,tn,J,H2,e,I2,T,a6,f2,W,⟨m0,w0⟩,turn⟩:=h2
 subst e
 have Y:∀ {H':Hp},(∀ b∈fp,H' b=none)->∀ b∈fp,FpOk X y H' b:=λ hn b hb=>⟨hn b hb,(f2 b hb).2⟩
 refine codeAny_forLoop_any (λ n s'=>∃ i σ' H',Inv X y σ' H' s'/\tn i s'.heap/\(∀ b∈fp,H' b=none)/\W i n σ' H') ?_ m0 ⟨0,σ,H2,I2,a6,λ b hb=>(f2 b hb).1,w0⟩
 rintro n s3 ⟨i,σ3,H3,I3,a3,a2,w3⟩
 rcases turn i n σ3 H3 w3 with⟨stop,qn⟩|⟨go,N,hN,step⟩
 ·refine cZ hp (thn (T.done X rfl rfl rfl hc i y s3 σ3 H3 X.xe I3 (Y a2) a3 stop) λ r s4 ⟨hr,I4⟩=>?_)
  subst hr
  exact iC ⟨σ3,H3,I4,qn⟩
 ·refine cZ hp (thn (T.item X rfl rfl rfl hc i y s3 σ3 H3 X.xe I3 (Y a2) a3 go) λ r s4 ⟨u,hr,h4⟩=>?_)
  subst hr
  refine cZ hp (thn h4 λ _ s5 ⟨x,H5,I5,r5,y5,a1,a5⟩=>?_)
  have a4:=I5.pinned (Y a5) (T.obj _ _ a1)
  refine cZ hp (thn (hg _ s5 σ3 H5 x u _ a4 r5 (step x H5 y5)) λ _ s6 ⟨σ6,H6,I6,q6⟩=>?_)
  refine cZ hp (thn (hb _ s6 σ6 H6 _ I6 q6) λ f s7 Z=>?_)
  have C:∀ {σ7:St} {G:Hp},Inv X (y++aF1 fp s5.heap) σ7 G s7->N σ7 G->∃ m,m<n/\∃ i σ' H',Inv X y σ' H' s7/\tn i s7.heap/\(∀ b∈fp,H' b=none)/\W i m σ' H':=λ {σ7 G} z n7=>by
   obtain⟨m',hm,w7⟩:=hN σ7 G n7
   refine⟨m',hm,i+1,σ7,G,z.unpinned,T.keep _ _ _ a1 λ b hb o e=>(z.pin (b,o) (aZ _ (aZ _ (qG hb e)))).1,λ b hb=>?_,w7⟩
   obtain⟨o,e,d⟩:=T.obj _ _ a1 b hb
   exact(z.pin (b,o) (aZ _ (aZ _ (qG hb e)))).2.1
  cases f with
  | next=>obtain⟨σ7,G,z,n7⟩:=Z;exact C z n7
  | cont=>obtain⟨σ7,G,z,n7⟩:=Z;exact C z n7
  | brk=>obtain⟨σ7,G,z,Z⟩:=Z;exact⟨σ7,G,z.unpinned,Z⟩
  | ret v=>obtain⟨x7,σ7,G,z,r7,Z⟩:=Z;exact⟨x7,σ7,G,z.unpinned,r7,Z⟩
end
abbrev R2:=V->V->Hp->VK->Prop
def OpR (X:Cx)(f:Value->Value->Sem Value)(r:R2):Prop :=
 ∀(pins:List (Addr×Obj)) (s:ai) (σ:St) (H:Hp) (x y:V) (v u:Value) (Q:VK),Inv X pins σ H s->RelV x v->RelV y u->r x y H Q ->
  wpAny (model X.prog X.w) X.A (f v u) (EP X pins σ Q) X.xe s
def UnR (X:Cx)(f:Value->Sem Value)(r:V->Hp->VK->Prop):Prop :=
 ∀(pins:List (Addr×Obj)) (s:ai) (σ:St) (H:Hp) (x:V) (v:Value) (Q:VK),Inv X pins σ H s->RelV x v->r x H Q ->
  wpAny (model X.prog X.w) X.A (f v) (EP X pins σ Q) X.xe s
def ah8 (X:Cx)(f:Value)(r:List V->Hp->VK->Prop):Prop :=
 ∀(pins:List (Addr×Obj)) (s:ai) (σ:St) (H:Hp) (xs:List V) (us:List Value) (Q:VK),Inv X pins σ H s->Vals xs us->r xs H Q ->
  wpAny (model X.prog X.w) X.A (call f us) (EP X pins σ Q) X.xe s
def tOp (r:R2)(ta tb:TE):TE:=λ σ H Q=>ta σ H λ x H1=>tb σ H1 λ y H2=>r x y H2 Q
def tUn (r:V->Hp->VK->Prop)(ta:TE):TE:=λ σ H Q=>ta σ H λ x H1=>r x H1 Q
def rI (C:Int->Int->Prop)(g:Int->Int->V):R2:=λ x y H Q=>∃ i j,x=.int i/\y=.int j/\C i j/\Q (g i j) H
def rI0 (g:Int->Int->V):R2:=λ x y H Q=>∃ i j,x=.int i/\y=.int j/\Q (g i j) H
def rU (g:Int->V):V->Hp->VK->Prop:=λ x H Q=>∃ i,x=.int i/\Q (g i) H
section
variable {X:Cx} {a b c:Expr} {ta tb tc:TE} {pos:Pos}
theorem bV7 (ha:PE X a ta)(hb:PE X b tb){z:List (Addr×Obj)}{s:ai}{σ:St}{H:Hp}{R:V->V->Hp->Prop}(I:Inv X z σ H s)
  (h:ta σ H λ x G=>tb σ G λ y C=>R x y C) {Q:Value->ai->Prop} {f:Value->Value->Sem Value}
  (hf:∀ v u s2 x y C,Inv X z σ C s2->RelV x v->RelV y u->R x y C->wpAny (model X.prog X.w) X.A (f v u) Q X.xe s2) :
  wpAny (model X.prog X.w) X.A (eval a X.env) (λ v Y=>wpAny (model X.prog X.w) X.A (eval b X.env) (λ u J=>wpAny (model X.prog X.w) X.A (f v u) Q X.xe J) X.xe Y) X.xe s:=by
 refine thn (ha z s σ H _ I h) λ v s1 ⟨x,G,I1,r1,q1⟩=>?_
 refine thn (hb z s1 σ G _ I1 q1) λ u s2 ⟨y,C,Z,r2,q2⟩=>?_
 exact hf v u s2 x y C Z r1 r2 q2
theorem bR8 {op:Operator}{r:R2}(ho:OpR X (cC op) r)(ha:PE X a ta)(hb:PE X b tb):PE X (.BinOp a op b pos) (tOp r ta tb):=by
 intro z s σ H Q I h
 exact wpAny_BinOp (bV7 ha hb I h λ v u s2 x y C G J Y q=>ho z s2 σ C x y v u Q G J Y q)
theorem bJ3 {op:UnaryOp}{r:V->Hp->VK->Prop}(ho:UnR X (unaryOp op) r)(ha:PE X a ta):PE X (.UnaryOp op a pos) (tUn r ta):=by
 intro y s σ H Q I h
 exact UnaryOp_ (thn (ha y s σ H _ I h) λ v s1 ⟨x,G,z,r1,C⟩=>ho y s1 σ G x v Q z r1 C)
theorem opI {f:Value->Value->Sem Value}{C:Int->Int->Prop}{g:Int->Int->Int}
  (rule:∀(i j:Int) (t u:Tok) (s:ai) (Q:Value->ai->Prop) (E:Value->ai->Prop),C i j->Q (.int (g i j) s.toks) { s with toks:=s.toks+1 }->wpAny (model X.prog X.w) X.A (f (.int i t) (.int j u)) Q E s) :
  OpR X f (rI C λ i j=>.int (g i j)):=by
 intro z s σ H x y v u Q I J G h
 obtain⟨i,j,rfl,rfl,hc,q⟩:=h
 obtain⟨t,rfl⟩:=J
 obtain⟨t',rfl⟩:=G
 exact rule i j t t' s _ _ hc ⟨.int (g i j),H,I.tok _,⟨_,rfl⟩,q⟩
theorem cd9 {f:Value->Value->Sem Value}{g:Int->Int->Int}
  (rule:∀(i j:Int) (t u:Tok) (s:ai) (Q:Value->ai->Prop) (E:Value->ai->Prop),Q (.int (g i j) s.toks) { s with toks:=s.toks+1 }->wpAny (model X.prog X.w) X.A (f (.int i t) (.int j u)) Q E s) :
  OpR X f (rI0 λ i j=>.int (g i j)):=by
 intro z s σ H x y v u Q I C G h
 obtain⟨i,j,rfl,rfl,q⟩:=h
 obtain⟨t,rfl⟩:=C
 obtain⟨t',rfl⟩:=G
 exact rule i j t t' s _ _ ⟨.int (g i j),H,I.tok _,⟨_,rfl⟩,q⟩
theorem bT6 {f:Value->Value->Sem Value}{g:Int->Int->Bool}
  (rule:∀(i j:Int) (t u:Tok) (s:ai) (Q:Value->ai->Prop) (E:Value->ai->Prop),Q (.bool (g i j)) s->wpAny (model X.prog X.w) X.A (f (.int i t) (.int j u)) Q E s) :
  OpR X f (rI0 λ i j=>.bl (g i j)):=by
 intro z s σ H x y v u Q I C G h
 obtain⟨i,j,rfl,rfl,q⟩:=h
 obtain⟨t,rfl⟩:=C
 obtain⟨t',rfl⟩:=G
 exact rule i j t t' s _ _ ⟨.bl (g i j),H,I,rfl,q⟩
def cd4 (i j:Int):Prop:=0<=j/\j<=1000000/\i.natAbs<2^64
def bT9 (i j:Int):Prop:=(-(2^64)<i/\i<2^64)\/(-(2^64)<j/\j<2^64)
theorem bT9.ok {i j:Int}(h:bT9 i j):IntMulOk i j:=by
 rcases h with⟨y,z⟩|⟨y,z⟩
 ·exact .of_left (intBits_le_64 y z)
 ·exact .of_right (intBits_le_64 y z)
theorem aS0 (k:Nat):(0:Int)<=2^k:=by
 rw[two_pow_cast]
 exact Int.natCast_nonneg _
theorem bM2:OpR X (cC .Add) (rI0 λ i j=>.int (i+j)):=cd9 λ _ _ _ _ _ _ _ q=>add_int q
theorem bQ7:OpR X (cC .Sub) (rI0 λ i j=>.int (i - j)):=cd9 λ _ _ _ _ _ _ _ q=>sub_int q
theorem bF4:OpR X (cC .Mod) (rI (λ _ j=>0<j) λ i j=>.int (i % j)):=opI λ i j _ _ _ _ _ hc q=>by
 have h:(0:Int)<j:=hc
 exact mod_int' (by omega) (by rw[Int.fmod_eq_emod_of_nonneg i (by omega)];exact q)
theorem bM6:OpR X (cC .Pow) (rI cd4 λ i j=>.int (i^j.toNat)):=opI λ _ _ _ _ _ _ _ hc q=>pow_int_small hc.1 hc.2.1 hc.2.2 q
theorem bK7:OpR X (cC .LShift) (rI cd4 λ i j=>.int (i*2^j.toNat)):=opI λ _ _ _ _ _ _ _ hc q=>lshift_int_small hc.1 hc.2.1 hc.2.2 q
theorem bN9:OpR X (cC .RShift) (rI (λ _ j=>0<=j) λ i j=>.int (i / 2^j.toNat)):=opI λ i j _ _ _ _ _ hc q =>
 rshift_int hc (by rw[fT i (aS0 _)];exact q)
theorem unI {f:Value->Sem Value}{g:Int->Int}
  (rule:∀(i:Int) (t:Tok) (s:ai) (Q:Value->ai->Prop) (E:Value->ai->Prop),Q (.int (g i) s.toks) { s with toks:=s.toks+1 }->wpAny (model X.prog X.w) X.A (f (.int i t)) Q E s) :
  UnR X f (rU λ i=>.int (g i)):=by
 intro y s σ H x v Q I z h
 obtain⟨i,rfl,q⟩:=h
 obtain⟨t,rfl⟩:=z
 exact rule i t s _ _ ⟨.int (g i),H,I.tok _,⟨_,rfl⟩,q⟩
theorem bn6:UnR X (unaryOp .USub) (rU λ i=>.int (-i)):=unI λ _ _ _ _ _ q=>neg_int q
end
section
variable {X:Cx} {a b c:Expr} {ta tb tc:TE} {pos:Pos}
theorem ca4:OpR X (cK .Lt) (rI0 λ i j=>.bl (decide (i<j))):=bT6 λ _ _ _ _ _ _ _ q=>lt_int q
theorem ca3:OpR X (cK .LtE) (rI0 λ i j=>.bl (decide (i<=j))):=bT6 λ _ _ _ _ _ _ _ q=>le_int q
theorem bX2:OpR X (cK .Gt) (rI0 λ i j=>.bl (decide (j<i))):=bT6 λ _ _ _ _ _ _ _ q=>gt_int q
theorem bW2:OpR X (cK .GtE) (rI0 λ i j=>.bl (decide (j<=i))):=bT6 λ _ _ _ _ _ _ _ q=>ge_int q
theorem bw9 {op:CmpOp}{r:R2}(ho:OpR X (cK op) r)(ha:PE X a ta)(hb:PE X b tb)(G:c8 op b=false):PE X (.Compare a [op] [b] pos) (tOp r ta tb):=by
 intro z s σ H Q I h
 exact wpAny_Compare1 (bV7 ha hb I h λ v u s2 x y C J Y Z q=>ho z s2 σ C x y v u Q J Y Z q) G
def bw8 (t:TE):TT:=λ σ H Q=>t σ H λ x H'=>∃ k,x=.bl k/\Q k H'
theorem bE0 {op:CmpOp}{r:R2}(ho:OpR X (cK op) r)(ha:PE X a ta)(hb:PE X b tb)(hm:c8 op b=false):PT X (.Compare a [op] [b] pos) (bw8 (tOp r ta tb)):=by
 intro C s σ H Q I h
 refine iL (thn (ha C s σ H _ I h) λ v s1 ⟨x,H1,Y,r1,J⟩=>thn (hb C s1 σ H1 _ Y J) λ u s2 ⟨y,Z,G,r2,q2⟩ =>
  thn (ho C s2 σ Z x y v u _ G r1 r2 q2) λ c s3 ⟨z,H3,I3,r3,k,e,q3⟩=>?_) hm
 subst e
 cases r3
 exact bO ⟨H3,I3,q3⟩
def bc2 (r r':R2)(ta tb tc:TE):TE:=λ σ H Q=>ta σ H λ x H1=>tb σ H1 λ y H2=>r x y H2 λ z H3=>∃ k,z=.bl k /\
 (if k=true then tc σ H3 λ w' H4=>r' y w' H4 Q else Q (.bl false) H3)
theorem bg7 {op G:CmpOp}{r Y:R2}(ho:OpR X (cK op) r)(J:OpR X (cK G) Y)(ha:PE X a ta)(hb:PE X b tb)(hc:PE X c tc)
  (hm:lq [op,G] [b,c]=false:=by with_unfolding_all rfl):PE X (.Compare a [op,G] [b,c] pos) (bc2 r Y ta tb tc):=by
 intro C s σ H Q I h
 refine Compare_chain (thn (ha C s σ H _ I h) λ v s1 ⟨x,H1,I1,r1,q1⟩=>chain_link (thn (hb C s1 σ H1 _ I1 q1) λ u s2 ⟨y,H2,I2,r2,q2⟩ =>
  thn (ho C s2 σ H2 x y v u _ I2 r1 r2 q2) λ d s3 ⟨z,H3,Z,r3,k,e,q3⟩=>?_)) hm
 subst e
 cases r3
 refine bO ?_
 cases k with
 | false=>exact ite_ff ⟨.bl false,H3,Z,rfl,q3⟩
 | true=>exact ite_tt (chain_last (thn (hc C s3 σ H3 _ Z q3) λ w' s4 ⟨z',H4,I4,r4,q4⟩=>J C s4 σ H4 y z' u w' Q I4 r2 r4 q4))
theorem bj0 {op G:CmpOp}{r Y:R2}(ho:OpR X (cK op) r)(J:OpR X (cK G) Y)(ha:PE X a ta)(hb:PE X b tb)(hc:PE X c tc)
  (hm:lq [op,G] [b,c]=false:=by with_unfolding_all rfl):PT X (.Compare a [op,G] [b,c] pos) (bw8 (bc2 r Y ta tb tc)):=by
 intro C s σ H Q I h
 refine isTrue_chain (thn (ha C s σ H _ I h) λ v s1 ⟨x,H1,I1,r1,q1⟩=>test_link (thn (hb C s1 σ H1 _ I1 q1) λ u s2 ⟨y,H2,I2,r2,q2⟩ =>
  thn (ho C s2 σ H2 x y v u _ I2 r1 r2 q2) λ d s3 ⟨z,H3,Z,r3,k,e,q3⟩=>?_)) hm
 subst e
 cases r3
 refine bO ?_
 cases k with
 | false =>
  obtain⟨k',e',q'⟩:=q3
  cases e'
  exact ite_ff ⟨H3,Z,q'⟩
 | true =>
  refine ite_tt (test_last (thn (hc C s3 σ H3 _ Z q3) λ w' s4 ⟨z',H4,I4,r4,q4⟩=>thn (J C s4 σ H4 y z' u w' _ I4 r2 r4 q4) λ d' s5 ⟨z2,H5,I5,r5,k2,e2,q5⟩=>?_))
  subst e2
  cases r5
  exact bO ⟨H5,I5,q5⟩
theorem ar6:(aI:Nat)<2^63:=by rw[c6];decide
theorem aQ6:OpR X (cC .Add) (λ x y H Q=>∃ i j,x=.str i/\y=.str j/\i.length+j.length<=aI/\Q (.str (i++j)) H):=by
 intro z s σ H x y v u Q I C G h
 obtain⟨i,j,rfl,rfl,hz,q⟩:=h
 obtain⟨t,rfl⟩:=C
 obtain⟨t',rfl⟩:=G
 exact add_str (λ t' tk=>⟨.str (i++j),H,I.tok _,⟨_,rfl⟩,q⟩) hz
theorem am1 {x:V}{us:List Value}(r:Vals [x] us):∃ u,us=[u]/\RelV x u:=by
 cases r with
 | cons r1 r2=>cases r2;exact⟨_,rfl,r1⟩
theorem bu8 {x y:V}{us:List Value}(r:Vals [x,y] us):∃ u w',us=[u,w']/\RelV x u/\RelV y w':=by
 cases r with
 | cons r1 r2 =>
  cases r2 with
  | cons r3 r4=>cases r4;exact⟨_,_,rfl,r1,r3⟩
theorem bg1:ah8 X (.builtin "abs") (λ y H Q=>∃ i,y=[.int i]/\Q (.int (if i<0 then -i else i)) H):=by
 intro z s σ H y us Q I r h
 obtain⟨i,rfl,q⟩:=h
 obtain⟨u,rfl,t,rfl⟩:=am1 r
 exact call_abs_int λ u tk=>⟨.int (if i<0 then -i else i),H,I.tok _,⟨_,rfl⟩,q⟩
theorem aY2 (hc:X.calm=true):ah8 X (.builtin "max") (λ y H Q=>∃ i j,y=[.int i,.int j]/\Q (.int (if j > i then j else i)) H):=by
 intro z s σ H y us Q I r h
 obtain⟨i,j,rfl,q⟩:=h
 obtain⟨u,w',rfl,⟨t,rfl⟩,⟨t',rfl⟩⟩:=bu8 r
 refine max_two_ints (I.ok.hd hc) λ h' tk k=>⟨_,H,I.kept k,?_,q⟩
 by_cases hj:j > i
 ·rw[if_pos hj,if_pos hj];exact⟨_,rfl⟩
 ·rw[if_neg hj,if_neg hj];exact⟨_,rfl⟩
theorem bb2 (hc:X.calm=true):ah8 X (.builtin "min") (λ y H Q=>∃ i j,y=[.int i,.int j]/\Q (.int (if j<i then j else i)) H):=by
 intro z s σ H y us Q I r h
 obtain⟨i,j,rfl,q⟩:=h
 obtain⟨u,w',rfl,⟨t,rfl⟩,⟨t',rfl⟩⟩:=bu8 r
 refine min_two_ints (I.ok.hd hc) λ h' tk k=>⟨_,H,I.kept k,?_,q⟩
 by_cases hj:j<i
 ·rw[if_pos hj,if_pos hj];exact⟨_,rfl⟩
 ·rw[if_neg hj,if_neg hj];exact⟨_,rfl⟩
theorem ba6:ah8 X (.type "int") (λ y H Q=>(∃ i,y=[.int i]/\Q (.int i) H)\/∃ k,y=[.bl k]/\Q (.int (if k then 1 else 0)) H):=by
 intro z s σ H y us Q I r h
 rcases h with⟨i,rfl,q⟩|⟨k,rfl,q⟩
 ·obtain⟨u,rfl,t,rfl⟩:=am1 r
  exact call_int_int ⟨.int i,H,I,⟨_,rfl⟩,q⟩
 ·obtain⟨u,rfl,r1⟩:=am1 r
  cases r1
  exact call_int_bool ⟨.int (if k then 1 else 0),H,I.tok _,⟨_,rfl⟩,q⟩
end
structure ObjM (h:Heap)(x dx C:Addr)(mA:Str->Option Value):Prop where
 obj:h.get? x=some (iA C dx)
 ns:h.Ns1 dx mA
 ne:dx≠x
theorem ba8 {h:Heap}{J:Addr}{G:Str->Option Value}(n:h.Ns1 J G):∃ od,h.get? J=some od/\∀ name,iX name od=some (G name):=by
 obtain⟨o,es,ep,ho,hd,hk,_,Z⟩:=n
 refine⟨o,ho,λ name=>?_⟩
 have e:=Z name
 unfold nsFind findBy at e
 rw[<-Array.find?_toList]at e
 unfold iX
 rw[hd]
 dsimp only
 split
 ·rename_i y q
  rw[q]at e
  exact congrArg some e
 ·rename_i q
  rw[q]at e
  have a:es.toList.any (·.refKey)=false:=by
   rw[List.any_eq_false]
   intro y hy
   obtain⟨z,t,C⟩:=hk y (Array.mem_toList_iff.mp hy)
   simp[DictEntry.refKey,C]
  have Y:¬ es.toList.any (·.refKey)=true:=by rw[a];exact aS
  rw[if_neg Y]
  exact congrArg some e
theorem ObjM.look {h:Heap}{x z C:Addr}{y:Str->Option Value}(I:ObjM h x z C y):∃ od,PySem.W.InstAt h x (iA C z) C (some od)/\∀ name,iX name od=some (y name) :=
 let⟨od,ho,hl⟩:=ba8 I.ns
 ⟨od,⟨I.obj,rfl,rfl,ho⟩,hl⟩
section
variable {prog:aO} {w:World} {A:a0} {E:Value->ai->Prop} {s:ai} {K:ae} {x dx C f:Addr} {mA:Str->Option Value} {name:Str} {v:Value}
end
theorem aR4.some_of {v:V}{o:Option Value}(r:aR4 (some v) o):∃ u,o=some u/\RelV v u:=by
 cases o with
 | none=>exact(show False from r).elim
 | some u=>exact⟨u,rfl,r⟩
section
variable {P:aO} {w:World} {H H':Hp} {h h':Heap} {a C dx:Addr} {fs fs':List (Str×V)}
theorem bt1 (hok:HOk P w H h)(e:H a=some (.ins C dx fs)):∃ y,ObjM h a dx C y/\(∀ f,aR4 (fs.lookup f) (y f))/\lx y (fs.map (·.1))/\fs.length<=1000/\H dx=some (.own a):=by
 obtain⟨d,z,ne,ob,y,n,r,q⟩:=(show ag7 P w H h a (.ins C dx fs)from hok a _ e)
 exact⟨y,⟨ob,n,ne⟩,r,q,z,d⟩
end
structure Cls (K:ae)(C:Addr):Prop where
 pg:km K C Str.empty=true
 hd:PySem.W.hasDictIn K C=true
 po:PySem.W.plainOver K C=true
 sa:iY K (.ref C) "__setattr__"=some (some (.builtin "object.__setattr__"))
theorem Cls.get {K:ae}{C:Addr}(c:Cls K C)(f:Str):km K C f=true:=c.pg
section
variable {X:Cx} {pins:List (Addr×Obj)} {σ:St} {H:Hp} {s:ai} {a C dx:Addr} {fs:List (Str×V)} {f:Str} {v:V} {A:a0} {E:Value->ai->Prop}
end
section
variable {X:Cx} {o e value:Expr} {f:Str} {pos pos' tpos:Pos} {ta tv:TE}
end
section
variable {X:Cx} {pins:List (Addr×Obj)} {σ:St} {H:Hp} {s:ai} {A:a0} {E:Value->ai->Prop} {Q:Value->ai->Prop} {c:Value} {b:Bool}
inductive TyOf (K:ae)(H:Hp):V->Value->Prop where
 | non:TyOf K H .non (.type "NoneType")
 | bl (x:Bool):TyOf K H (.bl x) (.type "bool")
 | int (i:Int):TyOf K H (.int i) (.type "int")
 | str (x:Str):TyOf K H (.str x) (.type "str")
 | flt (x:UInt64):TyOf K H (.flt x) (.type "float")
 | lst {a:Addr} {xs:List V} (e:H a=some (.lst xs)):TyOf K H (.ref a) (.type "list")
 | frz {a:Addr} {o:Obj} {xs:List V} (e:H a=some (.frz o (.lst xs))):TyOf K H (.ref a) (.type "list")
 | tup {a:Addr} {xs:List V} (e:H a=some (.tup xs)):TyOf K H (.ref a) (.type "tuple")
 | dK {a:Addr} {kvs:List (Key×V)} (e:H a=some (.dK kvs)):TyOf K H (.ref a) (.type "dict")
 | dT {a:Addr} {kvs:List (List Key×V)} (e:H a=some (.dT kvs)):TyOf K H (.ref a) (.type "dict")
 | ins {a C dx:Addr} {fs:List (Str×V)} (e:H a=some (.ins C dx fs)) (cl:Cls K C) (ha:iY K (.ref C) "__class__"=some (some (.builtin "object.__class__")))
   (hn:PySem.W.specialIn K (.builtin "object.__class__") "__get__"=some (some (.builtin "getset_descriptor.__get__"))) (htk:PySem.W.takesIn K (.builtin "object.__class__")=some true)
   (hm:PySem.W.mroIn K C (.type "object")=some true):TyOf K H (.ref a) (.ref C)
theorem qD {x:V}{u t:Value}(I:Inv X pins σ H s)(G:RelV x u)(ty:TyOf X.K H x t)(e:cS X.K t c=some b)(h:∀ tk,Q (.bool b) { s with toks:=tk }) :
  wpAny (model X.prog X.w) A (call (.builtin "isinstance") [u,c]) Q E s:=by
 cases ty with
 | non=>cases(show u=Value.none from G);exact b9 PySem.W.kitx_none I.kIn True.intro e (λ z=>nomatch z) h
 | bl y=>cases(show u=Value.bool y from G);exact b9 PySem.W.kitx_bool I.kIn True.intro e (λ z=>nomatch z) h
 | int i=>obtain⟨t,q⟩:=(show ∃ t,u=Value.int i t from G);cases q;exact b9 PySem.W.kitx_int I.kIn True.intro e (λ z=>nomatch z) h
 | str y=>obtain⟨t,q⟩:=(show ∃ t,u=Value.str y t from G);cases q;exact b9 PySem.W.kitx_str I.kIn True.intro e (λ z=>nomatch z) h
 | flt y=>obtain⟨t,q⟩:=(show ∃ t,u=Value.float y t from G);cases q;exact b9 PySem.W.kitx_float I.kIn True.intro e (λ z=>nomatch z) h
 | @lst a Z ea =>
  cases(show u=Value.ref a from G)
  obtain⟨_,_,n,_,Y⟩:=(show ag7 X.prog X.w H s.heap a (.lst Z)from I.hok a _ ea)
  exact b9 jX I.kIn ⟨_,Y,rfl⟩ e (λ z=>nomatch z) h
 | @frz a ob Z ea =>
  cases(show u=Value.ref a from G)
  obtain⟨_,_,_,n,_,Y⟩:=(show ag7 X.prog X.w H s.heap a (.frz ob (.lst Z))from I.hok a _ ea)
  exact b9 jX I.kIn ⟨_,Y,rfl⟩ e (λ z=>nomatch z) h
 | @tup a Z ea =>
  cases(show u=Value.ref a from G)
  obtain⟨_,_,_,p⟩:=(show ag7 X.prog X.w H s.heap a (.tup Z)from I.hok a _ ea)
  obtain⟨o,Y,h2,_⟩:=p
  exact b9 jI I.kIn ⟨o,Y,h2⟩ e (λ z=>nomatch z) h
 | @dK a kvs ea =>
  cases(show u=Value.ref a from G)
  obtain⟨_,_,vs,_,p⟩:=(show ag7 X.prog X.w H s.heap a (.dK kvs)from I.hok a _ ea)
  obtain⟨o,es,ep,Y,h2,_⟩:=p
  exact b9 jY I.kIn ⟨o,Y,h2.1⟩ e (λ z=>nomatch z) h
 | @dT a kvs ea =>
  cases(show u=Value.ref a from G)
  obtain⟨_,_,Z,_,o,es,ep,Y,h2,_⟩:=(show ag7 X.prog X.w H s.heap a (.dT kvs)from I.hok a _ ea)
  exact b9 jY I.kIn ⟨o,Y,h2.1⟩ e (λ z=>nomatch z) h
 | @ins a C dx fs ea cl ha hn htk hm =>
  cases(show u=Value.ref a from G)
  obtain⟨mA,O,_⟩:=bt1 I.hok ea
  obtain⟨od,J,_⟩:=O.look
  exact b9 (PySem.W.kitx_own (cl.get _) cl.hd ha hn htk hm) I.kIn J e (λ z=>nomatch z) h
end
structure Room (k:Nat)(A:a0):Prop where
 hd:A.handled=none
 dp:A.depth+3*k+5<recursionLimit
 un:A.units+16*k+200<cLine
theorem Room.mono {j k:Nat}{A:a0}(r:Room k A)(h:j<=k):Room j A:=⟨r.hd,by have:=r.dp;omega,by have:=r.un;omega⟩
theorem Room.deeper {k:Nat}{A:a0}(r:Room (k+1) A)(env:Env):Room k (A.deeper env) :=
 ⟨r.hd,by have:=r.dp;show A.depth+1+3*k+5<_;omega,by have:=r.un;show A.units+3+16*k+200<_;omega⟩
theorem Room.in1 {k:Nat}{A:a0}(r:Room (k+1) A):Room k A.in1 :=
 ⟨r.hd,by have:=r.dp;show A.depth+3*k+5<_;omega,by have:=r.un;show A.units+1+16*k+200<_;omega⟩
theorem Room.depth {k:Nat}{A:a0}(r:Room k A):A.depth<recursionLimit:=by have:=r.dp;omega
theorem Room.units {k:Nat}{A:a0}(r:Room k A):A.units+64<cLine:=by have:=r.un;omega
theorem Room.units0 {k:Nat}{A:a0}(r:Room k A):A.units<cLine:=by have:=r.un;omega
def be3:TA:=λ _ H Q=>Q [] H
def at4 (ta:TE)(tr:TA):TA:=λ σ H Q=>ta σ H λ x H1=>tr σ H1 λ xs H2=>Q (x::xs) H2
section
variable {X:Cx} {e:Expr} {es:List Expr} {te:TE} {t:TA} {pos:Pos}
theorem aj3:PA X [] be3:=λ _ _ _ _ H Q I h=>jZ ⟨[],H,I,.nil,h⟩
theorem zO (ha:PE X e te)(hr:PA X es t)(hs:bE (e::es) X.env=(false,eval e X.env)::bE es X.env:=by rfl):PA X (e::es) (at4 te t):=by
 intro pos y s σ H Q I h
 rw[hs]
 show wpAny _ _ (spliced ((false,eval e X.env)::eJ pos (bE es X.env))) _ _ s
 refine fU (thn (ha y s σ H _ I h) λ u s1 ⟨x,H1,C,r1,Y⟩=>?_)
 exact thn (hr pos y s1 σ H1 _ C Y) λ us s2 ⟨J,z,G,Z,q2⟩=>⟨x::J,z,G,.cons r1 Z,q2⟩
def cb0 (t:TA):TE:=λ σ H Q=>t σ H λ xs H1=>xs.length<=aI/\∀ p,H1 p=none->Q (.ref p) (upd H1 p (.tup xs))
def cg3 (t:TA):TE:=λ σ H Q=>t σ H λ xs H1=>xs.length<=aI/\∀ p,H1 p=none->Q (.ref p) (upd H1 p (.lst xs))
theorem br6 {x1}(h:PA X es t):PE X (.Tuple es x1 pos) (cb0 t):=by
 intro y s σ H Q I hq
 refine wpAny_Tuple_spliced (thn (h pos y s σ H _ I hq) λ us s1 ⟨J,G,C,r,z,q⟩=>⟨by rw[<-r.length];exact z,?_⟩)
 have Y:G s1.heap.objs.size=none:=C.hok.fresh (aj _)
 refine⟨.ref s1.heap.objs.size,upd G s1.heap.objs.size (.tup J),C.laid (t':=s1.toks) (λ b u e=>af _ e) (aj _) ?_,rfl,q _ Y⟩
 exact⟨z,us,r,⟨_,av _ rfl,rfl,_,rfl⟩⟩
theorem bo8 (h:PA X es t):PE X (.List es pos) (cg3 t):=by
 intro y s σ H Q I hq
 refine wpAny_List_spliced (thn (h pos y s σ H _ I hq) λ us s1 ⟨J,G,C,r,z,q⟩=>⟨by rw[<-r.length];exact z,?_⟩)
 have Y:G s1.heap.objs.size=none:=C.hok.fresh (aj _)
 refine⟨.ref s1.heap.objs.size,upd G s1.heap.objs.size (.lst J),C.laid (t':=s1.toks) (λ b u e=>af _ e) (aj _) ?_,rfl,q _ Y⟩
 exact⟨z,us,0,r,av _ rfl⟩
end
abbrev Sp:=List V->Hp->VK->XK->Prop
abbrev CXT:=List Env->Hp->ai->XK->Value->ai->Prop
structure Env0 (P:aO)(w:World)(K:ae)(mg:Str->Option Value)(base:Heap)(A:a0)(outer:List Env)(s:ai)(H:Hp):Prop where
 frames:A.frames=some outer
 mod:Mod K mg base
 bs:∀ b o,base.get? b=some o->s.heap.get? b=some o/\H b=none
 bsz:base.objs.size<=s.heap.objs.size
 funs:s.heap.FunFrames base outer
 frf:∀ b∈frs outer,H b=none
 hok:HOk P w H s.heap
 bare:gh s.gens
def CE (outer:List Env)(P:aO)(w:World)(H:Hp)(s:ai)(Q:VK)(u:Value)(s':ai):Prop :=
 ∃ v H',s'.os=s.os/\gh s'.gens/\Un (frs outer) [] H H' s.heap s'.heap/\HOk P w H' s'.heap/\RelV v u/\Q v H'
def CR (CX:CXT)(outer:List Env)(P:aO)(w:World)(H:Hp)(s:ai)(Q:VK)(E:XK)(r:ly)(s':ai):Prop :=
 match r with
 | .ok (.ret u)=>CE outer P w H s Q u s'
 | .ok _=>False
 | .error e=>CX outer H s E e s'
structure FnOk (P:aO)(w:World)(K:ae)(mg:Str->Option Value)(base:Heap)(CX:CXT)(k:Nat)(f:Addr)(fd:cy)(ps:List Str)(sp:Sp):Prop where
 len:∀ vs H Q E,sp vs H Q E->vs.length=ps.length
 run:∀(A:a0) (outer:List Env) (s:ai) (H:Hp) (args:Args) (us:List Value) (vs:List V) (Q:VK) (E:XK),Room k A->Env0 P w K mg base A outer s H->kO s fd args (ps.zip us)->Vals vs us->sp vs H Q E ->
  gi (model P w) A (.call (.ref f) args) (CR CX outer P w H s Q E) s
theorem FnOk.imp {P:aO}{w:World}{K:ae}{C:Str->Option Value}{y:Heap}{G:CXT}{k:Nat}{f:Addr}{J:cy}{ps:List Str}{sp z:Sp}(F:FnOk P w K C y G k f J ps sp)
  (h:∀ vs H Q E,z vs H Q E->sp vs H Q E):FnOk P w K C y G k f J ps z :=
 ⟨λ vs H Q E q=>F.len vs H Q E (h _ _ _ _ q),λ A outer s H args us vs Q E hr Y hb hv hs=>F.run A outer s H args us vs Q E hr Y hb hv (h _ _ _ _ hs)⟩
section
variable {X:Cx} {pins:List (Addr×Obj)} {σ:St} {H:Hp} {s s':ai}
theorem Inv.env0 (I:Inv X pins σ H s):Env0 X.prog X.w X.K X.mg X.base X.A X.stack s H :=
 ⟨I.ok.frames,I.ok.mod,I.bs,ao I.ok.bsz I.sz,I.stack,I.stkFree,I.hok,I.bare⟩
theorem Inv.after {Q:VK}{u:Value}(I:Inv X pins σ H s)(h:CE X.stack X.prog X.w H s Q u s'):EP X pins σ Q u s':=by
 obtain⟨v,H',os,bare,un,hok,r,q⟩:=h
 obtain⟨C,g,d,t,y⟩:=s'
 obtain rfl:y=s.os:=os
 exact⟨v,H',I.call (h':=C) (g':=g) (d':=d) (t':=t) (ch:=[]) un hok bare (λ b z=>absurd z (by simp)),r,q⟩
end
def aS2 (sp:Sp)(dvs:List V)(E:XK)(t:TA):TE:=λ σ H Q=>t σ H λ vs H1=>sp (vs++dvs) H1 Q E
def Binds (K:ae)(fd:cy)(ps:List Str)(ds:List Value):Prop :=
 ∀(s:ai) (us:List Value),K.In s.heap->(us++ds).length=ps.length->kO s fd ⟨us,[]⟩ (ps.zip (us++ds))
theorem Binds.all {K:ae}{y:cy}{ps:List Str}(h:∀ us:List Value,us.length=ps.length->fi y ⟨us,[]⟩=pure (ps.zip us)):Binds K y ps []:=λ s us _ hl=>by
 rw[bK]at hl ⊢
 exact .of_eq (h us hl)
def aN2 (CX:CXT)(X:Cx)(E:XK):Prop:=∀(pins:List (Addr×Obj)) (σ:St) (H:Hp) (s:ai) (e:Value) (s':ai),Inv X pins σ H s->CX X.stack H s E e s'->X.xe e s'
section
variable {X:Cx} {CX:CXT} {k:Nat} {f C:Addr} {fd:cy} {ps:List Str} {sp:Sp} {dvs:List V} {ds:List Value} {E:XK} {x m:Str} {p pos apos:Pos} {e o:Expr} {es:List Expr} {ta:TE} {t:TA}
theorem bp6 {y:List (Addr×Obj)}{σ:St}{H:Hp}{s:ai}{Q:VK}{us:List Value}{vs:List V}(F:FnOk X.prog X.w X.K X.mg X.base CX k f fd ps sp)(hr:Room k X.A)(hb:Binds X.K fd ps ds)(hd:Vals dvs ds)(hx:aN2 CX X E)
  (I:Inv X y σ H s) (r:Vals vs us) (h:sp (vs++dvs) H Q E):wpAny (model X.prog X.w) X.A (call (.ref f) us) (EP X y σ Q) X.xe s:=by
 have z:Vals (vs++dvs) (us++ds):=r.append hd
 have hl:(us++ds).length=ps.length:=by rw[<-z.length];exact F.len _ _ _ _ h
 refine wpAny_call (j0 (F.run X.A X.stack s H ⟨us,[]⟩ (us++ds) (vs++dvs) Q E hr I.env0 (hb s us I.kIn hl) z h) λ r s' hq=>?_)
 cases r with
 | error e=>exact hx y σ H s e s' I hq
 | ok fl =>
  cases fl with
  | ret u=>exact I.after hq
  | next=>exact cN hq
  | brk=>exact cN hq
  | cont=>exact cN hq
theorem bz6 (F:FnOk X.prog X.w X.K X.mg X.base CX k f fd ps sp)(hr:Room k X.A)(hg:Gl X x)(Y:X.mg x=some (.ref f))(hk:cT X.K (.ref f)=true)(hb:Binds X.K fd ps ds)(hd:Vals dvs ds)(hx:aN2 CX X E)
  (ha:PA X (e::es) t) (C:(x==("__debug__":Str))=false:=by decide) (J:bE (e::es) X.env=(false,eval e X.env)::bE es X.env:=by rfl) (z:(eJ pos (bE es X.env)).any (·.1)=false:=by rfl) :
  PE X (.Call (.Name x p) (e::es) [] pos) (aS2 sp dvs E t):=by
 intro y s σ H Q I h
 refine du (aH2 I hg Y ?_ C)
 refine PySem.W.callWith_K (h₀:=X.base) I.ok.mod.kin hk (thn (ha pos y s σ H _ I h) λ us s1 ⟨vs,Z,G,r,q⟩=>⟨G.kIn,?_⟩) J z
 exact bp6 F hr hb hd hx G r q
theorem bg9 (F:FnOk X.prog X.w X.K X.mg X.base CX k f fd ps sp)(hr:Room k X.A)(hg:Gl X x)(C:X.mg x=some (.ref f))(hk:cT X.K (.ref f)=true)(hb:Binds X.K fd ps ds)(hd:Vals dvs ds)(hx:aN2 CX X E)
  (y:(x==("__debug__":Str))=false:=by decide):PE X (.Call (.Name x p) [] [] pos) (aS2 sp dvs E be3):=by
 intro z s σ H Q I h
 refine du (aH2 I hg C ?_ y)
 exact PySem.W.callWith_K0 I.kIn hk (bp6 (us:=[]) F hr hb hd hx I .nil h)
structure Mk (K:ae)(C f:Addr):Prop where
 makes:PySem.W.makesIn K C=true
 init:iY K (.ref C) "__init__"=some (some (.ref f))
 fn:PySem.W.isFn K (.ref f)=true
 kp:cT K (.ref C)=true
end
section
variable {X:Cx} {CX:CXT} {k:Nat} {f C:Addr} {fd:cy} {ps ks:List Str} {sp:Sp} {E:XK} {x m:Str} {p pos apos kpos:Pos} {e o:Expr} {es:List Expr} {kws:List ji} {te ta:TE} {t tk:TA} {nm:Option Str}
variable {g:List Value->List Value->List Value} {gV:List V->List V->List V}
end
structure FnScope (N P:List Str)(sc:Scope):Prop where
 kind:sc.kind=.function
 co:sc.isCoroutine=false
 gen:sc.isGenerator=false
 nd:N.Nodup
 pre:N.take P.length=P
 par:∀ x∈P,sc.names.lookup x=some .local\/sc.names.lookup x=some .cell
 nofree:∀ y∈sc.names,y.2≠.free
theorem aC5 {e9:Str->Option cI}{x:Str}:∀ {binds:List (Str×Value)} {m:Str->Option Value},(∀ v,(x,v) ∉ binds)->bindL e9 binds m x=m x
 | [],_,_=>rfl
 | (n,v)::r,m,h=>by
  unfold bindL
  rw[aC5 λ w hw=>h w (aF _ hw)]
  split
  ·have:x≠n:=by rintro rfl;exact h v aN
   simp[this]
  ·rfl
theorem aB0 {e9:Str->Option cI}{x:Str}:∀ {binds:List (Str×Value)} {m:Str->Option Value},(∀ v,(x,v) ∉ binds)->bindC e9 binds m x=m x
 | [],_,_=>rfl
 | (n,v)::r,m,h=>by
  unfold bindC
  rw[aB0 λ w hw=>h w (aF _ hw)]
  split
  ·rfl
  ·have:x≠n:=by rintro rfl;exact h v aN
   simp[this]
theorem ar7 {e9:Str->Option cI}{x:Str}{v:Value}:∀ {P:List Str} {vs:List Value} {i:Nat} {m:Str->Option Value},P.Nodup->P[i]?=some x->vs[i]?=some v->e9 x=some .local ->
  bindL e9 (P.zip vs) m x=some v
 | [],_,_,_,_,h,_,_=>by simp at h
 | _::_,[],_,_,_,_,h,_=>by simp at h
 | p::P,w::vs,0,m,nd,h1,h2,hk=>by
  simp at h1 h2;subst h1;subst h2
  show bindL e9 ((p,w)::P.zip vs) m p=_
  unfold bindL
  rw[aC5 λ v hv=>(fD.mp nd).1 (eh hv).1,if_pos hk]
  simp
 | p::P,w::vs,i+1,m,nd,h1,h2,hk=>by
  show bindL e9 ((p,w)::P.zip vs) m x=_
  unfold bindL
  exact ar7 (i:=i) (fD.mp nd).2 (by simpa using h1) (by simpa using h2) hk
theorem aq0 {e9:Str->Option cI}{x:Str}{v:Value}:∀ {P:List Str} {vs:List Value} {i:Nat} {m:Str->Option Value},P.Nodup->P[i]?=some x->vs[i]?=some v->e9 x≠some .local ->
  bindC e9 (P.zip vs) m x=some v
 | [],_,_,_,_,h,_,_=>by simp at h
 | _::_,[],_,_,_,_,h,_=>by simp at h
 | p::P,w::vs,0,m,nd,h1,h2,hk=>by
  simp at h1 h2;subst h1;subst h2
  show bindC e9 ((p,w)::P.zip vs) m p=_
  unfold bindC
  rw[aB0 λ v hv=>(fD.mp nd).1 (eh hv).1,if_neg hk]
  simp
 | p::P,w::vs,i+1,m,nd,h1,h2,hk=>by
  show bindC e9 ((p,w)::P.zip vs) m x=_
  unfold bindC
  exact aq0 (i:=i) (fD.mp nd).2 (by simpa using h1) (by simpa using h2) hk
noncomputable def an3 (N:List Str)(vs:List V):St:=vs.map some++aG (N.length - vs.length) none
noncomputable def bf2 (CX:CXT)(P:aO)(w:World)(K:ae)(mg:Str->Option Value)(base:Heap)(N:List Str)(qual:Str)(scope:Scope)(f:Addr)(cd:Value)(A:a0)(outer:List Env)(s:ai)(H:Hp)(E:XK):Cx where
 prog:=P
 w:=w
 K:=K
 mg:=mg
 base:=base
 A:=A.deeper (gE qual scope s.heap.objs.size f cd)
 N:=N
 s₀:=s
 H₀:=H
 env:=gE qual scope s.heap.objs.size f cd
 outer:=outer
 stack:=gE qual scope s.heap.objs.size f cd::outer
 ex:=[]
 calm:=true
 fn:=λ _=>true
 pn:=[]
 xe:=λ e s'=>wpAny (model P w) (A.deeper (gE qual scope s.heap.objs.size f cd)) (leaving (gE qual scope s.heap.objs.size f cd) e) (λ _ s''=>CX outer H s E e s'') (λ e' s''=>CX outer H s E e' s'') s'
theorem zV {sc:Scope}{n:Nat}{x:Str}(h:sc.names.lookup x=some .cell):∃ c,(aW n sc.names []).lookup x=some c:=by
 have q:=hU sc.names n [] (.inl h)
 exact gF.mp q
theorem ba7 {CX:CXT}{P:aO}{w:World}{K:ae}{mg:Str->Option Value}{G:Heap}{N ps:List Str}{qual:Str}{scope:Scope}{f:Addr}{cd:Value}{A:a0}{outer:List Env}{s s1:ai}{H:Hp}{E:XK}{us:List Value}{vs:List V}
  (S:FnScope N ps scope) (hd:A.handled=none) (J:Env0 P w K mg G A outer s H) (hl:vs.length=ps.length) (r:Vals vs us)
  (x:gj s s.heap.objs.size (bindL (gE qual scope s.heap.objs.size f cd).kindOf (ps.zip us) λ _=>none) (aW (s.heap.objs.size+1) scope.names []) (bindC (gE qual scope s.heap.objs.size f cd).kindOf (ps.zip us) λ _=>none) s1) :
  Inv (bf2 CX P w K mg G N qual scope f cd A outer s H E) [] (an3 N vs) H s1:=by
 have a1:ps.length<=N.length:=by have:=congrArg iZ S.pre;rw[bL]at this;omega
 obtain⟨h1,tk,rfl,hk⟩:=x.done
 have Y:∀ b:Addr,b ∉ (bf2 CX P w K mg G N qual scope f cd A outer s H E).ex:=λ b z=>absurd (show b∈([]:List Addr)from z) (by simp)
 refine⟨⟨J.mod,S.kind,rfl,rfl,aj _,λ y z c h1 C=>?_,λ y hy=>?_,λ y c _ h=>?_,λ _=>hd,i4 J.frames,.inr ⟨rfl,rfl⟩,λ b z=>absurd z (Y b),J.bs,J.bsz,λ b _ _=>Y b,λ b z=>absurd z (Y b),J.funs,J.frf⟩,
  rfl,J.bare,Un.kept hk,⟨_,x.toInCall.ns,λ i y v h1 C h3=>?_⟩,λ y c h=>⟨_,x.cell y c h⟩,J.hok.fresh (aj _),λ y c h=>?_,λ p hp=>absurd (show p∈([]:List (Addr×Obj))from hp) (by simp),J.hok.kept hk,?_⟩
 ·exact hV x.apart (aK h1) (aK C)
 ·have hy:scope.names.lookup y=some .cell\/scope.names.lookup y=some .free:=hy
  rcases hy with hy|hy
  ·exact zV hy
  ·exact absurd rfl (S.nofree _ (aK hy))
 ·exact fL (x.above y c (aK h))
 ·have hi:i<vs.length:=by
   unfold an3 at C
   by_cases hi:i<vs.length
   ·exact hi
   ·rw[aM (by simpa using hi)]at C
    rw[gR]at C
    split at C<;>cases C
  have ha:vs[i]?=some v:=by
   unfold an3 at C
   rw[aL (by simpa using hi),az]at C
   cases e:vs[i]? with
   | none=>rw[e]at C;cases C
   | some a=>rw[e]at C;cases C;rfl
  obtain⟨u,hu,rv⟩:=r.get ha
  have hp:ps[i]?=some y:=by
   rw[<-S.pre,List.getElem?_take_of_lt (by omega)];exact h1
  have Z:ps.Nodup:=by rw[<-S.pre];exact S.nd.sublist (List.take_sublist _ _)
  refine⟨u,rv,?_⟩
  rcases S.par y (aQ hp)with k|k
  ·exact .inl ⟨k,ar7 Z hp hu k⟩
  ·obtain⟨c,e⟩:=zV (n:=s.heap.objs.size+1) k
   refine .inr ⟨.inl k,c,e,?_⟩
   have q:=x.cell y c e
   rw[aq0 Z hp hu (by show scope.names.lookup y≠_;rw[k];decide)]at q
   exact q
 ·exact J.hok.fresh (fL (x.above y c (aK h)))
 ·unfold an3
  show _=N.length
  rw[aw,aq,List.length_replicate]
  omega
theorem bN8 {CX:CXT}{P:aO}{w:World}{K:ae}{mg:Str->Option Value}{base:Heap}{k:Nat}{f:Addr}{name qual:Str}{params:cD}{body:List Stmt}{scope:Scope}{dV kV G pm h ct oc:Value}{an od:Option Addr}
  {a2:Array (Option Value)} {N ps:List Str} {sp:Sp} (lk:K.lookup f=some ⟨oc,od,.func (dv name qual params body scope dV kV G pm an h ct),a2⟩) (a1:fV K h qual=true) (S:FnScope N ps scope)
  (len:∀ vs H Q E,sp vs H Q E->vs.length=ps.length)
  (z:∀(A:a0) (outer:List Env) (s:ai) (H:Hp) (vs:List V) (Q:VK) (E:XK),Room k (A.deeper (gE qual scope s.heap.objs.size f h))->sp vs H Q E ->
   ∃ t,PSs (bf2 CX P w K mg base N qual scope f h A outer s H E) body t/\t { nx:=λ _ H'=>Q .non H',rt:=Q } (an3 N vs) H) :
  FnOk P w K mg base CX (k+1) f (dv name qual params body scope dV kV G pm an h ct) ps sp:=by
 refine⟨len,λ A outer s H args us vs Q E hr Z hb r Y=>?_⟩
 have hl:=len _ _ _ _ Y
 have KX:K.In s.heap:=Z.mod.kin.keeps λ b o e=>(Z.bs b o e).1
 have a3:s.heap.NoLimit:=Z.mod.nolimit.keeps λ b o e=>(Z.bs b o e).1
 have C:∀ y∈ps.zip us,scope.names.lookup y.1=some .local\/(scope.names.lookup y.1=some .cell/\((aW (s.heap.objs.size+1) scope.names []).lookup y.1).isSome=true):=λ⟨n,v⟩ hy=>by
  rcases S.par n (eh hy).1 with q|q
  ·exact .inl q
  ·exact .inr ⟨q,hU _ _ _ (.inl q)⟩
 refine iM hr.depth (KX _ _ lk) rfl S.co S.gen rfl (PySem.W.codeRec_of KX a1) (hb _ _ _ _ ?_)
 refine wpAny_newFunctionEnv_cells S.kind C λ env he s1 x=>?_
 subst he
 refine⟨a3.keeps x.toInCall.keep,codeAny_func ?_⟩
 obtain⟨t,ht,hq⟩:=z A outer s H vs Q E (hr.deeper _) Y
 have I:Inv (bf2 CX P w K mg base N qual scope f h A outer s H E) [] (an3 N vs) H s1:=ba7 S hr.hd Z hl r x
 refine cM (ht [] s1 (an3 N vs) H _ I hq) (λ fl s' hs=>?_) λ e s' hs=>hs
 have fin:∀ {σ':St} {H':Hp} {v:V} {u:Value},Inv (bf2 CX P w K mg base N qual scope f h A outer s H E) [] σ' H' s'->RelV v u->Q v H'->CE outer P w H s Q u s' :=
  λ {σ' H' v u} J rv q=>⟨v,H',J.os,J.bare,J.base,J.hok,rv,q⟩
 cases fl with
 | ret u =>
  obtain⟨v,σ',H',J,rv,q⟩:=hs
  exact fin J rv q
 | next =>
  obtain⟨σ',H',J,q⟩:=hs
  exact fin (v:=V.non) (u:=Value.none) J rfl q
 | brk =>
  obtain⟨_,_,_,q⟩:=hs
  exact cN q
 | cont =>
  obtain⟨_,_,_,q⟩:=hs
  exact cN q
section
variable {X:Cx} {x:Str} {p pos:Pos} {e:Expr} {es:List Expr} {t:TA} {id T:String} {r:List V->Hp->VK->Prop}
def tCB (r:List V->Hp->VK->Prop)(t:TA):TE:=λ σ H Q=>t σ H λ vs H1=>r vs H1 Q
theorem ay1 (hc:ah8 X (.builtin id) r)(hg:Gl X x)(Y:X.mg x=none)(hv:bA x=some (.builtin id))(ha:PA X (e::es) t)(hn:x ≠ "__name__":=by decide)(z:(x==("__debug__":Str))=false:=by decide)
  (G:bE (e::es) X.env=(false,eval e X.env)::bE es X.env:=by rfl) (C:(eJ pos (bE es X.env)).any (·.1)=false:=by rfl):PE X (.Call (.Name x p) (e::es) [] pos) (tCB r t):=by
 intro y s σ H Q I h
 refine du (au7 I hg Y hv ?_ hn z)
 exact PyProof.Rows.callWith_builtin1 (thn (ha pos y s σ H _ I h) λ us s1 ⟨vs,H1,J,r1,Z⟩=>hc y s1 σ H1 vs us Q J r1 Z) G C
theorem aq9 (hc:ah8 X (.type T) r)(hg:Gl X x)(Y:X.mg x=none)(hv:bA x=some (.type T))(ha:PA X (e::es) t)(hn:x ≠ "__name__":=by decide)(z:(x==("__debug__":Str))=false:=by decide)
  (G:bE (e::es) X.env=(false,eval e X.env)::bE es X.env:=by rfl) (C:(eJ pos (bE es X.env)).any (·.1)=false:=by rfl):PE X (.Call (.Name x p) (e::es) [] pos) (tCB r t):=by
 intro y s σ H Q I h
 refine du (au7 I hg Y hv ?_ hn z)
 exact dL (thn (ha pos y s σ H _ I h) λ us s1 ⟨vs,H1,J,r1,Z⟩=>hc y s1 σ H1 vs us Q J r1 Z) G C
end
end L2
end
noncomputable section
namespace HT
open PySem PyProof.Rows
section
open PySem.SeqAt
open PySem.AutoSeq1 (wpAny_loadPart')
open PySem.MeetsSeq PySem.MeetsSeq2 PySem.MeetsSeq3
end
section
variable {prog:aO} {w:World} {A:a0} {E:Value->ai->Prop} {s:ai}
theorem cat_tup {t b:Addr}{vs ws:List Value}{Q:Value->ai->Prop}(ht:IsTup s.heap t vs.toArray)(hb:IsTup s.heap b ws.toArray)(hv:vs≠[])
  (h1:ws=[]->Q (.ref t) s) (h2:ws≠[]->Q (.ref s.heap.objs.size) { s with heap:=s.heap.push { cls:=.type "tuple",data:=.seq (vs++ws).toArray } })
  (hsz:vs.length+ws.length<=aI):wpAny (model prog w) A (cC .Add (.ref t) (.ref b)) Q E s:=by
 obtain⟨⟨cls,Y,data,sl⟩,ho,hc,n,hd⟩:=id ht
 obtain⟨⟨Z,z,J,y⟩,h,C,n2,G⟩:=id hb
 simp only at hc hd C G
 subst hc hd C G
 have e:vs.toArray++ws.toArray=(vs++ws).toArray:=by simp
 by_cases hw:ws=[]
 ·exact j1 ⟨_,ho,rfl⟩ ⟨_,h,rfl⟩ gS ju eK eF (ed _ _)
   (tuple_addW1 t b vs.toArray ws.toArray n n2 Y z sl y (by simpa using hv) (by simp[hw])) ⟨ho,h,h1 hw⟩
 ·refine j1 ⟨_,ho,rfl⟩ ⟨_,h,rfl⟩ gS ju eK eF (ed _ _)
   (tuple_addW2 t b vs.toArray ws.toArray n n2 Y z sl y (by simpa using hv) (by simpa using hw) (by rw[ar,ar];exact hsz)) ⟨ho,h,?_⟩
  rw[e]
  exact h2 hw
noncomputable def sIx (n d:Nat):Option Int->Nat
 | none=>d
 | some v=>if v<0 then(v+(n:Int)).toNat else min v.toNat n
theorem sIx_le (n d:Nat)(hd:d<=n)(o:Option Int):sIx n d o<=n:=by
 cases o with
 | none=>exact hd
 | some v =>
  show(if v<0 then(v+(n:Int)).toNat else min v.toNat n)<=n
  by_cases hv:v<0
  ·rw[if_pos hv];omega
  ·rw[if_neg hv];exact kn _ _
theorem clip_eq (v:Int)(n d:Nat):(if v<0 then max (v+(n:Int)) 0 else min v (n:Int))=((sIx n d (some v):Nat):Int):=by
 show(if v<0 then max (v+(n:Int)) 0 else min v (n:Int))=(((if v<0 then(v+(n:Int)).toNat else min v.toNat n):Nat):Int)
 by_cases hv:v<0
 ·simp only[if_pos hv];omega
 ·simp only[if_neg hv];omega
theorem adjust_gen (lo hi:Option Int)(n:Nat):d5 lo hi 1 (n:Int)=(((sIx n 0 lo:Nat):Int),((sIx n n hi:Nat):Int)):=by
 have h:¬((1:Int)<0):=by omega
 unfold d5
 simp only[h,if_false]
 refine Prod.ext ?_ ?_
 ·cases lo with
  | none=>rfl
  | some v=>exact clip_eq v n 0
 ·cases hi with
  | none=>rfl
  | some v=>exact clip_eq v n n
theorem places_gen (i j:Nat):cX (i:Int) (j:Int) 1=j - i:=by
 unfold cX
 have h:(1:Int) > 0:=by omega
 simp only[h,if_true,lz]
 split<;>omega
theorem slicePart_ {v:Value}{o:Option Int}{Q:Option Int->ai->Prop}(p:gG v o)(h:Q o s):wpAny (model prog w) A (kJ v) Q E s:=by
 cases p with
 | none=>exact slicePart_none h
 | int i t=>exact slicePart_int h
theorem sliceApplied_gen {sl:Addr}{vl vu:Value}{lo hi:Option Int}{n:Nat}{Q:Int×Int×Nat->ai->Prop}(hs:s.heap.IsSliceOf sl vl vu .none)(G:gG vl lo)(pu:gG vu hi)
  (h:Q (((sIx n 0 lo:Nat):Int),1,sIx n n hi - sIx n 0 lo) s):wpAny (model prog w) A (fW (.ref sl) (pure (n:Int))) Q E s:=by
 obtain⟨os,z,C,y⟩:=id hs
 unfold fW k8
 refine ab (ab (bS z y (x:=vl) rfl (ab (bS z y (x:=vu) rfl (ab (bS z y (x:=.none) rfl (am ?_)))))))
 refine ab (slicePart_none ?_)
 show wpAny _ _ (if((1:Int)==0)=true then _ else _) _ _ s
 rw[if_neg (by decide)]
 refine ab (slicePart_ G (ab (slicePart_ pu (ab (am ?_)))))
 show wpAny _ _ (match d5 lo hi 1 (n:Int)with|(lo,hi)=>pure (lo,(1:Int),cX lo hi 1)) _ _ s
 rw[adjust_gen lo hi n]
 show wpAny _ _ (pure (((sIx n 0 lo:Nat):Int),(1:Int),cX ((sIx n 0 lo:Nat):Int) ((sIx n n hi:Nat):Int) 1)) _ _ s
 rw[places_gen]
 exact am h
theorem pick_gen (h:Array Value)(i k:Nat):((bj k).filterMap λ(m:Nat)=>h[((i:Int)+(m:Int)*1).toNat]?).toArray=((h.toList.drop i).take k).toArray:=by
 have e:(λ(m:Nat)=>h[((i:Int)+(m:Int)*1).toNat]?)=λ m=>h[i+m]?:=by
  funext m
  have:((i:Int)+(m:Int)*1).toNat=i+m:=by omega
  rw[this]
 rw[e]
 have:=pick_run h i k
 rw[bo]at this
 have e2:((λ x=>h[x]?) ∘ λ x=>i+x)=λ m=>h[i+m]?:=rfl
 rw[e2]at this
 rw[this]
theorem getItem_tuple_cut {t sl:Addr}{y:Array Value}{vl vu:Value}{lo hi:Option Int}{Q:Value->ai->Prop}(C:IsTup s.heap t y)(hs:s.heap.IsSliceOf sl vl vu .none)(pl:gG vl lo)(pu:gG vu hi)
  (hw:¬(sIx y.size 0 lo=0/\sIx y.size y.size hi=y.size))
  (h:Q (.ref s.heap.objs.size) { s with heap:=s.heap.push { cls:=.type "tuple",data:=.seq ((y.toList.drop (sIx y.size 0 lo)).take (sIx y.size y.size hi - sIx y.size 0 lo)).toArray } })
  (hsz:y.size<=aI):wpAny (model prog w) A (fh (.ref t) (.ref sl)) Q E s:=by
 have z:sizeOk (.seq ((y.toList.drop (sIx y.size 0 lo)).take (sIx y.size y.size hi - sIx y.size 0 lo)).toArray):=by
  show((y.toList.drop (sIx y.size 0 lo)).take (sIx y.size y.size hi - sIx y.size 0 lo)).toArray.size<=aI
  rw[ar,bL,dX,dh]
  omega
 have hj:sIx y.size y.size hi<=y.size:=sIx_le _ _ (aj _) hi
 obtain⟨os,Z,Y,a1⟩:=id hs
 have G:s.TypeIs (.ref sl) "slice":=⟨os,Z,Y⟩
 unfold fh
 try with_reducible refine c9 ?_
 first|refine ab (am ?_)|skip
 refine ab (j2 C.typeIs (by decide) ?_)
 refine ab (bU (name:=cw "__getitem__") C.typeIs bG
  (cb bG C.typeIs jm ?_ (jJ _ _)))
 show wpAny _ _ (dR (.ref t) >>= _) _ _ s
 refine ab (jv C ?_)
 refine ab (hW G ?_)
 rw[if_pos (by decide)]
 refine ab (sliceApplied_gen hs pl pu ?_)
 have J:¬((((sIx y.size 0 lo:Nat):Int)==0&&(1:Int)==1&&(sIx y.size y.size hi - sIx y.size 0 lo)==y.size)=true):=by
  intro q
  rw[ak,ak]at q
  have q1:((sIx y.size 0 lo:Nat):Int)=0:=eq_of_beq q.1.1
  have q2:sIx y.size y.size hi - sIx y.size 0 lo=y.size:=eq_of_beq q.2
  exact hw ⟨by omega,by omega⟩
 show wpAny _ _ (if(((sIx y.size 0 lo:Nat):Int)==0&&(1:Int)==1&&(sIx y.size y.size hi - sIx y.size 0 lo)==y.size)=true then _ else _) _ _ s
 rw[if_neg J,pick_gen]
 first
  | exact ab (m:=db _) (bv (am ⟨_,rfl,am h⟩) z)
  | exact ab (m:=db _) (bv (ab (am (am ⟨_,rfl,am h⟩))) z)
  | exact ab (ab (m:=db _) (bv (am (am ⟨_,rfl,am h⟩)) z))
  | exact ab (ab (m:=db _) (bv (am ⟨_,rfl,am h⟩) z))
end
end HT
noncomputable section
namespace L2
open PySem PySem.Spec PyProof.Rows
abbrev TO:=St->Hp->(Option Int->Hp->Prop)->Prop
def PO (X:Cx)(e:Option Expr)(t:TO):Prop :=
 ∀(pins:List (Addr×Obj)) (s:ai) (σ:St) (H:Hp) (Q:Option Int->Hp->Prop),Inv X pins σ H s->t σ H Q ->
  wpAny (model X.prog X.w) X.A (evalPart e X.env) (λ u s'=>∃ o H',Inv X pins σ H' s'/\gG u o/\Q o H') X.xe s
noncomputable def aJ1:TO:=λ _ H Q=>Q none H
noncomputable def aZ2 (t:TE):TO:=λ σ H Q=>t σ H λ x H1=>∃ i,x=.int i/\Q (some i) H1
section
variable {X:Cx} {e:Expr} {te:TE} {lo hi:Option Expr} {tl th:TO} {pos p2:Pos}
theorem bc1:PO X none aJ1:=by
 intro y s σ H Q I h
 rw[jw]
 exact am ⟨none,H,I,.none,h⟩
theorem ba1 (h:PE X e te):PO X (some e) (aZ2 te):=by
 intro y s σ H Q I hw
 rw[evalPart_some]
 refine thn (h y s σ H _ I hw) λ u s1 ⟨x,G,z,r1,C⟩=>?_
 obtain⟨i,rfl,q⟩:=C
 obtain⟨t,rfl⟩:=r1
 exact⟨some i,G,z,.int i t,q⟩
def SlR (X:Cx)(r:V->Option Int->Option Int->Hp->VK->Prop):Prop :=
 ∀(pins:List (Addr×Obj)) (s:ai) (σ:St) (H:Hp) (x:V) (v vl vu:Value) (lo hi:Option Int) (sl:Addr) (Q:VK),Inv X pins σ H s->RelV x v->s.heap.IsSliceOf sl vl vu .none->gG vl lo->gG vu hi->r x lo hi H Q ->
  ∃ T id,typeLookup (.type T) "__getitem__"=pure (some (.builtin id))/\s.TypeIs v T/\wpAny (model X.prog X.w) X.A (fh v (.ref sl)) (EP X pins σ Q) X.xe s
def tSl (r:V->Option Int->Option Int->Hp->VK->Prop)(te:TE)(tl th:TO):TE:=λ σ H Q=>te σ H λ x H1=>tl σ H1 λ l H2=>th σ H2 λ u H3=>r x l u H3 Q
theorem aM8 {r:V->Option Int->Option Int->Hp->VK->Prop}(hr:SlR X r)(C:PE X e te)(hl:PO X lo tl)(hu:PO X hi th):PE X (.Subscript e (.Slice lo hi none p2) pos) (tSl r te tl th):=by
 intro y s σ H Q I h
 refine kS (thn (C y s σ H _ I h) λ v s1 ⟨x,H1,I1,r1,Y⟩=>?_)
 refine wpAny_Slice (thn (hl y s1 σ H1 _ I1 Y) λ vl s2 ⟨l,H2,G,pl,q2⟩=>thn (hu y s2 σ H2 _ G q2) λ vu s3 ⟨u,z,I3,pu,q3⟩=>?_)
 rw[jw]
 refine am ?_
 have J:Inv X y σ z { s3 with heap:=s3.heap.push { cls:=.type "slice",data:=.fields #[vl,vu,.none] } }:=I3.kept (t':=s3.toks) λ b ob q=>af _ q
 obtain⟨T,id,hT,Z,hg⟩:=hr y { s3 with heap:=s3.heap.push { cls:=.type "slice",data:=.fields #[vl,vu,.none] } } σ z x v vl vu l u s3.heap.objs.size Q J r1 (lR ..) pl pu q3
 show wpAny (model X.prog X.w) X.A (jx e (.Slice lo hi none p2) v (.ref s3.heap.objs.size)) (EP X y σ Q) X.xe { s3 with heap:=s3.heap.push { cls:=.type "slice",data:=.fields #[vl,vu,.none] } }
 exact j3 (ops:=[.ref s3.heap.objs.size,v]) Z hT hg (by with_unfolding_all rfl)
noncomputable def aQ2 (xs:List V)(lo hi:Option Int):List V:=(xs.drop (HT.sIx xs.length 0 lo)).take (HT.sIx xs.length xs.length hi - HT.sIx xs.length 0 lo)
theorem aq6 (h:List V)(lo hi:Option Int):(aQ2 h lo hi).length<=h.length:=by
 unfold aQ2
 rw[bL,dX]
 omega
def cf3 (K:ae):V->Option Int->Option Int->Hp->VK->Prop:=λ x lo hi H Q=>∃ a xs,x=.ref a/\SqT K H a xs /\
 ¬(HT.sIx xs.length 0 lo=0/\HT.sIx xs.length xs.length hi=xs.length)/\∀ p,H p=none->Q (.ref p) (upd H p (.tup (aQ2 xs lo hi)))
theorem bN0:SlR X (cf3 X.K):=by
 intro C s σ H x v vl vu lo hi sl Q I Y hs J pu h
 obtain⟨a,z,rfl,hx,hw,q⟩:=h
 cases Y
 obtain⟨its,r,G,hz⟩:=I.tuple hx
 have y:its.toArray.size=z.length:=by rw[ar];exact r.length.symm
 refine⟨"tuple",_,bG.lookup,G.typeIs,?_⟩
 refine HT.getItem_tuple_cut G hs J pu (by rw[y];exact hw) ?_ (by rw[y];exact hz)
 rw[y]
 refine⟨.ref s.heap.objs.size,_,I.laid (t':=s.toks) (o:=.tup (aQ2 z lo hi)) (λ b ob q=>af _ q) (aj _) ?_,rfl,q _ (I.hok.fresh (aj _))⟩
 exact⟨ao (aq6 z lo hi) hz,_,(r.drop (HT.sIx z.length 0 lo)).take (HT.sIx z.length z.length hi - HT.sIx z.length 0 lo),ko _ _⟩
def bW0 (K:ae):R2:=λ x y H Q=>∃ a b xs ys,x=.ref a/\y=.ref b/\SqT K H a xs/\SqT K H b ys/\xs≠[]/\xs.length+ys.length<=aI /\
 (ys=[]->Q (.ref a) H)/\(ys≠[]->∀ p,H p=none->Q (.ref p) (upd H p (.tup (xs++ys))))
theorem Vals.nil_iff {h:List V}{us:List Value}(r:Vals h us):us=[]↔h=[]:=by
 cases r with
 | nil=>simp
 | cons _ _=>simp
theorem bz2:OpR X (cC .Add) (bW0 X.K):=by
 intro J s σ H x y v u Q I rx ry h
 obtain⟨a,b,xs,ys,rfl,rfl,ha,hb,hx,hz,Z,q2⟩:=h
 cases rx
 cases ry
 obtain⟨its,r1,p1,_⟩:=I.tuple ha
 obtain⟨G,C,Y,_⟩:=I.tuple hb
 refine HT.cat_tup p1 Y (λ z=>hx (r1.nil_iff.mp z)) (λ z=>⟨.ref a,H,I,rfl,Z (C.nil_iff.mp z)⟩) (λ z=>?_) (by rw[<-r1.length,<-C.length];exact hz)
 refine⟨.ref s.heap.objs.size,_,I.laid (t':=s.toks) (o:=.tup (xs++ys)) (λ b ob q=>af _ q) (aj _) ?_,rfl,q2 (λ w=>z (C.nil_iff.mpr w)) _ (I.hok.fresh (aj _))⟩
 exact⟨by rw[aw];exact hz,_,r1.append C,ko _ _⟩
end
noncomputable def ixN (n:Nat)(i:Int):Option Nat:=if 0<=i then(if i<n then some i.toNat else none)else if -(n:Int)<=i then some (i+n).toNat else none
noncomputable def atI {α:Type}(xs:List α)(i:Int):Option α:=(ixN xs.length i).bind λ j=>xs[j]?
theorem aY4 {n:Nat}{i:Int}{j:Nat}(h:ixN n i=some j):seqIndex? i n=some j/\j<n/\-(n:Int)<=i/\i<n:=by
 unfold ixN at h
 by_cases h0:0<=i
 ·rw[if_pos h0]at h
  by_cases h1:i<n
  ·rw[if_pos h1]at h
   have e:i.toNat=j:=aA h
   exact⟨by rw[kF h0 h1,e],by omega,by omega,h1⟩
  ·rw[if_neg h1]at h;cases h
 ·rw[if_neg h0]at h
  by_cases h1:-(n:Int)<=i
  ·rw[if_pos h1]at h
   have e:(i+n).toNat=j:=aA h
   exact⟨by rw[j4 (by omega) h1,e],by omega,h1,by omega⟩
  ·rw[if_neg h1]at h;cases h
theorem aJ9 {α:Type}{y:List α}{i:Int}{v:α}(h:atI y i=some v):∃ j,seqIndex? i y.length=some j/\y[j]?=some v/\j<y.length/\-(y.length:Int)<=i/\i<y.length:=by
 unfold atI at h
 cases e:ixN y.length i with
 | none=>rw[e]at h;cases h
 | some j =>
  rw[e]at h
  obtain⟨G,C,h3,z⟩:=aY4 e
  exact⟨j,G,h,C,h3,z⟩
def bc4 (b:Expr):Prop:=∀ o i,subscripted b false o i=operate [o,i] (fh o i)
def IxR (X:Cx)(r:R2):Prop :=
 ∀(value slice:Expr) (pins:List (Addr×Obj)) (s:ai) (σ:St) (H:Hp) (x y:V) (v u:Value) (Q:VK),Inv X pins σ H s->RelV x v->RelV y u->r x y H Q ->
  subscripted slice false v u=operate [v,u] (fh v u)->wpAny (model X.prog X.w) X.A (jx value slice v u) (EP X pins σ Q) X.xe s
def MtR (X:Cx)(id:String)(r:V->List V->Hp->VK->Prop):Prop :=
 ∀(pins:List (Addr×Obj)) (s:ai) (σ:St) (H:Hp) (x:V) (xs:List V) (v:Value) (us:List Value) (Q:VK),Inv X pins σ H s->RelV x v->Vals xs us->r x xs H Q ->
  wpAny (model X.prog X.w) X.A (call (.builtin id) (v::us)) (EP X pins σ Q) X.xe s
section
variable {X:Cx} {a b:Expr} {ta tb:TE} {pos:Pos}
theorem bY0 {r:R2}(hr:IxR X r)(ha:PE X a ta)(hb:PE X b tb)(hs:bc4 b):PE X (.Subscript a b pos) (tOp r ta tb):=by
 intro z s σ H Q I h
 exact kS (bV7 ha hb I h λ v u s2 x y C G J Y q=>hr a b z s2 σ C x y v u Q G J Y q (hs _ _))
def ce3 (K:ae):R2:=λ x y H Q=>∃ p xs i v,x=.ref p/\y=.int i/\SqL K H p xs/\atI xs i=some v/\Q v H
def ce2 (K:ae):R2:=λ x y H Q=>∃ p xs i v,x=.ref p/\y=.int i/\SqT K H p xs/\atI xs i=some v/\Q v H
def cf9:R2:=λ x y H Q=>∃ z i c,x=.str z/\y=.int i/\z.length<=aI/\atI z.cps.toList i=some c/\Q (.str ⟨#[c]⟩) H
theorem bv2:IxR X (ce3 X.K):=by
 intro Y a1 C s σ H x y v u Q I rx ry h hs
 obtain⟨p,xs,i,z,rfl,rfl,hq,he,q⟩:=h
 cases rx
 obtain⟨t,rfl⟩:=ry
 obtain⟨its,r,Z,hz⟩:=I.list hq
 obtain⟨j,G,h2,h3,h4,h5⟩:=aJ9 he
 obtain⟨w,ew,J⟩:=r.get h2
 have hl:=r.length
 have hn:=ar6
 have fin:EP X C σ Q w s:=⟨z,H,I,J,q⟩
 by_cases h0:0<=i
 ·have hj:i.toNat=j:=by
   rw[kF h0 h5]at G
   exact aA G
  exact item_listR Z.isList h0 (by omega) (by rw[hj];simpa using ew) fin hs
 ·have hj:(i+(its.toArray.size:Int)).toNat=j:=by
   rw[j4 (by omega) h4]at G
   rw[ar,<-hl]
   exact aA G
  exact hX (x:=w) Z.isList.typeIs gk.lookup
   (wpAny_getItem_list_neg (Q:=λ r s'=>r=w/\EP X C σ Q r s') Z.isList (by omega) (by rw[ar]<;>omega) (by omega) (by rw[hj];simpa using ew) ⟨rfl,fin⟩) hs
theorem ix_tup:IxR X (ce2 X.K):=by
 intro J Y C s σ H x y v u Q I rx ry h hs
 obtain⟨p,xs,i,z,rfl,rfl,hq,he,q⟩:=h
 cases rx
 obtain⟨t,rfl⟩:=ry
 obtain⟨its,r,Z,hz⟩:=I.tuple hq
 obtain⟨j,h1,h2,h3,h4,h5⟩:=aJ9 he
 obtain⟨w,ew,G⟩:=r.get h2
 have hl:=r.length
 have hn:=ar6
 have fin:EP X C σ Q w s:=⟨z,H,I,G,q⟩
 exact hX (x:=w) Z.typeIs bG.lookup
  (getItem_tuple (j:=j) (Q:=λ r s'=>r=w/\EP X C σ Q r s') Z (by omega) (by omega) (by rw[ar,<-hl];exact h1) (by simpa using ew) ⟨rfl,fin⟩) hs
theorem bH8:IxR X cf9:=by
 intro C G J s σ H x y v u Q I rx ry h hs
 obtain⟨z,i,c,rfl,rfl,hz,Z,q⟩:=h
 obtain⟨t,rfl⟩:=rx
 obtain⟨t',rfl⟩:=ry
 obtain⟨j,Y,h2,h3,h4,h5⟩:=aJ9 Z
 have hl:z.cps.toList.length=z.length:=by simp[Str.length]
 rw[hl]at Y h4 h5
 have hn:=ar6
 exact j3 (jK s z t) slot_str_getitem.lookup (getItem_str (c:=c) (by
  have e1:decide (i < -(2^63:Int))=false:=decide_eq_false (by omega)
  have e2:decide (i ≥ 2^63)=false:=decide_eq_false (by omega)
  rw[e1,e2,Bool.or_false]) (by rw[Y];simpa using h2) ⟨.str ⟨#[c]⟩,H,I.tok _,⟨_,rfl⟩,q⟩) hs
theorem aQ7 (its:List Value)(n j:Nat)(u:Value):hZ (·.setIfInBounds j u) { cls:=.type "list",data:=.seq its.toArray n }={ cls:=.type "list",data:=.seq (its.set j u).toArray n }:=by
 simp[hZ]
theorem Inv.lst {y:List (Addr×Obj)}{σ:St}{H:Hp}{s:ai}{p:Addr}{C:List V}(I:Inv X y σ H s)(h:H p=some (.lst C)) :
  ∃(its:List Value) (n:Nat),Vals C its/\s.heap.get? p=some { cls:=.type "list",data:=.seq its.toArray n }/\C.length<=aI:=by
 obtain⟨z,its,n,r,e⟩:=I.hok p _ h
 exact⟨its,n,r,e,z⟩
theorem Inv.lstUpd {y:List (Addr×Obj)}{σ:St}{H:Hp}{s:ai}{p:Addr}{G ys:List V}{its its':List Value}{n z:Nat}{f:Obj->Obj}(I:Inv X y σ H s)(h:H p=some (.lst G))
  (ho:s.heap.get? p=some { cls:=.type "list",data:=.seq its.toArray n }) (C:f { cls:=.type "list",data:=.seq its.toArray n }={ cls:=.type "list",data:=.seq its'.toArray z }) (r:Vals ys its') (hz:ys.length<=aI) (t:Nat) :
  Inv X y σ (upd H p (.lst ys)) { s with heap:=s.heap.update p f,toks:=t }:=by
 have e:(s.heap.update p f).get? p=some { cls:=.type "list",data:=.seq its'.toArray z }:=by
  rw[dI f ho (by rw[C]<;>rfl),C]
 refine I.write (x:=p) (e:=p) (by rw[h];trivial) (.inl rfl) (λ b u hb q=>(cn _ _ (cV hb)).trans q) ⟨_,e⟩ ?_
 exact⟨hz,its',z,r,e⟩
def bX0:V->V->V->Hp->(Hp->Prop)->Prop:=λ o i v H Q=>∃ p xs k j,o=.ref p/\i=.int k/\H p=some (.lst xs)/\ixN xs.length k=some j/\Q (upd H p (.lst (xs.set j v)))
theorem bk3:ca1 X bX0:=by
 intro y s σ H o i v ov iv u Q I Y J Z h
 obtain⟨p,xs,k,j,rfl,rfl,hp,hj,q⟩:=h
 cases Y
 obtain⟨t,rfl⟩:=J
 obtain⟨its,n,r,ho,hz⟩:=I.lst hp
 obtain⟨z,h2,h3,G⟩:=aY4 hj
 have hl:=r.length
 have hn:=ar6
 have C:Inv X y σ (upd H p (.lst (xs.set j v))) { s with heap:=s.heap.update p (hZ (·.setIfInBounds j u)) } :=
  I.lstUpd hp ho (aQ7 its n j u) (r.set Z j) (by rw[bz];exact hz) s.toks
 by_cases h0:0<=k
 ·have hk:k.toNat=j:=by
   rw[kF h0 G]at z
   exact aA z
  exact PySem.W.ki_setAt ho h0 (by omega) (by rw[ar,<-hl];exact G) (by rw[hk];exact⟨_,C,q⟩)
 ·have hk:(k+(its.toArray.size:Int)).toNat=j:=by
   rw[j4 (by omega) h3]at z
   rw[ar,<-hl]
   exact aA z
  exact PySem.W.ki_setBack ho (by omega) (by rw[ar,<-hl];exact h3) (by omega) (by rw[hk];exact⟨_,C,q⟩)
theorem aC6 (lo hi:Option Int)(n:Nat):(dq lo hi none n).1=((HT.sIx n 0 lo:Nat):Int)/\(dq lo hi none n).2.1=((HT.sIx n n hi:Nat):Int)/\(dq lo hi none n).2.2=1:=by
 refine⟨?_,?_,rfl⟩
 ·cases lo with
  | none=>simp[dq,HT.sIx]
  | some i =>
   simp only[dq,HT.sIx,kq,show(1:Int) > 0 by decide,if_true]
   by_cases h:i<0
   ·simp only[h,if_true]<;>omega
   ·simp only[h,if_false]<;>omega
 ·cases hi with
  | none=>simp[dq,HT.sIx]
  | some i =>
   simp only[dq,HT.sIx,kq,show(1:Int) > 0 by decide,if_true]
   by_cases h:i<0
   ·simp only[h,if_true]<;>omega
   ·simp only[h,if_false]<;>omega
theorem ax8 (its:List Value)(lo hi:Option Int):kr its.toArray lo hi none=((its.drop (HT.sIx its.length 0 lo)).take (HT.sIx its.length its.length hi - HT.sIx its.length 0 lo)).toArray:=by
 obtain⟨h,y,h3⟩:=aC6 lo hi its.toArray.size
 unfold kr
 rw[h,y,h3]
 simp only[sliceRange_one,pick_run,ar]<;>rfl
def cc8 (K:ae):V->Option Int->Option Int->Hp->VK->Prop:=λ x lo hi H Q=>∃ a xs,x=.ref a/\SqL K H a xs/\∀ p,H p=none->Q (.ref p) (upd H p (.lst (aQ2 xs lo hi)))
theorem bt0:SlR X (cc8 X.K):=by
 intro C s σ H x v vl vu lo hi sl Q I Y hs J pu h
 obtain⟨a,y,rfl,hx,q⟩:=h
 cases Y
 obtain⟨its,r,G,hz⟩:=I.list hx
 have z:=r.length
 refine⟨"list",_,gk.lookup,G.isList.typeIs,?_⟩
 refine gH G.isList hs J pu .none (by simp) ?_ (by rw[ar]<;>omega)
 rw[ax8,<-z]
 refine⟨.ref s.heap.objs.size,_,I.laid (t':=s.toks) (o:=.lst (aQ2 y lo hi)) (λ b ob q=>af _ q) (aj _) ?_,rfl,q _ (I.hok.fresh (aj _))⟩
 exact⟨ao (aq6 y lo hi) hz,_,0,(r.drop (HT.sIx y.length 0 lo)).take (HT.sIx y.length y.length hi - HT.sIx y.length 0 lo),av _ rfl⟩
theorem aC4:ah8 X (.builtin "len") (λ G H Q=>∃ p ys,G=[.ref p]/\(SqL X.K H p ys\/SqT X.K H p ys)/\Q (.int ys.length) H):=by
 intro J s σ H G us Q I r h
 obtain⟨p,ys,rfl,hq,q⟩:=h
 obtain⟨u,rfl,Y⟩:=am1 r
 cases Y
 have hn:=ar6
 rcases hq with hq|hq
 ·obtain⟨its,z,C,hz⟩:=I.list hq
  have y:=z.length
  exact Calls.call_len_list C.isList (by simp only[ar]<;>omega) ⟨.int ys.length,H,I.tok _,⟨s.toks+1,by rw[ar,y]⟩,q⟩
 ·obtain⟨its,z,C,hz⟩:=I.tuple hq
  have y:=z.length
  exact len_tuple C (by simp only[ar]<;>omega) ⟨.int ys.length,H,I.tok _,⟨s.toks+1,by rw[ar,y]⟩,q⟩
theorem aD2:ah8 X (.builtin "len") (λ y H Q=>∃ z,y=[.str z]/\z.length<=aI/\Q (.int z.length) H):=by
 intro C s σ H y us Q I r h
 obtain⟨z,rfl,hz,q⟩:=h
 obtain⟨u,rfl,t,rfl⟩:=am1 r
 have hn:=ar6
 exact len_str (by omega) ⟨.int z.length,H,I.tok _,⟨_,rfl⟩,q⟩
theorem ah8.or {f:Value}{r G:List V->Hp->VK->Prop}(h:ah8 X f r)(h':ah8 X f G):ah8 X f (λ z H Q=>r z H Q\/G z H Q):=by
 intro y s σ H z us Q I C q
 rcases q with q|q
 ·exact h y s σ H z us Q I C q
 ·exact h' y s σ H z us Q I C q
theorem aF0:ah8 X (.type "list") (λ Z H Q=>∃ p ys,Z=[.ref p]/\(SqL X.K H p ys\/SqT X.K H p ys)/\∀ l,H l=none->Q (.ref l) (upd H l (.lst ys))):=by
 intro C s σ H Z us Q I r h
 obtain⟨p,ys,rfl,hq,q⟩:=h
 obtain⟨u,rfl,rx⟩:=am1 r
 cases rx
 have fin:∀(its:List Value),Vals ys its->ys.length<=aI->∀(h':Heap) (z:Nat),(∀ b Y,s.heap.get? b=some Y->h'.get? b=some Y) ->
   h'.get? s.heap.objs.size=some { cls:=.type "list",dict:=none,data:=.seq its.toArray z,slots:=#[] }->EP X C σ Q (.ref s.heap.objs.size) { s with heap:=h' }:=λ its y hz h' z kp e =>
  ⟨.ref s.heap.objs.size,_,I.laid (t':=s.toks) kp (aj _) (show ag7 X.prog X.w _ h' _ (.lst ys)from⟨hz,its,z,y,e⟩),rfl,q _ (I.hok.fresh (aj _))⟩
 rcases hq with hq|hq
 ·obtain⟨its,y,J,hz⟩:=I.list hq
  have G:=y.length
  obtain⟨o,ho,hc,n,hd⟩:=J.isList
  exact call_list_seq p (.inl rfl) ho hc hd (λ h' z kp e=>fin its y hz h' z kp e) (by simp only[ar]<;>omega)
 ·obtain⟨its,y,J,hz⟩:=I.tuple hq
  have G:=y.length
  obtain⟨o,ho,hc,n,hd⟩:=J
  exact call_list_seq p (.inr rfl) ho hc hd (λ h' z kp e=>fin its y hz h' z kp e) (by simp only[ar]<;>omega)
theorem aw9:ah8 X (.type "tuple") (λ Y H Q=>∃ p ys,Y=[.ref p]/\((SqL X.K H p ys/\∀ l,H l=none->Q (.ref l) (upd H l (.tup ys)))\/(SqT X.K H p ys/\Q (.ref p) H))):=by
 intro y s σ H Y us Q I r h
 obtain⟨p,ys,rfl,h⟩:=h
 obtain⟨u,rfl,rx⟩:=am1 r
 cases rx
 rcases h with⟨hq,q⟩|⟨hq,q⟩
 ·obtain⟨its,z,C,hz⟩:=I.list hq
  have J:=z.length
  refine call_tuple_list C.isList (λ h' kp=>?_) (by simp only[ar]<;>omega)
  have G:Inv X y σ H { s with heap:=h' }:=I.kept (t':=s.toks) kp
  have Z:Inv X y σ (upd H h'.objs.size (.tup ys)) { s with heap:=h'.push { cls:=.type "tuple",data:=.seq its.toArray } } :=
   G.laid (t':=s.toks) (λ b o e=>af _ e) (aj _) (show ag7 X.prog X.w _ _ _ (.tup ys)from⟨hz,its,z,ko _ _⟩)
  exact⟨.ref h'.objs.size,_,Z,rfl,q _ (G.hok.fresh (aj _))⟩
 ·obtain⟨its,z,C,hz⟩:=I.tuple hq
  exact call_tuple_same C ⟨.ref p,H,I,rfl,q⟩
def tyV (K:ae)(T:String)(x:V)(H:Hp):Prop:=match x with
 | .str _=>T = "str"
 | .int _=>T = "int"
 | .ref p=>(T = "list"/\∃ xs,SqL K H p xs)\/(T = "tuple"/\∃ o,K.lookup p=some o/\o.cls=.type "tuple"/\o.dict=none) \/
   (T = "dict"/\((∃ kvs,H p=some (.dK kvs))\/∃ kvs,H p=some (.dT kvs)))\/(T = "set"/\∃ S n,H p=some (.set S n))
 | _=>False
theorem bn4 {h:List (Addr×Obj)}{σ:St}{H:Hp}{s:ai}{T:String}{x:V}{v:Value}(I:Inv X h σ H s)(r:RelV x v)(y:tyV X.K T x H) :
  s.TypeIs v T/\∀ a,v=.ref a->∃ ob,s.heap.get? a=some ob/\ob.dict=none:=by
 cases x with
 | str z =>
  obtain⟨t,rfl⟩:=r
  cases(show T = "str" from y)
  exact⟨jK s z t,λ _ e=>nomatch e⟩
 | int i =>
  obtain⟨t,rfl⟩:=r
  cases(show T = "int" from y)
  exact⟨ic s i t,λ _ e=>nomatch e⟩
 | ref p =>
  cases r
  rcases y with⟨rfl,J,hq⟩|⟨rfl,o,hk,hc,hd⟩|⟨rfl,hk⟩|⟨rfl,S,n,hk⟩
  ·obtain⟨its,_,G,_⟩:=I.list hq
   refine⟨G.isList.typeIs,λ a e=>?_⟩
   cases e
   obtain⟨o,n,e,c,hd,_⟩:=G
   exact⟨o,e,hd⟩
  ·refine⟨⟨o,I.kIn p o hk,hc⟩,λ a e=>?_⟩
   cases e
   exact⟨o,I.kIn _ o hk,hd⟩
  ·have z:∃ o,s.heap.get? p=some o/\o.ExactDict:=by
    rcases hk with⟨C,hk⟩|⟨C,hk⟩
    ·obtain⟨_,_,_,_,o,_,_,e,ex,_⟩:=I.hok p _ hk
     exact⟨o,e,ex⟩
    ·obtain⟨_,_,_,_,o,_,_,e,ex,_⟩:=I.hok p _ hk
     exact⟨o,e,ex⟩
   obtain⟨o,e,ex⟩:=z
   refine⟨⟨o,e,ex.1⟩,λ a e2=>?_⟩
   cases e2
   exact⟨o,e,ex.2.1⟩
  ·obtain⟨o,_,_,_,e,ex,_⟩:=I.hok p _ hk
   refine⟨⟨o,e,ex.1⟩,λ a e2=>?_⟩
   cases e2
   exact⟨o,e,ex.2.1⟩
 | _=>exact cN y
def bW4 (K:ae)(T:String)(r:V->List V->Hp->VK->Prop)(to:TE):TE:=λ σ H Q=>to σ H λ x H1=>tyV K T x H1/\r x [] H1 Q
def tBM (K:ae)(T:String)(r:V->List V->Hp->VK->Prop)(to:TE)(t:TA):TE:=λ σ H Q=>to σ H λ x H1=>tyV K T x H1/\t σ H1 λ xs H2=>r x xs H2 Q
variable {o e:Expr} {es:List Expr} {to:TE} {t:TA} {name:Str} {apos cpos:Pos} {T id:String} {r:V->List V->Hp->VK->Prop}
theorem bo0 (pa:kT T)(slot:Slot T name id)(G:typeOf (.builtin id)=pure (.type "method_descriptor"))(hm:MtR X id r)(ho:PE X o to)
  (C:dG o name X.env (eval o X.env)=eval o X.env:=by rfl) (z:(apos.endLine==cpos.line)=true:=by rfl):PE X (.Call (.Attribute o name apos) [] [] cpos) (bW4 X.K T r to):=by
 intro y s σ H Q I h
 refine wpAny_Call_method0_late C z (thn (ho y s σ H _ I h) λ v s1 ⟨x,H1,J,r1,ty,Y⟩=>?_)
 obtain⟨Z,h2⟩:=bn4 J r1 ty
 exact⟨T,id,pa,slot,G,Z,h2,eM rfl (PySem.evalArgs_none (hm y s1 σ H1 x [] v [] Q J r1 .nil Y))⟩
theorem bW8 (pa:kT T)(slot:Slot T name id)(Y:typeOf (.builtin id)=pure (.type "method_descriptor"))(hm:MtR X id r)(ho:PE X o to)(ha:PA X (e::es) t)
  (G:dG o name X.env (eval o X.env)=eval o X.env:=by rfl)
  (J:((eJ cpos (bE (e::es) X.env)).all (λ x=>!x.1)&&(backToKw cpos (kG [] X.env)).all (λ x=>x.1.isSome)
   && decide ((e::es).length+([]:List ji).length+(if([]:List ji).isEmpty then 0 else 1)<30))=true:=by rfl)
  (C:(apos.endLine==cpos.line)=true:=by rfl) (hs:bE (e::es) X.env=(false,eval e X.env)::bE es X.env:=by rfl) (z:(eJ cpos (bE es X.env)).any (·.1)=false:=by rfl) :
  PE X (.Call (.Attribute o name apos) (e::es) [] cpos) (tBM X.K T r to t):=by
 intro y s σ H Q I h
 refine wpAny_Call_method_late G J C rfl (thn (ho y s σ H _ I h) λ v s1 ⟨x,H1,Z,r1,ty,q1⟩=>?_)
 obtain⟨h1,h2⟩:=bn4 Z r1 ty
 refine⟨T,id,pa,slot,Y,h1,h2,?_⟩
 have hA:=ha cpos y s1 σ H1 _ Z q1
 rw[hs]at hA ⊢
 refine eM (by show(false||(eJ cpos (bE es X.env)).any (·.1))=false;rw[z]<;>rfl) (i5 ?_)
 exact thn hA λ us s2 ⟨vs,H2,I2,r2,q2⟩=>hm y s2 σ H2 x vs v us Q I2 r1 r2 q2
end
def MtM (X:Cx)(id:String)(r:V->List V->Hp->VK->Prop):Prop :=
 ∀(pins:List (Addr×Obj)) (s:ai) (σ:St) (H:Hp) (x:V) (xs:List V) (v:Value) (us:List Value) (Q:VK),Inv X pins σ H s->RelV x v->Vals xs us->r x xs H Q ->
  wpAny (model X.prog X.w) X.A (call (.builtin id) (v::us)) (EP X pins σ Q) X.xe s
theorem Vals.one:∀ {x:V} {us:List Value},Vals [x] us->∃ u,us=[u]/\RelV x u
 | _,_,.cons r .nil=>⟨_,rfl,r⟩
theorem Vals.zero:∀ {us:List Value},Vals [] us->us=[]
 | _,.nil=>rfl
theorem Vals.dropLast {y:List V}{us:List Value}(h:Vals y us):Vals y.dropLast us.dropLast:=by
 induction h with
 | nil=>exact .nil
 | cons r t ih =>
  cases t with
  | nil=>exact .nil
  | cons q t'=>exact .cons r ih
theorem Vals.reverse {y:List V}{us:List Value}(h:Vals y us):Vals y.reverse us.reverse:=by
 induction h with
 | nil=>exact .nil
 | cons r t ih=>rw[dN,dN];exact Vals.append ih (.cons r .nil)
theorem Vals.rep {y:List V}{us:List Value}(h:Vals y us):∀ k:Nat,Vals (aG k y).flatten (aG k us).flatten
 | 0=>.nil
 | k+1=>by
  rw[ci,ci,dP,dP]
  exact Vals.append h (Vals.rep h k)
theorem aC2 (its:List Value):∀(k:Nat) (h:List Value),
  kU (λ x1 y=>x1++y) h.toArray (aG k its.toArray)=(h++(aG k its).flatten).toArray
 | 0,h=>by simp
 | k+1,h=>by
  have e:h.toArray++its.toArray=(h++its).toArray:=by simp
  have e2:(h++its)++(aG k its).flatten=h++(aG (k+1) its).flatten:=by
   rw[ci,dP,bX]
  rw[<-e2,<-aC2 its k (h++its),<-e,ci,dD]
section
variable {X:Cx} {pins:List (Addr×Obj)} {σ:St} {H:Hp} {s:ai} {l b:Addr} {xs ys zs:List V}
theorem Inv.lset {its its':List Value}{n:Nat}{f:Array Value->Array Value}{t':Nat}(I:Inv X pins σ H s)(h:H l=some (.lst xs))
  (e:s.heap.get? l=some { cls:=.type "list",data:=.seq its.toArray n }) (y:f its.toArray=its'.toArray) (hv:Vals ys its') (hz:ys.length<=aI) :
  Inv X pins σ (upd H l (.lst ys)) { s with heap:=s.heap.update l (hZ f),toks:=t' }:=by
 have q:=PySem.IsL.update e f
 rw[y]at q
 refine I.write (x:=l) (e:=l) (by rw[h];exact trivial) (.inl rfl) (λ C u hb z=>(cn s.heap (hZ f) (cV hb)).trans z) ⟨_,q⟩ ?_
 exact⟨hz,its',_,hv,q⟩
theorem Inv.lnew {its:List Value}{t':Nat}(I:Inv X pins σ H s)(hv:Vals ys its)(hz:ys.length<=aI) :
  Inv X pins σ (upd H s.heap.objs.size (.lst ys)) { s with heap:=s.heap.push { cls:=.type "list",data:=.seq its.toArray },toks:=t' } :=
 I.laid (λ _ _ q=>af _ q) (aj _) ⟨hz,its,0,hv,av _ rfl⟩
theorem Inv.fresh (I:Inv X pins σ H s):H s.heap.objs.size=none:=I.hok.fresh (aj _)
theorem Inv.lstM (I:Inv X pins σ H s)(h:H l=some (.lst xs)):xs.length<=aI/\∃(its:List Value) (n:Nat),Vals xs its/\xs.length=its.length/\s.heap.get? l=some { cls:=.type "list",data:=.seq its.toArray n }:=by
 obtain⟨z,its,n,r,e⟩:=I.hok l _ h
 exact⟨z,its,n,r,r.length,e⟩
theorem aL3 {n:Nat}(h:n<=aI):dg n=false:=by
 unfold dg
 exact decide_eq_false (by omega)
end
section
variable {X:Cx}
def bs5:V->List V->Hp->VK->Prop:=λ x vs H Q=>∃ l xs y,x=.ref l/\vs=[y]/\H l=some (.lst xs)/\xs.length<aI/\Q .non (upd H l (.lst (xs++[y])))
theorem aE5:MtM X "list.append" bs5:=by
 intro C s σ H x vs v us Q I Z Y h
 obtain⟨l,xs,y,rfl,rfl,G,hz,q⟩:=h
 cases Z
 obtain⟨u,rfl,J⟩:=Y.one
 obtain⟨z,its,n,r,hl,e⟩:=I.lstM G
 refine ie iO ⟨_,e,rfl⟩ F.entry_list_append (F.args_list_append_2 _ _) (PySem.list_append l its.toArray n u (by rw[ar];omega)) ⟨e,?_⟩
 refine⟨.non,_,I.lset (its':=its++[u]) G e (by simp) (r.append (.cons J .nil)) ?_,rfl,q⟩
 rw[aw,cW]
 omega
def bw0:V->List V->Hp->VK->Prop:=λ x vs H Q=>∃ l b xs zs,x=.ref l/\vs=[.ref b]/\H l=some (.lst xs)/\H b=some (.lst zs)/\xs.length+zs.length<=aI/\Q .non (upd H l (.lst (xs++zs)))
theorem aE3:MtM X "list.extend" bw0:=by
 intro G s σ H x vs v us Q I rx rv h
 obtain⟨l,b,xs,zs,rfl,rfl,J,hB,hz,q⟩:=h
 cases rx
 obtain⟨u,rfl,Z⟩:=rv.one
 cases Z
 obtain⟨z,its,n,r,hl,e⟩:=I.lstM J
 obtain⟨z2,y,n2,r2,Y,e2⟩:=I.lstM hB
 have hsz:its.toArray.size+y.toArray.size<=aI:=by rw[ar,ar];omega
 have C:¬(!its.toArray.isEmpty&&dg (its.toArray.size+y.toArray.size))=true:=by
  rw[aL3 hsz,Bool.and_false]
  exact aS
 refine ie eN ⟨_,e,rfl⟩ F.entry_list_extend (F.args_list_extend_2 _ _)
  (AutoSeq1.list_extend_list_list_0 l its.toArray n b y.toArray n2 C (by rw[ar];omega) (by omega)) ⟨e,e2,?_⟩
 refine⟨.non,_,I.lset (its':=its++y) J e (by simp) (r.append r2) ?_,rfl,q⟩
 rw[aw]
 omega
def cf2:R2:=λ x y H Q=>∃ l b xs zs,x=.ref l/\y=.ref b/\H l=some (.lst xs)/\H b=some (.lst zs)/\xs.length+zs.length<=aI/\∀ p,H p=none->Q (.ref p) (upd H p (.lst (xs++zs)))
theorem bO1:OpR X (cC .Add) cf2:=by
 intro G s σ H x y v u Q I rx ry h
 obtain⟨l,b,xs,zs,rfl,rfl,Z,hB,hz,q⟩:=h
 cases rx
 cases ry
 obtain⟨z,its,n,r,hl,e⟩:=I.lstM Z
 obtain⟨z2,C,n2,r2,Y,e2⟩:=I.lstM hB
 refine PySem.P.add_list e e2 ?_ (by rw[ar,ar];omega)
 have J:its.toArray++C.toArray=(its++C).toArray:=by simp
 rw[J]
 exact⟨.ref _,_,I.lnew (t':=s.toks) (r.append r2) (by rw[aw];omega),rfl,q _ I.fresh⟩
def cf5:R2:=λ x y H Q=>∃ l k xs,x=.ref l/\y=.int k/\H l=some (.lst xs)/\-(2^63)<=k/\k<2^63/\xs.length*k.toNat<=aI /\
 ∀ p,H p=none->Q (.ref p) (upd H p (.lst (aG k.toNat xs).flatten))
theorem bw2 {α:Type}(h:List α)(k:Nat):(aG k h).flatten.length=k*h.length:=by
 induction k with
 | zero=>simp
 | succ k ih=>rw[ci,dP,aw,ih,lC,ig]
theorem bG6:OpR X (cC .Mult) cf5:=by
 intro a1 s σ H x y v u Q I rx ry h
 obtain⟨l,k,xs,rfl,rfl,hH,h1,h2,hz,q⟩:=h
 cases rx
 obtain⟨t,rfl⟩:=ry
 obtain⟨z,its,n,r,hl,e⟩:=I.lstM hH
 have Z:its.toArray.size*k.toNat<=aI:=by rw[ar,<-hl];exact hz
 have G:¬ its.toArray.size*k.toNat > (2^63 - 1) / 8:=by
  have:(aI:Nat)<=(2^63 - 1) / 8:=by decide
  omega
 have Y:¬(!Builtin.List.listFitsIndex k)=true:=by
  rw[fitsIndex_both h1 h2]
  exact aS
 have C:¬ dg (its.toArray.size*k.toNat)=true:=by
  rw[aL3 Z]
  exact aS
 have J:kU (λ x1 x2=>x1++x2) #[] (aG (if its.toArray.isEmpty=true then 0 else k.toNat) its.toArray)=(aG k.toNat its).flatten.toArray:=by
  have f0:∀ m:Nat,kU (λ x1 x2=>x1++x2) #[] (aG m its.toArray)=(aG m its).flatten.toArray:=λ m=>by
   have:=aC2 its m []
   rw[bM]at this
   exact this
  rw[f0]
  cases its with
  | nil=>simp
  | cons a r'=>rw[if_neg (by simp)]
 refine f8 (T := "list") (U := "int") (by decide) ⟨_,e,rfl⟩ (λ s'=>ic s' k t) noFill_list_mul jL eC repeat_list jn.lookup
  (ie eC (ic s k t) jo (i6 _ _) (int___rmul___int_list k t l its.toArray n)
   ⟨e,rfl,⟨_,e,rfl⟩,ie F.slot_list_mul ⟨_,e,rfl⟩ F.entry_list_mul (F.args_list_mul_2 _ _) (AutoListH.list___mul___list_int_3 l its.toArray n k t Y G C) ⟨e,?_⟩⟩)
 rw[J]
 exact⟨.ref _,_,I.lnew (t':=s.toks) (r.rep k.toNat) (by rw[bw2,lD];exact hz),rfl,q _ I.fresh⟩
end
section
variable {prog:aO} {w:World} {A:a0} {E:Value->ai->Prop} {s:ai}
end
section
variable {X:Cx}
end
end L2
end
noncomputable section
namespace Att
open PySem PySem.W PySem.Calls PyProof.Rows
theorem ints_of_wellAll {P:Params}{h:Heap}:∀(ns:List Int) (vs:List Value),WellAll P h vs (ns.map WData.int)->kP vs ns:=by
 intro ns
 induction ns with
 | nil =>
  intro vs w
  rw[bP]at w
  cases w
  exact .nil
 | cons n ns ih =>
  intro vs w
  rw[aJ]at w
  cases w with
  | cons a b =>
   cases a
   exact .cons _ _ (ih _ b)
theorem script_of {l:OpenLaw}{n:Nat}(hn:l.most=some n){P:Params}{h:Heap}{args:List WData}{z:List Value}
  (y:l.row.toRowW.claim.pre args=true) (Z:WellAll P h z args) :
  ∃ a vs ns,z=[Value.ref a]/\args=[WData.list (ns.map WData.int)]/\h.get? a=some { cls:=.type "list",data:=.seq vs.toArray }/\kP vs ns/\ns.length<=n:=by
 have Y:WShape.hasAll [] args [.list .int]=true:=(pre_splitW y).1
 have hc:l.pre.holds [] { args:=args }=true:=(pre_splitW y).2
 obtain⟨d,r,rfl,h1,h2⟩:=hasAllW_cons Y
 obtain rfl:=hasAllW_nil h2
 obtain⟨xs,rfl,h3⟩:=hasW_list h1
 obtain⟨ns,rfl⟩:=items_int h3
 have C:ns.length<=n:=by
  unfold OpenLaw.pre at hc
  have J:(WTm.not (.lt (.lit (.int (n:Int))) (.len (.arg 0)))).holds [] { args:=[.list (ns.map .int)] }=true:=by
   have J:=(holds_andW hc).1
   rw[hn]at J
   exact J
  have G:=condW_of J (w_not (w_lt w_lit (w_len_list (w_arg rfl))))
  rw[aq]at G
  refine kt λ q=>?_
  have q':(n:Int)<((ns.length:Nat):Int):=by omega
  first
   | (rw[decide_eq_true q']at G;exact absurd G (by decide))
   | (simp at G;omega)
 cases Z with
 | cons w1 w2 =>
  cases w2
  cases w1 with
  | list ho hall=>exact⟨_,_,ns,rfl,rfl,ho,ints_of_wellAll ns _ hall,C⟩
theorem post_true (l:OpenLaw)(args:List WData):l.row.toRowW.claim.post args (.bool true) args=true :=
 postW_of (r:=l.row.toRowW) (X:=(true==true))
  (show WShape.has [] (.bool true) .bool=true by first|rfl|decide|simp[WShape.has,WShape.arms,WShape.armsAll])
  (show(WTm.eq .res (.lit (.bool true))).value [] { args:=args,res:=some (.bool true),after:=args }=some (.bool (true==true))from w_eq_bool (w_res rfl) w_lit) rfl
theorem attach_call {l:OpenLaw}{n:Nat}{q:aO}{loose:List Str}{XP:(Str->Option Value)->Heap->Prop}{YP:World->Heap->Prop}{d:DefRec}
  (hn:l.most=some n) (a3:d.params.defaults=[])
  (call:∀(w:World) (s₀ h:ai) (mg mb:Str->Option Value) (fa:Addr) (o:Obj) (pm cd y:Value) (a:Addr) (vs:List Value) (ns:List Int),
   Ground q loose [] XP w s₀ mg mb h.heap->YP w h.heap ->
   h.heap.get? fa=some o->o.data=.func (docDef d.name d.params d.body d.scope pm cd y)->h.heap.CodeRec cd d.name->mg d.name=some (.ref fa) ->
   h.heap.get? a=some { cls:=.type "list",data:=.seq vs.toArray }->kP vs ns->ns.length<=n->h.gens=#[] ->
   gi (model l.prog w) jj (.call (.ref fa) ⟨[.ref a],[]⟩) (λ r s'=>r=.ok (.ret (.bool true))/\OldK h.heap s'.heap/\s'.os=h.os/\gh s'.gens) h) :
  WalkO q loose XP YP l.row.toRowW d [] (λ f vs=>kQ f vs):=by
 intro w s₀ h mg mb G Y fa o pm cd y dV kV ho hd a1 hD a4 hg args a5 as Z a6 a8 a2 a7
 obtain rfl:dV=.none:=Dflts.none hD a3
 obtain rfl:kV=.none:=Dflts.noKw hD
 obtain⟨a,vs,ns,rfl,rfl,C,z,J⟩:=script_of hn Z a2
 refine enter_call (j0 (call w s₀ h mg mb fa o pm cd y a vs ns G Y ho (fd_plain hd) a1 a4 C z J hg) λ r s' hq=>?_)
 obtain⟨rfl,h2,h3,h4⟩:=hq
 exact⟨.inl ⟨.bool true,.bool true,[],rfl,λ _=>rfl,.bool true,post_true l _,λ _=>⟨List.Pairwise.nil,λ _ hm=>(nomatch hm)⟩⟩,h2,h3,h4⟩
section
variable {prog:aO} {w:World} {A:a0} {E:Value->ai->Prop} {s:ai} {K:Frag}
end
end Att
noncomputable section
namespace L2
open PySem PySem.Spec PyProof.Rows
theorem aD6:∀ {vs:List Value} {ns:List Int},kP vs ns->Vals (ns.map V.int) vs
 | _,_,.nil=>.nil
 | _,_,.cons n t h=>.cons ⟨t,rfl⟩ (aD6 h)
noncomputable def defArgs (s:Stmt):cD:=match s with
 | .FunctionDef _ a _ _ _ _ _ _ _ _=>a
 | _=>{ posonlyargs:=[],args:=[],vararg:=none,kwonlyargs:=[],kw_defaults:=[],kwarg:=none,defaults:=[] }
noncomputable def zI (s:Stmt):List Stmt:=match s with
 | .FunctionDef _ _ b _ _ _ _ _ _ _=>b
 | _=>[]
noncomputable def defScope (s:Stmt):Scope:=match s with
 | .FunctionDef _ _ _ _ _ _ sc _ _ _=>sc
 | _=>{ kind:=.function,names:=[],isGenerator:=false,isCoroutine:=false }
noncomputable abbrev CX0:CXT:=λ _ _ _ _ _ _=>False
abbrev E0:XK:=λ _ _ _=>False
theorem bP1 {X:Cx}:aN2 CX0 X E0:=λ _ _ _ _ _ _ _ h=>h.elim
structure Fun (K:ae)(x qual:Str)(st:Stmt)(f:Addr)(fd:cy):Prop where
 ex:∃(oc:Value) (od:Option Addr) (kV doc pm:Value) (an:Option Addr) (cdv ct:Value) (osl:Array (Option Value)),
  fd=dv x qual (defArgs st) (zI st) (defScope st) .none kV doc pm an cdv ct/\K.lookup f=some ⟨oc,od,.func fd,osl⟩/\fV K cdv qual=true
 kp:cT K (.ref f)=true
section
variable {P:aO} {w:World} {K:ae} {mg:Str->Option Value} {base:Heap}
theorem Fun.ok {x qual:Str}{st:Stmt}{f:Addr}{J:cy}{N ps:List Str}{k:Nat}{sp:Sp}(F:Fun K x qual st f J)(S:FnScope N ps (defScope st))(len:∀ vs H Q E,sp vs H Q E->vs.length=ps.length)
  (z:∀(y:Value) (A:a0) (outer:List Env) (s:ai) (H:Hp) (vs:List V) (Q:VK) (E:XK),Room k (A.deeper (gE qual (defScope st) s.heap.objs.size f y))->sp vs H Q E ->
   ∃ t,PSs (bf2 CX0 P w K mg base N qual (defScope st) f y A outer s H E).nox (zI st) t/\t { nx:=λ _ H'=>Q .non H',rt:=Q } (an3 N vs) H):FnOk P w K mg base CX0 (k+1) f J ps sp:=by
 obtain⟨oc,od,kV,Y,pm,an,y,ct,Z,rfl,lk,C⟩:=F.ex
 refine bN8 lk C S len λ A outer s H vs Q E hr G=>?_
 obtain⟨t,h,q⟩:=z y A outer s H vs Q E hr G
 exact⟨t,h.nox,q⟩
theorem Fun.binds {x qual:Str}{st:Stmt}{f:Addr}{J:cy}{ps:List Str}(F:Fun K x qual st f J)
  (h:∀(kV y G:Value) (C:Option Addr) (z ct:Value) (us:List Value),us.length=ps.length->fi (dv x qual (defArgs st) (zI st) (defScope st) .none kV y G C z ct) ⟨us,[]⟩=pure (ps.zip us)):Binds K J ps []:=by
 obtain⟨oc,od,kV,y,G,C,z,ct,Z,rfl,lk,Y⟩:=F.ex
 exact .all (h kV y G C z ct)
theorem bp8 {x qual:Str}{st:Stmt}{f:Addr}{oc:Value}{od C:Option Addr}{z:Array (Option Value)}{kV y G h ct:Value}(l:K.lookup f=some ⟨oc,od,.func (dv x qual (defArgs st) (zI st) (defScope st) .none kV y G C h ct),z⟩)
  (c:fV K h qual=true) (k:cT K (.ref f)=true):Fun K x qual st f (dv x qual (defArgs st) (zI st) (defScope st) .none kV y G C h ct):=⟨⟨oc,od,kV,y,G,C,h,ct,z,rfl,l,c⟩,k⟩
end
theorem aG4 {A:a0}{k:Nat}(hr:Room k A):A.units+1<cLine:=Nat.lt_of_le_of_lt (Nat.add_le_add_left (by decide:1<=64) _) hr.units
section
variable {X:Cx}
theorem pv (i:Nat){x:Str}{pos:Pos}(hN:X.N[i]?=some x:=by rfl)(hv:Vis X.env.scope x:=by first|exact Or.inl rfl|exact Or.inr (Or.inl rfl)|exact Or.inr (Or.inr rfl))(hd:(x==("__debug__":Str))=false:=by decide)
  (h:(x==("__classdict__":Str))=false:=by decide):PE X (.Name x pos) (bO8 i):=aO3 hN hv hd h
end
theorem cf0 {A B:Prop}(h:B):if false=true then A else B:=by
 rw[if_neg aS]
 exact h
theorem cf1 {A B:Prop}(h:A):if true=true then A else B:=by
 rw[if_pos rfl]
 exact h
def aj8 (H H':Hp):Prop:=∀ b o,H b=some o->H' b=some o
theorem aj8.refl (H:Hp):aj8 H H:=λ _ _ h=>h
theorem bb4 {prog:aO}{w:World}{A:a0}{R:ly->ai->Prop}{s:ai}{elt y iter:Expr}{ifs:List Expr}{scope:Scope}{pos:Pos}{it z:Value}{env:Env}(I:Nat->ai->Prop)
  (turn:∀ n s,I n s->wpAny (model prog w) A (fB it) (λ r G=>match r with
   | none=>R (.ok .next) G
   | some v=>wpAny (model prog w) A (fC y it v) (λ _ C=>wpAny (model prog w) A (hJ y env v) (λ _ Z =>
     wpAny (model prog w) A (forIn ifs true λ c r=>if r=true then do let ok <- eB c env (eval c env);pure (ForInStep.yield ok)else pure (ForInStep.yield r)) (λ ok Y =>
      if ok=true then wpAny (model prog w) A (eval elt env) (λ x s₄ =>
       wpAny (model prog w) A (call (.builtin "list.append") [z,x]) (λ _ s₅=>∃ m,m<n/\I m s₅) (j5 (model prog w) A env λ e s'=>R (.error e) s') s₄) (j5 (model prog w) A env λ e s'=>R (.error e) s') Y
      else ∃ m,m<n/\I m Y) (j5 (model prog w) A env λ e s'=>R (.error e) s') Z) (j5 (model prog w) A env λ e s'=>R (.error e) s') C) (j5 (model prog w) A env λ e s'=>R (.error e) s') G) (j5 (model prog w) A env λ e s'=>R (.error e) s') s)
  (n:Nat) (h:I n s) :
  gi (model prog w) A (.compLoop (.ListComp elt [⟨y,iter,ifs,0⟩] scope pos) 0 it z env) R s:=by
 refine codeAny_loop rfl I (λ n s hI=>?_) n h
 show wpAny _ A ((compTurn (.ListComp elt [⟨y,iter,ifs,0⟩] scope pos) 0 it z env).onRaise (λ x=>do noteFrame x env;theTreesLotGoes x)) _ _ s
 refine wpAny_noted ?_
 rw[compTurn_list]
 refine ab (js (ab (cM (turn n s hI) (λ r G h₁=>?_) λ _ _ h'=>h')))
 cases r with
 | none=>exact am h₁
 | some v =>
  refine ab (cM h₁ (λ _ C J=>?_) λ _ _ h'=>h')
  refine ab (cM J (λ _ Z h₂=>ab (cM h₂ (λ ok Y h₃=>?_) λ _ _ h'=>h')) λ _ _ h'=>h')
  cases ok with
  | false=>exact am ⟨rfl,h₃⟩
  | true =>
   exact ab (ab (cM h₃ (λ x s₄ h₄=>ab (cM h₄ (λ _ s₅ h₅=>am (am ⟨rfl,h₅⟩)) λ _ _ h'=>h')) λ _ _ h'=>h'))
noncomputable def as8 (cells:List (Str×Addr)):List (Str×cI)->List (Str×Addr)->List (Str×Addr)
 | [],acc=>acc
 | (n,k)::r,acc=>as8 cells r (if k==.free then(match cells.lookup n with|some c=>(n,c)::acc|none=>acc)else acc)
theorem ak9 {env:Env}:∀(names:List (Str×cI)) (z:List (Str×Addr)),(∀ y∈names,y.2=.free->∃ c,env.cells.lookup y.1=some c) ->
  (forIn names z λ(x:Str×cI) (cs:List (Str×Addr))=>(if x.2==.free then do let c <- cellOf env x.1;pure (ForInStep.yield ((x.1,c)::cs))else pure (ForInStep.yield cs):Sem (ForInStep (List (Str×Addr)))))=pure (as8 env.cells names z)
 | [],z,_=>by rw[eO];rfl
 | (n,k)::r,z,h=>by
  have C:=λ a=>ak9 r a λ y hy=>h y (aF _ hy)
  rw[fF]
  unfold as8
  cases e:(k==NameKind.free)with
  | false =>
   simp only[au,if_false]
   exact C z
  | true =>
   have hk:k=.free:=by simpa using e
   obtain⟨c,hc⟩:=h (n,k) aN hk
   have e1:cellOf env n=pure c:=by unfold cellOf;rw[hc]
   simp only[if_true,e1,hc]
   exact C _
theorem al6 {scope:Scope}{env:Env}(h:∀ y∈scope.names,y.2=.free->∃ c,env.cells.lookup y.1=some c):closureFor scope env=pure (as8 env.cells scope.names []):=by
 have:=ak9 (env:=env) scope.names [] h
 show(forIn scope.names [] (λ(x:Str×cI) (cs:List (Str×Addr))=>(if x.2==.free then do let c <- cellOf env x.1;pure (ForInStep.yield ((x.1,c)::cs))else pure (ForInStep.yield cs):Sem (ForInStep (List (Str×Addr))))) >>= λ cs=>pure cs)=_
 rw[this]
 rfl
theorem clOf_mem {cells:List (Str×Addr)}{n:Str}{c:Addr}:∀ {names:List (Str×cI)} {C:List (Str×Addr)},(n,c)∈as8 cells names C->cells.lookup n=some c\/(n,c)∈C
 | [],_,h=>.inr h
 | (m,k)::r,C,h=>by
  unfold as8 at h
  rcases clOf_mem h with z|z
  ·exact .inl z
  ·cases e:(k==NameKind.free)with
   | false=>simp only[e,au,if_false]at z;exact .inr z
   | true =>
    simp only[e,if_true]at z
    cases q:cells.lookup m with
    | none=>rw[q]at z;exact .inr z
    | some d =>
     rw[q]at z
     rcases aP.mp z with y|y
     ·cases y;exact .inl q
     ·exact .inr y
theorem aN7 {cells:List (Str×Addr)}{n:Str}{c:Addr}(hc:cells.lookup n=some c):∀ {names:List (Str×cI)} {y:List (Str×Addr)},((n,NameKind.free)∈names\/(n,c)∈y)->(n,c)∈as8 cells names y
 | [],_,h=>by rcases h with h|h;(exact absurd h (by simp));exact h
 | (m,k)::r,y,h=>by
  unfold as8
  refine aN7 hc ?_
  rcases h with h|h
  ·rcases aP.mp h with e|h
   ·cases e
    right
    simp[hc]
   ·exact .inl h
  ·right
   cases e:(k==NameKind.free)with
   | false=>simpa using h
   | true =>
    simp only[if_true]
    cases q:cells.lookup m with
    | none=>exact h
    | some d=>exact aF _ h
theorem ak6 {α:Type}{n:Str}{c:α}:∀ {l:List (Str×α)},(n,c)∈l->(∀ d,(n,d)∈l->d=c)->l.lookup n=some c
 | (m,d)::r,h,u=>by
  rw[bw]
  cases e:n==m with
  | true =>
   have e':=beq_iff_eq.mp e
   subst e'
   rw[u d aN]
  | false =>
   rcases aP.mp h with z|z
   ·cases z;simp at e
   ·exact ak6 z λ d' h'=>u d' (aF _ h')
theorem aF9 {cells:List (Str×Addr)}{n:Str}{c:Addr}{names:List (Str×cI)}(hc:cells.lookup n=some c)(h:(n,NameKind.free)∈names):(as8 cells names []).lookup n=some c:=by
 refine ak6 (aN7 hc (.inl h)) λ d hd=>?_
 rcases clOf_mem hd with z|z
 ·rw[hc]at z;exact(aA z).symm
 ·exact absurd z (by simp)
theorem zf:∀(names:List (Str×cI)) (n:Nat) (h:List (Str×Addr)),aW n names h=aW n names []++h
 | [],_,h=>by simp[aW]
 | (x,k)::r,n,h=>by
  unfold aW
  split
  ·rw[zf r (n+1) ((x,n)::h),zf r (n+1) [(x,n)]]
   simp
  ·exact zf r n h
theorem zw:∀ {names:List (Str×cI)} {n:Nat} {C:List (Str×Addr)} {x:Str} {c:Addr},(x,c)∈aW n names C->(x,NameKind.cell)∈names\/(x,c)∈C
 | [],_,_,_,_,h=>.inr h
 | (y,k)::r,n,C,x,c,h=>by
  unfold aW at h
  split at h
  ·rename_i hk
   rcases zw h with z|z
   ·exact .inl (aF _ z)
   ·rcases aP.mp z with e|z
    ·cases e
     have:k=.cell:=by simpa using hk
     subst this
     exact .inl aN
    ·exact .inr z
  ·rcases zw h with z|z
   ·exact .inl (aF _ z)
   ·exact .inr z
theorem zB {α:Type}(x:Str):∀(l r:List (Str×α)),(l++r).lookup x=(l.lookup x).or (r.lookup x)
 | [],r=>by simp
 | (y,v)::l,r=>by
  rw[bV,bw,bw]
  cases x==y with
  | true=>rfl
  | false=>exact zB x l r
noncomputable def zM (N':List Str)(src:List (Option Nat))(scope:Scope)(XN:List Str)(xs:Scope):Bool :=
 (scope.kind==.function) &&
 (scope.names.all λ y=>!(y.2==.free)||(xs.names.lookup y.1==some .cell||xs.names.lookup y.1==some .free)) &&
 (scope.names.all λ y=>!(y.2==.local)||scope.names.lookup y.1==some .local) &&
 (scope.names.all λ y=>!(y.2==.cell)||(scope.names.all λ z=>!(z.1==y.1)||z.2==.cell)) &&
 (src.length==N'.length) &&
 ((N'.zip src).all λ y=>match y.2 with|none=>true|some j=>XN[j]?==some y.1&&scope.names.lookup y.1==some .free)
structure CompCk (N':List Str)(src:List (Option Nat))(scope:Scope)(XN:List Str)(xs:Scope):Prop where
 kind:scope.kind=.function
 fr:∀ y∈scope.names,y.2=.free->xs.names.lookup y.1=some .cell\/xs.names.lookup y.1=some .free
 loc:∀ y∈scope.names,y.2=.local->scope.names.lookup y.1=some .local
 cel:∀ y∈scope.names,y.2=.cell->∀ z∈scope.names,z.1=y.1->z.2=.cell
 len:src.length=N'.length
 sr:∀(i j:Nat) (x:Str),src[i]?=some (some j)->N'[i]?=some x->XN[j]?=some x/\scope.names.lookup x=some .free
theorem bo1 {C:List Str}{src:List (Option Nat)}{scope:Scope}{G:List Str}{J:Scope}(h:zM C src scope G J=true):CompCk C src scope G J:=by
 unfold zM at h
 simp only[ak]at h
 obtain⟨⟨⟨⟨⟨h1,h2⟩,h3⟩,Y⟩,h5⟩,Z⟩:=h
 refine⟨by simpa using h1,λ y hy e=>?_,λ y hy e=>?_,λ y hy e z hz ez=>?_,by simpa using h5,λ i j x e1 e2=>?_⟩
 ·have:=bq.mp h2 y hy
  simpa [e]using this
 ·have:=bq.mp h3 y hy
  simpa [e]using this
 ·have:=bq.mp Y y hy
  simp only[e,beq_self_eq_true,aU,lh]at this
  have:=bq.mp this z hz
  simpa [ez]using this
 ·have hm:(x,some j)∈C.zip src:=by
   refine aQ (i:=i) ?_
   rw[d6]
   exact⟨e2,e1⟩
  have:=bq.mp Z _ hm
  simpa using this
noncomputable abbrev zE (X:Cx)(N':List Str)(scope:Scope)(C:Addr)(cells:List (Str×Addr))(s:ai)(H:Hp)(ex:List Addr):Cx where
 prog:=X.prog
 w:=X.w
 K:=X.K
 mg:=X.mg
 base:=X.base
 A:=X.A
 N:=N'
 s₀:=s
 H₀:=H
 env:={ scope:=dQ scope X.env,locals:=C,globals:=X.env.globals,cells:=cells,qual:=X.env.qual,func:=none,code:=X.env.code,frame:=X.env.frame,builtins:=X.env.builtins }
 outer:=X.stack
 stack:=X.stack
 ex:=ex
 fn:=λ x=>scope.names.lookup x==some .cell
 calm:=X.calm
 pn:=[]
 xe:=λ _ _=>False
def PIf (X:Cx)(ifs:List Expr)(t:TT):Prop :=
 ∀(pins:List (Addr×Obj)) (s:ai) (σ:St) (H:Hp) (Q:Bool->Hp->Prop),Inv X pins σ H s->t σ H Q ->
  wpAny (model X.prog X.w) X.A (forIn ifs true λ c r=>if r=true then do let ok <- eB c X.env (eval c X.env);pure (ForInStep.yield ok)else pure (ForInStep.yield r)) (TP X pins σ Q) X.xe s
def bU4:TT:=λ _ H Q=>Q true H
theorem bc3 {X:Cx}:PIf X [] bU4:=λ _ _ _ H _ I h=>wpAny_tests_nil ⟨H,I,h⟩
theorem bs3 {X:Cx}{c:Expr}{t:TT}(h:PT X c t):PIf X [c] t:=λ y s σ H Q I hw=>wpAny_tests_one (h y s σ H Q I hw)
noncomputable def aA1 (src:List (Option Nat))(σ:St):St:=src.map λ o=>match o with|none=>none|some j=>(σ[j]?).join
def tComp (src:List (Option Nat))(wi:TI)(g:TG)(tc:TT)(te:TE):TE:=λ σ H Q=>wi σ H λ J H1=>∀ D,H1 D=none ->
 ∃ W:Nat->Nat->St->Hp->Prop,(∃ m,W 0 m (aA1 src σ) (upd H1 D (.lst [])))/\∀ i m σ' H',W i m σ' H' ->
  (J.stop i H'/\Q (.ref D) H')\/(J.go i H'/\∃ N:St->Hp->Prop,(∀ σ2 H2,N σ2 H2->∃ m',m'<m/\W (i+1) m' σ2 H2) /\
   ∀ x H2,J.yld i H' x H2->g x σ' H2 λ σ3 H3=>tc σ3 H3 λ b H4=>if b=true then te σ3 H4 λ v H5=>∃ ys,H5 D=some (.lst ys)/\ys.length<aI/\N σ3 (upd H5 D (.lst (ys++[v])))else N σ3 H4)
theorem zW {env:Env}:∀ {names:List (Str×cI)} {x:Str} {k:cI},names.lookup x=some k ->
  (names.map λ(n,k)=>if(k==NameKind.free&&env.scope.kind==.function&&env.kindOf n==some .cell)then(n,NameKind.cell)else(n,k)).lookup x =
   some (if(k==NameKind.free&&env.scope.kind==.function&&env.kindOf x==some .cell)then NameKind.cell else k)
 | [],_,_,h=>by simp at h
 | (n,k)::r,x,k',h=>by
  have y:=@zW env r x k'
  show lM x ((if(k==NameKind.free&&env.scope.kind==.function&&env.kindOf n==some .cell)=true then(n,NameKind.cell)else(n,k))::_)=_
  cases hx:x==n with
  | true =>
   have e:=beq_iff_eq.mp hx
   subst e
   simp only[bw,hx]at h
   cases h
   by_cases hc:(k==NameKind.free&&env.scope.kind==.function&&env.kindOf x==some .cell)=true
   ·rw[if_pos hc,if_pos hc];simp only[bw,hx]
   ·rw[if_neg hc,if_neg hc];simp only[bw,hx]
  | false =>
   simp only[bw,hx]at h
   by_cases hc:(k==NameKind.free&&env.scope.kind==.function&&env.kindOf n==some .cell)=true
   ·rw[if_pos hc];simp only[bw,hx];exact y h
   ·rw[if_neg hc];simp only[bw,hx];exact y h
theorem qe {env:Env}:∀ {names:List (Str×cI)} {x:Str},names.lookup x=none ->
  (names.map λ(n,k)=>if(k==NameKind.free&&env.scope.kind==.function&&env.kindOf n==some .cell)then(n,NameKind.cell)else(n,k)).lookup x=none
 | [],_,_=>rfl
 | (n,k)::r,x,h=>by
  have y:=@qe env r x
  show lM x ((if(k==NameKind.free&&env.scope.kind==.function&&env.kindOf n==some .cell)=true then(n,NameKind.cell)else(n,k))::_)=_
  cases hx:x==n with
  | true=>simp only[bw,hx]at h;cases h
  | false =>
   simp only[bw,hx]at h
   by_cases hc:(k==NameKind.free&&env.scope.kind==.function&&env.kindOf n==some .cell)=true
   ·rw[if_pos hc];simp only[bw,hx];exact y h
   ·rw[if_neg hc];simp only[bw,hx];exact y h
theorem av3 {X:Cx}{N':List Str}{src:List (Option Nat)}{scope:Scope}{a6:List (Addr×Obj)}{σ:St}{H:Hp}{s s4:ai}{fp:List Addr}
  (J:CompCk N' src scope X.N X.env.scope) (I:Inv X a6 σ H s) (hf:∀ b∈fp,FpOk X a6 H b) (a9:∀ b∈fp,b<s.heap.objs.size)
  (e4:∃ tk,s4={ s with heap:=fc (s.heap.push { cls:=.type "dict",data:=.dict #[] }) scope.names,toks:=tk }) :
  Inv (zE X N' scope s.heap.objs.size (aW (s.heap.objs.size+1) scope.names (as8 X.env.cells scope.names [])) s H fp) [] (aA1 src σ) H s4:=by
 obtain⟨tk,rfl⟩:=e4
 have hk:∀ b o,s.heap.get? b=some o->(fc (s.heap.push { cls:=.type "dict",data:=.dict #[] }) scope.names).get? b=some o:=λ b o e=>dE _ _ b o (af _ e)
 have ok:=cellsFrom_ok scope.names (s.heap.push { cls:=.type "dict",data:=.dict #[] }) (s.heap.objs.size+1) [] ⟨λ _ _ hm=>(nomatch hm),List.Pairwise.nil⟩ (by rw[bW];exact aj _)
 rw[bW]at ok
 have a3:=zf scope.names (s.heap.objs.size+1) (as8 X.env.cells scope.names [])
 have lk:∀ x c,(aW (s.heap.objs.size+1) scope.names (as8 X.env.cells scope.names [])).lookup x=some c ->
   ((x,c)∈aW (s.heap.objs.size+1) scope.names []/\(x,NameKind.cell)∈scope.names)\/(X.env.cells.lookup x=some c/\(aW (s.heap.objs.size+1) scope.names []).lookup x=none):=λ x c e=>by
  rw[a3,zB]at e
  cases q:(aW (s.heap.objs.size+1) scope.names []).lookup x with
  | some d =>
   rw[q]at e
   have e':d=c:=aA e
   subst e'
   have hm:=aK q
   refine .inl ⟨hm,?_⟩
   rcases zw hm with z|z
   ·exact z
   ·exact absurd z (by simp)
  | none =>
   rw[q]at e
   have e':(as8 X.env.cells scope.names []).lookup x=some c:=e
   rcases clOf_mem (aK e')with z|z
   ·exact .inr ⟨z,rfl⟩
   ·exact absurd z (by simp)
 have up:∀ x c,(x,c)∈aW (s.heap.objs.size+1) scope.names []->s.heap.objs.size+1<=c:=λ x c h=>(ok.empty x c h).2
 have b1:∀ x c,X.env.cells.lookup x=some c->c<s.heap.objs.size:=λ x c h=>by
  obtain⟨v,q⟩:=I.cell x c h
  exact q.lt
 have a4:∀ b,b<s.heap.objs.size->b≠s.heap.objs.size:=λ b h=>ax h
 have b2:∀ b∈fp,H b=none/\b≠X.env.locals/\b ∉ X.fs:=λ b hb=>⟨(hf b hb).1,(hf b hb).2.1,(hf b hb).2.2.1⟩
 have b4:(fc (s.heap.push { cls:=.type "dict",data:=.dict #[] }) scope.names).Ns s.heap.objs.size (λ _=>none):=(lN s.heap (.type "dict")).keeps (dE _ _)
 have Z:∀ x k,scope.names.lookup x=some k->(dQ scope X.env).names.lookup x=some (if(k==NameKind.free&&X.env.scope.kind==.function&&X.env.kindOf x==some .cell)then NameKind.cell else k):=λ x k e=>zW (env:=X.env) e
 have a5:∀ x,scope.names.lookup x=none->(dQ scope X.env).names.lookup x=none:=λ x e=>qe (env:=X.env) e
 have b0:∀ x c,(x,NameKind.free)∈scope.names->X.env.cells.lookup x=some c->(aW (s.heap.objs.size+1) scope.names (as8 X.env.cells scope.names [])).lookup x=some c:=λ x c hx hc=>by
  rw[a3,zB]
  cases q:(aW (s.heap.objs.size+1) scope.names []).lookup x with
  | some d =>
   rcases zw (aK q)with z|z
   ·have:=J.cel _ z rfl _ hx rfl
    cases this
   ·exact absurd z (by simp)
  | none=>exact aF9 hc hx
 have a7:∀ x,(x,NameKind.free)∈scope.names->∃ c,X.env.cells.lookup x=some c:=λ x hx=>I.ok.has x (J.fr _ hx rfl)
 refine⟨⟨I.ok.mod,J.kind,I.ok.glob,I.ok.blt,aj _,λ x y c e1 e2=>?_,λ x hx=>?_,λ x c hx e=>?_,I.ok.hd,I.ok.frames,.inl rfl,λ b hb=>⟨a4 b (a9 b hb),λ x c e z=>?_⟩,I.bs,ao I.ok.bsz I.sz,λ b o e hb=>?_,λ b hb z=>?_,I.stack,I.stkFree⟩,
  rfl,I.bare,Un.kept hk,⟨_,b4,λ i x v e1 e2 e3=>?_⟩,λ x c e=>?_,I.hok.fresh (aj _),λ x c e=>?_,λ p hp=>absurd (show p∈([]:List (Addr×Obj))from hp) (by simp),I.hok.kept hk,by unfold aA1;rw[aq];exact J.len⟩
 ·rcases lk x c e1 with⟨a1,_⟩|⟨a1,_⟩<;>rcases lk y c e2 with⟨a2,_⟩|⟨a2,_⟩
  ·exact hV ok.apart a1 a2
  ·exact absurd (ay (b1 _ _ a2) (gm (up _ _ a1))) (bI _)
  ·exact absurd (ay (b1 _ _ a1) (gm (up _ _ a2))) (bI _)
  ·exact I.ok.inj x y c a1 a2
 ·cases q:scope.names.lookup x with
  | none =>
   have C:(dQ scope X.env).names.lookup x=some .cell\/(dQ scope X.env).names.lookup x=some .free:=hx
   rw[a5 x q]at C
   rcases C with z|z<;>cases z
  | some k =>
   have C:(dQ scope X.env).names.lookup x=some .cell\/(dQ scope X.env).names.lookup x=some .free:=hx
   rw[Z x k q]at C
   cases k with
   | free =>
    obtain⟨c,hc⟩:=a7 x (aK q)
    exact⟨c,b0 x c (aK q) hc⟩
   | cell =>
    obtain⟨c,hc⟩:=zV (n:=s.heap.objs.size+1) q
    exact⟨c,by show(aW _ _ _).lookup x=_;rw[a3,zB,hc];rfl⟩
   | _=>rcases C with z|z<;>cases z
 ·have C:(scope.names.lookup x==some .cell)=true:=hx
  have q:scope.names.lookup x=some .cell:=by simpa using C
  rcases lk x c e with⟨a,_⟩|⟨a,b⟩
  ·have:=up _ _ a;show s.heap.objs.size<=c;omega
  ·obtain⟨d,hd⟩:=zV (n:=s.heap.objs.size+1) q
   rw[hd]at b;cases b
 ·subst z
  rcases lk x c e with⟨a,_⟩|⟨a,_⟩
  ·exact absurd (ay (a9 c hb) (gm (up _ _ a))) (bI _)
  ·exact(hf c hb).2.2.2.2.1 x c a rfl
 ·rcases(hf b hb).2.2.2.1 with z|z
  ·exact I.ok.noex b o e z
  ·exact absurd (ay (aE e) (ao I.ok.bsz z)) (bI _)
 ·rcases aP.mp (I.stkSub b z)with y|y
  ·exact(b2 b hb).2.1 y
  ·exact(b2 b hb).2.2 y
 ·have G:(aA1 src σ)[i]?=some (some v):=e2
  unfold aA1 at G
  rw[az]at G
  cases q:src[i]? with
  | none=>rw[q]at G;cases G
  | some o =>
   rw[q]at G
   cases o with
   | none=>cases G
   | some j =>
    have Y:(σ[j]?).join=some v:=aA G
    have ej:σ[j]?=some (some v):=by
     cases q2:σ[j]? with
     | none=>rw[q2]at Y;cases Y
     | some o2=>rw[q2]at Y;exact congrArg some Y
    obtain⟨h1,h2⟩:=J.sr i j x q e1
    have hm:=aK h2
    obtain⟨mX,b5,b3⟩:=I.loc
    have a8:Vis X.env.scope x:=by
     rcases J.fr _ hm rfl with z|z
     ·exact .inr (.inl z)
     ·exact .inr (.inr z)
    obtain⟨u,ru,look⟩:=b3 j x v h1 ej a8
    refine⟨u,ru,.inr ?_⟩
    have hcell:∃ c,X.env.cells.lookup x=some c/\s.heap.IsCell c (some u):=by
     rcases look with⟨z,_⟩|⟨_,c,z1,z2⟩
     ·have z':X.env.scope.names.lookup x=some .local:=z
      rcases J.fr _ hm rfl with y|y<;>(rw[z']at y;cases y)
     ·exact⟨c,z1,z2⟩
    obtain⟨c,c1,c2⟩:=hcell
    refine⟨?_,c,b0 x c hm c1,c2.keeps hk⟩
    show(dQ scope X.env).names.lookup x=some .cell\/(dQ scope X.env).names.lookup x=some .free
    rw[Z x _ h2]
    by_cases hc:(NameKind.free==NameKind.free&&X.env.scope.kind==.function&&X.env.kindOf x==some .cell)=true
    ·rw[if_pos hc];exact .inl rfl
    ·rw[if_neg hc];exact .inr rfl
 ·rcases lk x c e with⟨a,_⟩|⟨a,_⟩
  ·exact⟨_,(ok.empty x c a).1⟩
  ·obtain⟨v,q⟩:=I.cell x c a
   exact⟨v,q.keeps hk⟩
 ·rcases lk x c e with⟨a,_⟩|⟨a,_⟩
  ·exact I.hok.fresh (by have:=up _ _ a;omega)
  ·exact I.freeC x c a
theorem aP2 {X:Cx}{Z:List Str}{scope:Scope}{h:List (Addr×Obj)}{σ σ':St}{H Y:Hp}{s s5:ai}{G:List Addr}{cells:List (Str×Addr)}{h':Heap}
  (I:Inv X h σ H s) (C:∀ b∈G,FpOk X h H b) (J:Inv (zE X Z scope s.heap.objs.size cells s H G) [] σ' Y s5) (hs:bF s.heap.objs.size s5.heap h') :
  Inv X h σ Y { s5 with heap:=h' }:=by
 have y:∀ b o,s.heap.get? b=some o->b≠s.heap.objs.size:=λ b o e=>ax (aE e)
 have u:Un (frs X.stack) G H Y s.heap s5.heap:=J.base
 refine I.call' (s':={ s5 with heap:=h' }) (ch:=G) J.os ⟨λ b o e n hb hx=>?_,λ b o e n hb hx=>?_,λ b o e n hx=>u.free b o e n hx,λ b o e hx=>?_,u.tups,u.frzs,u.tbls⟩ (λ b o e=>?_) J.bare λ b hb=>⟨(C b hb).2.2.2.1,(C b hb).2.1,(C b hb).2.2.2.2.1,(C b hb).2.2.2.2.2⟩
 ·exact(hs.2 b (y b o e)).trans (u.keep b o e n hb hx)
 ·obtain⟨sl,q⟩:=u.slot b o e n hb hx
  exact⟨sl,(hs.2 b (y b o e)).trans q⟩
 ·obtain⟨o',q⟩:=u.there b o e hx
  exact⟨o',(hs.2 b (y b o e)).trans q⟩
 ·have fr:Y s.heap.objs.size=none:=J.free
  refine(J.hok b o e).stay (λ c w' hc q=>(hs.2 c ?_).trans q) (λ _ q=>q) λ _ _ q=>q
  rintro rfl
  rcases hc with z|hc
  ·rw[<-z,fr]at e;cases e
  ·rw[fr]at hc;cases hc
theorem al9 {M:Model}{A:a0}{E:Value->ai->Prop}{s:ai}{scope:Scope}{globals:Addr}{y:List (Str×Addr)}{qual:Str}{outer:Env}{Q:Env->ai->Prop}
  (h:Q { scope:=scope,locals:=s.heap.objs.size,globals:=globals,cells:=aW (s.heap.objs.size+1) scope.names y,qual:=qual,func:=none,code:=outer.code,frame:=outer.frame,builtins:=outer.builtins }
   { s with heap:=fc (s.heap.push { cls:=.type "dict",data:=.dict #[] }) scope.names }) :
  wpAny M A (fX scope globals y [] qual none .none (some outer)) Q E s:=by
 simp only[fX,fY,if_true]
 refine ab (wpAny_alloc ?_)
 refine ab (wpAny_layCells _ (λ name kind cells=>by cases hkc:kind==NameKind.cell<;>simp[hkc]) _ _ _ _ ?_)
 rw[show({ s with heap:=s.heap.push { cls:=.type "dict",data:=.dict #[] } }:ai).heap.objs.size=s.heap.objs.size+1 from bW ..]
 refine ab ?_
 rw[eO]
 exact am (am h)
theorem aA6 {X':Cx}{R:ly->ai->Prop}{elt tg iter:Expr}{ifs:List Expr}{scope:Scope}{pos:Pos}{g:TG}{tc:TT}{te:TE}{J:It}{fp:List Addr}{it D:Addr}{tn:Nat->Heap->Prop}{W:Nat->Nat->St->Hp->Prop}
  {QD:Hp->Prop} {σ0:St} {H0:Hp} {s4:ai} {m0:Nat} (hx:X'.xe=λ _ _=>False) (C:X'.calm=true) (I4:Inv X' [] σ0 H0 s4) (T:Turn X'.prog X'.w X'.K tg J fp it tn) (a8:tn 0 s4.heap)
  (Y:∀ H':Hp,(∀ b∈fp,H' b=none)->∀ b∈fp,FpOk X' [] H' b) (a5:∀ b∈fp,H0 b=none) (w0:W 0 m0 σ0 H0)
  (turn:∀ i m σ' H',W i m σ' H'->(J.stop i H'/\QD H')\/(J.go i H'/\∃ N:St->Hp->Prop,(∀ σ2 H2,N σ2 H2->∃ m',m'<m/\W (i+1) m' σ2 H2) /\
   ∀ x H2,J.yld i H' x H2->g x σ' H2 λ σ3 Z=>tc σ3 Z λ b H4=>if b=true then te σ3 H4 λ v H5=>∃ ys,H5 D=some (.lst ys)/\ys.length<aI/\N σ3 (upd H5 D (.lst (ys++[v])))else N σ3 H4))
  (hg:PG X' tg g) (hif:PIf X' ifs tc) (he:PE X' elt te) (a3:∀ σ' H' s',Inv X' [] σ' H' s'->QD H'->R (.ok .next) s') :
  gi (model X'.prog X'.w) X'.A (.compLoop (.ListComp elt [⟨tg,iter,ifs,0⟩] scope pos) 0 (.ref it) (.ref D) X'.env) R s4:=by
 have nox:∀ {α:Type} {t:Sem α} {Q Q':α->ai->Prop} {E:Value->ai->Prop} {s:ai},wpAny (model X'.prog X'.w) X'.A t Q X'.xe s->(∀ a s,Q a s->Q' a s)->wpAny (model X'.prog X'.w) X'.A t Q' E s :=
  λ h hQ=>cM h hQ λ _ _ z=>by rw[hx]at z;exact z.elim
 refine bb4 (λ n s'=>∃ i σ' H',Inv X' [] σ' H' s'/\tn i s'.heap/\(∀ b∈fp,H' b=none)/\W i n σ' H') ?_ m0 ⟨0,σ0,H0,I4,a8,a5,w0⟩
 rintro n s3 ⟨i,σ3,Z,I3,a2,a4,w3⟩
 rcases turn i n σ3 Z w3 with⟨stop,qn⟩|⟨go,N,hN,step⟩
 ·refine nox (T.done X' rfl rfl rfl C i [] s3 σ3 Z X'.xe I3 (Y Z a4) a2 stop) λ r s4 ⟨hr,I4⟩=>?_
  subst hr
  exact a3 σ3 Z s4 I4 qn
 ·refine nox (T.item X' rfl rfl rfl C i [] s3 σ3 Z X'.xe I3 (Y Z a4) a2 go) λ r s4 ⟨u,hr,h4⟩=>?_
  subst hr
  refine nox h4 λ _ s5 ⟨x,H5,I5,r5,y5,a1,a6⟩=>?_
  have a7:=I5.pinned (Y H5 a6) (T.obj _ _ a1)
  refine nox (hg _ s5 σ3 H5 x u _ a7 r5 (step x H5 y5)) λ _ s6 ⟨σ6,H6,I6,q6⟩=>?_
  have G:∀ {σ7:St} {H7:Hp} {s7:ai},Inv X' ([]++aF1 fp s5.heap) σ7 H7 s7->N σ7 H7->∃ m,m<n/\∃ i σ' H',Inv X' [] σ' H' s7/\tn i s7.heap/\(∀ b∈fp,H' b=none)/\W i m σ' H':=λ {σ7 H7 s7} I7 n7=>by
   obtain⟨m',hm,w7⟩:=hN σ7 H7 n7
   refine⟨m',hm,i+1,σ7,H7,I7.unpinned,T.keep _ _ _ a1 λ b hb o e=>(I7.pin (b,o) (aZ _ (aZ _ (qG hb e)))).1,λ b hb=>?_,w7⟩
   obtain⟨o,e,d⟩:=T.obj _ _ a1 b hb
   exact(I7.pin (b,o) (aZ _ (aZ _ (qG hb e)))).2.1
  refine nox (hif _ s6 σ6 H6 _ I6 q6) λ b s7 ⟨H7,I7,q7⟩=>?_
  cases b with
  | false =>
   rw[if_neg aS]at q7 ⊢
   exact G I7 q7
  | true =>
   rw[if_pos rfl]at q7 ⊢
   refine nox (he _ s7 σ6 H7 _ I7 q7) λ v s8 ⟨y,H8,I8,r8,ys,hy,hz,q8⟩=>?_
   refine nox (aE5 _ s8 σ6 H8 (.ref D) [y] (.ref D) [v] (λ _ H9=>N σ6 H9) I8 rfl (.cons r8 .nil) ⟨D,ys,y,rfl,rfl,hy,hz,q8⟩) λ v9 s9 ⟨_,H9,I9,_,q9⟩=>?_
   exact G I9 q9
theorem aI7 {X:Cx}{elt tg iter:Expr}{ifs:List Expr}{scope:Scope}{pos:Pos}{wi:TI}{g:TG}{tc:TT}{te:TE}(N':List Str)(src:List (Option Nat))
  (a9:zM N' src scope X.N X.env.scope=true) (hi:PI X tg iter wi) (Z:X.calm=true)
  (a5:∀(C:Addr) (cells:List (Str×Addr)) (s:ai) (H:Hp) (ex:List Addr),PG (zE X N' scope C cells s H ex) tg g/\PIf (zE X N' scope C cells s H ex) ifs tc/\PE (zE X N' scope C cells s H ex) elt te)
  (hs:∀ x,dM iter X.env x=pure x:=by intro _;rfl):PE X (.ListComp elt [⟨tg,iter,ifs,0⟩] scope pos) (tComp src wi g tc te):=by
 intro z s σ H Q I h
 have ck:=bo1 a9
 rw[eval_ListComp]
 have a7:=al6 (scope:=scope) (env:=X.env) λ y hy e=>I.ok.has y.1 (ck.fr y hy e)
 refine gJ (use:=none) rfl hs a7 ck.kind ck.loc (thn (hi z s σ H _ I h) λ v s1 h1=>thn h1 λ b2 s2 h2=>?_)
 obtain⟨it,G,tn,J,H2,e,I2,T,a3,f2,W⟩:=h2
 subst e
 have hD:=I2.fresh
 obtain⟨W,⟨m0,w0⟩,turn⟩:=W _ hD
 have I3:=I2.lnew (its:=[]) (ys:=[]) (t':=s2.toks) .nil (cz _)
 have a4:∀ b∈G,b<s2.heap.objs.size:=λ b hb=>by obtain⟨o,q,_⟩:=T.obj _ _ a3 b hb;exact aE q
 have f3:∀ b∈G,FpOk X z (upd H2 s2.heap.objs.size (.lst [])) b:=λ b hb=>⟨by rw[zd (ax (a4 b hb))];exact(f2 b hb).1,(f2 b hb).2⟩
 refine bv (al9 ?_)
 generalize Y:({ s2 with heap:=s2.heap.push { cls:=.type "list",data:=.seq ([]:List Value).toArray },toks:=s2.toks }:ai)=s3 at I3
 have b1:({ s2 with heap:=s2.heap.push { cls:=.type "list",data:=.seq ([]:List Value).toArray } }:ai)=s3:=Y
 have b0:∀ b∈G,b<s3.heap.objs.size:=λ b hb=>by
  rw[<-Y]
  show b<(s2.heap.push _).objs.size
  rw[bW]
  exact gq (a4 b hb)
 have I4:=av3 (s4:={ s3 with heap:=fc (s3.heap.push { cls:=.type "dict",data:=.dict #[] }) scope.names }) ck I3 f3 b0 ⟨_,rfl⟩
 have a1:tn 0 (fc (s3.heap.push { cls:=.type "dict",data:=.dict #[] }) scope.names):=T.keep _ _ _ a3 λ b hb o e=>dE _ _ b o (af _ (by rw[<-Y];exact af _ e))
 obtain⟨hg,hif,he⟩:=a5 s3.heap.objs.size (aW (s3.heap.objs.size+1) scope.names (as8 X.env.cells scope.names [])) s3 (upd H2 s2.heap.objs.size (.lst [])) G
 have a2:∀ H':Hp,(∀ b∈G,H' b=none)->∀ b∈G,FpOk (zE X N' scope s3.heap.objs.size (aW (s3.heap.objs.size+1) scope.names (as8 X.env.cells scope.names [])) s3 (upd H2 s2.heap.objs.size (.lst [])) G) [] H' b:=λ H' hn b hb =>
  ⟨hn b hb,(I4.ok.exf b hb).1,I4.ok.exfs b hb,.inl hb,λ x c e=>(I4.ok.exf b hb).2 x c e,λ p hp=>absurd (show p∈([]:List (Addr×Obj))from hp) (by simp)⟩
 have T':Turn X.prog X.w X.K tg J G it tn:=T
 have a8:∀ b∈G,upd H2 s2.heap.objs.size (.lst []) b=none:=λ b hb=>(f3 b hb).1
 have L:=aA6 (X':=zE X N' scope s3.heap.objs.size (aW (s3.heap.objs.size+1) scope.names (as8 X.env.cells scope.names [])) s3 (upd H2 s2.heap.objs.size (.lst [])) G) (R:=compPost (model X.prog X.w) X.A X.xe none (EP X z σ Q) (Value.ref s2.heap.objs.size) s3.heap.objs.size) (iter:=iter) (scope:=scope) (pos:=pos) (QD:=λ H'=>Q (.ref s2.heap.objs.size) H') rfl Z I4 T' a1 a2 a8 w0 turn hg hif he
  (λ σ' H' s' J' q=>by
   obtain⟨mm,hn,_⟩:=J'.loc
   exact⟨mm,hn,λ h' a6=>⟨.ref s2.heap.objs.size,H',aP2 I3 f3 J' a6,rfl,q⟩⟩)
 exact ii L (T.self _ _ _ _ _ a1 L)
section
variable {X:Cx}
theorem ca5:bA "abs"=some (.builtin "abs"):=by decide +kernel
theorem bZ5:bA "len"=some (.builtin "len"):=by decide +kernel
theorem bB2:bA "min"=some (.builtin "min"):=by decide +kernel
theorem ca9:bA "max"=some (.builtin "max"):=by decide +kernel
theorem bV8:bA "all"=some (.builtin "all"):=by decide +kernel
theorem aC8:bA "isinstance"=some (.builtin "isinstance"):=by decide +kernel
theorem bO4:bA "int"=some (.type "int"):=by decide +kernel
theorem bI0:bA "bool"=some (.type "bool"):=by decide +kernel
theorem bZ3:bA "str"=some (.type "str"):=by decide +kernel
theorem aT6:bA "tuple"=some (.type "tuple"):=by decide +kernel
theorem bq9:bA "list"=some (.type "list"):=by decide +kernel
def ca6 (i j:Int):Prop:=0<j/\j<2^4096
theorem aP9 {y:Int}(h0:0<y)(h:y<2^4096):y.natAbs.log2<9000:=by
 have hn:y.natAbs<2^4096:=by
  have:(y.natAbs:Int)=y:=by omega
  have z:(y.natAbs:Int)<((2^4096:Nat):Int):=by rw[this];simpa using h
  exact j6.mp z
 have:=(Nat.log2_lt (by omega)).mpr hn
 omega
theorem bl8:OpR X (cC .FloorDiv) (rI ca6 λ i j=>.int (i / j)):=opI λ i j _ _ _ _ _ hc q=>by
 refine floordiv_int (by have:=hc.1;omega) ?_ (.inl (PyProof.noPylong_of_log2 (aP9 hc.1 hc.2)))
 rw[fT i (by have:=hc.1;omega)]
 exact q
theorem aO1 {K:ae}(h:X.K=K):IxR X (ce3 K):=by subst h;exact bv2
theorem bD1 {K:ae}(h:X.K=K):IxR X (ce2 K):=by subst h;exact ix_tup
theorem as1 {K:ae}(y:X.K=K):ah8 X (.builtin "len") (λ h H Q=>∃ p ys,h=[.ref p]/\(SqL K H p ys\/SqT K H p ys)/\Q (.int ys.length) H):=by subst y;exact aC4
theorem aG6 {K:ae}(y:X.K=K):ah8 X (.type "tuple") (λ h H Q=>∃ p ys,h=[.ref p]/\((SqL K H p ys/\∀ l,H l=none->Q (.ref l) (upd H l (.tup ys)))\/(SqT K H p ys/\Q (.ref p) H))):=by subst y;exact aw9
theorem aR6 {K:ae}(y:X.K=K):ah8 X (.type "list") (λ h H Q=>∃ p ys,h=[.ref p]/\(SqL K H p ys\/SqT K H p ys)/\∀ l,H l=none->Q (.ref l) (upd H l (.lst ys))):=by subst y;exact aF0
theorem bh4 {K:ae}{tg l:Expr}{h:TE}(y:X.K=K)(hl:PE X l h):PI X tg l (bC5 K h):=by subst y;exact bD9 hl
theorem bB4 {K:ae}{tg l:Expr}{h:TE}(y:X.K=K)(hl:PE X l h):PI X tg l (ca8 K h):=by subst y;exact bM4 hl
theorem bA8 {K:ae}{pos:Pos}{es:List Expr}{k:Nat}{t:TGs}{n:Nat}(z:X.K=K)(hc:X.calm=true)(h:PGs X es t)
  (hn:(cR es X.env).length=n:=by rfl) (y:(cR es X.env).findIdx? (·.1)=none:=by rfl):PG X (.Tuple es k pos) (bU7 K n t):=by subst z;exact bp4 hc h hn y
end
structure DefAt (K:ae)(mg:Str->Option Value)(x:Str)(st:Stmt)(ps:List Str)(f:Addr)(fd:cy):Prop where
 fn:Fun K x x st f fd
 mg:mg x=some (.ref f)
 bi:Binds K fd ps []
@[irreducible] noncomputable def cg4 (p:Prop):Prop:=p
theorem aj8.new {p:Addr}{H y:Hp}{o:HO}(h:aj8 H y)(hp:y p=none):aj8 H (L2.upd y p o):=λ x o e=>by
 have e1:=h x o e
 rw[zd (zm e1 hp)]
 exact e1
section
variable {prog:aO} {w:World} {A:a0} {R:ly->ai->Prop} {I:Addr} {fp wr:List Addr} {n:Nat} {P:Nat->Value->Prop} {St:Nat->Heap->Prop} {kw:List (Str×Value)}
theorem bd8 (W:Walks prog w A.in1 I fp wr n P St)(bt:Nat->Nat->Bool)(a6:CmpOf prog w A.in1 .Lt P bt)(S:Addr)(a9:S ∉ fp) :
  ∀(k j:Nat) (s:ai) (vb:Value) (c:Nat),n - (j+1)=k->j+1<=n->St (j+1) s.heap->P (dY bt j) vb ->
  s.heap.get? S=some { cls:=.type "list",dict:=none,data:=.seq #[vb,vb] c,slots:=#[] } ->
  (∀ v h' tk,P (dY bt (n - 1)) v->(∀ b o,b ∉ wr->b≠S->s.heap.get? b=some o->h'.get? b=some o)->R (.ok (.ret v)) { s with heap:=h',toks:=tk }) ->
  gi (model prog w) A (.builtin "min.loop" ⟨[.ref I,.none,.ref S],kw⟩) R s:=by
 have a8:S ∉ wr:=λ h=>a9 (W.sub _ h)
 have Z:(toString "min"++toString ".loop":String) = "min.loop":=by decide
 intro k
 induction k with
 | zero =>
  intro j s vb c hk hj a3 a1 hS hR
  have a7:j+1=n:=by omega
  refine iD gT ?_
  rw[fj cP _]
  show wpAny _ A.in1 (jk (.ref S) >>= _) _ _ s
  refine ab (cr hS rfl ?_)
  show wpAny _ A.in1 (tryCatch (fB (.ref I)) _ >>= _) _ _ s
  refine ab (eP (W.done s _ _ (a7▸a3) λ h' tk C=>?_))
  have Y:=C S _ a8 hS
  show wpAny _ A.in1 (updateSeq S (λ _=>#[]) >>= _) _ _ _
  refine ab ?_
  refine iE Y rfl (ab (dS (am ?_)))
  refine hR vb _ tk (by rw[<-a7];exact a1) λ b o y z e=>(cn _ _ (cV z)).trans (C b o y e)
 | succ k ih =>
  intro j s vb c hk hj a3 a1 hS hR
  have hlt:j+1<n:=by omega
  refine iD gT ?_
  rw[fj cP _]
  show wpAny _ A.in1 (jk (.ref S) >>= _) _ _ s
  refine ab (cr hS rfl ?_)
  show wpAny _ A.in1 (tryCatch (fB (.ref I)) _ >>= _) _ _ s
  refine ab (eP (W.item (j+1) s _ _ hlt a3 λ v h' tk hP a2 C=>?_))
  have Y:=C S _ a8 hS
  show wpAny _ A.in1 (tryCatch (jU [v,v] (richCompare .Lt v vb >>= _)) _ >>= _) _ _ _
  refine ab (eP (c9 (ab (a6 (j+1) (dY bt j) v vb _ _ _ hP a1 ?_))))
  refine ab (c9 (bO ?_))
  refine ab (dS (am ?_))
  cases hb:bt (j+1) (dY bt j)with
  | true =>
   simp only[if_true]
   refine ab ?_
   refine iE Y rfl (ab (dS ?_))
   rw[Z]
   refine am ⟨gK cP _,ih (j+1) _ v _ (by omega) hlt (W.frame _ _ _ a2 λ b b0 o e=>?_) (by simp only[dY,hb,if_true];exact hP) (dI _ Y rfl)
    λ v' a4 G a5 J=>?_⟩
   ·exact(cn _ _ (λ h:S=b=>a9 (by rw[h];exact b0))).trans e
   ·exact hR v' a4 G a5 λ b o y z e=>J b o y z ((cn _ _ (cV z)).trans (C b o y e))
  | false =>
   simp only[au,if_false]
   refine ab (dS ?_)
   rw[Z]
   refine am ⟨gK cP _,ih (j+1) _ vb c (by omega) hlt a2 (by simp only[dY,hb,au,if_false];exact a1) Y λ v' a4 G a5 J=>?_⟩
   exact hR v' a4 G a5 λ b o y z e=>J b o y z (C b o y e)
theorem aS4 (W:Walks prog w A.in1 I fp wr n P St)(bt:Nat->Nat->Bool)(Y:CmpOf prog w A.in1 .Lt P bt)(S:Addr)(C:S ∉ fp){s:ai}{c:Nat}{d:Value}(J:St 0 s.heap)
  (hS:s.heap.get? S=some { cls:=.type "list",dict:=none,data:=.seq #[] c,slots:=#[] })
  (h0:n=0->∀ h' tk,(∀ b o,b ∉ wr->b≠S->s.heap.get? b=some o->h'.get? b=some o)->R (.ok (.ret d)) { s with heap:=h',toks:=tk })
  (hR:0<n->∀ v h' tk,P (dY bt (n - 1)) v->(∀ b o,b ∉ wr->b≠S->s.heap.get? b=some o->h'.get? b=some o)->R (.ok (.ret v)) { s with heap:=h',toks:=tk }) :
  gi (model prog w) A (.builtin "min.loop" ⟨[.ref I,.none,.ref S],[(cw "default",d)]⟩) R s:=by
 have a5:S ∉ wr:=λ h=>C (W.sub _ h)
 have G:(toString "min"++toString ".loop":String) = "min.loop":=by decide
 refine iD gT ?_
 rw[fj cP _]
 show wpAny _ A.in1 (jk (.ref S) >>= _) _ _ s
 refine ab (cr hS rfl ?_)
 show wpAny _ A.in1 (tryCatch (fB (.ref I)) _ >>= _) _ _ s
 rcases Nat.eq_zero_or_pos n with hn|hn
 ·refine ab (eP (W.done s _ _ (hn▸J) λ h' tk z=>?_))
  show wpAny _ A.in1 (rule _ >>= _) _ _ _
  refine ab (fZ (am ?_))
  exact h0 hn h' tk λ b o y _ e=>z b o y e
 ·refine ab (eP (W.item 0 s _ _ hn J λ v h' tk hP Z z=>?_))
  have a4:=z S _ a5 hS
  show wpAny _ A.in1 (updateSeq S (λ _=>#[v,v]) >>= _) _ _ _
  refine ab ?_
  refine iE a4 rfl ?_
  rw[G]
  refine am ⟨gK cP _,bd8 W bt Y S C _ 0 _ v _ rfl hn (W.frame _ _ _ Z λ b a8 o e=>?_) hP (dI _ a4 rfl) λ v' a6 a2 a7 a3=>?_⟩
  ·exact(cn _ _ (λ h:S=b=>C (by rw[h];exact a8))).trans e
  ·exact hR hn v' a6 a2 a7 λ b o y a1 e=>a3 b o y a1 ((cn _ _ (cV a1)).trans (z b o y e))
end
theorem aX4 (a d:Value):argsOk "min" ⟨[a],[(cw "default",d)]⟩:=by unfold argsOk;kernel_rfl
theorem qS (val : Nat -> Int) : ∀ k j, j <= k -> val (dY (λ i j => decide (val i < val j)) k) <= val j
  | 0, j, h => by have : j = 0 := by omega
                  subst this; exact fm _
  | k + 1, j, h => by
    have ih := qS val k
    unfold dY
    by_cases hb : val (k + 1) < val (dY (λ i j => decide (val i < val j)) k)
    · rw[if_pos (by simpa using hb)]
      by_cases hj : j = k + 1
      · subst hj; exact fm _
      · have := ih j (by omega); omega
    · rw[if_neg (by simpa using hb)]
      by_cases hj : j = k + 1
      · subst hj; omega
      · exact ih j (by omega)
def bA2 (K:ae):V->V->Hp->VK->Prop:=λ x d H Q=>∃ a ns,x=.ref a/\SqL K H a (ns.map V.int)/\(ns=[]->Q d H)/\∀ m∈ns,(∀ y∈ns,m<=y)->Q (.int m) H
theorem aw7 {ns:List Int}{its:List Value}(r:Vals (ns.map V.int) its){i:Nat}{v:Value}(h:its[i]?=some v):∃ z t,ns[i]?=some z/\v=Value.int z t:=by
 have hl:=r.length
 rw[aq]at hl
 have hi:i<its.length:=(ac.mp h).1
 obtain⟨u,e1,q⟩:=r.get (i:=i) (x:=.int ns[i]) (by rw[az,ag (by omega)];rfl)
 rw[h]at e1;cases e1
 obtain⟨t,rfl⟩:=q
 exact⟨_,t,ag (by omega),rfl⟩
theorem bl6 {X:Cx}{C:List (Addr×Obj)}{σ:St}{H:Hp}{s:ai}{x d:V}{u w':Value}{Q:VK}(hc:X.calm=true)(I:Inv X C σ H s)(rx:RelV x u)(rd:RelV d w')(h:bA2 X.K x d H Q) :
  wpAny (model X.prog X.w) X.A (call (.builtin "min") [u] [(cw "default",w')]) (EP X C σ Q) X.xe s:=by
 obtain⟨a,ns,rfl,hS,q0,qm⟩:=h
 cases rx
 obtain⟨its,rv,pl,hz⟩:=I.list hS
 have hl:=rv.length
 rw[aq]at hl
 have Y:(toString "min"++toString ".loop":String) = "min.loop":=by decide
 refine kmb_tree F.kind_min F.plain_min F.entry_min (aX4 _ _) ?_
 show wpAny _ X.A.in1 (fM "min" ["key", "default"] 0 ⟨[],[(cw "default",w')]⟩ >>= _) _ _ s
 refine ab (kH (show fM "min" ["key", "default"] 0 ⟨[],[(cw "default",w')]⟩=pure [none,some w']from rfl) ?_)
 refine ab (am ?_)
 refine ab (c5 pl.isList ?_)
 have a2:a<s.heap.objs.size:=by obtain⟨o,_,e,_⟩:=pl;exact aE e
 have W:=jM (prog:=X.prog) (w:=X.w) (A:=X.A.in1) (I.ok.hd hc) s.heap.objs.size a (ax a2) its.toArray
 refine ab (bv ?_)
 generalize J:s.heap.push _=h2
 have G:h2.objs.size=s.heap.objs.size+1:=by rw[<-J,bW]
 have a1:∀ b o,s.heap.get? b=some o->h2.get? b=some o:=λ b o e=>by rw[<-J];exact af _ e
 have a4:h2.objs.size ∉ [s.heap.objs.size,a]:=by
  rw[G]
  intro z
  rcases aP.mp z with z|z
  ·exact absurd z (Nat.succ_ne_self _)
  ·have z':s.heap.objs.size+1=a:=by simpa using z
   exact absurd (ay a2 (by rw[<-z'];exact dU _)) (bI _)
 have a3:(h2.push { cls:=.type "list",data:=.seq ([]:List Value).toArray }).IsListIter s.heap.objs.size a 0/\(h2.push { cls:=.type "list",data:=.seq ([]:List Value).toArray }).IsList a its.toArray:=by
  refine⟨⟨_,af _ (by rw[<-J];exact av _ rfl),rfl,rfl⟩,?_⟩
  obtain⟨o,e,r⟩:=pl.isList
  exact⟨o,af _ (a1 _ _ e),r⟩
 let val:Nat->Int:=λ i=>ns.getD i 0
 have Z:∀ i v,its.toArray[i]?=some v->∃ t,v=Value.int (val i) t:=λ i v e=>by
  obtain⟨z,t,e1,e2⟩:=aw7 rv (i:=i) (v:=v) (by rw[cq]at e;exact e)
  refine⟨t,?_⟩
  rw[e2]
  show Value.int z t=Value.int (ns.getD i 0) t
  rw[aR,e1]
  rfl
 rw[Y]
 have nx:∀(h':Heap) (tk:Nat),(∀ b o,b ∉ [s.heap.objs.size]->b≠h2.objs.size->(h2.push { cls:=.type "list",data:=.seq ([]:List Value).toArray }).get? b=some o->h'.get? b=some o)->Inv X C σ H { s with heap:=h',toks:=tk }:=λ h' tk k=>I.kept λ b o e=>by
  refine k b o ?_ ?_ (af _ (a1 b o e))
  ·intro z
   have z':b=s.heap.objs.size:=by simpa using z
   exact absurd (aE e) (by rw[z'];exact bI _)
  ·intro z
   exact absurd (aE e) (by rw[z,G];exact Nat.not_lt.mpr (dU _))
 refine am ⟨gK cP _,aS4 (d:=w') W _ (li val Z) h2.objs.size a4 a3 (av _ rfl) (λ hn h' tk k=>?_) λ hn v h' tk hP k=>?_⟩
 ·have e:ns=[]:=by
   have:its.toArray.size=0:=hn
   have:its.length=0:=by simpa using this
   exact cj.mp (by omega)
  exact⟨d,H,nx h' tk k,rd,q0 e⟩
 ·obtain⟨z,t,e1,e2⟩:=aw7 rv (i:=dY (λ i j=>decide (val i<val j)) (its.toArray.size - 1)) (v:=v) (by rw[cq]at hP;exact hP)
  subst e2
  have hv:val (dY (λ i j=>decide (val i<val j)) (its.toArray.size - 1))=z:=by
   show ns.getD _ 0=z
   rw[aR,e1]
   rfl
  refine⟨.int z,H,nx h' tk k,⟨t,rfl⟩,qm z (aQ e1) λ y hy=>?_⟩
  obtain⟨j,hj,e3⟩:=cJ.mp hy
  have:=qS val (its.toArray.size - 1) j (by simp only[ar];omega)
  rw[hv]at this
  have e4:val j=y:=by
   show ns.getD j 0=y
   rw[aR,ag hj]
   exact e3
  omega
def bW7 (K:ae)(ta td:TE):TE:=λ σ H Q=>ta σ H λ x H1=>td σ H1 λ d H2=>bA2 K x d H2 Q
theorem bb5 {X:Cx}{K:ae}{e Y:Expr}{G C:TE}{p pos kp:Pos}(hK:X.K=K)(hc:X.calm=true)(hg:Gl X "min")(hm:X.mg "min"=none)(ha:PE X e G)(hd:PE X Y C)
  (hs:bE [e] X.env=[(false,eval e X.env)]:=by rfl) :
  PE X (.Call (.Name "min" p) [e] [⟨some "default",Y,kp⟩] pos) (bW7 K G C):=by
 subst hK
 intro y s σ H Q I h
 refine du (au7 I hg hm bB2 ?_)
 have h':at4 G be3 σ H (λ vs J=>match vs with|[x]=>C σ J λ d Z=>bA2 X.K x d Z Q|_=>False):=h
 refine callWith_kw (env:=X.env) (thn ((zO ha aj3 hs) pos y s σ H _ I h') λ us s1 ⟨vs,J,I1,r1,z⟩=>?_) (by rw[hs];rfl) (by rw[hs];rfl)
 match vs,z,r1 with
 | [x],z,r1 =>
  obtain⟨u,rfl,ru⟩:=am1 r1
  refine kws_cons (thn (hd y s1 σ J _ I1 z) λ v s2 ⟨d,Z,I2,rd,q2⟩=>kws_nil ?_)
  exact bl6 hc I2 ru rd q2
inductive D where
 | non|bl (b:Bool)|int (i:Int)|str (x:Str)|tup (l:List D)|lst (l:List D)
mutual
noncomputable def D.deep:D->Nat
 | .tup l=>D.deepL l+1
 | .lst l=>D.deepL l+1
 | _=>0
noncomputable def D.deepL:List D->Nat
 | []=>0
 | d::l=>max (D.deep d) (D.deepL l)
end
section
variable {X:Cx}
end
section
variable {X:Cx}
def bQ6 (K:ae):R2:=λ x y H Q=>∃ a b xs ys,x=.ref a/\y=.ref b/\SqT K H a xs/\SqT K H b ys/\xs.length+ys.length<=aI/\∀ p H',aj8 H H'->SqT K H' p (xs++ys)->(H' p=some (.tup (xs++ys))\/(p=a/\ys=[])\/(p=b/\xs=[]))->Q (.ref p) H'
theorem bC7 {prog:aO}{w:World}{A:a0}{E:Value->ai->Prop}{s:ai}{t b:Addr}{ws:List Value}{Q:Value->ai->Prop}(Z:IsTup s.heap t ([]:List Value).toArray)(hb:IsTup s.heap b ws.toArray)(h1:Q (.ref b) s) :
  wpAny (model prog w) A (cC .Add (.ref t) (.ref b)) Q E s:=by
 obtain⟨⟨cls,dd,data,sl⟩,ho,hc,n,hd⟩:=id Z
 obtain⟨⟨Y,C,G,J⟩,y,z,n2,h⟩:=id hb
 simp only at hc hd z h
 subst hc hd z h
 exact j1 ⟨_,ho,rfl⟩ ⟨_,y,rfl⟩ gS ju eK eF (ed _ _)
   (tuple_addW0 t b _ ws.toArray n n2 dd C sl J rfl) ⟨ho,y,h1⟩
theorem ba2 {K:ae}(hK:X.K=K):OpR X (cC .Add) (bQ6 K):=by
 subst hK
 intro C s σ H x y v u Q I Y J h
 obtain⟨a,b,Z,ys,e1,e2,ha,hb,hz,q⟩:=h
 by_cases hx:Z=[]
 ·subst e1;subst e2;subst hx
  cases Y;cases J
  obtain⟨its,r1,p1,_⟩:=I.tuple ha
  obtain⟨G,r2,p2,_⟩:=I.tuple hb
  obtain rfl:its=[]:=r1.nil_iff.mpr rfl
  exact bC7 p1 p2 ⟨.ref b,H,I,rfl,q b H (aj8.refl H) hb (.inr (.inr ⟨rfl,rfl⟩))⟩
 ·refine bz2 C s σ H x y v u Q I Y J ⟨a,b,Z,ys,e1,e2,ha,hb,hx,hz,λ z=>?_,λ z p hp=>?_⟩
  ·subst z
   exact q a H (aj8.refl H) (by rw[bK];exact ha) (.inr (.inl ⟨rfl,rfl⟩))
  ·exact q p _ ((aj8.refl H).new hp) (SqT.of zh) (.inl zh)
def cg1 (K:ae):V->Option Int->Option Int->Hp->VK->Prop:=λ x lo hi H Q=>∃ a xs,x=.ref a/\SqT K H a xs/\∀ p H',aj8 H H'->SqT K H' p (aQ2 xs lo hi)->(H' p=some (.tup (aQ2 xs lo hi))\/(p=a/\aQ2 xs lo hi=xs))->Q (.ref p) H'
theorem ay9 {prog:aO}{w:World}{A:a0}{E:Value->ai->Prop}{s:ai}{t sl:Addr}{y:Array Value}{vl vu:Value}{lo hi:Option Int}{Q:Value->ai->Prop}(z:IsTup s.heap t y)(hs:s.heap.IsSliceOf sl vl vu .none)(pl:gG vl lo)(pu:gG vu hi)
  (hw:HT.sIx y.size 0 lo=0/\HT.sIx y.size y.size hi=y.size) (h:Q (.ref t) s):wpAny (model prog w) A (fh (.ref t) (.ref sl)) Q E s:=by
 obtain⟨os,Y,J,Z⟩:=id hs
 have G:s.TypeIs (.ref sl) "slice":=⟨os,Y,J⟩
 unfold fh
 try with_reducible refine c9 ?_
 first|refine ab (am ?_)|skip
 refine ab (j2 z.typeIs (by decide) ?_)
 refine ab (bU (name:=cw "__getitem__") z.typeIs bG
  (cb bG z.typeIs jm ?_ (jJ _ _)))
 show wpAny _ _ (dR (.ref t) >>= _) _ _ s
 refine ab (jv z ?_)
 refine ab (hW G ?_)
 rw[if_pos (by decide)]
 refine ab (HT.sliceApplied_gen hs pl pu ?_)
 have C:((((HT.sIx y.size 0 lo:Nat):Int)==0&&(1:Int)==1&&(HT.sIx y.size y.size hi - HT.sIx y.size 0 lo)==y.size)=true):=by
  rw[hw.1,hw.2]
  simp
 show wpAny _ _ (if(((HT.sIx y.size 0 lo:Nat):Int)==0&&(1:Int)==1&&(HT.sIx y.size y.size hi - HT.sIx y.size 0 lo)==y.size)=true then _ else _) _ _ s
 rw[if_pos C]
 refine ab (ab (hW z.typeIs (am ?_)))
 rw[if_pos (by decide)]
 exact ab (fZ (am ⟨_,rfl,am h⟩))
theorem au5 {y:List V}{lo hi:Option Int}(h:HT.sIx y.length 0 lo=0/\HT.sIx y.length y.length hi=y.length):aQ2 y lo hi=y:=by
 unfold aQ2
 rw[h.1,h.2]
 simp
theorem bC1 {K:ae}(Z:X.K=K):SlR X (cg1 K):=by
 subst Z
 intro z s σ H x v vl vu lo hi sl Q I Y hs J pu h
 obtain⟨a,y,e1,hx,q⟩:=h
 by_cases hw:HT.sIx y.length 0 lo=0/\HT.sIx y.length y.length hi=y.length
 ·subst e1
  cases Y
  obtain⟨its,r,G,hz⟩:=I.tuple hx
  have C:its.toArray.size=y.length:=by rw[ar];exact r.length.symm
  refine⟨"tuple",_,bG.lookup,G.typeIs,?_⟩
  exact ay9 G hs J pu (by rw[C];exact hw) ⟨.ref a,H,I,rfl,q a H (aj8.refl H) (by rw[au5 hw];exact hx) (.inr ⟨rfl,au5 hw⟩)⟩
 ·exact bN0 z s σ H x v vl vu lo hi sl Q I Y hs J pu ⟨a,y,e1,hx,hw,λ p hp=>q p _ ((aj8.refl H).new hp) (SqT.of zh) (.inl zh)⟩
theorem bk1 {K:ae}(h:X.K=K):SlR X (cc8 K):=by subst h;exact bt0
end
noncomputable def Its (x:Str):It:=⟨λ i _=>i<x.cps.size,λ i H v H'=>H'=H/\∃ c,x.cps[i]?=some c/\v=.str ⟨#[c]⟩,λ i _=>x.cps.size<=i⟩
theorem aO8 {P:aO}{w:World}{K:ae}{tg:Expr}{G:String}{x:Str}{t:Tok}(it:Addr)(hn:["enumerate", "zip", "dict_itemiterator", "dict_reverseitemiterator", "odict_iterator", "itertools.zip_longest", "itertools.pairwise"].contains G=false)
  (W:∀ A:a0,A.handled=none->Walks P w A it [it] [it] x.cps.size (SignAt x) (λ i h=>h.IsStrIter it G x t i))
  (Y:∀(A:a0) (s:ai) (i:Nat) (Q:Option Value->ai->Prop) (E:Value->ai->Prop),A.handled=none->s.heap.IsStrIter it G x t i->x.cps[i]?=none->(∀ h',fq it s.heap h'->Q none { s with heap:=h' })->wpAny (model P w) A (fB (.ref it)) Q E s)
  (C:∀(A:a0) (i:Nat) (s:ai) (Q:Value->ai->Prop) (E:Value->ai->Prop),s.heap.IsStrIter it G x t i->Q (.ref it) s->wpAny (model P w) A (jF (.ref it)) Q E s):Turn P w K tg (Its x) [it] it (λ i h=>h.IsStrIter it G x t i) where
 mem:=by simp
 obj:=λ i h st b hb=>by
  have e:b=it:=by simpa using hb
  subst e
  obtain⟨o,ho,hc,hd⟩:=st
  exact⟨o,ho,λ v z=>by rw[hd]at z;cases z⟩
 keep:=λ i h h' st k=>by
  obtain⟨o,ho,r⟩:=st
  exact⟨o,k it (by simp) _ ho,r⟩
 item:=by
  intro X hP hw hK hc i y s σ H E I Z st hg
  subst hP hw hK
  obtain⟨f0,f1,f2,f3,f4,f5⟩:=Z it (by simp)
  refine(W X.A (I.ok.hd hc)).item i s _ _ hg st λ v h' tk hv J kk=>?_
  obtain⟨c,u,a2,rfl⟩:=hv
  have I1:Inv X y σ H { s with heap:=h',toks:=tk }:=I.turned (λ b o hb e=>kk b o (by simpa using hb) e) f0 f1 f3 f4 f5
  obtain⟨o,ho,a1,hd⟩:=id J
  exact⟨_,rfl,bm8 (s:={ s with heap:=h',toks:=tk }) (n:=G) ho a1 hd hn ⟨.str ⟨#[c]⟩,H,I1,⟨u,rfl⟩,⟨rfl,c,a2,rfl⟩,J,λ b hb=>(Z b hb).1⟩⟩
 done:=by
  intro X hP hw hK hc i y s σ H E I Z st hg
  subst hP hw hK
  obtain⟨f0,f1,f2,f3,f4,f5⟩:=Z it (by simp)
  have a3:x.cps.size<=i:=hg
  exact Y X.A s i _ E (I.ok.hd hc) st (by simp;omega) λ h' eb=>⟨rfl,I.turned (t':=s.toks) (λ b o hb e=>eb b o hb e) f0 f1 f3 f4 f5⟩
 self:=λ A i s Q E st h=>C A i s Q E st h
def ce1 (tl:TE):TI:=λ σ H R=>tl σ H λ v H1=>∃ x,v=.str x/\R (Its x) H1
theorem bH4 {X:Cx}{tg l:Expr}{Y:TE}(hl:PE X l Y):PI X tg l (ce1 Y):=by
 intro y s σ H R I h
 refine thn (hl y s σ H _ I h) λ v s1 ⟨v0,H1,C,r1,Z⟩=>?_
 obtain⟨x,e,q⟩:=Z
 subst e
 obtain⟨t,rfl⟩:=r1
 have fin:∀(J:String) (o:Obj),o={ cls:=.type J,data:=.fields #[.str x t,.int 0 0] }->Turn X.prog X.w X.K tg (Its x) [s1.heap.objs.size] s1.heap.objs.size (λ i h=>h.IsStrIter s1.heap.objs.size J x t i)->PIE X y σ tg R (.ref s1.heap.objs.size) { s1 with heap:=s1.heap.push o }:=λ J o eo T=>by
  subst eo
  refine⟨s1.heap.objs.size,[s1.heap.objs.size],_,_,H1,rfl,C.kept (t':=s1.toks) λ b o e=>af _ e,T,⟨_,av _ rfl,rfl,rfl⟩,λ b hb=>?_,q⟩
  have e:b=s1.heap.objs.size:=by simpa using hb
  subst e
  exact C.fpOk (aj _) (C.hok.fresh (aj _))
 cases ha:x.cps.all (·<128)
 ·exact wpAny_pyIter_wide ha (fin "str_iterator" _ rfl (aO8 _ (by decide) (λ A z=>Walks.strWide z _ x t) (λ A s i Q E z st hx G=>wpAny_pyNext_wide_end z st hx G) λ A i s Q E st h=>wpAny_pyIter_striter_wide st h))
 ·exact wpAny_pyIter_ascii ha (fin "str_ascii_iterator" _ rfl (aO8 _ (by decide) (λ A z=>Walks.strAscii z _ x t) (λ A s i Q E z st hx G=>wpAny_pyNext_ascii_end z st hx G) λ A i s Q E st h=>wpAny_pyIter_striter_ascii st h))
section
variable {X:Cx} {K:ae} {T id:String} {name:Str} {o e:Expr} {es:List Expr} {to:TE} {t:TA} {r:V->List V->Hp->VK->Prop} {apos cpos:Pos}
theorem bb3 (Z:X.K=K)(J:kT T)(slot:Slot T name id)(G:typeOf (.builtin id)=pure (.type "method_descriptor"))(Y:MtR X id r)(ho:PE X o to)(ha:PA X (e::es) t)
  (z:dG o name X.env (eval o X.env)=eval o X.env:=by rfl)
  (C:((eJ cpos (bE (e::es) X.env)).all (λ x=>!x.1)&&(backToKw cpos (kG [] X.env)).all (λ x=>x.1.isSome)
   && decide ((e::es).length+([]:List ji).length+(if([]:List ji).isEmpty then 0 else 1)<30))=true:=by rfl)
  (y:(apos.endLine==cpos.line)=true:=by rfl) (hs:bE (e::es) X.env=(false,eval e X.env)::bE es X.env:=by rfl) (h:(eJ cpos (bE es X.env)).any (·.1)=false:=by rfl) :
  PE X (.Call (.Attribute o name apos) (e::es) [] cpos) (tBM K T r to t):=by
 subst Z
 exact bW8 J slot G Y ho ha z C y hs h
end
structure Mach where
 letters:Int
 rooms:Int
 begins:List Int
 ends:List Int
 doors:List (Int×Str×Int×Int)
noncomputable def bW5 (q:Int×Str×Int×Int):D:=.tup [.int q.1,.str q.2.1,.int q.2.2.1,.int q.2.2.2]
noncomputable def Mach.D (M:Mach):D:=.tup [.int M.letters,.int M.rooms,.tup (M.begins.map .int),.tup (M.ends.map .int),.tup (M.doors.map bW5)]
noncomputable def ltr (i:Nat):Str:=⟨#[97+i]⟩
structure DoorOk (letters rooms:Int)(q:Int×Str×Int×Int):Prop where
 s0:0<=q.1
 s1:q.1<rooms
 l:∃ i:Nat,(i:Int)<letters/\q.2.1=ltr i
 g0:0<=q.2.2.1
 g1:q.2.2.1<rooms
 t0:0<=q.2.2.2
 t1:q.2.2.2<=3
structure RoomsOk (rooms:Int)(l:List Int):Prop where
 mem:∀ r∈l,0<=r/\r<rooms
 up:l.Pairwise (· < ·)
structure Mach.Ok (most:Nat)(M:Mach):Prop where
 l0:1<=M.letters
 l1:M.letters<=3
 r0:1<=M.rooms
 r1:M.rooms<=5
 b:RoomsOk M.rooms M.begins
 e:RoomsOk M.rooms M.ends
 d:∀ q∈M.doors,DoorOk M.letters M.rooms q
 m:M.doors.length<=most
mutual
noncomputable def D.tups:D->Bool
 | .lst _=>false
 | .tup l=>D.tupsL l
 | _=>true
noncomputable def D.tupsL:List D->Bool
 | []=>true
 | d::l=>D.tups d&&D.tupsL l
end
end L2
end
noncomputable section
namespace L2
end L2
end
noncomputable section
namespace L2
open PySem PySem.Spec PyProof.Rows
noncomputable def minO:List Int->Option Int
 | []=>none
 | a::l=>some (match minO l with|none=>a|some b=>if b<a then b else a)
theorem aR0 {X:Cx}{elt tg iter:Expr}{ifs:List Expr}{scope:Scope}{pos Z py:Pos}{y:Str}{i:Nat}{wi:TI}{g:TG}{tc:TT}{te:TE}(N':List Str)(src:List (Option Nat))
  (hN:X.N.Nodup) (b2:X.N[i]?=some y) (a3:X.env.scope.names.lookup y=some .local)
  (b3:zM N' src scope X.N X.env.scope=true) (hi:PI X tg iter wi) (a1:X.calm=true)
  (b4:∀(C:Addr) (cells:List (Str×Addr)) (s:ai) (H:Hp) (ex:List Addr),PG (zE X N' scope C cells s H ex) tg g/\PIf (zE X N' scope C cells s H ex) ifs tc/\PE (zE X N' scope C cells s H ex) elt te)
  (hs:∀ x,dM iter X.env x=pure x:=by intro _;rfl)
  (b1:fQ (.ListComp elt [⟨tg,iter,ifs,0⟩] scope pos) (some (.Name y py)) Z.line X.env=pure true:=by rfl) :
  PS X (.Assign [.Name y py] (.ListComp elt [⟨tg,iter,ifs,0⟩] scope pos) Z) (bj2 (tComp src wi g tc te) (as7 i)):=by
 intro G s σ H D0 I h
 have ck:=bo1 b3
 rw[exec_Assign_Name_used _ _ _ _ b1]
 refine ab (js (ab ?_))
 show wpAny _ X.A (do let _ <- comprehension (.ListComp elt [⟨tg,iter,ifs,0⟩] scope pos) scope X.env _ (newList []) false (eval iter X.env) (some (hJ (.Name y py) X.env))) _ _ s
 have b0:=al6 (scope:=scope) (env:=X.env) λ y hy e=>I.ok.has y.1 (ck.fr y hy e)
 refine ab (cM (gJ (use:=some (hJ (.Name y py) X.env)) (Q:=λ _ s'=>SP X G D0 .next s') rfl hs b0 ck.kind ck.loc (thn (hi G s σ H _ I h) λ v s1 h1=>thn h1 λ b7 s2 h2=>?_)) (λ _ s' hq=>am (am hq)) λ _ _ e=>e)
 obtain⟨it,Y,tn,J,H2,e,I2,T,a4,f2,W⟩:=h2
 subst e
 have hD:=I2.fresh
 obtain⟨W,⟨m0,w0⟩,turn⟩:=W _ hD
 have I3:=I2.lnew (its:=[]) (ys:=[]) (t':=s2.toks) .nil (cz _)
 have a6:∀ b∈Y,b<s2.heap.objs.size:=λ b hb=>by obtain⟨o,q,_⟩:=T.obj _ _ a4 b hb;exact aE q
 have f3:∀ b∈Y,FpOk X G (upd H2 s2.heap.objs.size (.lst [])) b:=λ b hb=>⟨by rw[zd (ax (a6 b hb))];exact(f2 b hb).1,(f2 b hb).2⟩
 refine bv (al9 ?_)
 generalize a2:({ s2 with heap:=s2.heap.push { cls:=.type "list",data:=.seq ([]:List Value).toArray },toks:=s2.toks }:ai)=s3 at I3
 have b6:({ s2 with heap:=s2.heap.push { cls:=.type "list",data:=.seq ([]:List Value).toArray } }:ai)=s3:=a2
 have b5:∀ b∈Y,b<s3.heap.objs.size:=λ b hb=>by
  rw[<-a2]
  show b<(s2.heap.push _).objs.size
  rw[bW]
  exact gq (a6 b hb)
 have I4:=av3 (s4:={ s3 with heap:=fc (s3.heap.push { cls:=.type "dict",data:=.dict #[] }) scope.names }) ck I3 f3 b5 ⟨_,rfl⟩
 have a7:tn 0 (fc (s3.heap.push { cls:=.type "dict",data:=.dict #[] }) scope.names):=T.keep _ _ _ a4 λ b hb o e=>dE _ _ b o (af _ (by rw[<-a2];exact af _ e))
 obtain⟨hg,hif,he⟩:=b4 s3.heap.objs.size (aW (s3.heap.objs.size+1) scope.names (as8 X.env.cells scope.names [])) s3 (upd H2 s2.heap.objs.size (.lst [])) Y
 have a5:∀ H':Hp,(∀ b∈Y,H' b=none)->∀ b∈Y,FpOk (zE X N' scope s3.heap.objs.size (aW (s3.heap.objs.size+1) scope.names (as8 X.env.cells scope.names [])) s3 (upd H2 s2.heap.objs.size (.lst [])) Y) [] H' b:=λ H' hn b hb =>
  ⟨hn b hb,(I4.ok.exf b hb).1,I4.ok.exfs b hb,.inl hb,λ x c e=>(I4.ok.exf b hb).2 x c e,λ p hp=>absurd (show p∈([]:List (Addr×Obj))from hp) (by simp)⟩
 have T':Turn X.prog X.w X.K tg J Y it tn:=T
 have a8:∀ b∈Y,upd H2 s2.heap.objs.size (.lst []) b=none:=λ b hb=>(f3 b hb).1
 have L:=aA6 (X':=zE X N' scope s3.heap.objs.size (aW (s3.heap.objs.size+1) scope.names (as8 X.env.cells scope.names [])) s3 (upd H2 s2.heap.objs.size (.lst [])) Y) (R:=compPost (model X.prog X.w) X.A X.xe (some (hJ (.Name y py) X.env)) (λ _ s'=>SP X G D0 .next s') (Value.ref s2.heap.objs.size) s3.heap.objs.size) (iter:=iter) (scope:=scope) (pos:=pos) (QD:=λ H'=>D0.nx (σ.set i (some (.ref s2.heap.objs.size))) H') rfl a1 I4 T' a7 a5 a8 w0 turn hg hif he
  (λ σ' H' s' J' q=>by
   have J2:=aP2 I3 f3 J' (Heap.SameBut.refl _ _)
   obtain⟨mm,hn,_⟩:=J'.loc
   have nL:s3.heap.objs.size≠X.env.locals:=cB I3.lt
   have nC:∀ x c,X.env.cells.lookup x=some c->c≠s3.heap.objs.size:=λ x c e=>by
    obtain⟨v,z⟩:=I3.cell x c e
    exact ax z.lt
   show wpAny _ X.A (hJ (.Name y py) X.env (.ref s2.heap.objs.size)) _ _ _
   refine jW (az9 (v:=.ref s2.heap.objs.size) J2 hN b2 (.inl a3) rfl (λ s5 I5 sb=>?_) (.inr a3))
   obtain⟨aa,sb,ha⟩:=sb
   have na:s3.heap.objs.size≠aa:=by
    rcases ha with z|z
    ·rw[z];exact nL
    ·exact λ e=>nC _ _ z e.symm
   refine⟨mm,hn.sameBut sb na,λ h' a9=>⟨_,H',I5.turned (t':=s5.toks) (λ b o hb e=>(a9.2 b hb).trans e) J'.free nL (.inr I3.sz) nC λ p hp z=>?_,q⟩⟩
   exact absurd (aE (I3.pin p hp).1) (by rw[z];exact bI _))
 exact ii L (T.self _ _ _ _ _ a7 L)
def ce5:V->Option Int->Option Int->Hp->VK->Prop:=λ x lo hi H Q=>∃ z,x=.str z/\z.length<=aI/\Q (.str (fG z lo hi)) H
theorem aE2 {v:Value}{o:Option Int}(p:gG v o):∃ q:Option (Int×Tok),v=partValue q/\q.map (·.1)=o:=by
 cases p with
 | none=>exact⟨none,rfl,rfl⟩
 | int i t=>exact⟨some (i,t),rfl,rfl⟩
theorem bQ3 {X:Cx}:SlR X ce5:=by
 intro G s σ H x v vl vu lo hi sl Q I Z hs Y pu h
 obtain⟨z,rfl,hz,q⟩:=h
 obtain⟨t,rfl⟩:=Z
 obtain⟨l,rfl,el⟩:=aE2 Y
 obtain⟨u,rfl,J⟩:=aE2 pu
 refine⟨"str",_,jN.lookup,jK s z t,?_⟩
 refine gU (l:=l) (u:=u) (st:=none) hs rfl ?_
 unfold sliceMade
 have e:gu z l u none=bR lo hi 1 z.length:=by
  unfold gu
  rw[el,J]
  rfl
 rw[e]
 unfold fG at q
 split
 ·rename_i hc
  have y:((1:Int)==1&&(bR lo hi 1 z.length).length==z.length)=true:=hc
  rw[if_pos y]at q
  exact⟨.str z,H,I,⟨t,rfl⟩,q⟩
 ·rename_i hc
  have y:¬((1:Int)==1&&(bR lo hi 1 z.length).length==z.length)=true:=hc
  rw[if_neg y]at q
  have C:(Str.mk (i7 (λ x=>z.cps[x]?) (bR lo hi 1 z.length)).toArray).length<=aI:=by
   show(i7 (λ x=>z.cps[x]?) (bR lo hi 1 z.length)).toArray.size<=aI
   rw[ar]
   exact ao (gL _ _) (ao (sliceIndices_le lo hi z.length) hz)
  exact⟨C,.str _,H,I.tok _,⟨_,rfl⟩,q⟩
section
variable {M:Model} {A:a0} {E:Value->ai->Prop} {s₀ s:ai} {m cm:Str->Option Value} {env:Env} {cs:List (Str×Addr)}
theorem bs8 {n:Str}{v:Value}{Q:Unit->ai->Prop}(z:gj s₀ env.locals m cs cm s)(G:env.scope.kind=.function)(kl:env.kindOf n=some .local)
  (go:∀ s',gj s₀ env.locals (λ y=>if y=n then some v else m y) cs cm s'->Q () s'):wpAny M A (jh env n v) Q E s:=by
 refine iK kl z.toInCall.ns (λ g C h=>go _ ⟨⟨?a,C,λ b o e=>?b,z.toInCall.fresh⟩,λ k c e=>?c,z.apart,z.above⟩) (by rw[G];rfl)
 case a=>obtain⟨J,tk,e⟩:=z.toInCall.same;subst e;exact⟨g,_,rfl⟩
 case b=>exact h.extBut b o (ax (ay (aE e) z.toInCall.fresh)) (z.toInCall.keep b o e)
 case c=>exact(z.cell k c e).sameBut h (cB (z.above k c (aK e)))
theorem bv3 {n:Str}{c:Addr}{v:Value}{Q:Unit->ai->Prop}(z:gj s₀ env.locals m cs cm s)(Y:env.scope.kind=.function)(C:env.kindOf n=some .cell)
  (e1:env.cells.lookup n=some c) (e2:cs.lookup n=some c) (go:∀ s',gj s₀ env.locals m cs (λ y=>if y=n then some v else cm y) s'->Q () s'):wpAny M A (jh env n v) Q E s:=by
 have up:=z.above n c (aK e2)
 refine iW Y C e1 (z.cell n c e2) λ g J h=>go _ ⟨⟨?a,z.toInCall.ns.sameBut h (ax up),λ b o e=>?b,z.toInCall.fresh⟩,λ k G e=>?c,z.apart,z.above⟩
 case a=>obtain⟨Z,tk,e⟩:=z.toInCall.same;subst e;exact⟨g,_,rfl⟩
 case b=>exact h.extBut b o (ax (ik (ay (aE e) z.toInCall.fresh) up)) (z.toInCall.keep b o e)
 case c =>
  by_cases q:k=n
  ·subst q
   rw[e2]at e;cases e
   simpa using J
  ·rw[if_neg q]
   exact(z.cell k G e).sameBut h λ y=>q (hV z.apart (aK e) (y▸aK e2))
theorem aI1 (f:Str×Value->PUnit->Sem (ForInStep PUnit))(Y:∀ n v u,f (n,v) u=(do jh env n v;pure (.yield ⟨⟩)))(J:env.scope.kind=.function)(sub:∀ n c,cs.lookup n=some c->env.cells.lookup n=some c) :
  ∀(bs:List (Str×Value)) (m G:Str->Option Value) (s:ai) (Q:PUnit->ai->Prop),gj s₀ env.locals m cs G s ->
   (∀ y∈bs,env.kindOf y.1=some .local\/(env.kindOf y.1=some .cell/\∃ c,cs.lookup y.1=some c)) ->
   (∀ s',gj s₀ env.locals (bindL env.kindOf bs m) cs (bindC env.kindOf bs G) s'->Q ⟨⟩ s')->wpAny M A (forIn bs ⟨⟩ f) Q E s
 | [],m,G,s,Q,z,_,go=>by rw[eO];exact am (go s z)
 | (n,v)::r,m,G,s,Q,z,hy,go=>by
  rw[fF,Y]
  have hr:=λ y (q:y∈r)=>hy y (aF _ q)
  rcases hy (n,v) aN with kl|⟨kc,c,e2⟩
  ·refine ab (ab (bs8 z J kl λ s' Z=>am (aI1 f Y J sub r _ _ s' Q Z hr λ C h=>go C ?_)))
   unfold bindL bindC;rw[if_pos kl,if_pos kl];exact h
  ·have nl:¬ env.kindOf n=some .local:=by rw[kc];decide
   refine ab (ab (bv3 z J kc (sub n c e2) e2 λ s' Z=>am (aI1 f Y J sub r _ _ s' Q Z hr λ C h=>go C ?_)))
   unfold bindL bindC;rw[if_neg nl,if_neg nl];exact h
end
theorem at8 {M:Model}{A:a0}{E:Value->ai->Prop}{s:ai}{scope:Scope}{globals:Addr}{h:List (Str×Addr)}{binds:List (Str×Value)}{qual:Str}{func:Option Addr}{code:Value}{builtins:Addr}{Q:Env->ai->Prop}
  (G:scope.kind=.function) (hy:∀ y∈binds,scope.names.lookup y.1=some .local\/(scope.names.lookup y.1=some .cell/\∃ c,(aW (s.heap.objs.size+1) scope.names []).lookup y.1=some c))
  (go:∀ env,env=newEnv scope s.heap.objs.size globals (aW (s.heap.objs.size+1) scope.names h) qual func code none builtins ->
   ∀ s',gj s env.locals (bindL env.kindOf binds λ _=>none) (aW (s.heap.objs.size+1) scope.names []) (bindC env.kindOf binds λ _=>none) s'->Q env s') :
  wpAny M A (fX scope globals h binds qual func code none builtins) Q E s:=by
 simp only[fX,jO,au,if_false]
 refine ab (wpAny_alloc (ab (wpAny_layCells _ (λ J kd Y=>by cases q:kd==NameKind.cell<;>simp[q]) _ _ _ _ ?_)))
 have ok:=cellsFrom_ok scope.names (s.heap.push { cls:=.type "frame",data:=.dict #[] }) (s.heap.objs.size+1) [] ⟨λ _ _ C=>(nomatch C),List.Pairwise.nil⟩ (by rw[bW];exact aj _)
 have z:({ s with heap:=s.heap.push { cls:=.type "frame",data:=.dict #[] } }:ai).heap.objs.size=s.heap.objs.size+1:=bW ..
 rw[bW]at ok
 rw[z]
 refine ab (aI1 (s₀:=s) (cs:=aW (s.heap.objs.size+1) scope.names []) (env:=newEnv scope s.heap.objs.size globals (aW (s.heap.objs.size+1) scope.names h) qual func code none builtins)
  _ (λ _ _ _=>rfl) G (λ n c e=>?sub) binds (λ _=>none) (λ _=>none) _ _ ⟨⟨⟨_,_,rfl⟩,?ns,λ b o e=>?k,aj _⟩,λ n c e=>(ok.empty n c (aK e)).1,ok.apart,λ n c e=>(ok.empty n c e).2⟩ hy λ s' x=>am (go _ rfl s' x))
 case sub =>
  show(aW _ _ _).lookup n=some c
  rw[zf,zB,e];rfl
 case ns=>exact(lN s.heap (.type "frame")).keeps (dE _ _)
 case k=>exact dE _ _ b o (af _ e)
noncomputable def aD4 (c:Addr)(qual:Str):HO:=.ext λ h=>h.CodeRec (.ref c) qual
noncomputable def bE3 (f:Addr)(fd:cy):HO:=.ext λ h=>h.get? f=some { cls:=.type "function",data:=.func fd }
theorem aA4 {P:aO}{w:World}{H:Hp}{h:Heap}{c:Addr}{q:Str}(x:HOk P w H h)(e:H c=some (aD4 c q)):h.CodeRec (.ref c) q:=(x c _ e).1
theorem az4 {P:aO}{w:World}{H:Hp}{h:Heap}{f:Addr}{y:cy}(x:HOk P w H h)(e:H f=some (bE3 f y)):h.get? f=some { cls:=.type "function",data:=.func y }:=(x f _ e).1
noncomputable def isC (cells:List (Str×Addr))(b:Addr):Bool:=cells.any λ p=>cells.lookup p.1==some b
theorem bc5 {cells:List (Str×Addr)}{b:Addr}:isC cells b=true↔∃ x,cells.lookup x=some b:=by
 unfold isC
 rw[dj]
 constructor
 ·rintro⟨p,_,e⟩;exact⟨p.1,by simpa using e⟩
 ·rintro⟨x,e⟩;exact⟨(x,b),aK e,by simpa using e⟩
noncomputable def ah4 (cells:List (Str×Addr))(H:Hp):Hp:=λ b=>if isC cells b=true then none else H b
noncomputable def Put (cells:List (Str×Addr))(H H':Hp):Hp:=λ b=>if isC cells b=true then H b else H' b
theorem ah4.cell {cells:List (Str×Addr)}{H:Hp}{b:Addr}(h:isC cells b=true):ah4 cells H b=none:=if_pos h
theorem ah4.ne {cells:List (Str×Addr)}{H:Hp}{b:Addr}(h:isC cells b≠true):ah4 cells H b=H b:=if_neg h
theorem ah4.some {cells:List (Str×Addr)}{H:Hp}{b:Addr}{o:HO}(h:ah4 cells H b=some o):isC cells b≠true/\H b=some o:=by
 unfold ah4 at h
 split at h
 ·cases h
 ·rename_i z;exact⟨z,h⟩
theorem ah4.none {cells:List (Str×Addr)}{H:Hp}{b:Addr}(h:H b=none):ah4 cells H b=none:=by
 unfold ah4
 split
 ·rfl
 ·exact h
theorem Put.cell {cells:List (Str×Addr)}{H H':Hp}{b:Addr}(h:isC cells b=true):Put cells H H' b=H b:=if_pos h
theorem Put.ne {cells:List (Str×Addr)}{H H':Hp}{b:Addr}(h:isC cells b≠true):Put cells H H' b=H' b:=if_neg h
def Cells (clos:List (Str×Addr))(H:Hp):Prop:=∀ x c,clos.lookup x=some c->∃ o v,H c=some (.frz o (.own c))/\o.data=.cell v
theorem Cells.at {y:List (Str×Addr)}{H:Hp}(z:Cells y H){b:Addr}(h:isC y b=true):∃ o v,H b=some (.frz o (.own b))/\o.data=.cell v:=by
 obtain⟨x,e⟩:=bc5.mp h
 exact z x b e
def Cap (clos:List (Str×Addr))(H:Hp)(fr:List Str)(cap:List V):Prop:=∀(i:Nat) (x:Str) (v:V),fr[i]?=some x->cap[i]?=some v->∃ c o u,clos.lookup x=some c/\H c=some (.frz o (.own c))/\o.data=.cell (some u)/\RelV v u
structure LamScope (N ps fr:List Str)(sc:Scope):Prop where
 kind:sc.kind=.function
 co:sc.isCoroutine=false
 gen:sc.isGenerator=false
 nd:N.Nodup
 app:N=ps++fr
 par:∀ x∈ps,sc.names.lookup x=some .local\/sc.names.lookup x=some .cell
 frs:∀ x∈fr,sc.names.lookup x=some .free
 cel:∀ y∈sc.names,y.2=.cell->sc.names.lookup y.1=some .cell
noncomputable def aH3 (P:aO)(w:World)(K:ae)(mg:Str->Option Value)(base:Heap)(N:List Str)(qual:Str)(scope:Scope)(f:Addr)(cd:Value)(clos:List (Str×Addr))(A:a0)(outer:List Env)(s:ai)(H:Hp):Cx where
 prog:=P
 w:=w
 K:=K
 mg:=mg
 base:=base
 A:=A.deeper (dw qual scope s.heap.objs.size f cd (aW (s.heap.objs.size+1) scope.names clos))
 N:=N
 s₀:=s
 H₀:=ah4 clos H
 env:=dw qual scope s.heap.objs.size f cd (aW (s.heap.objs.size+1) scope.names clos)
 outer:=outer
 stack:=dw qual scope s.heap.objs.size f cd (aW (s.heap.objs.size+1) scope.names clos)::outer
 ex:=[]
 fn:=λ x=>scope.names.lookup x==some .cell
 calm:=true
 pn:=[]
 xe:=λ _ _=>False
theorem HOk.drop {P:aO}{w:World}{H:Hp}{h:Heap}{C:List (Str×Addr)}(x:HOk P w H h)(z:Cells C H):HOk P w (ah4 C H) h:=λ b o e=>by
 obtain⟨_,e'⟩:=ah4.some e
 have G:∀ c u,H c=some u->(∀ o v,u≠.frz o v)->isC C c≠true:=λ c u q d y=>by
  obtain⟨o,v,J,_⟩:=z.at y
  rw[q]at J;cases J
  exact d _ _ rfl
 exact(x b o e').stay (λ _ _ _ q=>q) (λ c q=>by rw[ah4.ne (G c _ q λ _ _=>by nofun)];exact q) λ c Y q=>by rw[ah4.ne (G c _ q λ _ _=>by nofun)];exact q
theorem aX1 {P:aO}{w:World}{K:ae}{mg:Str->Option Value}{G:Heap}{N ps fr:List Str}{qual:Str}{scope:Scope}{f:Addr}{cd:Value}{h:List (Str×Addr)}{A:a0}{outer:List Env}{s s1:ai}{H:Hp}{us:List Value}{vs cap:List V}
  (S:LamScope N ps fr scope) (hd:A.handled=none) (C:Env0 P w K mg G A outer s H) (hl:vs.length=ps.length) (a5:cap.length=fr.length) (r:Vals vs us)
  (hc:Cells h H) (inj:∀ x y c,h.lookup x=some c->h.lookup y=some c->x=y) (a4:∀ x,scope.names.lookup x=some .free->∃ c,h.lookup x=some c) (Z:Cap h H fr cap)
  (x:gj s s.heap.objs.size (bindL (dw qual scope s.heap.objs.size f cd (aW (s.heap.objs.size+1) scope.names h)).kindOf (ps.zip us) λ _=>none) (aW (s.heap.objs.size+1) scope.names [])
   (bindC (dw qual scope s.heap.objs.size f cd (aW (s.heap.objs.size+1) scope.names h)).kindOf (ps.zip us) λ _=>none) s1) :
  Inv (aH3 P w K mg G N qual scope f cd h A outer s H) [] (vs.map some++cap.map some) (ah4 h H) s1:=by
 obtain⟨h1,tk,rfl,hk⟩:=x.done
 have Y:∀ b:Addr,b ∉ (aH3 P w K mg G N qual scope f cd h A outer s H).ex:=λ b z=>absurd (show b∈([]:List Addr)from z) (by simp)
 have lk:∀ y c,(aW (s.heap.objs.size+1) scope.names h).lookup y=some c->(aW (s.heap.objs.size+1) scope.names []).lookup y=some c\/((aW (s.heap.objs.size+1) scope.names []).lookup y=none/\h.lookup y=some c):=λ y c e=>by
  rw[zf,zB]at e
  cases q:(aW (s.heap.objs.size+1) scope.names []).lookup y with
  | some d=>rw[q]at e;left;simpa using e
  | none=>rw[q]at e;right;exact⟨rfl,by simpa using e⟩
 have own:∀ y c,(aW (s.heap.objs.size+1) scope.names []).lookup y=some c->s.heap.objs.size<c:=λ y c e=>x.above y c (aK e)
 have a2:∀ y c,h.lookup y=some c->c<s.heap.objs.size:=λ y c e=>by
  obtain⟨o,v,q,_⟩:=hc y c e
  exact C.hok.lt q
 have hx:∀ y c,h.lookup y=some c->scope.names.lookup y=some .free->(aW (s.heap.objs.size+1) scope.names h).lookup y=some c:=λ y c e k=>by
  rw[zf,zB]
  cases q:(aW (s.heap.objs.size+1) scope.names []).lookup y with
  | none=>exact e
  | some d =>
   rcases zw (aK q)with z|z
   ·rw[S.cel _ z rfl]at k;cases k
   ·exact absurd z (by simp)
 have dn:∀ b,H b=none->ah4 h H b=none:=λ b e=>ah4.none e
 refine⟨⟨C.mod,S.kind,rfl,rfl,aj _,λ y z c a b=>?inj,λ y hy=>?has,λ y c hy e=>?cab,λ _=>hd,i4 C.frames,.inr ⟨rfl,rfl⟩,λ b z=>absurd z (Y b),λ b o e=>⟨(C.bs b o e).1,dn b (C.bs b o e).2⟩,C.bsz,λ b _ _=>Y b,λ b z=>absurd z (Y b),C.funs,λ b hb=>dn b (C.frf b hb)⟩,
  rfl,C.bare,Un.kept hk,⟨_,x.toInCall.ns,λ i y v q1 q2 q3=>?loc⟩,λ y c e=>?cell,dn _ (C.hok.fresh (aj _)),λ y c e=>?freeC,λ p hp=>absurd (show p∈([]:List (Addr×Obj))from hp) (by simp),(C.hok.drop hc).kept hk,?len⟩
 case inj =>
  rcases lk y c a with a|⟨_,a⟩<;>rcases lk z c b with b|⟨_,b⟩
  ·exact hV x.apart (aK a) (aK b)
  ·exact absurd (ik (own _ _ a) (a2 _ _ b)) (bI _)
  ·exact absurd (ik (own _ _ b) (a2 _ _ a)) (bI _)
  ·exact inj y z c a b
 case has =>
  have hy:scope.names.lookup y=some .cell\/scope.names.lookup y=some .free:=hy
  rcases hy with hy|hy
  ·obtain⟨c,e⟩:=zV (n:=s.heap.objs.size+1) hy
   refine⟨c,?_⟩
   show(aW (s.heap.objs.size+1) scope.names h).lookup y=some c
   rw[zf,zB,e];rfl
  ·obtain⟨c,e⟩:=a4 y hy
   exact⟨c,hx y c e hy⟩
 case cab =>
  have hy:(scope.names.lookup y==some .cell)=true:=hy
  have a3:scope.names.lookup y=some .cell:=by simpa using hy
  rcases lk y c e with a|⟨a,_⟩
  ·exact fL (own y c a)
  ·obtain⟨d,q⟩:=zV (n:=s.heap.objs.size+1) a3
   rw[q]at a;cases a
 case loc =>
  have a1:ps.Nodup:=by have:=S.nd;rw[S.app]at this;exact(List.nodup_append.mp this).1
  by_cases hi:i<vs.length
  ·have ha:vs[i]?=some v:=by
    rw[aL (by simpa using hi),az]at q2
    cases e:vs[i]? with
    | none=>rw[e]at q2;cases q2
    | some a=>rw[e]at q2;cases q2;rfl
   obtain⟨u,hu,rv⟩:=r.get ha
   have hp:ps[i]?=some y:=by
    have J:N[i]?=some y:=q1
    rw[S.app,aL (by omega)]at J;exact J
   refine⟨u,rv,?_⟩
   rcases S.par y (aQ hp)with k|k
   ·exact .inl ⟨k,ar7 a1 hp hu k⟩
   ·obtain⟨c,e⟩:=zV (n:=s.heap.objs.size+1) k
    refine .inr ⟨.inl k,c,?_,?_⟩
    ·show(aW (s.heap.objs.size+1) scope.names h).lookup y=some c
     rw[zf,zB,e];rfl
    ·have q:=x.cell y c e
     rw[aq0 a1 hp hu (by show scope.names.lookup y≠_;rw[k];decide)]at q
     exact q
  ·have hf:fr[i - vs.length]?=some y:=by
    have J:N[i]?=some y:=q1
    rw[S.app,aM (by omega)]at J;rw[hl];exact J
   have hv:cap[i - vs.length]?=some v:=by
    rw[aM (by simpa using hi),az,aq]at q2
    cases e:cap[i - vs.length]? with
    | none=>rw[e]at q2;cases q2
    | some a=>rw[e]at q2;cases q2;rfl
   obtain⟨c,o,u,e1,e2,e3,e4⟩:=Z _ y v hf hv
   have kf:=S.frs y (aQ hf)
   refine⟨u,e4,.inr ⟨.inr kf,c,hx y c e1 kf,?_⟩⟩
   exact⟨o,hk c o (C.hok c _ e2).1,e3⟩
 case cell =>
  rcases lk y c e with a|⟨_,a⟩
  ·exact⟨_,x.cell y c a⟩
  ·obtain⟨o,v,q,d⟩:=hc y c a
   exact⟨v,o,hk c o (C.hok c _ q).1,d⟩
 case freeC =>
  rcases lk y c e with a|⟨_,a⟩
  ·exact dn c (C.hok.fresh (fL (own y c a)))
  ·exact ah4.cell (bc5.mpr ⟨y,a⟩)
 case len =>
  show _=N.length
  rw[S.app]
  simp[hl,a5]
theorem aY9 {P:aO}{w:World}{outer:List Env}{H H':Hp}{s s':ai}{h:List (Str×Addr)}(hok:HOk P w H s.heap)(hc:Cells h H)(frf:∀ b∈frs outer,H b=none)
  (un:Un (frs outer) [] (ah4 h H) H' s.heap s'.heap) (J:HOk P w H' s'.heap):Un (frs outer) [] H (Put h H H') s.heap s'.heap/\HOk P w (Put h H H') s'.heap:=by
 have nc:∀ b,H b=none->isC h b≠true:=λ b e y=>by
  obtain⟨o,v,q,_⟩:=hc.at y
  rw[e]at q;cases q
 have G:∀ c u,H c=some u->(∀ o v,u≠.frz o v)->isC h c≠true:=λ c u q d y=>by
  obtain⟨o,v,Y,_⟩:=hc.at y
  rw[q]at Y;cases Y
  exact d _ _ rfl
 have C:∀ b,isC h b=true->H' b=none:=λ b y=>by
  obtain⟨o,v,q,_⟩:=hc.at y
  exact un.free b o (hok b _ q).1 (ah4.cell y) (by simp)
 refine⟨⟨λ b o e n hb hx=>un.keep b o e (ah4.none n) hb hx,λ b o e n hb hx=>un.slot b o e (ah4.none n) hb hx,λ b o e n hx=>?_,λ b o e hx=>un.there b o e hx,λ b xs e=>?_,λ b o u e=>?_,λ b ps e=>?_⟩,λ b o e=>?_⟩
 ·rw[Put.ne (nc b n)];exact un.free b o e (ah4.none n) hx
 ·have z:=G b _ e λ _ _=>by nofun
  rw[Put.ne z];exact un.tups b xs (by rw[ah4.ne z];exact e)
 ·by_cases z:isC h b=true
  ·rw[Put.cell z];exact e
  ·rw[Put.ne z];exact un.frzs b o u (by rw[ah4.ne z];exact e)
 ·have z:=G b _ e λ _ _=>by nofun
  rw[Put.ne z];exact un.tbls b ps (by rw[ah4.ne z];exact e)
 ·by_cases z:isC h b=true
  ·rw[Put.cell z]at e
   obtain⟨ob,v,q,d⟩:=hc.at z
   rw[q]at e;cases e
   have g:=(hok b _ q).1
   have g':=un.keep b ob g (ah4.cell z) (λ y=>by rw[frf b y]at q;cases q) (by simp)
   exact⟨g',ob,g'⟩
  ·rw[Put.ne z]at e
   have Z:∀ c u,H' c=some u->Put h H H' c=some u:=λ c u q=>by
    rw[Put.ne λ y=>by rw[C c y]at q;cases q];exact q
   exact(J b o e).stay (λ _ _ _ q=>q) (λ c q=>Z c _ q) λ c xs q=>Z c _ q
structure ClOk (P:aO)(w:World)(K:ae)(mg:Str->Option Value)(base:Heap)(k:Nat)(R:Hp->Prop)(f:Addr)(sp:Sp):Prop where
 run:∀(A:a0) (outer:List Env) (s:ai) (H:Hp) (us:List Value) (vs:List V) (Q:VK),Room k A->Env0 P w K mg base A outer s H->R H->Vals vs us->sp vs H Q E0 ->
  gi (model P w) A (.call (.ref f) ⟨us,[]⟩) (CR CX0 outer P w H s Q E0) s
def aK4 (H:Hp)(f:Addr)(qual:Str)(params:cD)(body:Expr)(scope:Scope)(fr:List Str)(cap:List V)(clos:List (Str×Addr)):Prop :=
 ∃ pm c' ctv,H f=some (bE3 f (eQ "<lambda>" qual params body scope clos pm (.ref c') ctv))/\H c'=some (aD4 c' qual)/\Cells clos H /\
  (∀ x y c,clos.lookup x=some c->clos.lookup y=some c->x=y)/\(∀ x,scope.names.lookup x=some .free->∃ c,clos.lookup x=some c)/\Cap clos H fr cap
def BM (mg:Str->Option Value)(base:Heap):Prop:=∃ bm ob,mg "__builtins__"=some (.ref bm)/\bm≠hG/\base.get? bm=some ob/\ob.cls=.type "module"/\ob.dict=some hG/\ob.data=.plain
noncomputable def lamCheck (scope xs:Scope):Bool:=scope.names.all λ y=>!(y.2==.free)||(xs.names.lookup y.1==some .cell||xs.names.lookup y.1==some .free)
structure Caught (cl:List (Str×Addr))(N:List Str)(kd:Str->Option cI)(σ:St)(H1 H2:Hp):Prop where
 ne:∀ b,isC cl b≠true->H2 b=H1 b
 free:∀ b,isC cl b=true->H1 b=none
 cells:Cells cl H2
 cap:∀(i:Nat) (x:Str) (v:V) (c:Addr),N[i]?=some x->σ[i]?=some (some v)->(kd x=some .cell\/kd x=some .free)->cl.lookup x=some c->∃ o u,H2 c=some (.frz o (.own c))/\o.data=.cell (some u)/\RelV v u
 inj:∀ x y c,cl.lookup x=some c->cl.lookup y=some c->x=y
def bU2 (K:ae)(H:Hp)(f:Addr):Prop:=(∃ fd,H f=some (bE3 f fd))\/∃ oc od fd sl,K.lookup f=some ⟨oc,od,.func fd,sl⟩
theorem bU2.at {X:Cx}{y:List (Addr×Obj)}{σ:St}{H:Hp}{s:ai}{f:Addr}(h:bU2 X.K H f)(I:Inv X y σ H s):PySem.W.FnAt f s.heap:=by
 rcases h with⟨z,h⟩|⟨oc,od,z,sl,h⟩
 ·exact⟨_,_,_,_,az4 I.hok h⟩
 ·exact⟨_,_,_,_,I.kIn _ _ h⟩
noncomputable def aF3 (K:ae)(names:List Str):List (Str×Addr×Addr):=names.filterMap λ x=>(bD K x).map λ p=>(x,p)
theorem av0 {K:ae}{names:List Str}{y:Str×Addr×Addr}:y∈aF3 K names↔y.1∈names/\bD K y.1=some y.2:=by
 unfold aF3
 rw[cF]
 constructor
 ·rintro⟨x,hx,e⟩
  obtain⟨p,hp,rfl⟩:=io.mp e
  exact⟨hx,hp⟩
 ·rintro⟨hx,e⟩
  exact⟨y.1,hx,by rw[e];rfl⟩
def bs6 (K:ae)(names:List Str)(base:Heap):Prop:=∀ x∈names,∀ c P,bD K x=some (c,P)->dk base c P
def bz9 (K:ae)(names:List Str)(H:Hp):Prop:=∀ x∈names,∀ c P,bD K x=some (c,P)->H P=some (.tbl #[])
noncomputable def bL2 (K:ae)(names:List Str)(ts:List Addr):Bool:=names.all λ x=>match bD K x with
 | some (c,P)=>ku K c P&&ts.contains P
 | none=>true
theorem ax1 {K:ae}{x:Str}(h:(bD K x).isSome=true):bD K x=some (((bD K x).getD (0,0)).1,((bD K x).getD (0,0)).2):=by
 obtain⟨p,e⟩:=gF.mp h
 rw[e]
 rfl
def bN7 (H:Hp)(P:Addr)(q:Str):Prop:=∃ ps:Array Value,H P=some (.tbl ps)/\TriplesOk ps.toList/\∀ pos cv,codeAmong pos ps.toList=some cv->∃ c',cv=.ref c'/\H c'=some (aD4 c' q)
def TabsH (T:List (Addr×Str))(H:Hp):Prop:=∀ y∈T,bN7 H y.1 y.2
def bK3 (H H':Hp):Prop:=∀ b o,(∀ ps,o≠.tbl ps)->H b=some o->H' b=some o
theorem bK3.of {H y:Hp}(a:aj8 H y):bK3 H y:=λ c o _ h=>a c o h
theorem TabsH.keep {T:List (Addr×Str)}{H H':Hp}(h:TabsH T H)(k:∀ b o,(∀ C,o≠.lst C)->H b=some o->H' b=some o):TabsH T H':=λ y hy=>by
 obtain⟨ps,e,t,c⟩:=h y hy
 refine⟨ps,k _ _ (λ _=>by nofun) e,t,λ pos z q=>?_⟩
 obtain⟨G,e1,e2⟩:=c pos z q
 exact⟨G,e1,k _ _ (λ _=>by unfold aD4;nofun) e2⟩
theorem TabsH.same {T:List (Addr×Str)}{H H':Hp}(h:TabsH T H)(s:aj8 H H'):TabsH T H':=h.keep λ b o _ e=>s b o e
theorem TabsH.new {T:List (Addr×Str)}{H:Hp}{a:Addr}{o:HO}(h:TabsH T H)(n:H a=none):TabsH T (upd H a o):=h.same ((aj8.refl H).new n)
theorem TabsH.put {T:List (Addr×Str)}{H:Hp}{a:Addr}{o:HO}{y:List V}(h:TabsH T H)(n:H a=some (.lst y)):TabsH T (upd H a o):=h.keep λ b u d e=>by
 rw[zd λ z=>by subst z;rw[n]at e;cases e;exact d _ rfl];exact e
theorem TabsH.init {T:List (Addr×Str)}{H:Hp}(h:∀ p∈T.map (·.1),H p=some (.tbl #[])):TabsH T H:=λ y hy =>
 ⟨#[],h _ (be hy),trivial,λ pos z e=>by simp[codeAmong]at e⟩
theorem Caught.same {cells:List (Str×Addr)}{N:List Str}{kd:Str->Option cI}{σ:St}{C h:Hp}(y:Caught cells N kd σ C h):aj8 C h:=λ b o e=>by
 rw[y.ne b λ z=>by rw[y.free b z]at e;cases e];exact e
theorem Fun.okC {P:aO}{w:World}{K:ae}{Z:Str->Option Value}{y:Heap}{x qual:Str}{st:Stmt}{f c:Addr}{Y:cy}{N ps:List Str}{k:Nat}{sp:Sp}(F:Fun K x qual st f Y)(C:Y.code=.ref c)(S:FnScope N ps (defScope st))(len:∀ vs H Q E,sp vs H Q E->vs.length=ps.length)
  (z:∀(A:a0) (outer:List Env) (s:ai) (H:Hp) (vs:List V) (Q:VK) (E:XK),Room k (A.deeper (gE qual (defScope st) s.heap.objs.size f (.ref c)))->sp vs H Q E ->
   ∃ t,PSs (bf2 CX0 P w K Z y N qual (defScope st) f (.ref c) A outer s H E).nox (zI st) t/\t { nx:=λ _ H'=>Q .non H',rt:=Q } (an3 N vs) H):FnOk P w K Z y CX0 (k+1) f Y ps sp:=by
 obtain⟨oc,od,kV,a1,pm,an,G,ct,a2,rfl,lk,hc⟩:=F.ex
 have e:G=.ref c:=C
 subst e
 refine bN8 lk hc S len λ A outer s H vs Q E hr J=>?_
 obtain⟨t,h,q⟩:=z A outer s H vs Q E hr J
 exact⟨t,h.nox,q⟩
theorem bc8 {X:Cx}{K:ae}(hc:X.calm=true)(hK:X.K=K):ah8 X (.builtin "min") (λ xs H Q=>∃ a ns,xs=[.ref a]/\SqL K H a (ns.map V.int)/\ns≠[]/\∀ m∈ns,(∀ y∈ns,m<=y)->Q (.int m) H):=by
 subst hK
 intro a1 s σ H xs us Q I r h
 obtain⟨a,ns,rfl,hS,J,q⟩:=h
 obtain⟨u,rfl,ru⟩:=am1 r
 cases ru
 obtain⟨its,rv,Z,hz⟩:=I.list hS
 have hl:=rv.length
 rw[aq]at hl
 have a2:0<ns.length:=jp.mpr J
 refine call_min_walk (c5 Z.isList ?_)
 have G:a<s.heap.objs.size:=by obtain⟨o,_,e,_⟩:=Z;exact aE e
 have W:=jM (prog:=X.prog) (w:=X.w) (A:=X.A.in1) (I.ok.hd hc) s.heap.objs.size a (ax G) its.toArray
 let val:Nat->Int:=λ i=>ns.getD i 0
 have C:∀ i v,its.toArray[i]?=some v->∃ t,v=Value.int (val i) t:=λ i v e=>by
  obtain⟨z,t,e1,e2⟩:=aw7 rv (i:=i) (v:=v) (by rw[cq]at e;exact e)
  refine⟨t,?_⟩
  rw[e2]
  show Value.int z t=Value.int (ns.getD i 0) t
  rw[aR,e1]
  rfl
 refine⟨_,_,_,_,_,_,_,rfl,W,⟨⟨_,av _ rfl,rfl,rfl⟩,?_⟩,λ b hb=>?_,by rw[ar];omega,li val C,λ v h' tk hP k=>?_⟩
 ·obtain⟨o,e,r⟩:=Z.isList
  exact⟨o,af _ e,r⟩
 ·show b<(s.heap.push _).objs.size
  rw[bW]
  rcases aP.mp hb with z|z
  ·rw[z];exact fe _
  ·have Y:b=a:=by simpa using z
   rw[Y];exact gq G
 ·obtain⟨z,t,e1,e2⟩:=aw7 rv (i:=dY (λ i j=>decide (val i<val j)) (its.toArray.size - 1)) (v:=v) (by rw[cq]at hP;exact hP)
  subst e2
  have hv:val (dY (λ i j=>decide (val i<val j)) (its.toArray.size - 1))=z:=by
   show ns.getD _ 0=z
   rw[aR,e1]
   rfl
  refine⟨.int z,H,I.kept (h':=h') (t':=tk) λ b o q=>k b o ?_ (af _ q),⟨t,rfl⟩,q z (aQ e1) λ y hy=>?_⟩
  ·intro z
   have Y:b=s.heap.objs.size:=by simpa using z
   exact absurd (aE q) (by rw[Y];exact bI _)
  ·obtain⟨j,hj,e3⟩:=cJ.mp hy
   have:=qS val (its.toArray.size - 1) j (by simp only[ar];omega)
   rw[hv]at this
   have e4:val j=y:=by
    show ns.getD j 0=y
    rw[aR,ag hj]
    exact e3
   omega
section
variable {X:Cx}
end
section
variable {n:Nat} {s:Nat->Nat->Int}
end
def at5 (H:Hp)(f:Addr)(name qual:Str)(params:cD)(body:List Stmt)(scope:Scope)(fr:List Str)(cap:List V)(clos:List (Str×Addr)):Prop :=
 ∃ doc pm c' ctv,H f=some (bE3 f (gv name qual params body scope clos .none .none doc pm none (.ref c') ctv))/\H c'=some (aD4 c' qual)/\Cells clos H /\
  (∀ x y c,clos.lookup x=some c->clos.lookup y=some c->x=y)/\(∀ x,scope.names.lookup x=some .free->∃ c,clos.lookup x=some c)/\Cap clos H fr cap
theorem at5.fn {K:ae}{H:Hp}{f:Addr}{name qual:Str}{params:cD}{body:List Stmt}{scope:Scope}{fr:List Str}{cap:List V}{y:List (Str×Addr)}(h:at5 H f name qual params body scope fr cap y):bU2 K H f:=by
 obtain⟨z,J,Y,C,G,_⟩:=h
 exact .inl ⟨_,G⟩
end L2
end
noncomputable section
namespace L2
open PySem PySem.Spec PyProof.Rows Builtin
section
variable {P:aO} {w:World} {A:a0} {E:Value->ai->Prop} {s:ai}
theorem aG9 {it t:Addr}{i:Nat}{l:Array Value}{v:Value}{Q:Value->ai->Prop}(y:s.heap.IsTupleIter it t i)(G:s.heap.IsTuple t l)(hv:l[i]?=some v)
  (k:∀ h',h'.IsTupleIter it t (i+1)->bF it s.heap h'->Q v { s with heap:=h' }):wpAny (model P w) A (bu (.ref it)) Q E s:=by
 obtain⟨o,e1,e2,h⟩:=id y
 obtain⟨p,p1,_,n,C⟩:=G
 unfold bu
 refine ab (bU (name:=cw "__next__") y.typeIs cU (cb cU y.typeIs fN ?_ (fH _)))
 show wpAny _ _ (field (.ref it) 0 >>= _) _ _ _
 refine ab (bS e1 h (x:=.ref t) rfl ?_)
 show wpAny _ _ (if(Value.ref t==Value.none)=true then _ else _) _ _ _
 rw[if_neg (show ¬((Value.ref t==Value.none)=true)from λ z=>nomatch z)]
 show wpAny _ _ (field (.ref it) 1 >>= _) _ _ _
 refine ab (bS e1 h (x:=.int i 0) rfl ?_)
 show wpAny _ _ (jk (.ref t) >>= _) _ _ _
 refine ab (cr p1 C ?_)
 simp only[bp,hv]
 refine ab (i8 e1 h (by simp) (am ⟨v,rfl,am (k _ ⟨_,dI _ e1 (Obj.isFreed_of_fields (jP h _)),(Obj.cls_mapFields ..).trans e2,by rw[jP h];simp[jG]⟩ (fJ ..))⟩))
theorem aT1 {it t:Addr}{i:Nat}{l:Array Value}{Q:Value->ai->Prop}(C:A.handled=none)(h:s.heap.IsTupleIter it t i)(J:s.heap.IsTuple t l)(hv:l[i]?=none)
  (k:∀ h' e,fq it s.heap h'->(∃ o,h'.get? e=some o/\o.cls=.type "StopIteration")->E (.ref e) { s with heap:=h' }):wpAny (model P w) A (bu (.ref it)) Q E s:=by
 obtain⟨o,e1,e2,y⟩:=id h
 obtain⟨p,p1,_,n,G⟩:=J
 unfold bu
 refine ab (bU (name:=cw "__next__") h.typeIs cU (cb cU h.typeIs fN ?_ (fH _)))
 show wpAny _ _ (field (.ref it) 0 >>= _) _ _ _
 refine ab (bS e1 y (x:=.ref t) rfl ?_)
 show wpAny _ _ (if(Value.ref t==Value.none)=true then _ else _) _ _ _
 rw[if_neg (show ¬((Value.ref t==Value.none)=true)from λ z=>nomatch z)]
 show wpAny _ _ (field (.ref it) 1 >>= _) _ _ _
 refine ab (bS e1 y (x:=.int i 0) rfl ?_)
 show wpAny _ _ (jk (.ref t) >>= _) _ _ _
 refine ab (cr p1 G ?_)
 simp only[bp,hv]
 refine ab (fZ (ab (i8 e1 y (by simp) ?_)))
 show wpAny _ _ (newExc (.type "StopIteration") [] >>= _) _ _ (_:ai)
 refine ab ?_
 simp only[newExc,newTuple]
 refine ab (bv ?_ (by size_fits))
 refine ab (m:=f6 _ _) (kH (a:=Value.none) (by first|rfl|(simp only[f6];rfl)) (bv ?_ (by size_fits)))
 simp only[raiseNew]
 refine ab (wpAny_handled ?_)
 first|rw[show A.in1.handled=none from C]|rw[C]
 exact ab (am (wpAny_throw (k _ _ (((fJ ..).extBut.push _).push _) ⟨_,av _ rfl,rfl⟩)))
end
structure Dw (P:aO)(w:World)(K:ae)(J:It)(it:Addr)(tn:Nat->Heap->Prop):Prop where
 obj:∀ i h,tn i h->∃ o,h.get? it=some o/\∀ v,o.data≠.cell v
 keep:∀ i h h',tn i h->(∀ o,h.get? it=some o->h'.get? it=some o)->tn i h'
 item:∀(X:Cx),X.prog=P->X.w=w->X.K=K->∀(A:a0) (i:Nat) (pins:List (Addr×Obj)) (s:ai) (σ:St) (H:Hp) (Q:Value->ai->Prop) (E:Value->ai->Prop),Inv X pins σ H s->tn i s.heap->J.go i H ->
  (∀ x u h' tk,RelV x u->J.yld i H x H->tn (i+1) h'->bF it s.heap h'->Q u { s with heap:=h',toks:=tk })->wpAny (model P w) A (bu (.ref it)) Q E s
 done:∀(X:Cx),X.prog=P->X.w=w->X.K=K->∀(A:a0) (i:Nat) (pins:List (Addr×Obj)) (s:ai) (σ:St) (H:Hp) (Q:Value->ai->Prop) (E:Value->ai->Prop),A.handled=none->Inv X pins σ H s->tn i s.heap->J.stop i H ->
  (∀ h' e,fq it s.heap h'->(∃ o,h'.get? e=some o/\o.cls=.type "StopIteration")->E (.ref e) { s with heap:=h' })->wpAny (model P w) A (bu (.ref it)) Q E s
theorem bt3 {P:aO}{w:World}{K:ae}(a it:Addr):Dw P w K (Itl K a) it (λ i h=>h.IsListIter it a i) where
 obj:=λ i h st=>by
  obtain⟨o,e,c,d⟩:=st
  exact⟨o,e,λ v z=>by rw[d]at z;cases z⟩
 keep:=λ i h h' st k=>st.at k
 item:=by
  intro X J hw G A i y s σ H Q E I st hg k
  subst J hw G
  obtain⟨xs,x,hq,hx⟩:=hg
  obtain⟨its,Y,p,hz⟩:=I.list hq
  obtain⟨u,Z,ru⟩:=Y.get hx
  exact wpAny_nextOf_list_item st p.isList (x:=u) (by simpa using Z) λ h' C sb=>k x u h' s.toks ru ⟨rfl,λ ys hy=>by rw[I.list_inj hy hq];exact hx⟩ C sb
 done:=by
  intro X J hw G A i y s σ H Q E hA I st hg k
  subst J hw G
  obtain⟨xs,hq,hx⟩:=hg
  obtain⟨its,Y,p,hz⟩:=I.list hq
  have hl:=Y.length
  exact wpAny_nextOf_list_end hA st p.isList (by simp;omega) k
theorem bR9 {P:aO}{w:World}{K:ae}(a it:Addr):Dw P w K (Itt K a) it (λ i h=>h.IsTupleIter it a i) where
 obj:=λ i h st=>by
  obtain⟨o,e,c,d⟩:=st
  exact⟨o,e,λ v z=>by rw[d]at z;cases z⟩
 keep:=λ i h h' st k=>st.at k
 item:=by
  intro X J hw G A i y s σ H Q E I st hg k
  subst J hw G
  obtain⟨xs,x,hq,hx⟩:=hg
  obtain⟨its,Y,p,hz⟩:=I.tuple hq
  obtain⟨u,Z,ru⟩:=Y.get hx
  exact aG9 st (show s.heap.IsTuple a its.toArray from p) (v:=u) (by simpa using Z) λ h' C sb=>k x u h' s.toks ru ⟨rfl,λ ys hy=>by rw[I.tuple_inj hy hq];exact hx⟩ C sb
 done:=by
  intro X J hw G A i y s σ H Q E hA I st hg k
  subst J hw G
  obtain⟨xs,hq,hx⟩:=hg
  obtain⟨its,Y,p,hz⟩:=I.tuple hq
  have hl:=Y.length
  exact aT1 hA st (show s.heap.IsTuple a its.toArray from p) (by simp;omega) k
theorem bJ2 {P:aO}{w:World}{K:ae}(x:Str)(t:Tok)(it:Addr):Dw P w K (Its x) it (λ i h=>h.IsStrIter it (i9 x) x t i) where
 obj:=λ i h st=>by
  obtain⟨o,e,c,d⟩:=st
  exact⟨o,e,λ v z=>by rw[d]at z;cases z⟩
 keep:=λ i h h' st k=>by
  obtain⟨o,ho,r⟩:=st
  exact⟨o,k _ ho,r⟩
 item:=by
  intro X Z hw J A i G s σ H Q E I st hg k
  subst Z hw J
  have C:i<x.cps.size:=hg
  have hc:x.cps[i]?=some x.cps[i]:=by simp[C]
  unfold i9 at st k
  cases ha:x.cps.all (·<128)
  ·rw[ha]at st k
   exact wpAny_nextOf_wide_item st hc λ h' y Y=>k (.str ⟨#[x.cps[i]]⟩) _ h' (s.toks+1) ⟨_,rfl⟩ ⟨rfl,_,hc,rfl⟩ y Y
  ·rw[ha]at st k
   exact wpAny_nextOf_ascii_item st hc λ h' y Y=>k (.str ⟨#[x.cps[i]]⟩) _ h' (s.toks+1) ⟨_,rfl⟩ ⟨rfl,_,hc,rfl⟩ y Y
 done:=by
  intro X Z hw J A i G s σ H Q E hA I st hg k
  subst Z hw J
  have C:x.cps.size<=i:=hg
  have hc:x.cps[i]?=none:=by simp[C]
  unfold i9 at st
  cases ha:x.cps.all (·<128)
  ·rw[ha]at st
   exact wpAny_nextOf_wide_end hA st hc k
  ·rw[ha]at st
   exact wpAny_nextOf_ascii_end hA st hc k
theorem Inv.turnedL {X:Cx}{h:List (Addr×Obj)}{σ:St}{H:Hp}{s:ai}{h':Heap}{t':Nat}{C:List Addr}(I:Inv X h σ H s)(f:∀ b∈C,FpOk X h H b)(k:∀ b o,b ∉ C->s.heap.get? b=some o->h'.get? b=some o):Inv X h σ H { s with heap:=h',toks:=t' }:=by
 have y:∀ b u,H b=some u->b ∉ C:=λ b u e z=>by rw[(f b z).1]at e;cases e
 refine I.step (g':=s.gens) (d':=s.drawn) (ch:=C) (λ b hb=>?_) (λ b o _ _ hc e _=>k b o hc e) (λ b o _ _ hc e _=>⟨o.slots,k b o hc e⟩) (λ _ _ _ _ n=>n)
  (λ b o hc e=>⟨o,k b o hc e⟩) (λ _ _ e=>e) (λ _ _ _ e=>e) (λ b ps e=>⟨#[],by rw[e];simp⟩) (λ m Z=>?_) (λ b u e=>?_) I.bare
 ·obtain⟨f0,G,f2,Y,J,f5⟩:=f b hb
  exact⟨Y,G,J,f5⟩
 ·obtain⟨o,es,ep,ho,r⟩:=Z
  exact⟨o,es,ep,k _ o (λ z=>(f _ z).2.1 rfl) ho,r⟩
 ·refine(I.hok b u e).stay (λ c v hc q=>k c v ?_ q) (λ _ q=>q) λ _ _ q=>q
  rcases hc with z|z
  ·rw[z];exact y b u e
  ·exact y c _ z
structure Ap (z ti to i1 i2:Addr):Prop where
 a1:ti≠z
 a2:to≠z
 a3:i1≠z
 a4:i2≠z
 a5:ti≠to
 a6:ti≠i1
 a7:ti≠i2
 a8:to≠i1
 a9:to≠i2
 b1:i1≠i2
section
variable {X:Cx} {pins:List (Addr×Obj)} {σ:St} {H:Hp} {s:ai} {A:a0} {E:Value->ai->Prop} {J1 J2:It} {t1 t2:Nat->Heap->Prop} {z ti to i1 i2:Addr} {n:Nat} {a b:Value}
theorem aV1 {Q:Value->ai->Prop}(D1:Dw X.prog X.w X.K J1 i1 t1)(J:Dw X.prog X.w X.K J2 i2 t2)(D:Ap z ti to i1 i2)(I:Inv X pins σ H s)(f:∀ b∈[z,ti,to,i1,i2],FpOk X pins H b)
  (hz:IsZip s.heap z ti to .none) (hI:eD s.heap ti (.ref i1) (.ref i2)) (hO:eD s.heap to a b) (h1:t1 n s.heap) (h2:t2 n s.heap) (g1:J1.go n H) (g2:J2.go n H)
  (k:∀ x y u v h' tk,RelV x u->RelV y v->J1.yld n H x H->J2.yld n H y H->IsZip h' z ti to (jG s.heap.objs.size)->eD h' to u v->t1 (n+1) h'->t2 (n+1) h'->eD h' s.heap.objs.size u v ->
   (∀ c o,c≠z->c≠to->c≠i1->c≠i2->s.heap.get? c=some o->h'.get? c=some o)->Q (.ref s.heap.objs.size) { s with heap:=h',toks:=tk }) :
  wpAny (model X.prog X.w) A (ip.«zip.__next__» ⟨[.ref z],[]⟩) (λ fin s'=>∃ v,fin=.done (.ret v)/\Q v s') E s:=by
 show wpAny _ _ (field (.ref z) 2 >>= _) _ _ (_:ai)
 refine ab (bS hz rfl (x:=.bool false) rfl ?_)
 show wpAny _ _ (field (.ref z) 3 >>= _) _ _ (_:ai)
 refine ab (bS hz rfl (x:=.ref ti) rfl ?_)
 refine ab (cr hI rfl ?_)
 show wpAny _ _ (cu (.ref z) >>= _) _ _ (_:ai)
 refine ab ?_
 unfold cu
 refine ab (bS hz rfl (x:=.none) rfl (am ?_))
 simp only[if_true]
 refine ab (fZ (ab (bS hz rfl (x:=.ref to) rfl ?_)))
 refine ab (bQ hz (by simp) λ p1 z1 s1=>?_)
 replace z1:IsZip p1 z ti to .ellipsis:=z1
 have q1:Inv X pins σ H { s with heap:=p1,toks:=s.toks }:=I.turnedL f λ c o hc e=>s1.extBut _ _ (λ y=>hc (by simp[y])) e
 refine ab ?_
 simp only[kx,kK,fF,eO]
 refine ab (ab (gM ?_))
 show wpAny _ _ (bu (.ref i1) >>= _) _ _ (_:ai)
 refine ab (D1.item X rfl rfl rfl _ n pins { s with heap:=p1 } σ H _ _ q1 (D1.keep _ _ _ h1 λ o e=>s1.extBut _ _ D.a3 e) g1 λ x u p2 C rx yx a1 s2=>am ?_)
 replace s2:bF i1 p1 p2:=s2
 have o2:eD p2 to a b:=s2.extBut _ _ D.a8 (s1.extBut _ _ D.a2 hO)
 refine ab (cr o2 rfl ?_)
 refine ab (ft o2 λ p3 o3 s3=>?_)
 replace o3:eD p3 to u b:=o3
 replace s3:bF to p2 p3:=s3
 refine ab (dS (am ?_))
 have q3:Inv X pins σ H { s with heap:=p3,toks:=C }:=I.turnedL f λ c o hc e=>s3.extBut _ _ (λ y=>hc (by simp[y])) (s2.extBut _ _ (λ y=>hc (by simp[y])) (s1.extBut _ _ (λ y=>hc (by simp[y])) e))
 refine ab (ab (gM ?_))
 show wpAny _ _ (bu (.ref i2) >>= _) _ _ (_:ai)
 refine ab (J.item X rfl rfl rfl _ n pins { s with heap:=p3,toks:=C } σ H _ _ q3 (J.keep _ _ _ h2 λ o e=>s3.extBut _ _ D.a9.symm (s2.extBut _ _ D.b1.symm (s1.extBut _ _ D.a4 e))) g2 λ y v p4 a5 ry yy a6 s4=>am ?_)
 replace s4:bF i2 p3 p4:=s4
 have o4:eD p4 to u b:=s4.extBut _ _ D.a9 o3
 refine ab (cr o4 rfl ?_)
 refine ab (ft o4 λ p5 Z s5=>?_)
 replace Z:eD p5 to u v:=Z
 replace s5:bF to p4 p5:=s5
 refine ab (dS (am (am ?_)))
 refine ab (cr Z rfl ?_)
 refine ab (wpAny_newTuple ?_)
 have hsz:p5.objs.size=s.heap.objs.size:=by rw[s5.1,s4.1,s3.1,s2.1,s1.1]
 have z5:IsZip p5 z ti to .ellipsis:=s5.extBut _ _ D.a2.symm (s4.extBut _ _ D.a4.symm (s3.extBut _ _ D.a2.symm (s2.extBut _ _ D.a3.symm z1)))
 have k5:∀ c o,c≠z->c≠to->c≠i1->c≠i2->s.heap.get? c=some o->p5.get? c=some o:=λ c o h c2 c3 c4 e =>
  s5.extBut _ _ c2 (s4.extBut _ _ c4 (s3.extBut _ _ c2 (s2.extBut _ _ c3 (s1.extBut _ _ h e))))
 have a7:t1 (n+1) p5:=D1.keep _ _ _ a1 λ o e=>s5.extBut _ _ D.a8.symm (s4.extBut _ _ D.b1 (s3.extBut _ _ D.a8.symm e))
 have b0:t2 (n+1) p5:=J.keep _ _ _ a6 λ o e=>s5.extBut _ _ D.a9.symm e
 have G:z<p5.objs.size:=aE z5
 show wpAny _ _ (d8 (.ref z) (.ref p5.objs.size) >>= _) _ _ (_:ai)
 refine ab ?_
 unfold d8
 have z6:IsZip (p5.push { cls:=.type "tuple",data:=.seq #[u,v] }) z ti to .ellipsis:=af _ z5
 refine ab (bQ z6 (by simp) λ p7 z7 s7=>?_)
 replace z7:IsZip p7 z ti to (jG p5.objs.size):=z7
 refine bQ z7 (by simp) λ p8 Y s8=>?_
 replace Y:IsZip p8 z ti to (jG p5.objs.size):=Y
 have up:∀ c o,c≠z->p5.get? c=some o->p8.get? c=some o:=λ c o h e=>s8.extBut _ _ h (s7.extBut _ _ h (af _ e))
 have T8:eD p8 p5.objs.size u v:=s8.extBut _ _ (cB G) (s7.extBut _ _ (cB G) (av _ rfl))
 rw[hsz]at Y T8
 refine am ⟨_,rfl,?_⟩
 show Q (.ref p5.objs.size) _
 rw[hsz]
 exact k x y u v p8 a5 rx ry yx yy Y (up _ _ D.a2 Z) (D1.keep _ _ _ a7 λ o e=>up _ o D.a3 e) (J.keep _ _ _ b0 λ o e=>up _ o D.a4 e) T8 λ c o h c2 c3 c4 e=>up c o h (k5 c o h c2 c3 c4 e)
theorem bf1 {Q:Fin->ai->Prop}(hA:A.handled=none)(D1:Dw X.prog X.w X.K J1 i1 t1)(D2:Dw X.prog X.w X.K J2 i2 t2)(D:Ap z ti to i1 i2)(I:Inv X pins σ H s)(f:∀ b∈[z,ti,to,i1,i2],FpOk X pins H b)
  (hz:IsZip s.heap z ti to .none) (hI:eD s.heap ti (.ref i1) (.ref i2)) (hO:eD s.heap to a b) (h1:t1 n s.heap) (h2:t2 n s.heap) (g:J1.stop n H\/J1.go n H/\J2.stop n H)
  (k:∀ h' tk e,(∀ c o,c≠z->c≠to->c≠i1->c≠i2->s.heap.get? c=some o->h'.get? c=some o)->(∃ o,h'.get? e=some o/\o.cls=.type "StopIteration")->E (.ref e) { s with heap:=h',toks:=tk }) :
  wpAny (model X.prog X.w) A (ip.«zip.__next__» ⟨[.ref z],[]⟩) Q E s:=by
 show wpAny _ _ (field (.ref z) 2 >>= _) _ _ (_:ai)
 refine ab (bS hz rfl (x:=.bool false) rfl ?_)
 show wpAny _ _ (field (.ref z) 3 >>= _) _ _ (_:ai)
 refine ab (bS hz rfl (x:=.ref ti) rfl ?_)
 refine ab (cr hI rfl ?_)
 show wpAny _ _ (cu (.ref z) >>= _) _ _ (_:ai)
 refine ab ?_
 unfold cu
 refine ab (bS hz rfl (x:=.none) rfl (am ?_))
 simp only[if_true]
 refine ab (fZ (ab (bS hz rfl (x:=.ref to) rfl ?_)))
 refine ab (bQ hz (by simp) λ p1 z1 s1=>?_)
 replace z1:IsZip p1 z ti to .ellipsis:=z1
 have q1:Inv X pins σ H { s with heap:=p1,toks:=s.toks }:=I.turnedL f λ c o hc e=>s1.extBut _ _ (λ y=>hc (by simp[y])) e
 refine ab ?_
 simp only[kx,kK,fF,eO]
 refine ab (ab (gM ?_))
 show wpAny _ _ (bu (.ref i1) >>= _) _ _ (_:ai)
 have J:=D1.keep _ _ p1 h1 λ o e=>s1.extBut _ _ D.a3 e
 rcases g with g|⟨g,g2⟩
 ·refine ab (D1.done X rfl rfl rfl _ n pins { s with heap:=p1 } σ H _ _ hA q1 J g λ C e s2 Y=>?_)
  obtain⟨Z,e1,e2⟩:=Y
  replace s2:fq i1 p1 C:=s2
  have z2:IsZip C z ti to .ellipsis:=s2 _ _ D.a3.symm z1
  have ez:e≠z:=λ x=>by subst x;rw[z2]at e1;cases e1;simp at e2
  exact bQ z2 (by simp) λ p3 _ s3=>k p3 s.toks e (λ c o G _ c3 _ x=>s3.extBut _ _ G (s2 _ _ c3 (s1.extBut _ _ G x))) ⟨Z,s3.extBut _ _ ez e1,e2⟩
 ·refine ab (D1.item X rfl rfl rfl _ n pins { s with heap:=p1 } σ H _ _ q1 J g λ x u C h rx yx a1 s2=>am ?_)
  replace s2:bF i1 p1 C:=s2
  have o2:eD C to a b:=s2.extBut _ _ D.a8 (s1.extBut _ _ D.a2 hO)
  refine ab (cr o2 rfl ?_)
  refine ab (ft o2 λ p3 o3 s3=>?_)
  replace s3:bF to C p3:=s3
  refine ab (dS (am ?_))
  have q3:Inv X pins σ H { s with heap:=p3,toks:=h }:=I.turnedL f λ c o hc e=>s3.extBut _ _ (λ y=>hc (by simp[y])) (s2.extBut _ _ (λ y=>hc (by simp[y])) (s1.extBut _ _ (λ y=>hc (by simp[y])) e))
  refine ab (ab (gM ?_))
  show wpAny _ _ (bu (.ref i2) >>= _) _ _ (_:ai)
  refine ab (D2.done X rfl rfl rfl _ n pins { s with heap:=p3,toks:=h } σ H _ _ hA q3 (D2.keep _ _ _ h2 λ o e=>s3.extBut _ _ D.a9.symm (s2.extBut _ _ D.b1.symm (s1.extBut _ _ D.a4 e))) g2 λ p4 e s4 Y=>?_)
  obtain⟨Z,e1,e2⟩:=Y
  replace s4:fq i2 p3 p4:=s4
  have z4:IsZip p4 z ti to .ellipsis:=s4 _ _ D.a4.symm (s3.extBut _ _ D.a2.symm (s2.extBut _ _ D.a3.symm z1))
  have ez:e≠z:=λ x=>by subst x;rw[z4]at e1;cases e1;simp at e2
  exact bQ z4 (by simp) λ p5 _ s5=>k p5 h e (λ c o G c2 c3 c4 x=>s5.extBut _ _ G (s4 _ _ c4 (s3.extBut _ _ c2 (s2.extBut _ _ c3 (s1.extBut _ _ G x))))) ⟨Z,s5.extBut _ _ ez e1,e2⟩
end
noncomputable def Jz (J1 J2:It):It:=⟨λ i H=>J1.go i H/\J2.go i H,
 λ i H x H'=>∃ a x1 x2,J1.yld i H x1 H/\J2.yld i H x2 H/\H a=none/\x=.ref a/\H'=upd H a (.tup [x1,x2]),λ i H=>J1.stop i H\/J1.go i H/\J2.stop i H⟩
theorem bk6 {P:aO}{w:World}{K:ae}{elts:List Expr}{ek:Nat}{epos:Pos}{J1 J2:It}{t1 t2:Nat->Heap->Prop}{z ti to i1 i2:Addr}(D1:Dw P w K J1 i1 t1)(D2:Dw P w K J2 i2 t2)(D:Ap z ti to i1 i2) :
  Turn P w K (.Tuple elts ek epos) (Jz J1 J2) [z,ti,to,i1,i2] z (λ i h=>IsZip h z ti to .none/\eD h ti (.ref i1) (.ref i2)/\(∃ a b,eD h to a b)/\t1 i h/\t2 i h) where
 mem:=by simp
 obj:=λ i h st b hb=>by
  obtain⟨hz,J,⟨a,c,Y⟩,Z,h2⟩:=st
  simp only[aP,bC,or_false]at hb
  rcases hb with rfl|rfl|rfl|rfl|rfl
  ·exact⟨_,hz,λ v y=>by cases y⟩
  ·exact⟨_,J,λ v y=>by cases y⟩
  ·exact⟨_,Y,λ v y=>by cases y⟩
  ·exact D1.obj _ _ Z
  ·exact D2.obj _ _ h2
 keep:=λ i h h' st k=>by
  obtain⟨hz,J,⟨a,c,Y⟩,Z,h2⟩:=st
  exact⟨k _ (by simp) _ hz,k _ (by simp) _ J,⟨a,c,k _ (by simp) _ Y⟩,D1.keep _ _ _ Z λ o e=>k _ (by simp) o e,D2.keep _ _ _ h2 λ o e=>k _ (by simp) o e⟩
 item:=by
  intro X hP hw hK hc i G s σ H E I hf st hg
  subst hP hw hK
  obtain⟨hz,J,⟨a,c,Y⟩,Z,h2⟩:=st
  have hT:s.TypeIs (.ref z) "zip":=⟨_,hz,rfl⟩
  unfold fB
  refine ab (gN (bU (name:=cw "__next__") hT fI (cb fI hT kz
   (aV1 D1 D2 D I hf hz J Y Z h2 hg.1 hg.2 λ x y u v h' tk rx ry yx yy z' o' b1 b3 T' kk=>am ?_) (j7 _))))
  refine⟨_,rfl,wpAny_letOwnedTupleGo_zip (s:={ s with heap:=h',toks:=tk }) z' λ a9 b0 C=>?_⟩
  replace C:bF z h' a9:=C
  have lt:∀ {c o},s.heap.get? c=some o->s.heap.objs.size≠c:=λ e=>cB (aE e)
  obtain⟨o1,e1,_⟩:=D1.obj _ _ Z
  obtain⟨o2,e2,_⟩:=D2.obj _ _ h2
  have Tz:=lt hz
  have I1:Inv X G σ (upd H s.heap.objs.size (.tup [x,y])) { s with heap:=s.heap.push { cls:=.type "tuple",data:=.seq #[u,v] },toks:=tk } :=
   I.laid (λ b u e=>af _ e) (aj _) ⟨by simp[aI],[u,v],.cons rx (.cons ry .nil),_,av _ rfl,rfl,_,rfl⟩
  have a8:∀ b∈[z,ti,to,i1,i2],FpOk X G (upd H s.heap.objs.size (.tup [x,y])) b:=λ b hb=>by
   have q:=hf b hb
   refine⟨?_,q.2⟩
   unfold upd
   rw[if_neg ?_]
   ·exact q.1
   ·simp only[aP,bC,or_false]at hb
    rcases hb with rfl|rfl|rfl|rfl|rfl
    ·exact(lt hz).symm
    ·exact(lt J).symm
    ·exact(lt Y).symm
    ·exact(lt e1).symm
    ·exact(lt e2).symm
  have I2:Inv X G σ (upd H s.heap.objs.size (.tup [x,y])) { s with heap:=a9,toks:=tk }:=by
   refine I1.turnedL (s:={ s with heap:=s.heap.push { cls:=.type "tuple",data:=.seq #[u,v] },toks:=tk }) a8 λ b o hb e=>?_
   simp only[aP,bC,or_false,not_or]at hb
   refine C.extBut _ _ hb.1 ?_
   by_cases hbT:b=s.heap.objs.size
   ·subst hbT
    have:=av s.heap (o:={ cls:=.type "tuple",data:=.seq #[u,v] }) rfl
    rw[show(s.heap.push { cls:=.type "tuple",data:=.seq #[u,v] }).get? s.heap.objs.size=some o from e]at this
    cases this
    exact T'
   ·exact kk b o hb.1 hb.2.2.1 hb.2.2.2.1 hb.2.2.2.2 (by
     have e':(s.heap.push { cls:=.type "tuple",data:=.seq #[u,v] }).get? b=some o:=e
     rw[j8 _ _ _ hbT]at e'
     exact e')
  exact⟨.ref s.heap.objs.size,_,I2,rfl,⟨_,x,y,yx,yy,I.hok.fresh (aj _),rfl,rfl⟩,⟨b0,C.extBut _ _ D.a1 (kk _ _ D.a1 D.a5 D.a6 D.a7 J),⟨_,_,C.extBut _ _ D.a2 o'⟩,
   D1.keep _ _ _ b1 λ o e=>C.extBut _ _ D.a3 e,D2.keep _ _ _ b3 λ o e=>C.extBut _ _ D.a4 e⟩,λ b hb=>(a8 b hb).1⟩
 done:=by
  intro X hP hw hK hc i G s σ H E I hf st hg
  subst hP hw hK
  obtain⟨hz,J,⟨a,c,Y⟩,Z,h2⟩:=st
  have hT:s.TypeIs (.ref z) "zip":=⟨_,hz,rfl⟩
  unfold fB
  refine ab (gN (bU (name:=cw "__next__") hT fI (cb fI hT kz
   (bf1 (I.ok.hd hc) D1 D2 D I hf hz J Y Z h2 hg λ h' tk e kk he=>?_) (j7 _))))
  obtain⟨o,ho,b2⟩:=he
  refine ab (kA (T := "StopIteration") (b:=true) ⟨o,ho,b2⟩ isSubtype_stop ?_)
  exact am ⟨rfl,I.turnedL hf λ b o hb e=>by
   simp only[aP,bC,or_false,not_or]at hb
   exact kk b o hb.1 hb.2.2.1 hb.2.2.2.1 hb.2.2.2.2 e⟩
 self:=λ A i s Q E st h=>kB st.1 h
def Mkr (v:Value)(o:Obj)(h:Heap):Prop:=∀(P:aO) (w:World) (A:a0) (E:Value->ai->Prop) (s:ai) (Q:Value->ai->Prop),(∀ b u,h.get? b=some u->s.heap.get? b=some u) ->
 Q (.ref s.heap.objs.size) { s with heap:=s.heap.push o }->wpAny (model P w) A (jF v) Q E s
noncomputable abbrev zH2 (h:Heap)(o1 o2:Obj):Heap:=(h.push o1).push o2
noncomputable abbrev zH3 (h:Heap)(o1 o2:Obj):Heap:=(zH2 h o1 o2).push { cls:=.type "tuple",data:=.seq #[.ref h.objs.size,.ref (h.push o1).objs.size] }
noncomputable abbrev zH4 (h:Heap)(o1 o2:Obj):Heap:=(zH3 h o1 o2).push { cls:=.type "tuple",data:=.seq #[.none,.none] }
noncomputable abbrev zH5 (h:Heap)(o1 o2:Obj):Heap:=(zH4 h o1 o2).push { cls:=.type "zip",data:=.fields #[.none,.bool false,.bool false,.ref (zH2 h o1 o2).objs.size,.ref (zH3 h o1 o2).objs.size] }
theorem aQ1 (v1 v2 : Value) (o1 o2 : Obj) : Meets (Builtin.«zip.__new__» ⟨[.type "zip", v1, v2], []⟩) (λ _ R s => Mkr v1 o1 s.heap /\ Mkr v2 o2 s.heap /\
      R (.ok (.ret (.ref (zH4 s.heap o1 o2).objs.size))) { s with heap := zH5 s.heap o1 o2 }) :=
  .of_wp λ prog w A R s h => by
    obtain⟨hp, g, d, tk, os⟩ := s; obtain⟨m1, m2, h⟩ := h
    have hsub := sub_zip
    have r1 : ∀ {P : aO} {w : World} {A : a0} {E : Value -> ai -> Prop} {Q : Value -> ai -> Prop}, Q (.ref hp.objs.size) ⟨hp.push o1, g, d, tk, os⟩ -> wpAny (model P w) A (jF v1) Q E ⟨hp, g, d, tk, os⟩ := λ {P w A E Q} q => m1 P w A E ⟨hp, g, d, tk, os⟩ Q (λ b u e => e) q
    have r2 : ∀ {P : aO} {w : World} {A : a0} {E : Value -> ai -> Prop} {Q : Value -> ai -> Prop}, Q (.ref (hp.push o1).objs.size) ⟨(hp.push o1).push o2, g, d, tk, os⟩ -> wpAny (model P w) A (jF v2) Q E ⟨hp.push o1, g, d, tk, os⟩ := λ {P w A E Q} q => m2 P w A E ⟨hp.push o1, g, d, tk, os⟩ Q (λ b u e => af _ e) q
    wp_walk using r1, r2
    exact⟨_, rfl, h⟩
theorem bc7 {P:aO}{w:World}{A:a0}{E:Value->ai->Prop}{s:ai}{G z:Value}{h y:Obj}{Q:Value->ai->Prop}(f1:h.isFreed=false)(f2:y.isFreed=false)(m1:Mkr G h s.heap)(m2:Mkr z y s.heap)
  (k:∀ h',IsZip h' (s.heap.objs.size+4) (s.heap.objs.size+2) (s.heap.objs.size+3) .none->eD h' (s.heap.objs.size+2) (.ref s.heap.objs.size) (.ref (s.heap.objs.size+1)) ->
   eD h' (s.heap.objs.size+3) .none .none->h'.get? s.heap.objs.size=some h->h'.get? (s.heap.objs.size+1)=some y->(∀ c o,s.heap.get? c=some o->h'.get? c=some o)->Q (.ref (s.heap.objs.size+4)) { s with heap:=h' }) :
  wpAny (model P w) A (call (.type "zip") [G,z]) Q E s:=by
 refine callType_new F.called_zip (by decide) (F.typeCall_zip_2 _ _) (F.newCall_zip_2 _ _) (λ obj=>F.args_object_init_3 obj _ _) F.entry_zip_new (aQ1 G z h y) ⟨m1,m2,?_⟩
 have C:(s.heap.push h).objs.size=s.heap.objs.size+1:=bW ..
 have Z:(zH2 s.heap h y).objs.size=s.heap.objs.size+2:=by rw[bW,C]
 have Y:(zH3 s.heap h y).objs.size=s.heap.objs.size+3:=by rw[bW,Z]
 have y4:(zH4 s.heap h y).objs.size=s.heap.objs.size+4:=by rw[bW,Y]
 have J:(zH5 s.heap h y).get? (zH4 s.heap h y).objs.size=some _:=av _ rfl
 have g4:(zH5 s.heap h y).get? (zH3 s.heap h y).objs.size=some _:=af _ (av _ rfl)
 have g3:(zH5 s.heap h y).get? (zH2 s.heap h y).objs.size=some _:=af _ (af _ (av _ rfl))
 have g2:(zH5 s.heap h y).get? (s.heap.push h).objs.size=some y:=af _ (af _ (af _ (av _ f2)))
 have g1:(zH5 s.heap h y).get? s.heap.objs.size=some h:=af _ (af _ (af _ (af _ (av _ f1))))
 show _/\_
 rw[Z,Y,y4]at J
 rw[C,Z]at g3
 rw[Y]at g4
 rw[C]at g2
 rw[y4]
 exact⟨⟨_,J,rfl⟩,k _ J g3 g4 g1 g2 λ c o x=>af _ (af _ (af _ (af _ (af _ x))))⟩
def Sr (K:ae)(H:Hp)(x:V)(J:It):Prop:=(∃ a,x=.ref a/\(∃ xs,SqL K H a xs)/\J=Itl K a)\/(∃ a,x=.ref a/\(∃ xs,SqT K H a xs)/\J=Itt K a)\/∃ y,x=.str y/\J=Its y
theorem Sr.mk {X:Cx}{z:List (Addr×Obj)}{σ:St}{H:Hp}{s:ai}{x:V}{u:Value}{J:It}(I:Inv X z σ H s)(h:Sr X.K H x J)(r:RelV x u) :
  ∃(o:Obj) (C:Addr->Nat->Heap->Prop),o.isFreed=false/\Mkr u o s.heap/\(∀ it,Dw X.prog X.w X.K J it (C it))/\∀ it h',h'.get? it=some o->C it 0 h':=by
 rcases h with⟨a,e,⟨Y,hq⟩,e'⟩|⟨a,e,⟨Y,hq⟩,e'⟩|⟨y,e,e'⟩
 ·subst e e';cases r
  obtain⟨its,G,p,hz⟩:=I.list hq
  exact⟨_,λ it i h=>h.IsListIter it a i,rfl,λ P w A E s' Q hk q=>c5 (p.isList.at λ o e=>hk _ _ e) q,λ it=>bt3 a it,λ it h' e=>⟨_,e,rfl,rfl⟩⟩
 ·subst e e';cases r
  obtain⟨its,G,p,hz⟩:=I.tuple hq
  exact⟨_,λ it i h=>h.IsTupleIter it a i,rfl,λ P w A E s' Q hk q=>jH (Heap.IsTuple.at (show s.heap.IsTuple a its.toArray from p) λ o e=>hk _ _ e) q,λ it=>bR9 a it,λ it h' e=>⟨_,e,rfl,rfl⟩⟩
 ·subst e e';obtain⟨t,rfl⟩:=r
  exact⟨_,λ it i h=>h.IsStrIter it (i9 y) y t i,rfl,λ P w A E s' Q hk q=>wpAny_pyIter_strU q,λ it=>bJ2 y t it,λ it h' e=>⟨_,e,rfl,rfl⟩⟩
theorem bW3 (n:Nat):Ap (n+4) (n+2) (n+3) n (n+1):=by
 constructor
 ·exact ax (by omega)
 ·exact ax (by omega)
 ·exact ax (by omega)
 ·exact ax (by omega)
 ·exact ax (by omega)
 ·exact cB (by omega)
 ·exact cB (by omega)
 ·exact cB (by omega)
 ·exact cB (by omega)
 ·exact ax (by omega)
def cd1 (K:ae)(ta:TA):TI:=λ σ H R=>ta σ H λ vs H1=>∃ x y J1 J2,vs=[x,y]/\Sr K H1 x J1/\Sr K H1 y J2/\R (Jz J1 J2) H1
theorem bG8 {X:Cx}{elts:List Expr}{ek:Nat}{epos:Pos}{a b:Expr}{Y:TA}{p pos:Pos}(hg:Gl X "zip")(hm:X.mg "zip"=none)(ha:PA X [a,b] Y)(hs:bE [a,b] X.env=[(false,eval a X.env),(false,eval b X.env)]:=by rfl)(G:bE [b] X.env=[(false,eval b X.env)]:=by rfl) :
  PI X (.Tuple elts ek epos) (.Call (.Name "zip" p) [a,b] [] pos) (cd1 X.K Y):=by
 intro z s σ H R I h
 refine Call_ (au7 I hg hm boot_zip (dL (thn (ha pos z s σ H _ I h) λ us s1 ⟨vs,H1,C,r1,q1⟩=>?_) (by rw[hs,G]) (by rw[G];rfl)))
 obtain⟨x,y,J1,J2,e,S1,S2,q⟩:=q1
 subst e
 cases r1 with
 | cons r rr =>
  cases rr with
  | cons r' rr =>
   cases rr
   obtain⟨o1,n1,f1,m1,d1,z1⟩:=S1.mk C r
   obtain⟨o2,n2,f2,m2,Z,z2⟩:=S2.mk C r'
   refine bc7 f1 f2 m1 m2 λ h' hz hI hO g1 g2 kk=>kB hz ?_
   have D:=bW3 s1.heap.objs.size
   refine⟨s1.heap.objs.size+4,[s1.heap.objs.size+4,s1.heap.objs.size+2,s1.heap.objs.size+3,s1.heap.objs.size,s1.heap.objs.size+1],_,_,H1,rfl,C.kept (t':=s1.toks) kk,bk6 (d1 _) (Z _) D,⟨hz,hI,⟨_,_,hO⟩,z1 _ _ g1,z2 _ _ g2⟩,λ b hb=>?_,q⟩
   have J:s1.heap.objs.size<=b:=by
    simp only[aP,bC,or_false]at hb
    rcases hb with e|e|e|e|e<;>rw[e]<;>first|exact aj _|exact Nat.le_add_right _ _
   exact C.fpOk J (C.hok.fresh J)
end L2
end
noncomputable section
namespace L2
open PySem PySem.Spec PyProof.Rows Builtin
open AutoSeq1 (wpAny_loadPart')
section
variable {X:Cx} {pins:List (Addr×Obj)} {σ:St} {H:Hp} {s:ai} {A:a0} {E:Value->ai->Prop} {J1:It} {t1:Nat->Heap->Prop} {z it:Addr} {n:Nat} {old:Value}
end
end L2
end
noncomputable section
namespace L2
open PySem PySem.Spec PyProof.Rows Builtin
open AutoSeq1 (wpAny_loadPart')
theorem aH4:fillsNumberSlot (.type "tuple") "mul"=pure false :=
 PySem.fillsNumberSlot_seq (id := "tuple.__mul__") (r:=some (.builtin "tuple.__rmul__")) eR.lookup (by decide +kernel) gW.lookup (by decide +kernel)
theorem aQ8:seqRepeat? (.type "tuple")=pure (some (.builtin "tuple.__mul__")):=by
 unfold seqRepeat?
 rw[kC (T := "tuple") (name := "__mul__") (id := "tuple.__mul__") eR.lookup (by decide +kernel),kC (T := "tuple") (name := "__rmul__") (id := "tuple.__rmul__") gW.lookup (by decide +kernel)]
 rfl
theorem aE7 (a:Int)(t:Tok)(l:Addr)(o:Obj)(y:Array Value)(n:Nat)(z:Option Addr)(sl:Array (Option Value)) :
  Meets (ip.«int.__rmul__» ⟨[.int a t,.ref l],[]⟩) (λ _ R s=>s.heap.get? l=some { cls:=.type "tuple",dict:=z,data:=.seq y n,slots:=sl }/\R (.ok (.ret Value.notImplemented)) s) :=
 .of_wp λ prog w A R s h=>by obtain⟨hp,g,d,tk,os⟩:=s;obtain⟨hl,h⟩:=h;wp_walk;exact⟨_,rfl,h⟩
noncomputable def as4 {α:Type}:Nat->List α->List α
 | 0,_=>[]
 | n+1,a=>a++as4 n a
theorem aL6 {α:Type}(l:List α):∀(n:Nat) (h:Array α),(aG n l.toArray).foldl (·++·) h=h++(as4 n l).toArray
 | 0,h=>by simp[as4]
 | n+1,h=>by rw[ci,dD,aL6 l n];simp[as4]
theorem aC3 {α:Type}(a:Array α):∀(n:Nat) (h:Array α),((aG n a).foldl (·++·) h).size=h.size+a.size*n
 | 0,h=>by simp
 | n+1,h=>by rw[ci,dD,aC3 a n,Array.size_append,Nat.mul_succ];omega
def TmA (items:Array Value)(k:Int)(l:Addr)(R:Value->ai->Prop)(s:ai):Prop :=
 ((items.isEmpty||k==1)=true->R (.ref l) s)/\((items.isEmpty||k==1)=false->R (.ref s.heap.objs.size) { s with heap:=s.heap.push { cls:=.type "tuple",data:=.seq ((aG k.toNat items).foldl (·++·) #[]) } })
theorem bb6 {P:aO}{w:World}{A:a0}{E:Value->ai->Prop}{s:ai}{l:Addr}{y:Array Value}{k:Int}{t:Tok}{Q:Value->ai->Prop}(h0:0<=k)(J:k<=1000000)(hz:y.size*k.toNat<=1000000)(hl:IsTup s.heap l y)
  (h:TmA y k l Q s):wpAny (model P w) A (call (.builtin "tuple.__mul__") [.ref l,.int k t]) Q E s:=by
 refine cb eR hl.typeIs PySem.F.entry_tuple_mul ?_ (PySem.F.args_tuple_mul_2 _ _)
 obtain⟨C,q2⟩:=h
 show wpAny _ _ (asIndex (.int k t) >>= _) _ _ _
 refine ab (am ?_)
 rw[if_neg (by rw[decide_eq_false (by omega),decide_eq_false (by omega)];decide)]
 show wpAny _ _ (dR (.ref l) >>= _) _ _ _
 refine ab (jv hl ?_)
 have G:(y.size:Int)*k<=1000000:=by
  have:((y.size*k.toNat:Nat):Int)<=1000000:=by omega
  rw[kL,fK h0]at this
  exact this
 cases hb:(y.isEmpty||k==1)with
 | true =>
  rw[if_pos rfl]
  unfold kW
  refine ab (ab (hW hl.typeIs (am ?_)))
  rw[if_pos (by decide)]
  exact ab (fZ (am ⟨_,rfl,C hb⟩))
 | false =>
  rw[if_neg aS]
  have z:y.isEmpty=false:=by
   rw[fw]at hb;exact hb.1
  have q:=q2 hb
  show wpAny _ _ (if(decide (k<=0)||y.isEmpty)=true then _ else _) _ _ _
  by_cases hk:k<=0
  ·rw[if_pos (by rw[decide_eq_true hk];rfl)]
   have:k.toNat=0:=by omega
   rw[this]at q
   exact ab (bv (am ⟨_,rfl,q⟩) (by size_fits))
  ·rw[if_neg (by rw[decide_eq_false hk,z];decide)]
   show wpAny _ _ (if(y.size:Int)*k > (2^63 - 1) / 8 then _ else _) _ _ _
   rw[if_neg (by omega)]
   show wpAny _ _ (if f7 ((y.size:Int)*k)=true then _ else _) _ _ _
   rw[if_neg (by unfold f7;rw[decide_eq_false (by unfold aI;omega)];decide)]
   refine ab (bv (am ⟨_,rfl,q⟩) ?_)
   show Array.size _<=aI
   rw[aC3]
   show 0+_<=_
   rw[iq]
   have h3:y.size*k.toNat<=aI:=ao hz (by decide)
   exact h3
theorem aP3 {α:Type}:∀ n,as4 n ([]:List α)=[]
 | 0=>rfl
 | n+1=>by simp[as4,aP3 n]
theorem be4 {α:Type}(l:List α):as4 1 l=l:=by simp[as4]
theorem aO9 {α:Type}(l:List α):∀ n,(as4 n l).length=l.length*n
 | 0=>by simp[as4]
 | n+1=>by simp[as4,aO9 l n,kI];omega
theorem Vals.repT {h:List V}{us:List Value}(r:Vals h us):∀ n,Vals (as4 n h) (as4 n us)
 | 0=>.nil
 | n+1=>r.append (Vals.repT r n)
def bV2 (K:ae):R2:=λ x y H Q=>∃ a xs n,x=.ref a/\y=.int n/\SqT K H a xs/\(0<=n/\n<=1000000/\xs.length*n.toNat<=1000000)/\∀ p H',aj8 H H'->SqT K H' p (as4 n.toNat xs)->(H' p=some (.tup (as4 n.toNat xs))\/(p=a/\as4 n.toNat xs=xs))->Q (.ref p) H'
theorem bA0 {X:Cx}{K:ae}(Y:X.K=K):OpR X (cC .Mult) (bV2 K):=by
 subst Y
 intro G s σ H x y v u Q I rx ry h
 obtain⟨a,C,n,rfl,rfl,ha,⟨h0,J,hz⟩,q⟩:=h
 cases rx
 obtain⟨t,rfl⟩:=ry
 obtain⟨its,r1,p1,Z⟩:=I.tuple ha
 have z:=r1.length
 obtain⟨⟨cls,dd,data,sl⟩,ho,hc,n1,hd⟩:=id p1
 simp only at hc hd
 subst hc hd
 refine f8 (T := "tuple") (U := "int") (by decide) p1.typeIs (λ s'=>ic s' n t) aH4 jL eC aQ8 jn.lookup
  (ie eC (ic s n t) jo (i6 _ _) (aE7 n t a default its.toArray n1 dd sl) ⟨ho,⟨rfl,p1.typeIs,bb6 h0 J (by rw[ar,<-z];exact hz) p1 ⟨λ hb=>?_,λ hb=>?_⟩⟩⟩)
 ·have ex:as4 n.toNat C=C:=by
   rw[cx]at hb
   rcases hb with hb|hb
   ·have hi:its=[]:=by simpa using hb
    have hx:C=[]:=r1.nil_iff.mp hi
    rw[hx,aP3]
   ·have:n=1:=by simpa using hb
    subst this
    exact be4 _
  exact⟨.ref a,H,I,rfl,q a H (aj8.refl H) (by rw[ex];exact ha) (.inr ⟨rfl,ex⟩)⟩
 ·have hp:=I.hok.fresh (aj s.heap.objs.size)
  refine⟨.ref s.heap.objs.size,_,I.laid (t':=s.toks) (o:=.tup (as4 n.toNat C)) (λ b ob q=>af _ q) (aj _) ?_,rfl,q _ _ ((aj8.refl H).new hp) (SqT.of zh) (.inl zh)⟩
  refine⟨by rw[aO9];exact ao hz (by decide),as4 n.toNat its,r1.repT _,?_⟩
  rw[show(as4 n.toNat its).toArray=(aG n.toNat its.toArray).foldl (·++·) #[]by rw[aL6];simp]
  exact⟨_,av _ rfl,rfl,_,rfl⟩
end L2
end
noncomputable section
namespace L2
open PySem PySem.Spec PyProof.Rows
theorem bv6 (z:Str)(u:Tok):(⟨((gu z none none (some (-1,u))).filterMap (z.cps[·]?)).toArray⟩:Str)=⟨z.cps.reverse⟩:=by
 have h:=PyProof.Rows.step_rev_list z u
 unfold PySem.Txt.sliceBy at h
 rw[if_neg (by
  have:((((some ((-1:Int),u)).map (·.1)).getD 1==1))=false:=rfl
  rw[this];simp)]at h
 have y:((gu z none none (some (-1,u))).filterMap (z.cps[·]?))=z.cps.reverse.toList:=by
  have h3:((gu z none none (some (-1,u))).filterMap (z.cps[·]?)).toArray.toList=(bj z.length).map λ k=>z.cps.getD (z.length - 1 - k) 0:=h
  rw[List.toList_toArray]at h3
  rw[h3]
  apply List.ext_getElem
  ·simp[Str.length]
  ·intro i C y
   have hz:z.length=z.cps.size:=rfl
   have hi:i<z.cps.size:=by simpa [hz]using C
   simp[hz]
   rw[Array.getElem?_eq_getElem (by omega)]
   rfl
 rw[y]
section
variable {κ:Type} [DecidableEq κ]
noncomputable def aF6 (kvs:List (κ×V))(k:κ):Option V:=(kvs.find? λ kv=>decide (kv.1=k)).map (·.2)
noncomputable def av6 (kvs:List (κ×V))(k:κ)(v:V):List (κ×V) :=
 if(kvs.any λ kv=>decide (kv.1=k))=true then kvs.map (λ kv=>if kv.1=k then(kv.1,v)else kv)else kvs++[(k,v)]
theorem ao6 {p:κ×V}{r:List (κ×V)}{k:κ}(e:p.1=k):aF6 (p::r) k=some p.2:=by simp[aF6,c0,e]
theorem ao8 {p:κ×V}{r:List (κ×V)}{k:κ}(e:¬ p.1=k):aF6 (p::r) k=aF6 r k:=by simp[aF6,c0,e]
theorem ax4 (k:κ):∀ h:List (κ×V),(h.any λ kv=>decide (kv.1=k))=(aF6 h k).isSome
 | []=>rfl
 | p::r=>by
  rw[gO]
  by_cases e:p.1=k
  ·simp only[ao6 e,decide_eq_true e,Bool.true_or,fY]
  ·rw[ao8 e,decide_eq_false e,lh];exact ax4 k r
theorem qU (h:List (κ×V))(k:κ)(v:V):(av6 h k v).length<=h.length+1:=by
 unfold av6
 split
 ·rw[aq];omega
 ·rw[aw,bh,em];omega
theorem aR4.isSome_eq {o:Option V}{u:Option Value}(r:aR4 o u):o.isSome=u.isSome:=by
 cases o with
 | none=>cases u with
  | none=>rfl
  | some _=>exact(show False from r).elim
 | some _=>cases u with
  | none=>exact(show False from r).elim
  | some _=>rfl
theorem aR4.getD {o:Option V}{u:Option Value}{d:V}{d':Value}(r:aR4 o u)(h:RelV d d'):RelV (o.getD d) (u.getD d'):=by
 cases o with
 | none=>cases u with
  | none=>exact h
  | some _=>exact(show False from r).elim
 | some _=>cases u with
  | none=>exact(show False from r).elim
  | some _=>exact r
theorem KV.val {y:List (κ×V)}{vs:List (κ×Value)}(r:KV y vs)(k:κ):aR4 (aF6 y k) (jl vs k):=by
 unfold KV at r
 induction r with
 | nil=>exact True.intro
 | @cons p q ps qs h t ih =>
  obtain⟨C,G⟩:=h
  by_cases e:p.1=k
  ·have e':q.1=k:=C.symm.trans e
   have b:jl (q::qs) k=some q.2:=by simp[jl,c0,e']
   rw[ao6 e,b];exact G
  ·have e':¬ q.1=k:=λ z=>e (C.trans z)
   have b:jl (q::qs) k=jl qs k:=by simp[jl,c0,e']
   rw[ao8 e,b];exact ih
theorem KV.any {y:List (κ×V)}{vs:List (κ×Value)}(r:KV y vs)(k:κ):(y.any λ kv=>decide (kv.1=k))=vs.any λ kv=>decide (kv.1=k):=by
 unfold KV at r
 induction r with
 | nil=>rfl
 | cons h t ih=>rw[gO,gO,ih,h.1]
theorem KV.repl {C:List (κ×V)}{vs:List (κ×Value)}(r:KV C vs)(k:κ){y:V}{u:Value}(Y:RelV y u) :
  KV (C.map λ kv=>if kv.1=k then(kv.1,y)else kv) (vs.map λ kv=>if kv.1=k then(kv.1,u)else kv):=by
 unfold KV at r ⊢
 induction r with
 | nil=>exact .nil
 | @cons p q ps qs h t ih =>
  rw[aJ,aJ]
  refine .cons ?_ ih
  obtain⟨G,J⟩:=h
  by_cases e:p.1=k
  ·rw[if_pos e,if_pos (G.symm.trans e)];exact⟨G,Y⟩
  ·rw[if_neg e,if_neg (λ z=>e (G.trans z))];exact⟨G,J⟩
theorem KV.put {h:List (κ×V)}{vs:List (κ×Value)}(r:KV h vs)(k:κ){y:V}{u:Value}(z:RelV y u):KV (av6 h k y) (stored vs k u):=by
 unfold av6 stored
 rw[r.any k]
 by_cases e:(vs.any λ kv=>decide (kv.1=k))=true
 ·rw[if_pos e,if_pos e];exact r.repl k z
 ·rw[if_neg e,if_neg e];exact lO r ⟨rfl,z⟩
theorem KV.length {h:List (κ×V)}{vs:List (κ×Value)}(r:KV h vs):h.length=vs.length:=d9 r
end
theorem aI8 {P:aO}{w:World}{k:Key}{u:Value}(r:RelV (kV k) u):(zx P w).is k u=true:=by
 cases k with
 | inl i=>obtain⟨t,e⟩:=(show ∃ t,u=Value.int i t from r);subst e;exact aJ3 P w i t
 | inr x=>obtain⟨t,e⟩:=(show ∃ t,u=Value.str x t from r);subst e;exact aI3 P w x t
theorem aF4 {P:aO}{w:World}:∀ {y:List Key} {us:List Value},Vals (y.map kV) us->ItemsAre (zx P w) y us
 | [],_,r=>by rw[bP]at r;cases r;exact .nil
 | k::y,_,r=>by
  rw[aJ]at r
  cases r with
  | cons h t=>exact .cons (aI8 h) (aF4 t)
abbrev KT (H:Hp):List (List Key×V)->List (List Key×Addr×Value)->Prop:=fR λ p q=>p.1=q.1/\H q.2.1=some (.tup (p.1.map kV))/\RelV p.2 q.2.2
theorem KT.val {H:Hp}{y:List (List Key×V)}{C:List (List Key×Addr×Value)}(r:KT H y C)(k:List Key):aR4 (aF6 y k) ((atKey C k).map (·.2)):=by
 induction r with
 | nil=>exact True.intro
 | @cons p q ps qs h t ih =>
  obtain⟨G,_,J⟩:=h
  by_cases e:p.1=k
  ·have e':q.1=k:=G.symm.trans e
   have b:atKey (q::qs) k=some q.2:=by simp[atKey,c0,e']
   rw[ao6 e,b];exact J
  ·have e':¬ q.1=k:=λ z=>e (G.trans z)
   have b:atKey (q::qs) k=atKey qs k:=by simp[atKey,c0,e']
   rw[ao8 e,b];exact ih
theorem KT.repl {H:Hp}{C:List (List Key×V)}{J:List (List Key×Addr×Value)}(r:KT H C J)(k:List Key){y:V}{u:Value}(Z:RelV y u) :
  KT H (C.map λ kv=>if kv.1=k then(kv.1,y)else kv) (J.map (putAt k u)):=by
 induction r with
 | nil=>exact .nil
 | @cons p q ps qs h t ih =>
  rw[aJ,aJ]
  refine .cons ?_ ih
  obtain⟨G,Y,h3⟩:=h
  unfold putAt
  by_cases e:p.1=k
  ·rw[if_pos e,if_pos (G.symm.trans e)];exact⟨G,Y,Z⟩
  ·rw[if_neg e,if_neg (λ z=>e (G.trans z))];exact⟨G,Y,h3⟩
theorem KT.put {H:Hp}{h:List (List Key×V)}{z:List (List Key×Addr×Value)}(r:KT H h z)(k:List Key){b:Addr}{y:V}{u:Value}(hb:H b=some (.tup (k.map kV)))(C:RelV y u) :
  KT H (av6 h k y) (storedH z k b u):=by
 have e:(h.any λ kv=>decide (kv.1=k))=(atKey z k).isSome:=by
  rw[ax4,(r.val k).isSome_eq,gx]
 unfold av6 storedH
 rw[e]
 by_cases q:(atKey z k).isSome=true
 ·rw[if_pos q,if_pos q];exact r.repl k C
 ·rw[if_neg q,if_neg q];exact lO r ⟨rfl,hb,C⟩
theorem KT.keeps {H H':Hp}{h:List (List Key×V)}{y:List (List Key×Addr×Value)}(r:KT H h y)(C:∀ b ys,H b=some (.tup ys)->H' b=some (.tup ys)):KT H' h y :=
 fR.mapP r λ _ _ z=>⟨z.1,C _ _ z.2.1,z.2.2⟩
section
variable {P:aO} {w:World} {H:Hp} {h:Heap} {a:Addr}
theorem bL4 {u:HO}(ok:HOk P w H h)(e:Rd H a u):ag7 P w H h a u:=e.ok ok
theorem aI2 {y:List (Key×V)}(ok:HOk P w H h)(e:Rd H a (.dK y)):y.length<=aI/\(a==cL)=false/\∃ vs,KV y vs/\h.DictOf (zx P w) a vs :=
 show ag7 P w H h a (.dK y)from bL4 ok e
theorem bK9 {y:List (Key×V)}(ok:HOk P w H h)(e:H a=some (.dK y)):y.length<=aI/\(a==cL)=false/\∃ vs,KV y vs/\h.DictOf (zx P w) a vs:=aI2 ok (.inl e)
theorem au1 {y:List Key}(ok:HOk P w H h)(e:H a=some (.tup (y.map kV))):(fP (zx P w)).is h y a:=by
 obtain⟨_,its,r,o,C,z,n,h3⟩:=(show ag7 P w H h a (.tup (y.map kV))from ok a _ e)
 exact⟨o,its.toArray,n,C,z,h3,by simpa using aF4 r⟩
theorem aH6 {C:List (List Key×V)}(ok:HOk P w H h)(e:Rd H a (.dT C)):C.length<=aI/\(a==cL)=false /\
  ∃ G,KT H C G/\h.DictOfH (fP (zx P w)) a G:=by
 obtain⟨z,y,G,r,o,es,Z,h1,h2,h3,J,Y⟩:=(show ag7 P w H h a (.dT C)from bL4 ok e)
 refine⟨z,y,G,r,o,es,Z,h1,h2,h3,J,λ x hx=>?_,Y⟩
 have all:∀ {l:List (List Key×V)} {m:List (List Key×Addr×Value)},KT H l m->∀ x∈m,(fP (zx P w)).is h x.1 x.2.1:=by
  intro l m q
  induction q with
  | nil=>intro x hx;exact nomatch hx
  | @cons p q ps qs hq t ih =>
   intro x hx
   rcases aP.mp hx with e|hx
   ·subst e
    exact au1 ok (by rw[<-hq.1];exact hq.2.1)
   ·exact ih x hx
 exact all r x hx
theorem bG1 {y:List (List Key×V)}(ok:HOk P w H h)(e:H a=some (.dT y)):y.length<=aI/\(a==cL)=false /\
  ∃ z,KT H y z/\h.DictOfH (fP (zx P w)) a z:=aH6 ok (.inl e)
end
def ax3 (H:Hp)(a:Addr)(y:V)(r:Option V):Prop :=
 (∃ kvs k,Rd H a (.dK kvs)/\y=kV k/\r=aF6 kvs k)\/∃ kvs k b,Rd H a (.dT kvs)/\y=.ref b/\H b=some (.tup (k.map kV))/\r=aF6 kvs k
def bB5 (H:Hp)(a:Addr)(y v:V)(H':Hp):Prop :=
 (∃ kvs k,H a=some (.dK kvs)/\y=kV k/\kvs.length<aI/\H'=upd H a (.dK (av6 kvs k v))) \/
 ∃ kvs k b,H a=some (.dT kvs)/\y=.ref b/\H b=some (.tup (k.map kV))/\kvs.length<aI/\H'=upd H a (.dT (av6 kvs k v))
theorem ax3.k {H:Hp}{a:Addr}{h:List (Key×V)}{k:Key}(e:H a=some (.dK h)):ax3 H a (kV k) (aF6 h k):=.inl ⟨h,k,.inl e,rfl,rfl⟩
theorem ax3.t {H:Hp}{a b:Addr}{h:List (List Key×V)}{k:List Key}(e:H a=some (.dT h))(eb:H b=some (.tup (k.map kV))):ax3 H a (.ref b) (aF6 h k):=.inr ⟨h,k,b,.inl e,rfl,eb,rfl⟩
theorem bB5.k {H:Hp}{a:Addr}{h:List (Key×V)}{k:Key}{v:V}(e:H a=some (.dK h))(hl:h.length<aI):bB5 H a (kV k) v (upd H a (.dK (av6 h k v))):=.inl ⟨h,k,e,rfl,hl,rfl⟩
theorem bB5.t {H:Hp}{a b:Addr}{h:List (List Key×V)}{k:List Key}{v:V}(e:H a=some (.dT h))(eb:H b=some (.tup (k.map kV)))(hl:h.length<aI) :
  bB5 H a (.ref b) v (upd H a (.dT (av6 h k v))):=.inr ⟨h,k,b,e,rfl,eb,hl,rfl⟩
section
variable {X:Cx} {pins:List (Addr×Obj)} {σ:St} {H:Hp} {s:ai} {a:Addr} {y v:V} {u r:Value} {o:Option V} {A:a0} {E:Value->ai->Prop}
theorem Inv.big (I:Inv X pins σ H s):cL<s.heap.objs.size:=by
 have h:cf<s.heap.objs.size:=(I.mod.glob.keeps I.bk).lt
 exact ik (by decide) h
theorem aF2 {Q:Value->ai->Prop}(hu:A.units+1<cLine)(I:Inv X pins σ H s)(g:ax3 H a y (some v))(ry:RelV y u)(h:∀ w' s',Inv X pins σ H s'->RelV v w'->Q w' s') :
  wpAny (model X.prog X.w) A (fh (.ref a) u) Q E s:=by
 rcases g with⟨Y,k,e,J,l⟩|⟨Y,k,b,e,J,eb,l⟩
 ·subst J
  obtain⟨z,hd,vs,G,dd⟩:=aI2 I.hok e
  obtain⟨w',hw,C⟩:=aR4.some_of (v:=v) (o:=jl vs k) (by rw[l];exact G.val k)
  exact wpAny_getItem_of (aI8 ry) dd.mapOf hw (h w' _ (I.tok _) C)
 ·subst J
  cases(show u=Value.ref b from ry)
  obtain⟨z,hd,xs,G,dd⟩:=aH6 I.hok e
  obtain⟨w',hw,C⟩:=aR4.some_of (v:=v) (o:=(atKey xs k).map (·.2)) (by rw[l];exact G.val k)
  obtain⟨p,hp,Z⟩:=io.mp hw
  refine wpAny_getItem_heap (dz hu) (au1 I.hok eb) dd hp ?_
  rw[Z]
  exact h w' _ (I.tok _) C
theorem cd3 {Q:Value->ai->Prop}(hu:A.units+1<cLine)(I:Inv X pins σ H s)(g:ax3 H a y o)(Z:RelV y u)(h:∀ s',Inv X pins σ H s'->Q (.bool o.isSome) s') :
  wpAny (model X.prog X.w) A (cK .In u (.ref a)) Q E s:=by
 rcases g with⟨G,k,e,Y,l⟩|⟨G,k,b,e,Y,eb,l⟩
 ·subst Y
  obtain⟨z,hd,vs,C,J⟩:=aI2 I.hok e
  refine wpAny_in_of (aI8 Z) hd J.mapOf ?_
  rw[<-(C.val k).isSome_eq,<-l]
  exact h _ (I.tok _)
 ·subst Y
  cases(show u=Value.ref b from Z)
  obtain⟨z,hd,xs,C,J⟩:=aH6 I.hok e
  refine wpAny_in_heap (dz hu) (au1 I.hok eb) hd J ?_
  have q:=(C.val k).isSome_eq
  rw[gx]at q
  rw[<-q,<-l]
  exact h _ (I.tok _)
theorem aW0 {Q:Value->ai->Prop}(hu:A.units+1<cLine)(I:Inv X pins σ H s)(g:ax3 H a y o)(Z:RelV y u)(h:∀ s',Inv X pins σ H s'->Q (.bool (!o.isSome)) s') :
  wpAny (model X.prog X.w) A (cK .NotIn u (.ref a)) Q E s:=by
 rcases g with⟨G,k,e,Y,l⟩|⟨G,k,b,e,Y,eb,l⟩
 ·subst Y
  obtain⟨z,hd,vs,C,J⟩:=aI2 I.hok e
  refine wpAny_notIn_of (aI8 Z) hd J.mapOf ?_
  rw[<-(C.val k).isSome_eq,<-l]
  exact h _ (I.tok _)
 ·subst Y
  cases(show u=Value.ref b from Z)
  obtain⟨z,hd,xs,C,J⟩:=aH6 I.hok e
  refine wpAny_notIn_heap (dz hu) (au1 I.hok eb) hd J ?_
  have q:=(C.val k).isSome_eq
  rw[gx]at q
  rw[<-q,<-l]
  exact h _ (I.tok _)
theorem aI0 {h':Heap}{t':Nat}{ob:HO}(I:Inv X pins σ H s)(mu:Mut (H a))(hs:bF a s.heap h')(h:∃ q,h'.get? a=some q)(new:ag7 X.prog X.w (upd H a ob) h' a ob) :
  Inv X pins σ (upd H a ob) { s with heap:=h',toks:=t' } :=
 I.write (x:=a) (e:=a) mu (.inl rfl) (λ b q hb z=>(hs.2 b hb).trans z) h new
theorem bo2 {P:aO}{w:World}{H':Hp}{h':Heap}{h:List (Key×V)}{vs:List (Key×Value)}(z:h.length<=aI)(hd:(a==cL)=false)(y:KV h vs)(C:h'.DictOf (zx P w) a vs) :
  ag7 P w H' h' a (.dK h):=⟨z,hd,vs,y,C⟩
theorem aB7 {H':Hp}{Q:Unit->ai->Prop}(hu:A.units+1<cLine)(I:Inv X pins σ H s)(g:bB5 H a y v H')(ry:RelV y u)(rv:RelV v r)(h:∀ s',Inv X pins σ H' s'->Q () s') :
  wpAny (model X.prog X.w) A (setItem (.ref a) u r) Q E s:=by
 rcases g with⟨G,k,e,Z,l,Y⟩|⟨G,k,b,e,Z,eb,l,Y⟩
 ·subst Z Y
  obtain⟨z,hd,vs,C,dd⟩:=bK9 I.hok e
  have hz:vs.length<=aI:=by rw[<-C.length];exact z
  have hl:(av6 G k v).length<=aI:=by have:=qU G k v;omega
  refine wpAny_setItem_pairs (hsz:=hz) (aI8 ry) dd λ h' J hs=>h _ ?_
  have he:∃ q,h'.get? a=some q:=let⟨q,_,_,hq,_⟩:=J;⟨q,hq⟩
  exact aI0 I (by rw[e];exact True.intro) hs he (bo2 hl hd (C.put k rv) J)
 ·subst Z Y
  cases(show u=Value.ref b from ry)
  obtain⟨z,hd,xs,C,dd⟩:=bG1 I.hok e
  have hz:xs.length<=aI:=by rw[<-d9 C];exact z
  have hl:(av6 G k v).length<=aI:=by have:=qU G k v;omega
  refine wpAny_setItem_heap (hsz:=hz) (dz hu) (au1 I.hok eb) dd λ h' J hs=>h _ ?_
  obtain⟨q,es,ep,hq,h2,h3,h4,_,h5⟩:=J
  refine aI0 I (by rw[e];exact True.intro) hs ⟨q,hq⟩ ⟨hl,hd,_,(C.put k eb rv).keeps λ c ys ec=>?_,q,es,ep,hq,h2,h3,h4,h5⟩
  rw[zd (bA3 ec e (λ z=>nomatch z))]
  exact ec
end
section
variable {X:Cx} {pins:List (Addr×Obj)} {σ:St} {H:Hp} {s:ai} {a:Addr} {kvs:List (Key×V)} {k:Key} {u:Value} {A:a0} {E:Value->ai->Prop}
end
theorem aq8 {X:Cx}{h:List (Addr×Obj)}{σ:St}{H:Hp}{s:ai}{a:Addr}{y:V}{o:Option V}(I:Inv X h σ H s)(g:ax3 H a y o):s.TypeIs (.ref a) "dict":=by
 rcases g with⟨z,k,e,_,_⟩|⟨z,k,b,e,_,_,_⟩
 ·obtain⟨_,_,vs,_,C⟩:=aI2 I.hok e
  exact C.typeIs
 ·obtain⟨_,_,G,_,C⟩:=aH6 I.hok e
  exact C.typeIs
section
variable {X:Cx} {o i e value:Expr} {pos pos' tpos:Pos} {td ty tv:TE}
end
theorem aL4 {P:aO}{w:World}{H:Hp}(h:Heap)(hb:cL<h.objs.size):ag7 P w H (h.push { cls:=.type "dict",data:=.dict #[] }) h.objs.size (.dK []) :=
 ⟨cz _,beq_eq_false_iff_ne.mpr (cV (ax hb)),[],.nil,Heap.DictOf.new h⟩
theorem bi9 {P:aO}{w:World}{H:Hp}(h:Heap)(hb:cL<h.objs.size):ag7 P w H (h.push { cls:=.type "dict",data:=.dict #[] }) h.objs.size (.dT []) :=
 ⟨cz _,beq_eq_false_iff_ne.mpr (cV (ax hb)),[],.nil,_,#[],0,av _ rfl,⟨rfl,rfl,rfl⟩,rfl,rfl,List.nodup_nil⟩
def br5:TE:=λ _ H Q=>∀ p,H p=none->Q (.ref p) (upd H p (.dK []))
def bq4:TE:=λ _ H Q=>∀ p,H p=none->Q (.ref p) (upd H p (.dT []))
section
variable {X:Cx} {pos:Pos}
theorem bj6:PE X (.Dict [] [] pos) br5:=λ y s σ H Q I h =>
 kD ⟨.ref s.heap.objs.size,_,I.laid (a:=s.heap.objs.size) (o:=.dK []) (t':=s.toks) (λ _ _ q=>af _ q) (aj _) (aL4 s.heap I.big),rfl,h _ (I.hok.fresh (aj _))⟩
theorem be9:PE X (.Dict [] [] pos) bq4:=λ y s σ H Q I h =>
 kD ⟨.ref s.heap.objs.size,_,I.laid (a:=s.heap.objs.size) (o:=.dT []) (t':=s.toks) (λ _ _ q=>af _ q) (aj _) (bi9 s.heap I.big),rfl,h _ (I.hok.fresh (aj _))⟩
end
noncomputable def ba9:List (TE×TE)->St->Hp->(List (V×V)->Hp->Prop)->Prop
 | [],_,H,Q=>Q [] H
 | (tk,tv)::r,σ,H,Q=>tk σ H λ x H1=>tv σ H1 λ y H2=>ba9 r σ H2 λ ps H3=>Q ((x,y)::ps) H3
abbrev VV:List (V×V)->List (Value×Value)->Prop:=fR λ p q=>RelV p.1 q.1/\RelV p.2 q.2
def PPs (X:Cx)(pos:Pos)(keys:List (Option Expr))(values:List Expr)(trs:List (TE×TE)):Prop :=
 ∀(pins:List (Addr×Obj)) (s:ai) (σ:St) (H:Hp) (Q:List (V×V)->Hp->Prop),Inv X pins σ H s->ba9 trs σ H Q ->
  wpAny (model X.prog X.w) X.A (evalPairs (pairTrees keys values X.env pos)) (λ vs s'=>∃ ps H',Inv X pins σ H' s'/\VV ps vs/\Q ps H') X.xe s
theorem bD7 {X:Cx}{pos:Pos}:PPs X pos [] [] []:=λ y s σ H Q I h=>pairTrees_nil_walk ⟨[],H,I,.nil,h⟩
theorem bl3 {X:Cx}{pos:Pos}{k v:Expr}{J:List (Option Expr)}{vs:List Expr}{tk Y:TE}{C:List (TE×TE)}(hk:PE X k tk)(hv:PE X v Y)(hr:PPs X pos J vs C) :
  PPs X pos (some k::J) (v::vs) ((tk,Y)::C):=λ z s σ H Q I h =>
 pairTrees_cons_walk (thn (hk z s σ H _ I h) λ u s1 ⟨x,H1,I1,rx,q1⟩=>thn (hv z s1 σ H1 _ I1 q1) λ w2 s2 ⟨y,H2,Z,ry,q2⟩ =>
  thn (hr z s2 σ H2 _ Z q2) λ ws s3 ⟨ps,H3,I3,G,q3⟩=>⟨(x,y)::ps,H3,I3,.cons ⟨rx,ry⟩ G,q3⟩)
noncomputable def az7 (kvs more:List (Key×V)):List (Key×V):=more.foldl (λ acc kv=>av6 acc kv.1 kv.2) kvs
theorem KV.merge:∀ {z:List (Key×V)} {C:List (Key×Value)} {y:List (Key×V)} {vs:List (Key×Value)},KV z C->KV y vs->KV (az7 y z) (merged vs C):=by
 intro z C y vs r
 unfold KV at r
 induction r generalizing y vs with
 | nil=>intro q;exact q
 | @cons p q ps qs h t ih =>
  intro r0
  have e:KV (av6 y p.1 p.2) (stored vs q.1 q.2):=by
   have:=r0.put p.1 h.2
   rw[<-h.1];exact this
  exact ih e
theorem ak8:∀(y h:List (Key×V)),(az7 h y).length<=h.length+y.length
 | [],h=>by show h.length<=h.length+0;omega
 | p::r,h=>by
  have z:=ak8 r (av6 h p.1 p.2)
  have C:=qU h p.1 p.2
  show(az7 (av6 h p.1 p.2) r).length<=_
  rw[bh];omega
theorem av1 {P:aO}{w:World}:∀ {y:List (Key×V)} {ws:List (Value×Value)},VV (y.map λ kv=>(kV kv.1,kv.2)) ws->∃ z,Carries (zx P w) ws z/\KV y z
 | [],_,r=>by rw[bP]at r;cases r;exact⟨[],True.intro,.nil⟩
 | p::y,_,r=>by
  rw[aJ]at r
  cases r with
  | @cons a b as bs h t =>
   obtain⟨z,c,q⟩:=av1 (P:=P) (w:=w) t
   obtain⟨b1,C⟩:=b
   exact⟨(p.1,C)::z,⟨aI8 h.1,rfl,c⟩,.cons ⟨rfl,h.2⟩ q⟩
def bJ6 (trs:List (TE×TE)):TE:=λ σ H Q=>∀ p,H p=none->ba9 trs σ (upd H p (.dK [])) λ ps H2=>H2 p=some (.dK [])/\∃ kvs:List (Key×V),ps=kvs.map (λ kv=>(kV kv.1,kv.2))/\kvs.length<=15/\Q (.ref p) (upd H2 p (.dK (az7 [] kvs)))
theorem bv5 {X:Cx}{pos:Pos}{keys:List (Option Expr)}{y:List Expr}{Z:List (TE×TE)}(h:PPs X pos keys y Z)(C:keys.all (·.isSome)=true)(hl:keys.length=y.length)(h0:keys≠[])
  (a2:keys.length<=15):PE X (.Dict keys y pos) (bJ6 Z):=by
 intro G s σ H Q I q
 have hn:=I.hok.fresh (aj s.heap.objs.size)
 have I1:=I.laid (a:=s.heap.objs.size) (o:=.dK []) (h':=s.heap.push { cls:=.type "dict",data:=.dict #[] }) (t':=s.toks) (λ _ _ q=>af _ q) (aj _) (aL4 s.heap I.big)
 refine wpAny_Dict_walk (knd:=zx X.prog X.w) C hl h0 a2 (thn (h G _ σ _ _ I1 (q _ hn)) λ ws s2 ⟨ps,H2,I2,a1,e,J,ep,lk,q2⟩=>?_)
 subst ep
 obtain⟨rs,c,rk⟩:=av1 (P:=X.prog) (w:=X.w) a1
 obtain⟨z,hd,a3,r0,dd⟩:=bK9 I2.hok e
 cases r0
 refine⟨rs,c,dd,λ h' Y hs=>⟨.ref s.heap.objs.size,_,?_,rfl,q2⟩⟩
 have hz:(az7 [] J).length<=aI:=by
  have h1:=ak8 J []
  rw[em]at h1
  rw[c6];omega
 have he:∃ q,h'.get? s.heap.objs.size=some q:=let⟨q,_,_,hq,_⟩:=Y;⟨q,hq⟩
 exact aI0 I2 (by rw[e];exact True.intro) hs he (bo2 hz hd (rk.merge .nil) Y)
structure M2 (X:Cx)(o:Expr)(m:Str)(apos:Pos)(e f:Expr)(cpos:Pos):Prop where
 base:dG o m X.env (eval o X.env)=eval o X.env
 few:((eJ cpos (bE [e,f] X.env)).all (λ x=>!x.1)&&(backToKw cpos (kG [] X.env)).all (λ x=>x.1.isSome)
  && decide (([e,f]:List Expr).length+([]:List ji).length+(if([]:List ji).isEmpty then 0 else 1)<30))=true
 line:(apos.endLine==cpos.line)=true
 trees:eJ cpos (bE [e,f] X.env)=[(false,eval e X.env),(false,eval f X.env)]
def IsD (H:Hp)(a:Addr):Prop:=(∃ kvs,Rd H a (.dK kvs))\/∃ kvs,Rd H a (.dT kvs)
theorem bL1 {X:Cx}{y:List (Addr×Obj)}{σ:St}{H:Hp}{s:ai}{a:Addr}(I:Inv X y σ H s)(d:IsD H a) :
  s.TypeIs (.ref a) "dict"/\(∀ b,Value.ref a=.ref b->∃ ob,s.heap.get? b=some ob/\ob.dict=none)/\(a==cL)=false:=by
 rcases d with⟨z,e⟩|⟨z,e⟩
 ·obtain⟨_,hd,vs,_,h⟩:=aI2 I.hok e
  refine⟨h.typeIs,λ b q=>?_,hd⟩
  cases q
  obtain⟨ob,_,_,G,C,_⟩:=h
  exact⟨ob,G,C.2.1⟩
 ·obtain⟨_,hd,J,_,h⟩:=aH6 I.hok e
  refine⟨h.typeIs,λ b q=>?_,hd⟩
  cases q
  obtain⟨ob,_,_,G,C,_⟩:=h
  exact⟨ob,G,C.2.1⟩
section
variable {X:Cx} {pins:List (Addr×Obj)} {σ:St} {H:Hp} {s:ai} {a:Addr} {y d:V} {u r:Value} {o:Option V} {A:a0} {E:Value->ai->Prop}
theorem bR4 {Q:Value->ai->Prop}(hu:A.units+1<cLine)(I:Inv X pins σ H s)(g:ax3 H a y o)(ry:RelV y u)(Z:RelV d r)(h:∀ w' s',Inv X pins σ H s'->RelV (o.getD d) w'->Q w' s') :
  wpAny (model X.prog X.w) A (call (.builtin "dict.get") [.ref a,u,r]) Q E s:=by
 rcases g with⟨J,k,e,Y,l⟩|⟨J,k,b,e,Y,eb,l⟩
 ·subst Y
  obtain⟨z,hd,vs,C,G⟩:=aI2 I.hok e
  refine j9 eZ G.typeIs ir (gX _ _ _) (meets_dict_get_default (zx X.prog X.w) a (aI8 ry) hd r) ⟨_,G.mapOf,h _ _ (I.tok _) ?_⟩
  rw[l]
  exact(C.val k).getD Z
 ·subst Y
  cases(show u=Value.ref b from ry)
  obtain⟨z,hd,xs,C,G⟩:=aH6 I.hok e
  refine j9 eZ G.typeIs ir (gX _ _ _) (meetsH_dict_get_default (fP (zx X.prog X.w)) a b hd r) ⟨dz hu,k,xs,au1 I.hok eb,G,h _ _ (I.tok _) ?_⟩
  rw[l]
  exact(C.val k).getD Z
end
def bF6 (td ty tx:TE):TE:=λ σ H Q=>td σ H λ x H1=>∃ a,x=.ref a/\IsD H1 a/\ty σ H1 λ y H2=>tx σ H2 λ z H3=>∃ o,ax3 H3 a y o/\Q (o.getD z) H3
section
variable {X:Cx} {o e f:Expr} {apos cpos:Pos} {td ty tx:TE}
theorem bj8 (hu:X.A.units+1<cLine)(ho:PE X o td)(Y:PE X e ty)(hf:PE X f tx)(m:M2 X o "get" apos e f cpos):PE X (.Call (.Attribute o "get" apos) [e,f] [] cpos) (bF6 td ty tx):=by
 intro C s σ H Q I h
 refine wpAny_Call_method m.base m.few m.line gY eZ PySem.F.type_dict_get (thn (ho C s σ H _ I h) λ u s1 ⟨x,H1,J,rx,a,ex,d,q1⟩=>?_)
 subst ex
 obtain rfl:u=Value.ref a:=rx
 obtain⟨t1,t2,_⟩:=bL1 J d
 refine⟨t1,t2,?_⟩
 rw[m.trees]
 refine eM rfl (i5 (fU (thn (Y C s1 σ H1 _ J q1) λ iv s2 ⟨y,H2,Z,ry,q2⟩ =>
  fU (thn (hf C s2 σ H2 _ Z q2) λ fv s3 ⟨z,H3,I3,rz,ov,g,q3⟩=>jZ ?_))))
 exact bR4 hu I3 g ry rz λ w' s4 I4 G=>⟨_,H3,I4,G,q3⟩
end
def DAt (h:Heap)(d:Addr)(es:Array gZ)(ep:Nat):Prop:=∃ o,h.get? d=some o/\o.ExactDict/\o.data=.dict es ep
section
variable {P:aO} {w:World} {A:a0} {E:Value->ai->Prop} {s:ai}
theorem aB6 (d : Addr) (hd : (d == sysModules) = false) : MeetsIn P w (Builtin.«dict.items» ⟨[.ref d], []⟩) (λ _ R s => s.TypeIs (.ref d) "dict" /\
      R (.ok (.ret (.ref s.heap.objs.size))) { s with heap := s.heap.push { cls := .type "dict_items", data := .fields #[.ref d] } }) :=
  .of_wp λ A R s h => by
    unfold ip.«dict.items» Builtin.Dict.noArgs
    refine ab (ab (wpAny_notOrdered_dict h.1 ?_))
    show wpAny _ _ (pure d) _ _ s
    refine am ?_
    show wpAny _ _ (iP d >>= _) _ _ s
    unfold iP
    rw[if_neg (by rw[hd]; exact aS)]
    exact ab (am (ab (bv (am ⟨_, rfl, h.2⟩))))
theorem aJ6 {v d:Addr}{es:Array gZ}{y:Nat}{Q:Value->ai->Prop}(hv:s.heap.IsItemsView v d)(G:DAt s.heap d es y)
  (C:Q (.ref s.heap.objs.size) { s with heap:=s.heap.push { cls:=.type "dict_itemiterator",data:=.fields #[.none,.bool false,.ref d,.int 0 0,.int es.size 0,.int y 0,.none,.none] } }) :
  wpAny (model P w) A (jF (.ref v)) Q E s:=by
 obtain⟨J,a1,a2,a3⟩:=id hv
 obtain⟨o,b1,Y,z⟩:=G
 refine kg hv.typeIs iu (cb iu hv.typeIs F.entry_dict_items_iter ?_ (F.args_dict_items_iter_1 _))
 unfold ip.«dict_items.__iter__» k9
 refine ab (am (ab (ab (bS a1 a3 (x:=.ref d) rfl (am (ab ?_))))))
 unfold kE
 refine ab (gy b1 z (ab (iG b1 z ?_)))
 have h:dF "dict_itemiterator"=true:=by decide
 simp only[h,if_true]
 refine bv (am ⟨_,rfl, "dict_itemiterator",_,⟨_,av _ rfl,rfl⟩,bZ.lookup,?_⟩)
  (by simp only[sizeOk,ee,ar,aw,bh,em,c6];omega)
 simpa [jG,ee]using C
theorem aH0 {it d:Addr}{i y:Nat}{es:Array gZ}{x:gZ}{ok J:Value}{Q:Option Value->ai->Prop}(h:dW s.heap it d i es.size y ok J)
  (hm:DAt s.heap d es y) (hx:es[i]?=some x)
  (hQ:∀ h',jy h' it d (i+1) es.size y x.key x.val s.heap.objs.size->h'.get? s.heap.objs.size=some { cls:=.type "tuple",data:=.seq #[x.key,x.val] } ->
   (∀ b o,b≠it->s.heap.get? b=some o->h'.get? b=some o)->Q (some (.ref s.heap.objs.size)) { s with heap:=h' }) :
  wpAny (model P w) A (fB (.ref it)) Q E s:=by
 obtain⟨hp,g,G,tk,os⟩:=s
 obtain⟨od,b1,b2,b3⟩:=hm
 have hT:jz ⟨hp,g,G,tk,os⟩ (.ref it) "dict_itemiterator":=⟨_,h,rfl⟩
 unfold fB
 refine ab (gN (bU (name:=cw "__next__") hT bZ
  (cb bZ hT fg ?_ (eY _))))
 refine ab (am (ab (ab ?_)))
 first|refine ab (cG hT (am ?_))|refine ab (cY hT (am ?_))
 refine ab (wpAny_fieldsOf h rfl ?_)
 have C:dF "dict_itemiterator"=true:=by decide
 simp only[C,if_true]
 show wpAny _ _ (if(Value.ref d==Value.none)=true then _ else _) _ _ _
 rw[if_neg (show ¬((Value.ref d==Value.none)=true)from aS)]
 refine ab (am (ab (gy b1 b3 ?_)))
 rw[if_neg (by simp)]
 refine ab (am (ab (iG b1 b3 ?_)))
 rw[if_neg (by simp)]
 refine am ?_
 simp only[show ¬((i:Int)<0)from by omega,if_false,bp,hx]
 refine ab ?_
 first|refine ab (cG hT (am ?_))|refine ab (cY hT (am ?_))
 refine ab (eS hT ?_)
 show wpAny _ _ (setField (.ref it) 3 (jG ((i:Int)+1)) >>= _) _ _ ⟨hp,g,G,tk,os⟩
 refine ab (bQ h (by simp) λ z e1 s1=>?_)
 replace s1:bF it hp z:=s1
 replace e1:dW z it d (i+1) es.size y ok J:=by
  have e:((i+1:Nat):Int)=(i:Int)+1:=by omega
  unfold dW;rw[e];simpa [jG]using e1
 have T1:jz ⟨z,g,G,tk,os⟩ (.ref it) "dict_itemiterator":=⟨_,e1,rfl⟩
 refine ab (c9 (ab (eS T1 (ab (eS T1 ?_)))))
 show wpAny _ _ (eT (.ref it) 6 x.key x.val) _ _ ⟨z,g,G,tk,os⟩
 unfold eT
 refine ab (wpAny_newTuple ?_)
 have e2:dW (z.push { cls:=.type "tuple",data:=.seq #[x.key,x.val] }) it d (i+1) es.size y ok J:=af _ e1
 generalize q2:z.push { cls:=.type "tuple",data:=.seq #[x.key,x.val] }=h2 at e2
 have z1:z.objs.size=hp.objs.size:=s1.1
 have hil:it<hp.objs.size:=aE h
 have t2:h2.get? hp.objs.size=some { cls:=.type "tuple",data:=.seq #[x.key,x.val] }:=by rw[<-q2,<-z1];exact av _ rfl
 have k2:∀ b o,b≠it->hp.get? b=some o->h2.get? b=some o:=λ b o hb e=>by rw[<-q2];exact af _ (s1.extBut b o hb e)
 show wpAny _ _ (ef (.ref it) >>= _) _ _ ⟨h2,g,G,tk,os⟩
 rw[z1]
 clear q2 e1 s1 T1 z1 z
 unfold ef
 refine ab (ab (bS e2 rfl (x:=.none) rfl (am ?_)))
 simp only[if_true]
 refine ab (bS e2 rfl (x:=ok) rfl (ab (bS e2 rfl (x:=J) rfl ?_)))
 refine ab (bQ e2 (by simp) λ h3 Z s3=>?_)
 replace s3:bF it h2 h3:=s3
 replace Z:dW h3 it d (i+1) es.size y x.key J:=Z
 refine ab (bQ Z (by simp) λ h4 e4 s4=>?_)
 replace s4:bF it h3 h4:=s4
 replace e4:dW h4 it d (i+1) es.size y x.key x.val:=e4
 refine ab (bQ e4 (by simp) λ h5 e5 s5=>?_)
 replace s5:bF it h4 h5:=s5
 replace e5:jy h5 it d (i+1) es.size y x.key x.val hp.objs.size:=e5
 refine ab (bQ e5 (by simp) λ Y e6 s6=>?_)
 replace s6:bF it h5 Y:=s6
 replace e6:jy Y it d (i+1) es.size y x.key x.val hp.objs.size:=e6
 have up:∀ b o,b≠it->h2.get? b=some o->Y.get? b=some o:=λ b o hb e=>s6.extBut b o hb (s5.extBut b o hb (s4.extBut b o hb (s3.extBut b o hb e)))
 exact ab (dS (am (am ⟨_,rfl,am (hQ Y e6 (up _ _ (cB hil) t2) λ b o hb e=>up b o hb (k2 b o hb e))⟩)))
theorem aJ2 {it d:Addr}{i z:Nat}{es:Array gZ}{ok J:Value}{Q:Option Value->ai->Prop}(Z:A.handled=none)(h:dW s.heap it d i es.size z ok J)
  (Y:DAt s.heap d es z) (hx:es.size<=i) (G:∀ h',fq it s.heap h'->Q none { s with heap:=h' }):wpAny (model P w) A (fB (.ref it)) Q E s:=by
 obtain⟨od,b1,b2,C⟩:=Y
 have hT:s.TypeIs (.ref it) "dict_itemiterator":=⟨_,h,rfl⟩
 unfold fB
 refine ab (gN (bU (name:=cw "__next__") hT bZ
  (cb bZ hT fg ?_ (eY _))))
 refine ab (am (ab (ab ?_)))
 first|refine ab (cG hT (am ?_))|refine ab (cY hT (am ?_))
 refine ab (wpAny_fieldsOf h rfl ?_)
 have y:dF "dict_itemiterator"=true:=by decide
 simp only[y,if_true]
 show wpAny _ _ (if(Value.ref d==Value.none)=true then _ else _) _ _ s
 rw[if_neg (show ¬((Value.ref d==Value.none)=true)from aS)]
 refine ab (am (ab (gy b1 C ?_)))
 rw[if_neg (by simp)]
 refine ab (am (ab (iG b1 C ?_)))
 rw[if_neg (by simp)]
 refine am ?_
 simp only[show ¬((i:Int)<0)from by omega,if_false,bp,Array.getElem?_eq_none hx]
 refine ab ?_
 first|refine ab (cG hT (am ?_))|refine ab (cY hT (am ?_))
 show wpAny _ _ (setField (.ref it) 2 .none >>= _) _ _ s
 refine ab (i8 h rfl (by simp) ?_)
 show wpAny _ _ (newExc (.type "StopIteration") [] >>= _) _ _ _
 refine ab ?_
 simp only[newExc,newTuple]
 refine ab (bv (ab (m:=f6 _ _) (kH (a:=Value.none) (by first|rfl|(simp only[f6];rfl)) ?_)) (by size_fits))
 refine bv ?_ (by size_fits)
 simp only[raiseNew]
 refine ab (wpAny_handled ?_)
 rw[show A.in1.handled=none from Z]
 refine ab (am (wpAny_throw ?_))
 refine ab (kA (T := "StopIteration") (b:=true) ⟨_,av _ rfl,rfl⟩ isSubtype_stop ?_)
 exact am (G _ (((fJ ..).extBut.push _).push _))
end
theorem ar3:entryFor table "dict_itemiterator.__iter__"=some ip.«dict_keyiterator.__iter__»:=entryFor_alias (id' := "dict_keyiterator.__iter__") (by kernel_rfl) (by decide +kernel) (by decide +kernel) (by kernel_rfl)
structure DFz (H:Hp)(a:Addr)(o:Obj)(kvs:List (List Key×V)):Prop where
 at_:H a=some (.frz o (.dT kvs))
noncomputable def Jt (a:Addr)(o:Obj)(kvs:List (List Key×V)):It:=⟨λ i H=>DFz H a o kvs/\i<kvs.length,
 λ i H x H'=>∃ p b k v,kvs[i]?=some (k,v)/\H b=some (.tup (k.map kV))/\H p=none/\x=.ref p/\H'=upd H p (.tup [.ref b,v]),λ i H=>DFz H a o kvs/\kvs.length<=i⟩
theorem bo4 {P:aO}{w:World}{H:Hp}{h:Heap}{a:Addr}{o:Obj}{C:List (List Key×V)}(ok:HOk P w H h)(z:DFz H a o C):(a==cL)=false/\∃ es G,DAt h a es G/\o.data=.dict es G/\es.size=C.length /\
  ∀(i:Nat) (k:List Key) (v:V),C[i]?=some (k,v)->∃ x b u,es[i]?=some x/\x.key=.ref b/\x.val=u/\RelV v u/\H b=some (.tup (k.map kV)):=by
 obtain⟨e,zz,y,Y,r,o',es,G,Z,h2,h3,h4,h5⟩:=(show ag7 P w H h a (.frz o (.dT C))from ok a _ z.at_)
 rw[e]at Z;cases Z
 refine⟨y,es,G,⟨o,e,h2,h3⟩,h3,?_,λ i k v hi=>?_⟩
 ·have:=congrArg iZ h4
  rw[aq,dh]at this
  rw[this];exact(d9 r).symm
 ·have hl:=d9 r
  have hlt:i<Y.length:=by rw[<-hl];exact(ac.mp hi).1
  have key:∀ {J:List (List Key×V)} {l₂:List (List Key×Addr×Value)} {i:Nat} {p:List Key×V} {q:List Key×Addr×Value},fR (λ(p:List Key×V) (q:List Key×Addr×Value)=>p.1=q.1/\H q.2.1=some (.tup (p.1.map kV))/\RelV p.2 q.2.2) J l₂->J[i]?=some p->l₂[i]?=some q->p.1=q.1/\H q.2.1=some (.tup (p.1.map kV))/\RelV p.2 q.2.2:=by
   intro J l₂ i p q r
   induction r generalizing i with
   | nil=>intro e;simp at e
   | cons h t ih =>
    intro e1 e2
    cases i with
    | zero=>simp at e1 e2;subst e1 e2;exact h
    | succ i=>exact ih (by simpa using e1) (by simpa using e2)
  obtain⟨q1,q2,q3⟩:=key r hi (ag hlt)
  have ex:es[i]?=some (entryOfKey (fP (zx P w)) Y[i]):=by
   rw[<-iQ,h4,az,ag hlt];rfl
  exact⟨_,Y[i].2.1,_,ex,rfl,rfl,q3,q2⟩
theorem aR5 {P:aO}{w:World}{K:ae}{elts:List Expr}{ek:Nat}{epos:Pos}(a it:Addr)(o:Obj)(y:List (List Key×V))(ep:Nat)(a1:Array gZ)(ho:o.data=.dict a1 ep) :
  Turn P w K (.Tuple elts ek epos) (Jt a o y) [it] it (λ i h=>∃ ok G,dW h it a i y.length ep ok G) where
 mem:=by simp
 obj:=λ i h st b hb=>by
  have e:b=it:=by simpa using hb
  subst e
  obtain⟨ok,G,e⟩:=st
  exact⟨_,e,λ v z=>by cases z⟩
 keep:=λ i h h' st k=>by
  obtain⟨ok,G,e⟩:=st
  exact⟨ok,G,k it (by simp) _ e⟩
 item:=by
  intro X hP hw hK hc i C s σ H E I hf st hg
  subst hP hw hK
  obtain⟨ok,G,hz⟩:=st
  obtain⟨fz,hlt⟩:=hg
  obtain⟨_,es,a5,da,od,hs,at_⟩:=bo4 I.hok fz
  rw[ho]at od;cases od
  obtain⟨x,b,u,ex,a4,ev,rv,hb⟩:=at_ i _ _ (ag hlt)
  subst ev
  have a3:dW s.heap it a i a1.size ep ok G:=by rw[hs];exact hz
  refine aH0 a3 da ex λ h' z' T' kk=>⟨_,rfl,wpAny_letOwnedTupleGo_items (s:={ s with heap:=h' }) z' λ Z a2 J=>?_⟩
  replace J:bF it h' Z:=J
  rw[a4]at T'
  have lt:s.heap.objs.size≠it:=cB (aE hz)
  have I1:Inv X C σ (upd H s.heap.objs.size (.tup [.ref b,y[i].2])) { s with heap:=s.heap.push { cls:=.type "tuple",data:=.seq #[.ref b,x.val] },toks:=s.toks } :=
   I.laid (λ b u e=>af _ e) (aj _) ⟨by simp[aI],[.ref b,x.val],.cons rfl (.cons rv .nil),_,av _ rfl,rfl,_,rfl⟩
  have Y:∀ c∈[it],FpOk X C (upd H s.heap.objs.size (.tup [.ref b,y[i].2])) c:=λ c hc=>by
   have q:=hf c hc
   have e:c=it:=by simpa using hc
   subst e
   exact⟨by rw[zd lt.symm];exact q.1,q.2⟩
  have I2:Inv X C σ (upd H s.heap.objs.size (.tup [.ref b,y[i].2])) { s with heap:=Z,toks:=s.toks }:=by
   refine I1.turnedL (s:={ s with heap:=s.heap.push { cls:=.type "tuple",data:=.seq #[.ref b,x.val] },toks:=s.toks }) Y λ c o hb e=>?_
   have hb:c≠it:=λ z=>hb (by simp[z])
   refine J.extBut _ _ hb ?_
   by_cases hcT:c=s.heap.objs.size
   ·subst hcT
    have:=av s.heap (o:={ cls:=.type "tuple",data:=.seq #[.ref b,x.val] }) rfl
    rw[show(s.heap.push { cls:=.type "tuple",data:=.seq #[.ref b,x.val] }).get? s.heap.objs.size=some o from e]at this
    cases this
    exact T'
   ·exact kk c o hb (by
     have e':(s.heap.push { cls:=.type "tuple",data:=.seq #[.ref b,x.val] }).get? c=some o:=e
     rw[j8 _ _ _ hcT]at e'
     exact e')
  exact⟨.ref s.heap.objs.size,_,I2,rfl,⟨_,b,y[i].1,y[i].2,ag hlt,hb,I.hok.fresh (aj _),rfl,rfl⟩,⟨_,_,by rw[<-hs];exact a2⟩,λ c hc=>(Y c hc).1⟩
 done:=by
  intro X hP hw hK hc i C s σ H E I hf st hg
  subst hP hw hK
  obtain⟨ok,G,hz⟩:=st
  obtain⟨fz,a6⟩:=hg
  obtain⟨_,es,a5,da,od,hs,_⟩:=bo4 I.hok fz
  rw[ho]at od;cases od
  exact aJ2 (I.ok.hd hc) (by rw[hs];exact hz) da (by omega) λ h' eb=>⟨rfl,I.turnedL (t':=s.toks) hf λ b o hb e=>eb b o (λ z=>hb (by simp[z])) e⟩
 self:=λ A i s Q E st h=>by
  obtain⟨ok,G,hz⟩:=st
  have hT:s.TypeIs (.ref it) "dict_itemiterator":=⟨_,hz,rfl⟩
  refine kg hT fx (cb fx hT ar3 ?_ (F.args_dict_itemiterator_iter_1 _))
  show wpAny _ _ (ret (.ref it)) _ _ s
  exact am ⟨_,rfl, "dict_itemiterator",_,hT,bZ.lookup,h⟩
section
variable {X:Cx} {pins:List (Addr×Obj)} {σ:St} {H:Hp} {s:ai}
theorem HOk.tw {P:aO}{w:World}{h:Heap}{a:Addr}{u v:HO}(ok:HOk P w H h)(G:H a=some u)(Z:∀ y,u≠.own y)(n2:∀ C,u≠.tup C)(new:ag7 P w H h a v):HOk P w (upd H a v) h:=λ b q e=>by
 have J:∀ c y,H c=some (.own y)->upd H a v c=some (.own y):=λ c y r=>by rw[zd λ z=>by subst z;rw[G]at r;cases r;exact Z _ rfl];exact r
 have Y:∀ c C,H c=some (.tup C)->upd H a v c=some (.tup C):=λ c C r=>by rw[zd λ z=>by subst z;rw[G]at r;cases r;exact n2 _ rfl];exact r
 by_cases hb:b=a
 ·subst hb;rw[zh]at e;cases e
  exact new.stay (λ _ _ _ r=>r) (λ c r=>J c _ r) Y
 ·rw[zd hb]at e
  exact(ok b q e).stay (λ _ _ _ r=>r) (λ c r=>J c _ r) Y
theorem Inv.freeze {a:Addr}{o:Obj}{h:List (List Key×V)}(I:Inv X pins σ H s)(e:H a=some (.dT h))(ho:s.heap.get? a=some o):Inv X pins σ (upd H a (.frz o (.dT h))) s :=
 I.un (t':=s.toks) (Un.write (by rw[e];trivial) (.inl rfl) (λ _ _ _ q=>q) ⟨o,ho⟩) (I.hok.tw e (by nofun) (by nofun) ⟨ho,I.hok a _ e⟩)
theorem Inv.thaw {a:Addr}{o:Obj}{h:List (List Key×V)}(I:Inv X pins σ H s)(e:H a=some (.frz o (.dT h)))(h0:∀ o u,X.H₀ a≠some (.frz o u)):Inv X pins σ (upd H a (.dT h)) s:=by
 have y:∀ b,H b=none->upd H a (.dT h) b=none:=λ b n=>by rw[zd λ z=>by subst z;rw[e]at n;cases n];exact n
 have B:=I.base
 refine⟨I.ok,I.os,I.bare,⟨B.keep,B.slot,λ b o q n hx=>y b (B.free b o q n hx),B.there,λ b G q=>?_,λ b ob u q=>?_,λ b ps q=>?_⟩,I.loc,I.cell,y _ I.free,λ x c q=>y _ (I.freeC x c q),λ p hp=>?_,I.hok.tw e (by nofun) (by nofun) ?_,I.len⟩
 ·have r:=B.tups b G q
  rw[zd λ z=>by subst z;rw[e]at r;cases r];exact r
 ·rw[zd λ z=>by subst z;exact h0 _ _ q];exact B.frzs b ob u q
 ·obtain⟨m,r⟩:=B.tbls b ps q
  exact⟨m,by rw[zd λ z=>by subst z;rw[e]at r;cases r];exact r⟩
 ·obtain⟨p1,C,p3⟩:=I.pin p hp
  exact⟨p1,y _ C,p3⟩
 ·exact(show ag7 X.prog X.w H s.heap a (.frz o (.dT h))from I.hok a _ e).2
noncomputable def vwO (p a:Addr):HO:=.ext λ h=>h.IsItemsView p a
def bn8:V->List V->Hp->VK->Prop:=λ x xs H Q=>∃ a kvs,x=.ref a/\xs=[]/\H a=some (.dT kvs)/\∀ p,H p=none->Q (.ref p) (upd H p (vwO p a))
theorem bf6:MtR X "dict.items" bn8:=by
 intro y s σ H x xs v us Q I rx Z h
 obtain⟨a,J,rfl,rfl,e,q⟩:=h
 cases rx
 cases Z
 obtain⟨_,hd,ys,_,C⟩:=bG1 I.hok e
 refine j9 g6 C.typeIs PySem.F.entry_dict_items (PySem.F.args_dict_items_1 _) (aB6 a hd) ⟨C.typeIs,.ref s.heap.objs.size,_,I.laid (t':=s.toks) (o:=vwO s.heap.objs.size a) (λ b u r=>af _ r) (aj _) ?_,rfl,q _ (I.hok.fresh (aj _))⟩
 have z:(s.heap.push { cls:=.type "dict_items",data:=.fields #[.ref a] }).IsItemsView s.heap.objs.size a:=⟨_,av _ rfl,rfl,rfl⟩
 refine⟨z,⟨_,av _ rfl⟩,λ h1 h2 ⟨o,G,Y⟩ k=>⟨o,k _ G,Y⟩⟩
def aV5 (K:ae)(to:TE):TI:=λ σ H R=>bW4 K "dict" bn8 to σ H λ x H'=>∃ p a kvs H1,x=.ref p/\H'=upd H1 p (vwO p a)/\H1 a=some (.dT kvs)/\H1 p=none/\∀ o,R (Jt a o kvs) (upd H' a (.frz o (.dT kvs)))
theorem bf0 {elts:List Expr}{ek:Nat}{epos:Pos}{ob:Expr}{Z:TE}{ap cp:Pos}(ho:PE X ob Z)(hb:dG ob "items" X.env (eval ob X.env)=eval ob X.env)(hl:(ap.endLine==cp.line)=true) :
  PI X (.Tuple elts ek epos) (.Call (.Attribute ob "items" ap) [] [] cp) (aV5 X.K Z):=by
 intro C s σ H R I h
 have pe:=bo0 gY g6 PySem.F.type_dict_items bf6 ho hb hl
 refine thn (pe C s σ H _ I h) λ v s1 ⟨x,H',G,r1,p,a,z,H1,ex,eH,e1,ep,q⟩=>?_
 subst ex
 cases r1
 have hv:s1.heap.IsItemsView p a:=(show ag7 X.prog X.w H' s1.heap p (vwO p a)from G.hok p _ (by rw[eH,zh])).1
 have ha:H' a=some (.dT z):=by rw[eH,zd (zm e1 ep)];exact e1
 obtain⟨zz,y,xs,r,o,es,J,Y,h2,h3,h4,h5⟩:=(show ag7 X.prog X.w H' s1.heap a (.dT z)from G.hok a _ ha)
 have hsz:es.size=z.length:=by
  have:=congrArg iZ h4
  rw[aq,dh]at this
  rw[this];exact(d9 r).symm
 refine aJ6 hv ⟨o,Y,h2,h3⟩ ?_
 have I2:=(G.freeze ha Y).kept (t':=s1.toks) (h':=s1.heap.push { cls:=.type "dict_itemiterator",data:=.fields #[.none,.bool false,.ref a,.int 0 0,.int es.size 0,.int J 0,.none,.none] }) λ b u r=>af _ r
 refine⟨s1.heap.objs.size,[s1.heap.objs.size],_,_,_,rfl,I2,aR5 a s1.heap.objs.size o z J es h3,⟨_,_,by rw[<-hsz];exact av _ rfl⟩,λ b hb=>?_,q o⟩
 have e:b=s1.heap.objs.size:=by simpa using hb
 subst e
 exact(G.freeze ha Y).fpOk (aj _) ((G.freeze ha Y).hok.fresh (aj _))
end
def cd2 (H:Hp)(kvs:List (List Key×V))(ys:List V)(D:Addr):Prop:=∀(j:Nat) (k:List Key) (v:V),j<ys.length->kvs[j]?=some (k,v)->∃ t,t≠D/\ys[j]?=some (.ref t)/\H t=some (.tup (k.map kV++[v]))
def teI (K:ae):TE:=tOp (bQ6 K) (bO8 0) (cb0 (at4 (bO8 1) be3))
def gI (K:ae):TG:=bU7 K 2 (bj1 (as7 0) (bj1 (as7 1) bX4))
theorem bP4 {K:ae}{a:Addr}{h:List (List Key×V)}{G:Hp}{σ:St}{Q:VK}(e:G a=some (.dT h))(ne:∀ kv∈h,kv.1≠[]/\kv.1.length<=1000)(hz:h.length<=1000000)
  (hQ:∀ D ys C o,aj8 G (upd C a (.dT h))->G D=none->D≠a->C D=some (.lst ys)->C a=some (.frz o (.dT h))->ys.length=h.length->cd2 C h ys D->Q (.ref D) C) :
  tComp [none,none] (aV5 K (tC (.ref a))) (gI K) bU4 (teI K) σ G Q:=by
 refine⟨.inr (.inr (.inl ⟨rfl,.inr ⟨h,e⟩⟩)),a,h,rfl,rfl,e,λ p hp=>⟨p,a,h,G,rfl,rfl,e,hp,λ o D hD=>?_⟩⟩
 generalize a4:upd (upd G p (vwO p a)) a (.frz o (.dT h))=C at hD
 have ea:C a=some (.frz o (.dT h)):=by rw[<-a4,zh]
 have aD:a≠D:=zm ea hD
 have a2:∀ b q,G b=some q->b≠a->C b=some q:=λ b q r z=>by rw[<-a4,zd z,zd (zm r hp)];exact r
 refine⟨λ i m σ' H'=>m=h.length - i/\i<=h.length/\σ'.length=2/\(∀ b q,b≠D->C b=some q->H' b=some q)/\∃ ys,H' D=some (.lst ys)/\ys.length=i/\cd2 H' h ys D,⟨h.length,by simp,cz _,rfl,λ b q z r=>by rw[zd z];exact r,[],zh,rfl,λ j k v hj=>absurd hj (Nat.not_lt_zero _)⟩,?_⟩
 rintro i m σ' H' ⟨rfl,hil,a6,kp,ys,hy,y,a3⟩
 have J:H' a=some (.frz o (.dT h)):=kp a _ aD ea
 rcases kh i h.length with hlt|hge
 ·refine .inr ⟨⟨⟨J⟩,hlt⟩,_,λ σ2 H3 n=>⟨h.length - (i+1),by omega,n⟩,?_⟩
  rintro x H3 ⟨p',b,k,v,hk,hb,a5,rfl,rfl⟩
  have k3:aj8 H' (upd H' p' (.tup [.ref b,v])):=(aj8.refl H').new a5
  refine⟨p',[.ref b,v],rfl,SqT.of zh,rfl,.ref b,[v],rfl,v,[],rfl,rfl,?_⟩
  show teI K _ _ _
  have h0:0 < σ'.length:=by omega
  have h1:1 < σ'.length:=by omega
  refine⟨.ref b,by rw[aY (by decide),bn h0],v,by rw[bn (by rw[bz];exact h1)],by show 1<=aI;rw[c6];omega,λ p2 a7=>?_⟩
  have k4:=k3.new (o:=.tup [v]) a7
  have a9:k≠[]:=(ne _ (aQ hk)).1
  have b0:k.length<=1000:=(ne _ (aQ hk)).2
  have a8:=k4 _ _ hb
  refine⟨b,p2,k.map kV,[v],rfl,rfl,SqT.of a8,SqT.of zh,?_,λ t H7 sm ht hn=>?_⟩
  ·rw[aq,c6];show k.length+1<=_;omega
  ·have k7:aj8 H' H7:=λ c q r=>sm _ _ (k4 _ _ r)
   have Z:H7 t=some (.tup (k.map kV++[v])):=by
    rcases hn with hn|⟨_,hn⟩|⟨_,hn⟩
    ·exact hn
    ·cases hn
    ·exact absurd (List.map_eq_nil_iff.mp hn) a9
   have a1:t≠D:=bA3 Z (k7 _ _ hy) (by nofun)
   refine⟨ys,k7 _ _ hy,by rw[c6];omega,rfl,hlt,by rw[bz,bz];exact a6,λ c q z r=>by rw[zd z];exact k7 _ _ (kp c q z r),ys++[.ref t],zh,by rw[aw,y];rfl,λ j k' v' hj Y=>?_⟩
   rw[aw,y]at hj
   by_cases hji:j<i
   ·obtain⟨t',z1,z2,z3⟩:=a3 j k' v' (by rw[y];exact hji) Y
    exact⟨t',z1,by rw[aL (by rw[y];exact hji)];exact z2,by rw[zd z1];exact k7 _ _ z3⟩
   ·have:j=i:=by simp at hj;omega
    subst this
    rw[hk]at Y;cases Y
    exact⟨t,a1,by rw[aM (by rw[y];exact aj _),y,ki];rfl,by rw[zd a1];exact Z⟩
 ·have:i=h.length:=by omega
  subst this
  refine .inl ⟨⟨⟨J⟩,aj _⟩,hQ D ys H' o (λ b q r=>?_) ?_ aD.symm hy J y a3⟩
  ·by_cases z:b=a
   ·subst z;rw[e]at r;cases r;exact zh
   ·have r2:=a2 b q r z
    rw[zd z];exact kp b q (zm r2 hD) r2
  ·cases q:G D with
   | none=>rfl
   | some w=>have:=a2 D w q aD.symm;rw[hD]at this;cases this
theorem bI5 {X:Cx}{x y:Str}{ob:Expr}{to:TE}{scope:Scope}{p1 p2 p3 p4 p5 p6 p8 ap cp pos:Pos}{k2 k7:Nat}(a3:x≠y)(a2:zM [x,y] [none,none] scope X.N X.env.scope=true)(G:X.calm=true)
  (hx:scope.names.lookup x=some .local) (hy:scope.names.lookup y=some .local) (a1:PE X ob to) (hb:dG ob "items" X.env (eval ob X.env)=eval ob X.env) (hl:(ap.endLine==cp.line)=true)
  (d1:(x==("__debug__":Str))=false) (d2:(y==("__debug__":Str))=false) (d3:(x==("__classdict__":Str))=false) (d4:(y==("__classdict__":Str))=false) :
  PE X (.ListComp (.BinOp (.Name x p1) .Add (.Tuple [.Name y p2] k2 p3) p4) [⟨.Tuple [.Name x p5,.Name y p6] k7 p8,.Call (.Attribute ob "items" ap) [] [] cp,[],0⟩] scope pos)
   (λ σ H Q=>tComp [none,none] (aV5 X.K to) (gI X.K) bU4 (teI X.K) σ H λ v H'=>∃ a o J,H' a=some (.frz o (.dT J))/\(∀ o u,H a≠some (.frz o u))/\Q v (upd H' a (.dT J))):=by
 intro Z s σ H Q I h
 have base:=aI7 (X:=X) (pos:=pos) (scope:=scope) [x,y] [none,none] a2 (bf0 (elts:=[.Name x p5,.Name y p6]) (ek:=k7) (epos:=p8) a1 hb hl) G (g:=gI X.K) (tc:=bU4) (te:=teI X.K) (ifs:=[]) (elt:=.BinOp (.Name x p1) .Add (.Tuple [.Name y p2] k2 p3) p4) (λ C cells s H ex=>by
  have Y:∀ z,scope.names.lookup z=some .local->(dQ scope X.env).names.lookup z=some .local:=λ z hz=>by
   have q:(dQ scope X.env).names.lookup z=some (if(NameKind.local==NameKind.free&&X.env.scope.kind==.function&&X.env.kindOf z==some .cell)then NameKind.cell else NameKind.local):=zW (env:=X.env) hz
   rw[q];rfl
  have vx:Vis (dQ scope X.env) x:=.inl (Y x hx)
  have vy:Vis (dQ scope X.env) y:=.inl (Y y hy)
  have nd:[x,y].Nodup:=by simp[a3]
  refine⟨bp4 G (ax2 (ay7 (i:=0) nd rfl (.inl (Y x hx)) (.inr (Y x hx))) (ax2 (ay7 (i:=1) nd rfl (.inl (Y y hy)) (.inr (Y y hy))) aZ9 rfl) rfl) rfl rfl,bc3,bR8 (ba2 rfl) (aO3 (i:=0) rfl vx d1 d3) (br6 (zO (aO3 (i:=1) rfl vy d2 d4) aj3 rfl))⟩) (by intro _;rfl)
 exact thn (base Z s σ H _ I h) λ v s' ⟨z,H',I',r',a,o,J,e,nf,q⟩=>⟨z,_,I'.thaw e (λ o u r=>nf o u (I.base.frzs _ _ _ r)),r',q⟩
section
variable {prog:aO} {w:World} {A:a0} {R:ly->ai->Prop} {I:Addr} {fp wr:List Addr} {n:Nat} {P:Nat->Value->Prop} {St:Nat->Heap->Prop} {kw:List (Str×Value)}
end
theorem bl9 (its:List Value):kr its.toArray none none (some (-1))=its.reverse.toArray:=by
 have hb:dq none none (some (-1)) its.toArray.size=((its.length:Int) - 1,-1,-1):=by
  unfold dq
  simp
 have hr:sliceRange ((its.length:Int) - 1) (-1) (-1)=(bj its.length).map λ k=>its.length - 1 - k:=by
  unfold sliceRange
  have hc:(if(-1:Int) > 0 then(if(its.length:Int) - 1 < -1 then(-1 - ((its.length:Int) - 1)+-1 - 1) / -1 else 0)else(if(its.length:Int) - 1 > -1 then((its.length:Int) - 1 - -1 - -1 - 1) / (- -1)else 0))=its.length:=by
   rw[if_neg (by decide)]
   by_cases h:(its.length:Int) - 1 > -1
   ·rw[if_pos h,show(-(-1):Int)=1 by decide,lz];omega
   ·rw[if_neg h];omega
  simp only[hc,bp]
  refine jq λ k hk=>?_
  have:=bN.mp hk
  omega
 unfold kr
 rw[hb]
 simp only[hr]
 congr 1
 apply List.ext_getElem?
 intro i
 rw[bo]
 have e:((bj its.length).filterMap ((λ x=>its.toArray[x]?) ∘ λ k=>its.length - 1 - k))=(bj its.length).map λ k=>its.getD (its.length - 1 - k) .none:=by
  rw[<-bH]
  have y:∀(l:List Nat) (f g:Nat->Option Value),(∀ x∈l,f x=g x)->l.filterMap f=l.filterMap g:=λ l f g h=>by
   induction l with
   | nil=>rfl
   | cons a l ih=>rw[bJ,bJ,h a (aN ..),ih λ x hx=>h x (aF _ hx)]
  refine y _ _ _ λ k hk=>?_
  have:=bN.mp hk
  simp only[cA,cq,aR]
  rw[ag (by omega)]
  rfl
 rw[e]
 by_cases hi:i<its.length
 ·rw[az,di hi,iR hi,aB,aR,ag (by omega)]
  rfl
 ·rw[bT (by rw[aq,eU];omega),bT (by rw[cE];omega)]
def bP5 (K:ae)(te ts:TE):TE:=λ σ H Q=>te σ H λ x H1=>ts σ H1 λ y H2=>y=.int (-1)/\((∃ z:Str,x=.str z/\z.length<=aI/\Q (.str ⟨z.cps.reverse⟩) H2)\/∃ a xs,x=.ref a/\SqL K H2 a xs/\∀ p,H2 p=none->Q (.ref p) (upd H2 p (.lst xs.reverse)))
theorem bz8 {X:Cx}{K:ae}{e st:Expr}{te ts:TE}{Z pos:Pos}(hK:X.K=K)(he:PE X e te)(hs:PE X st ts):PE X (.Subscript e (.Slice none none (some st) Z) pos) (bP5 K te ts):=by
 subst hK
 intro C s σ H Q I h
 refine kS (thn (he C s σ H _ I h) λ v s1 ⟨x,H1,I1,r1,q1⟩=>?_)
 refine wpAny_Slice ?_
 rw[jw]
 refine am ?_
 refine am ?_
 rw[evalPart_some]
 refine thn (hs C s1 σ H1 _ I1 q1) λ w s2 ⟨y,H2,I2,r2,q2⟩=>?_
 obtain⟨rfl,q2⟩:=q2
 obtain⟨G,rfl⟩:=r2
 have J:Inv X C σ H2 { s2 with heap:=s2.heap.push { cls:=.type "slice",data:=.fields #[.none,.none,.int (-1) G] } }:=I2.kept (t':=s2.toks) λ b ob q=>af _ q
 have fin:∀(v:Value) (T:String) (id:String),typeLookup (.type T) "__getitem__"=pure (some (.builtin id))->jz { s2 with heap:=s2.heap.push { cls:=.type "slice",data:=.fields #[.none,.none,.int (-1) G] } } v T->wpAny (model X.prog X.w) X.A (fh v (.ref s2.heap.objs.size)) (EP X C σ Q) X.xe { s2 with heap:=s2.heap.push { cls:=.type "slice",data:=.fields #[.none,.none,.int (-1) G] } } ->
   wpAny (model X.prog X.w) X.A (jx e (.Slice none none (some st) Z) v (.ref s2.heap.objs.size)) (EP X C σ Q) X.xe { s2 with heap:=s2.heap.push { cls:=.type "slice",data:=.fields #[.none,.none,.int (-1) G] } }:=λ v T id hT Y hg=>j3 (ops:=[v,.ref s2.heap.objs.size]) Y hT hg (by with_unfolding_all rfl)
 rcases q2 with⟨z,rfl,hz,q⟩|⟨a,xs,rfl,hx,q⟩
 ·obtain⟨t,rfl⟩:=r1
  have hg:wpAny (model X.prog X.w) X.A (fh (.str z t) (.ref s2.heap.objs.size)) (EP X C σ Q) X.xe { s2 with heap:=s2.heap.push { cls:=.type "slice",data:=.fields #[.none,.none,.int (-1) G] } }:=by
   refine gU (l:=none) (u:=none) (st:=some (-1,G)) ⟨_,av _ rfl,rfl,rfl⟩ rfl ?_
   unfold sliceMade
   rw[if_neg (by
    have:((((some ((-1:Int),G)).map (·.1)).getD 1==1))=false:=rfl
    rw[this];simp),bv6]
   refine⟨?_,.str _,H2,J.tok _,⟨_,rfl⟩,q⟩
   show z.cps.reverse.size<=aI
   rw[Array.size_reverse];exact hz
  exact fin _ _ _ jN.lookup (jK _ z t) hg
 ·cases r1
  obtain⟨its,r,Y,hz⟩:=J.list hx
  have a1:=r.length
  have hg:wpAny (model X.prog X.w) X.A (fh (.ref a) (.ref s2.heap.objs.size)) (EP X C σ Q) X.xe { s2 with heap:=s2.heap.push { cls:=.type "slice",data:=.fields #[.none,.none,.int (-1) G] } }:=by
   refine gH (lo:=none) (hi:=none) (st:=some (-1)) Y.isList ⟨_,av _ rfl,rfl,rfl⟩ .none .none (.int (-1) G) (by simp) ?_ (by rw[ar]<;>omega)
   rw[bl9]
   refine⟨.ref _,_,J.laid (t':=s2.toks) (o:=.lst xs.reverse) (λ b ob q=>af _ q) (aj _) ?_,rfl,q _ (J.hok.fresh (aj _))⟩
   exact⟨by rw[cE];exact hz,_,0,r.reverse,av _ rfl⟩
  exact fin (.ref a) _ _ gk.lookup Y.isList.typeIs hg
theorem bu3 (i:Int)(h:0<=i):kX i 1=i % 2:=by
 unfold kX
 rw[decide_eq_true h]
 show((i.toNat &&& (1:Int).toNat:Nat):Int)=_
 rw[show(1:Int).toNat=1 from rfl,Nat.and_one_is_mod]
 omega
theorem bx6 {X:Cx}:OpR X (cC .BitAnd) (rI (λ i j=>0<=i/\j=1) λ i j=>.int (i % 2)):=opI λ i j _ _ _ _ _ hc q=>by
 obtain⟨h0,rfl⟩:=hc
 refine and_int ?_
 rw[bu3 i h0]
 exact q
end L2
end
noncomputable section
namespace DV
inductive D where
 | non|bl (b:Bool)|int (i:Int)|str (x:List Nat)|tup (l:List D)|ref (n:Nat)|fn (f:String)|clo (f:String) (cs:List D)
noncomputable instance:DecidableEq D:=λ a b=>g8 (a=b)
noncomputable instance (x:D):Decidable (x=.non):=match x with
 | .non=>.isTrue rfl
 | .bl _=>.isFalse nofun
 | .int _=>.isFalse nofun
 | .str _=>.isFalse nofun
 | .tup _=>.isFalse nofun
 | .ref _=>.isFalse nofun
 | .fn _=>.isFalse nofun
 | .clo _ _=>.isFalse nofun
inductive O where
 | lst (l:List D)|ro (l:List D)|dic (l:List (D×D))|ins (c:String) (fs:List (String×D))|dit (l:List (D×D))
noncomputable instance:DecidableEq O:=λ a b=>g8 (a=b)
noncomputable abbrev Sto:=List O
noncomputable def O.kd:O->Nat
 | .lst _=>0|.ro _=>1|.dic _=>2|.ins _ _=>3|.dit _=>4
inductive R (α:Type) where
 | ok (a:α) (s:Sto)|exc (e:D) (s:Sto)|bad
noncomputable abbrev M (α:Type):=Sto->R α
noncomputable def R.bind {α β:Type}(r:R α)(f:α->Sto->R β):R β:=match r with
 | .ok a s=>f a s
 | .exc e s=>.exc e s
 | .bad=>.bad
@[simp] theorem R.bind_ok {α β:Type} (a:α) (s:Sto) (f:α->Sto->R β):(R.ok a s).bind f=f a s:=rfl
@[simp] theorem R.bind_bad {α β:Type} (f:α->Sto->R β):(R.bad:R α).bind f=.bad:=rfl
@[simp] theorem R.bind_exc {α β:Type} (e:D) (s:Sto) (f:α->Sto->R β):(R.exc e s:R α).bind f=.exc e s:=rfl
theorem R.bind_inv {α β:Type}{r:R α}{f:α->Sto->R β}{b:β}{t:Sto}(h:r.bind f=.ok b t):∃ a s,r=.ok a s/\f a s=.ok b t:=by
 cases r with
 | ok a s=>exact⟨a,s,rfl,h⟩
 | exc e s=>cases h
 | bad=>cases h
@[simp] theorem R.bind_assoc {α β γ:Type} (r:R α) (f:α->Sto->R β) (g:β->Sto->R γ):(r.bind f).bind g=r.bind λ a s=>(f a s).bind g:=by cases r<;>rfl
mutual
noncomputable def D.bnd (n:Nat):D->Bool
 | .tup l=>D.bndL n l
 | .ref k=>decide (k<n)
 | .clo _ l=>D.bndL n l
 | _=>true
noncomputable def D.bndL (n:Nat):List D->Bool
 | []=>true
 | d::l=>D.bnd n d&&D.bndL n l
end
noncomputable def O.bnd (n:Nat):O->Bool
 | .lst l=>D.bndL n l
 | .ro l=>D.bndL n l
 | .dic l=>D.bndL n (l.map (·.1))&&D.bndL n (l.map (·.2))
 | .ins _ fs=>D.bndL n (fs.map (·.2))
 | .dit l=>D.bndL n (l.map (·.1))&&D.bndL n (l.map (·.2))
mutual
noncomputable def D.plain:D->Bool
 | .non=>true|.int _=>true|.str _=>true
 | .tup l=>D.plainL l
 | _=>false
noncomputable def D.plainL:List D->Bool
 | []=>true
 | d::l=>D.plain d&&D.plainL l
end
mutual
noncomputable def D.ncl:D->Bool
 | .tup l=>D.nclL l
 | .clo _ _=>false
 | _=>true
noncomputable def D.nclL:List D->Bool
 | []=>true
 | d::l=>D.ncl d&&D.nclL l
end
noncomputable def O.ncl:O->Bool
 | .lst l=>D.nclL l
 | .ro l=>D.nclL l
 | .dic l=>D.nclL (l.map (·.2))
 | .dit l=>D.nclL (l.map (·.2))
 | _=>false
noncomputable def D.key:D->Bool
 | .int _=>true|.str _=>true|_=>false
noncomputable def D.hdI:List D->Bool
 | .int _::_=>true|_=>false
noncomputable def D.keyS:D->Bool
 | .int _=>true|.str x=>decide (x.length<=1000)|_=>false
noncomputable def D.keyT:D->Bool
 | .tup l=>D.hdI l&&(l.all D.keyS&&decide (l.length<=1000))|_=>false
noncomputable def LIM:Nat:=1000000
@[irreducible] noncomputable def BIG:Nat:=2^60000
@[irreducible] noncomputable def DIVL:Nat:=2^4096
inductive BOp where
 | add|sub|mul|fdiv|mod|pow|shl|shr|band|bor
 deriving DecidableEq
inductive COp where
 | eq|ne|lt|le|gt|ge|isin|notin
 deriving DecidableEq
inductive Cn where
 | non|bl (b:Bool)|int (i:Int)|str (x:List Nat)
 deriving DecidableEq
noncomputable def Cn.d:Cn->D
 | .non=>.non|.bl b=>.bl b|.int i=>.int i|.str x=>.str x
inductive Bi where
 | len|abs|int|str|min2|max2|max3|min3|isInt|isBool|isStr|isTup|isList|ord
 deriving DecidableEq
inductive Mk where
 | tuple|list|all|any|sum|min|max|sorted|lenset
 deriving DecidableEq
inductive Mt where
 | append|pop|index|count|reverse|clear|bitlen|get1|get2|setdefault|update|split|partition
 deriving DecidableEq
inductive Tg where
 | one (i:Nat)|tup (is:List Nat)
 deriving DecidableEq
mutual
inductive E where
 | var (i:Nat)|cst (c:Cn)|glob (x:String)
 | bin (op:BOp) (a b:E)|neg (a:E)|not (a:E)
 | cmp (op:COp) (a b:E)|chain (o p:COp) (a b c:E)
 | isN (a:E)|notN (a:E)|isB (a:E) (b:Bool)|notB (a:E) (b:Bool)
 | and (a b:E)|or (a b:E)|ite (c a b:E)
 | tup (es:Es)|lst (es:Es)|dic (ks vs:Es)|dicT|get2 (o k d:E)|bitl (a:E)|lrng (a:E)
 | ix (a b:E)|slL (a lo:E)|slU (a hi:E)|slLU (a lo hi:E)|rev (a:E)
 | call (f:String) (as:As)|callC (f:String) (as:As)|callV (i:Nat) (es:Es)
 | bi (b:Bi) (es:Es)|mk (k:Mk) (l:L)|mkD (k:Mk) (l:L) (d:E)
 | meth (m:Mt) (o:E) (es:Es)|ext (o:E) (l:L)|extS (o e:E)|join (o e:E)|mks (k:Mk) (e:E)|mkDs (k:Mk) (e d:E)
inductive Es where
 | nil|cons (e:E) (es:Es)
inductive As where
 | nil|ex (e:E) (as:As)|lam (id:String) (caps:List Nat) (as:As)|fn (f:String) (as:As)
inductive I where
 | seq (e:E)|rng1 (a:E)|rng2 (a b:E)|rng3 (a b:E) (c:Int)|enum (it:I)|zip (a b:I)|items (e:E)
inductive L where
 | comp (tg:Tg) (it:I) (e:E) (caps:List (Option Nat))|compIf (tg:Tg) (it:I) (c e:E) (caps:List (Option Nat))|disp (es:Es)|seq (e:E)|itm (e:E)
end
mutual
inductive S where
 | asg (tg:Tg) (e:E)|setIx (o i e:E)|aug (i:Nat) (e:E)|ex (e:E)|ret (e:E)|retN
 | ite (c:E) (a b:Ss)|whl (c:E) (b:Ss)|for_ (tg:Tg) (it:I) (b:Ss)|pass|cont|brk|raise|und (i:Nat)
inductive Ss where
 | nil|cons (s:S) (ss:Ss)
end
noncomputable abbrev Env:=List (Option D)
noncomputable def ai2 (o:O):M D:=λ s=>.ok (.ref s.length) (s++[o])
noncomputable def pur (d:D):M D:=λ s=>.ok d s
noncomputable def bad {α:Type}:M α:=λ _=>.bad
noncomputable def mulOk (a b:Int):Bool:=decide (a.natAbs<2^64)||decide (b.natAbs<2^64)||(decide (a.natAbs<BIG)&&decide (b.natAbs<BIG))
noncomputable def rep:Nat->List Nat->List Nat
 | 0,_=>[]
 | n+1,a=>a++rep n a
noncomputable def aT3:Nat->List D->List D
 | 0,_=>[]
 | n+1,a=>a++aT3 n a
noncomputable def qB:BOp->D->D->M D
 | .add,.int a,.int b=>pur (.int (a+b))
 | .add,.str a,.str b=>if a.length+b.length<=LIM then pur (.str (a++b))else bad
 | .add,.tup a,.tup b=>if a.length+b.length<=LIM then pur (.tup (a++b))else bad
 | .add,.ref a,.ref b=>λ s=>match s[a]?,s[b]? with
  | some (.lst l),some (.lst m)=>if l.length+m.length<=LIM then ai2 (.lst (l++m)) s else .bad
  | _,_=>.bad
 | .sub,.int a,.int b=>pur (.int (a - b))
 | .mul,.int a,.int b=>if mulOk a b then pur (.int (a*b))else bad
 | .mul,.str a,.int n=>if 0<=n/\n<=1000000/\a.length*n.toNat<=LIM then pur (.str (rep n.toNat a))else bad
 | .mul,.tup a,.int n=>if 0<=n/\n<=1000000/\a.length*n.toNat<=LIM then pur (.tup (aT3 n.toNat a))else bad
 | .mul,.ref a,.int n=>λ s=>match s[a]? with
  | some (.lst l)=>if 0<=n/\n<=1000000/\l.length*n.toNat<=LIM then ai2 (.lst (aT3 n.toNat l)) s else .bad
  | _=>.bad
 | .fdiv,.int a,.int b=>if 0<b/\b<(DIVL:Int)then pur (.int (a / b))else bad
 | .mod,.int a,.int b=>if 0<b then pur (.int (a % b))else bad
 | .pow,.int a,.int b=>if 0<=b/\b<=1000000/\a.natAbs<2^64 then pur (.int (a^b.toNat))else bad
 | .shl,.int a,.int b=>if 0<=b/\b<=1000000/\a.natAbs<2^64 then pur (.int (a*2^b.toNat))else bad
 | .shr,.int a,.int b=>if 0<=b then pur (.int (a / 2^b.toNat))else bad
 | .band,.int a,.int b=>if 0<=a/\b=1 then pur (.int (a % 2))else bad
 | _,_,_=>bad
noncomputable def kd (s:Sto):D->Nat
 | .non=>0|.bl _=>1|.int _=>1|.str _=>2|.tup _=>3
 | .ref r=>match s[r]? with|some (.lst _)=>4|_=>9
 | _=>9
noncomputable def aH9 (a b:Nat):Bool:=a==9||b==9||a==b
noncomputable def b2i (b:Bool):Int:=if b then 1 else 0
noncomputable def aV7:D->D->Option Bool
 | .non,.non=>some true
 | .bl a,.bl b=>some (a==b)
 | .int a,.int b=>some (a==b)
 | .bl a,.int b=>some (b2i a==b)
 | .int a,.bl b=>some (a==b2i b)
 | .str a,.str b=>some (a==b)
 | _,_=>none
noncomputable def ai8 (s:Sto)(a b:D):Option Bool:=match aV7 a b with
 | some z=>some z
 | none=>if aH9 (kd s a) (kd s b)then none else some false
noncomputable def eqL (f:D->D->Option Bool):List D->List D->Option Bool
 | [],[]=>some true
 | [],_::_=>some false
 | _::_,[]=>some false
 | a::l,b::m=>match f a b,eqL f l m with
  | some x,some y=>some (x&&y)
  | _,_=>none
noncomputable def eqv (s:Sto):Nat->D->D->Option Bool
 | 0,a,b=>ai8 s a b
 | n+1,a,b=>match a,b with
  | .tup l,.tup m=>eqL (eqv s n) l m
  | .ref x,.ref y=>match s[x]?,s[y]? with
   | some (.lst l),some (.lst m)=>if l.length=m.length then eqL (eqv s n) l m else some false
   | _,_=>none
  | a,b=>ai8 s a b
noncomputable def DEEP:Nat:=30
noncomputable def eqM (a b:D):M D:=λ s=>match eqv s DEEP a b with
 | some r=>.ok (.bl r) s
 | none=>.bad
noncomputable def inL (s:Sto)(x:D):List D->Option Bool
 | []=>some false
 | y::l=>match eqv s DEEP y x,inL s x l with
  | some a,some b=>some (a||b)
  | _,_=>none
noncomputable def look (k:D):List (D×D)->Option D
 | []=>none
 | (a,v)::l=>if a=k then some v else look k l
noncomputable def inM (a b:D):M Bool:=λ s=>match b with
 | .tup l=>match inL s a l with|some r=>.ok r s|none=>.bad
 | .ref r=>match s[r]? with
  | some (.lst l)=>match inL s a l with|some r=>.ok r s|none=>.bad
  | some (.dic l)=>if a.key then .ok (look a l).isSome s else .bad
  | some (.dit l)=>if a.keyT then .ok (look a l).isSome s else .bad
  | _=>.bad
 | .str y=>match a with|.str [c]=>.ok (decide (c∈y)) s|_=>.bad
 | _=>.bad
noncomputable def qx:COp->D->D->M D
 | .eq,a,b=>eqM a b
 | .ne,a,b=>λ s=>match eqv s DEEP a b with|some r=>.ok (.bl (!r)) s|none=>.bad
 | .lt,.int a,.int b=>pur (.bl (decide (a<b)))
 | .le,.int a,.int b=>pur (.bl (decide (a<=b)))
 | .gt,.int a,.int b=>pur (.bl (decide (b<a)))
 | .ge,.int a,.int b=>pur (.bl (decide (b<=a)))
 | .isin,a,b=>λ s=>(inM a b s).bind λ r s=>.ok (.bl r) s
 | .notin,a,b=>λ s=>(inM a b s).bind λ r s=>.ok (.bl (!r)) s
 | _,_,_=>bad
noncomputable def ixn (n:Nat)(i:Int):Option Nat:=if 0<=i then(if i<n then some i.toNat else none)else if -(n:Int)<=i then some (i+n).toNat else none
noncomputable def sbd (n:Nat)(i:Int):Nat:=if 0<=i then min i.toNat n else(i+n).toNat
noncomputable def loB (n:Nat):Option Int->Nat
 | none=>0
 | some i=>sbd n i
noncomputable def hiB (n:Nat):Option Int->Nat
 | none=>n
 | some i=>sbd n i
noncomputable def am0 {α:Type}(l:List α)(lo hi:Option Int):List α:=(l.drop (loB l.length lo)).take (hiB l.length hi - loB l.length lo)
noncomputable def ixM (a b:D):M D:=λ s=>match a,b with
 | .tup l,.int i=>match(ixn l.length i).bind λ j=>l[j]? with|some d=>.ok d s|none=>.bad
 | .str l,.int i=>match(ixn l.length i).bind λ j=>l[j]? with|some c=>.ok (.str [c]) s|none=>.bad
 | .ref r,b=>match s[r]? with
  | some (.lst l)=>match b with
   | .int i=>match(ixn l.length i).bind λ j=>l[j]? with|some d=>.ok d s|none=>.bad
   | _=>.bad
  | some (.ro l)=>match b with
   | .int i=>match(ixn l.length i).bind λ j=>l[j]? with|some d=>.ok d s|none=>.bad
   | _=>.bad
  | some (.dic l)=>if b.key then match look b l with|some d=>.ok d s|none=>.bad else .bad
  | some (.dit l)=>if b.keyT then match look b l with|some d=>.ok d s|none=>.bad else .bad
  | _=>.bad
 | _,_=>.bad
noncomputable def slM (a:D)(lo hi:Option Int):M D:=λ s=>match a with
 | .tup l=>.ok (.tup (am0 l lo hi)) s
 | .str l=>.ok (.str (am0 l lo hi)) s
 | .ref r=>match s[r]? with
  | some (.lst l)=>ai2 (.lst (am0 l lo hi)) s
  | _=>.bad
 | _=>.bad
noncomputable def bz7 (a:D):M D:=λ s=>match a with
 | .str l=>.ok (.str l.reverse) s
 | .ref r=>match s[r]? with
  | some (.lst l)=>ai2 (.lst l.reverse) s
  | _=>.bad
 | _=>.bad
noncomputable def aj0:List D->Option (List Bool)
 | []=>some []
 | .bl b::l=>(aj0 l).map (b::·)
 | _=>none
noncomputable def qq:List D->Option (List Int)
 | []=>some []
 | .int i::l=>(qq l).map (i::·)
 | _=>none
noncomputable def br0:List D->Option (List (List Nat))
 | []=>some []
 | .str i::l=>(br0 l).map (i::·)
 | _=>none
noncomputable def bE7 (d:D):M D:=λ s=>match d with
 | .tup l=>.ok (.int l.length) s
 | .str l=>.ok (.int l.length) s
 | .ref r=>match s[r]? with
  | some (.lst l)=>.ok (.int l.length) s
  | some (.ro l)=>.ok (.int l.length) s
  | _=>.bad
 | _=>.bad
noncomputable def isK (k:Nat)(d:D):M D:=λ s=>match d with
 | .non=>.ok (.bl false) s
 | .bl _=>.ok (.bl (k==1||k==2)) s
 | .int _=>.ok (.bl (k==1)) s
 | .str _=>.ok (.bl (k==3)) s
 | .tup _=>.ok (.bl (k==4)) s
 | .ref r=>match s[r]? with
  | some (.lst _)=>.ok (.bl (k==5)) s
  | _=>.bad
 | _=>.bad
noncomputable def bi1 (f:D->M D):List D->M D
 | [d]=>f d
 | _=>bad
noncomputable def bi:Bi->List D->M D
 | .len,l=>bi1 bE7 l
 | .abs,l=>λ s=>match qq l with|some [i]=>.ok (.int (if i<0 then -i else i)) s|_=>.bad
 | .int,l=>λ s=>match aj0 l with|some [b]=>.ok (.int (if b then 1 else 0)) s|_=>.bad
 | .min2,l=>λ s=>match qq l with|some [a,b]=>.ok (.int (if b<a then b else a)) s|_=>.bad
 | .max2,l=>λ s=>match qq l with|some [a,b]=>.ok (.int (if b > a then b else a)) s|_=>.bad
 | .max3,l=>λ s=>match qq l with|some [a,b,c]=>.ok (.int (max (max a b) c)) s|_=>.bad
 | .isInt,l=>bi1 (isK 1) l
 | .isBool,l=>bi1 (isK 2) l
 | .isStr,l=>bi1 (isK 3) l
 | .isTup,l=>bi1 (isK 4) l
 | .isList,l=>bi1 (isK 5) l
 | _,_=>bad
noncomputable def minI:List Int->Option Int
 | []=>none
 | a::l=>some (l.foldl min a)
noncomputable def cc2:List Int->Option Int
 | []=>none
 | a::l=>some (l.foldl max a)
noncomputable def ins (a:Int):List Int->List Int
 | []=>[a]
 | b::l=>if a<=b then a::b::l else b::ins a l
noncomputable def bF5:List Int->List Int
 | []=>[]
 | a::l=>ins a (bF5 l)
noncomputable def ce6 (is:List Int):Bool:=is.all (λ i=>decide (-1000000000<=i/\i<=1000000000))&&decide (is.length<=1000000)
noncomputable def mk:Mk->List D->M D
 | .tuple,l=>λ s=>.ok (.tup l) s
 | .list,l=>ai2 (.lst l)
 | .all,l=>λ s=>match aj0 l with|some bs=>.ok (.bl (bs.all id)) s|none=>.bad
 | .any,l=>λ s=>match aj0 l with|some bs=>.ok (.bl (bs.any id)) s|none=>.bad
 | .sum,l=>λ s=>match qq l with|some is=>if ce6 is then .ok (.int is.sum) s else .bad|none=>.bad
 | .min,l=>λ s=>match(qq l).bind minI with|some m=>.ok (.int m) s|none=>.bad
 | .max,l=>λ s=>match(qq l).bind cc2 with|some m=>.ok (.int m) s|none=>.bad
 | .sorted,l=>λ s=>match qq l with|some is=>ai2 (.lst ((bF5 is).map D.int)) s|none=>.bad
 | .lenset,l=>bad
noncomputable def mkD (k:Mk)(l:List D)(d:D):M D:=λ s=>match k with
 | .min=>match qq l with|some is=>(match minI is with|some m=>.ok (.int m) s|none=>.ok d s)|none=>.bad
 | .max=>match qq l with|some is=>(match cc2 is with|some m=>.ok (.int m) s|none=>.ok d s)|none=>.bad
 | _=>.bad
noncomputable def av9 (k v:D)(l:List (D×D)):List (D×D):=if(look k l).isSome then l.map (λ p=>if p.1=k then(p.1,v)else p)else l++[(k,v)]
noncomputable def setIx (o i v:D):Sto->R Unit:=λ s=>match o with
 | .ref r=>match s[r]? with
  | some (.lst l)=>match i with
   | .int i=>match ixn l.length i with|some j=>.ok () (s.set r (.lst (l.set j v)))|none=>.bad
   | _=>.bad
  | some (.dic l)=>if i.key&&decide (l.length<LIM)then .ok () (s.set r (.dic (av9 i v l)))else .bad
  | some (.dit l)=>if i.keyT&&decide (l.length<LIM)then .ok () (s.set r (.dit (av9 i v l)))else .bad
  | _=>.bad
 | _=>.bad
noncomputable def br7 (o k e:D):M D:=λ s=>match o with
 | .ref r=>match s[r]? with
  | some (.dit l)=>if k.keyT then .ok ((look k l).getD e) s else .bad
  | _=>.bad
 | _=>.bad
noncomputable def idx (s:Sto)(x:D):Nat->List D->Option Nat
 | _,[]=>none
 | n,y::l=>match eqv s DEEP y x with
  | some true=>some n
  | some false=>idx s x (n+1) l
  | none=>none
noncomputable def meth:Mt->D->List D->M D
 | .append,.ref r,[d]=>λ s=>match s[r]? with
  | some (.lst l)=>if l.length<LIM then .ok .non (s.set r (.lst (l++[d])))else .bad
  | _=>.bad
 | .pop,.ref r,[]=>λ s=>match s[r]? with
  | some (.lst l)=>match l.getLast? with|some d=>.ok d (s.set r (.lst l.dropLast))|none=>.bad
  | _=>.bad
 | .reverse,.ref r,[]=>λ s=>match s[r]? with
  | some (.lst l)=>.ok .non (s.set r (.lst l.reverse))
  | _=>.bad
 | .clear,.ref r,[]=>λ s=>match s[r]? with
  | some (.lst l)=>.ok .non (s.set r (.lst []))
  | _=>.bad
 | .index,.ref r,[d]=>λ s=>match s[r]? with
  | some (.lst l)=>match inL s d l,idx s d 0 l with|some true,some n=>.ok (.int n) s|_,_=>.bad
  | _=>.bad
 | _,_,_=>bad
noncomputable def bm6 (o:D)(l:List D):M D:=λ s=>match o with
 | .ref r=>match s[r]? with
  | some (.lst m)=>if m.length+l.length<=LIM then .ok .non (s.set r (.lst (m++l)))else .bad
  | _=>.bad
 | _=>.bad
noncomputable def by7 (x y:D):M D:=λ s=>match x with
 | .str []=>match y with
  | .ref r=>match s[r]? with
   | some (.lst l)=>match br0 l with
    | some ss=>if ss.flatten.length<=LIM then .ok (.str ss.flatten) s else .bad
    | none=>.bad
   | _=>.bad
  | _=>.bad
 | _=>.bad
noncomputable def extS (o d:D):M D:=λ s=>match d with
 | .ref k=>match s[k]? with
  | some (.lst l)=>bm6 o l s
  | _=>.bad
 | _=>.bad
structure Fns where
 call:String->List D->M D
 lam:String->List D->List D->M D
 con:String->Option D
noncomputable def aT2 (ρ:Env)(i:Nat):M D:=λ s=>match ρ[i]? with|some (some d)=>.ok d s|_=>.bad
noncomputable def bu4 (ρ:Env):List Nat->Option (List D)
 | []=>some []
 | i::is=>match ρ[i]?,bu4 ρ is with|some (some d),some l=>some (d::l)|_,_=>none
noncomputable def zS (ρ:Env)(caps:List (Option Nat)):Env:=caps.map λ o=>match o with|none=>none|some j=>(ρ[j]?).join
noncomputable def aI9 (ρ:Env)(i:Nat)(d:D):Option Env:=if i < ρ.length then some (ρ.set i (some d))else none
noncomputable def aq7 (ρ:Env)(i:Nat):Option Env:=if i < ρ.length then some (ρ.set i none)else none
noncomputable def ap5 (ρ:Env):List Nat->List D->Option Env
 | [],[]=>some ρ
 | i::is,d::l=>(aI9 ρ i d).bind λ ρ=>ap5 ρ is l
 | _,_=>none
noncomputable def ai5 (ρ:Env):Tg->D->Option Env
 | .one i,d=>aI9 ρ i d
 | .tup is,.tup l=>ap5 ρ is l
 | _,_=>none
structure Sq where
 its:List D
 src:List Nat
noncomputable def qV (d:D):M Sq:=λ s=>match d with
 | .tup l=>.ok ⟨l,[]⟩ s
 | .str l=>.ok ⟨l.map λ c=>.str [c],[]⟩ s
 | .ref r=>match s[r]? with
  | some (.lst l)=>.ok ⟨l,[r]⟩ s
  | some (.ro l)=>.ok ⟨l,[]⟩ s
  | _=>.bad
 | _=>.bad
noncomputable def al7 (d:D):M Sq:=λ s=>match d with
 | .tup l=>.ok ⟨l,[]⟩ s
 | .str l=>.ok ⟨l.map λ c=>.str [c],[]⟩ s
 | .ref r=>match s[r]? with
  | some (.lst l)=>.ok ⟨l,[r]⟩ s
  | some (.ro l)=>.ok ⟨l,[]⟩ s
  | _=>.bad
 | _=>.bad
noncomputable def bh0 (d:D):M Sq:=λ s=>match d with
 | .tup l=>.ok ⟨l,[]⟩ s
 | .ref r=>match s[r]? with
  | some (.lst l)=>.ok ⟨l,[r]⟩ s
  | some (.ro l)=>.ok ⟨l,[]⟩ s
  | _=>.bad
 | _=>.bad
noncomputable def bW1 (p:D×D):D:=match p.1 with
 | .tup l=>.tup (l++[p.2])
 | _=>.non
noncomputable def bn0 (d:D):Sto->R (List D):=λ s=>match d with
 | .ref r=>match s[r]? with
  | some (.dit l)=>if l.length<=LIM then .ok (l.map bW1) s else .bad
  | _=>.bad
 | _=>.bad
noncomputable def bC8 (d:D):Sto->R (List D):=λ s=>match d with
 | .tup l=>.ok l s
 | .str l=>.ok (l.map λ c=>.str [c]) s
 | .ref r=>match s[r]? with
  | some (.lst l)=>.ok l s
  | some (.ro l)=>.ok l s
  | _=>.bad
 | _=>.bad
noncomputable def aY8 (d:D):Sto->R (List D):=λ s=>match d with
 | .ref r=>match s[r]? with
  | some (.lst l)=>.ok l s
  | _=>.bad
 | _=>.bad
noncomputable def W62:Int:=4611686018427387904
noncomputable def qO (a b:Int):List D:=(bj (b - a).toNat).map λ(k:Nat)=>.int (a+k)
noncomputable def bitsN (i:Int):Nat:=if i=0 then 0 else i.natAbs.log2+1
noncomputable def bG9 (x:D):M D:=λ s=>match x with|.int i=>.ok (.int (bitsN i:Nat)) s|_=>.bad
noncomputable def bE9 (x:D):M D:=λ s=>match x with|.int i=>if 0<=i/\i<=1000000 then ai2 (.lst (qO 0 i)) s else .bad|_=>.bad
noncomputable def ce8 (a b c:Int):List D:=if 0<c then(bj ((b - a+c - 1) / c).toNat).map λ(k:Nat)=>.int (a+c*k)else(bj ((a - b+(-c) - 1) / (-c)).toNat).map λ(k:Nat)=>.int (a+c*k)
noncomputable def bB0 (n:Nat):List D->List D
 | []=>[]
 | d::l=>.tup [.int n,d]::bB0 (n+1) l
noncomputable def aE9:List D->List D->List D
 | a::l,b::m=>.tup [a,b]::aE9 l m
 | _,_=>[]
noncomputable def chk (s0 s:Sto)(src:List Nat):Bool:=src.all λ r=>decide (s[r]?=s0[r]?)
noncomputable def tru {α:Type}(r:R D)(f:Bool->Sto->R α):R α:=r.bind λ d s=>match d with|.bl b=>f b s|_=>.bad
@[simp] theorem ad0 {α:Type} (b:Bool) (s:Sto) (f:Bool->Sto->R α):tru (.ok (.bl b) s) f=f b s:=rfl
noncomputable def ak0 (ok:Sto->Bool)(g:D->Env->Sto->R (Option D×Env)):List D->Env->Sto->R (List D)
 | [],_,s=>if ok s then .ok [] s else .bad
 | d::l,ρ,s=>if ok s then(g d ρ s).bind λ p s=>(ak0 ok g l p.2 s).bind λ r s=>.ok (match p.1 with|some v=>v::r|none=>r) s else .bad
mutual
noncomputable def ev (F:Fns):E->Env->Sto->R D
 | .var i,ρ,s=>aT2 ρ i s
 | .cst c,_,s=>.ok c.d s
 | .glob x,_,s=>match F.con x with|some d=>.ok d s|none=>.bad
 | .bin op a b,ρ,s=>(ev F a ρ s).bind λ x s=>(ev F b ρ s).bind λ y s=>qB op x y s
 | .neg a,ρ,s=>(ev F a ρ s).bind λ x s=>match x with|.int i=>.ok (.int (-i)) s|_=>.bad
 | .not a,ρ,s=>tru (ev F a ρ s) λ b s=>.ok (.bl (!b)) s
 | .cmp op a b,ρ,s=>(ev F a ρ s).bind λ x s=>(ev F b ρ s).bind λ y s=>qx op x y s
 | .chain o p a b c,ρ,s=>(ev F a ρ s).bind λ x s=>(ev F b ρ s).bind λ y s=>tru (qx o x y s) λ k s=>if k then(ev F c ρ s).bind λ z s=>qx p y z s else .ok (.bl false) s
 | .isN a,ρ,s=>(ev F a ρ s).bind λ x s=>.ok (.bl (decide (x=.non))) s
 | .notN a,ρ,s=>(ev F a ρ s).bind λ x s=>.ok (.bl (!decide (x=.non))) s
 | .isB a b,ρ,s=>(ev F a ρ s).bind λ x s=>match x with|.bl c=>.ok (.bl (c==b)) s|_=>.bad
 | .notB a b,ρ,s=>(ev F a ρ s).bind λ x s=>match x with|.bl c=>.ok (.bl (!(c==b))) s|_=>.bad
 | .and a b,ρ,s=>tru (ev F a ρ s) λ c s=>if c then tru (ev F b ρ s) λ c s=>.ok (.bl c) s else .ok (.bl false) s
 | .or a b,ρ,s=>tru (ev F a ρ s) λ c s=>if c then .ok (.bl true) s else tru (ev F b ρ s) λ c s=>.ok (.bl c) s
 | .ite c a b,ρ,s=>tru (ev F c ρ s) λ k s=>if k then ev F a ρ s else ev F b ρ s
 | .tup es,ρ,s=>(evs F es ρ s).bind λ l s=>.ok (.tup l) s
 | .lst es,ρ,s=>(evs F es ρ s).bind λ l s=>ai2 (.lst l) s
 | .dic .nil .nil,ρ,s=>ai2 (.dic []) s
 | .dic (.cons k .nil) (.cons v .nil),ρ,s=>(ev F k ρ (s++[.dic []])).bind λ kd s1=>(ev F v ρ s1).bind λ vd s2=>if kd.key=true/\s2[s.length]?=some (.dic [])then .ok (.ref s.length) (s2.set s.length (.dic [(kd,vd)]))else .bad
 | .dic _ _,ρ,s=>.bad
 | .dicT,_,s=>ai2 (.dit []) s
 | .get2 o k d,ρ,s=>(ev F o ρ s).bind λ x s=>(ev F k ρ s).bind λ y s=>(ev F d ρ s).bind λ z s=>br7 x y z s
 | .bitl a,ρ,s=>(ev F a ρ s).bind λ x s=>bG9 x s
 | .lrng a,ρ,s=>(ev F a ρ s).bind λ x s=>bE9 x s
 | .ix a b,ρ,s=>(ev F a ρ s).bind λ x s=>(ev F b ρ s).bind λ y s=>ixM x y s
 | .slL a lo,ρ,s=>(ev F a ρ s).bind λ x s=>(ev F lo ρ s).bind λ y s=>match y with|.int i=>slM x (some i) none s|_=>.bad
 | .slU a hi,ρ,s=>(ev F a ρ s).bind λ x s=>(ev F hi ρ s).bind λ y s=>match y with|.int i=>slM x none (some i) s|_=>.bad
 | .slLU a lo hi,ρ,s=>(ev F a ρ s).bind λ x s=>(ev F lo ρ s).bind λ y s=>match y with|.int i=>(ev F hi ρ s).bind (λ z s=>match z with|.int j=>slM x (some i) (some j) s|_=>.bad)|_=>.bad
 | .rev a,ρ,s=>(ev F a ρ s).bind λ x s=>bz7 x s
 | .call f as,ρ,s=>(ay3 F as ρ s).bind λ l s=>F.call f l s
 | .callC f as,ρ,s=>(ay3 F as ρ s).bind λ l s=>(F.call f l s).bind λ d s'=>if(d.ncl&&s'.all O.ncl)=true then .ok d s' else .bad
 | .callV i es,ρ,s=>(evs F es ρ s).bind λ l s=>match ρ[i]? with
  | some (some (.fn f))=>F.call f l s
  | some (some (.clo id cs))=>F.lam id cs l s
  | _=>.bad
 | .bi b es,ρ,s=>(evs F es ρ s).bind λ l s=>bi b l s
 | .mk k it,ρ,s=>(evL F it ρ s).bind λ q s=>mk k q s
 | .mkD k it d,ρ,s=>(evL F it ρ s).bind λ q s=>(ev F d ρ s).bind λ d s=>mkD k q d s
 | .meth m o es,ρ,s=>(ev F o ρ s).bind λ x s=>(evs F es ρ s).bind λ l s=>meth m x l s
 | .ext o it,ρ,s=>(ev F o ρ s).bind λ x s=>(evL F it ρ s).bind λ q s=>bm6 x q s
 | .extS o e,ρ,s=>(ev F o ρ s).bind λ x s=>(ev F e ρ s).bind λ y s=>extS x y s
 | .join o e,ρ,s=>(ev F o ρ s).bind λ x s=>(ev F e ρ s).bind λ y s=>by7 x y s
 | .mks k e,ρ,s=>(ev F e ρ s).bind λ x s=>(aY8 x s).bind λ q s=>mk k q s
 | .mkDs k e d,ρ,s=>(ev F e ρ s).bind λ x s=>(ev F d ρ s).bind λ z s=>(aY8 x s).bind λ q s=>mkD k q z s
noncomputable def evs (F:Fns):Es->Env->Sto->R (List D)
 | .nil,_,s=>.ok [] s
 | .cons e es,ρ,s=>(ev F e ρ s).bind λ d s=>(evs F es ρ s).bind λ l s=>.ok (d::l) s
noncomputable def ay3 (F:Fns):As->Env->Sto->R (List D)
 | .nil,_,s=>.ok [] s
 | .ex e as,ρ,s=>(ev F e ρ s).bind λ d s=>(ay3 F as ρ s).bind λ l s=>.ok (d::l) s
 | .lam id caps as,ρ,s=>match bu4 ρ caps with
  | some cs=>(ay3 F as ρ s).bind λ l s=>.ok (.clo id cs::l) s
  | none=>.bad
 | .fn f as,ρ,s=>(ay3 F as ρ s).bind λ l s=>.ok (.fn f::l) s
noncomputable def evI (F:Fns):I->Env->Sto->R Sq
 | .seq e,ρ,s=>(ev F e ρ s).bind λ d s=>qV d s
 | .rng1 a,ρ,s=>(ev F a ρ s).bind λ x s=>match x with|.int i=>if -W62<=i/\i<W62 then .ok ⟨qO 0 i,[]⟩ s else .bad|_=>.bad
 | .rng2 a b,ρ,s=>(ev F a ρ s).bind λ x s=>(ev F b ρ s).bind λ y s=>match x,y with|.int i,.int j=>if(-W62<=i/\i<W62)/\-W62<=j/\j<W62 then .ok ⟨qO i j,[]⟩ s else .bad|_,_=>.bad
 | .rng3 a b c,ρ,s=>(ev F a ρ s).bind λ x s=>(ev F b ρ s).bind λ y s=>match x,y with|.int i,.int j=>if c=2/\(0<=i/\i<1048576)/\0<=j/\j<1048576 then .ok ⟨ce8 i j c,[]⟩ s else .bad|_,_=>.bad
 | .enum (.seq e),ρ,s=>(ev F e ρ s).bind λ d s=>(bh0 d s).bind λ q s=>.ok ⟨bB0 0 q.its,q.src⟩ s
 | .zip (.seq a) (.seq b),ρ,s=>(ev F a ρ s).bind λ x s=>(ev F b ρ s).bind λ y s=>(al7 x s).bind λ p s=>(al7 y s).bind λ q s=>.ok ⟨aE9 p.its q.its,p.src++q.src⟩ s
 | .enum _,_,_=>.bad
 | .zip _ _,_,_=>.bad
 | .items e,ρ,s=>.bad
noncomputable def evL (F:Fns):L->Env->Sto->R (List D)
 | .comp tg it e caps,ρ,s=>(evI F it ρ s).bind λ q s0=>if q.its.length<=LIM then ak0 (λ s=>chk s0 s q.src) (λ d ρ s=>match ai5 ρ tg d with
   | some ρ=>(ev F e ρ s).bind λ v s=>.ok (some v,ρ) s
   | none=>.bad) q.its (zS ρ caps) s0 else .bad
 | .compIf tg it c e caps,ρ,s=>(evI F it ρ s).bind λ q s0=>if q.its.length<=LIM then ak0 (λ s=>chk s0 s q.src) (λ d ρ s=>match ai5 ρ tg d with
   | some ρ=>tru (ev F c ρ s) λ k s=>if k then(ev F e ρ s).bind λ v s=>.ok (some v,ρ) s else .ok (none,ρ) s
   | none=>.bad) q.its (zS ρ caps) s0 else .bad
 | .disp es,ρ,s=>evs F es ρ s
 | .seq e,ρ,s=>(ev F e ρ s).bind λ d s=>bC8 d s
 | .itm e,ρ,s=>(ev F e ρ s).bind λ d s=>bn0 d s
end
inductive Ct where
 | next (ρ:Env)|ret (d:D)|cont (ρ:Env)|brk (ρ:Env)
noncomputable def aS7 (ok:Sto->Bool)(g:D->Env->Sto->R Ct):List D->Env->Sto->R Ct
 | [],ρ,s=>if ok s then .ok (.next ρ) s else .bad
 | d::l,ρ,s=>if ok s then(g d ρ s).bind λ c s=>match c with
   | .next ρ=>aS7 ok g l ρ s
   | .cont ρ=>aS7 ok g l ρ s
   | .brk ρ=>.ok (.next ρ) s
   | .ret d=>.ok (.ret d) s
  else .bad
noncomputable def qW (c:Env->Sto->R D)(g:Env->Sto->R Ct):Nat->Env->Sto->R Ct
 | 0,_,_=>.bad
 | n+1,ρ,s=>tru (c ρ s) λ b s=>if b then(g ρ s).bind λ c' s=>match c' with
   | .next ρ=>qW c g n ρ s
   | .cont ρ=>qW c g n ρ s
   | .brk ρ=>.ok (.next ρ) s
   | .ret d=>.ok (.ret d) s
  else .ok (.next ρ) s
open Classical in
noncomputable def whl (c:Env->Sto->R D)(g:Env->Sto->R Ct)(ρ:Env)(s:Sto):R Ct :=
 if h:∃ n,qW c g n ρ s≠.bad then qW c g h.choose ρ s else .bad
mutual
noncomputable def ex (F:Fns):S->Env->Sto->R Ct
 | .asg tg e,ρ,s=>(ev F e ρ s).bind λ d s=>match ai5 ρ tg d with|some ρ=>.ok (.next ρ) s|none=>.bad
 | .setIx o i e,ρ,s=>(ev F e ρ s).bind λ d s=>(ev F o ρ s).bind λ x s=>(ev F i ρ s).bind λ y s=>(setIx x y d s).bind λ _ s=>.ok (.next ρ) s
 | .aug i e,ρ,s=>(aT2 ρ i s).bind λ x s=>(ev F e ρ s).bind λ y s=>match x,y with
  | .int a,.int b=>match aI9 ρ i (.int (a+b))with|some ρ=>.ok (.next ρ) s|none=>.bad
  | _,_=>.bad
 | .ex e,ρ,s=>(ev F e ρ s).bind λ _ s=>.ok (.next ρ) s
 | .ret e,ρ,s=>(ev F e ρ s).bind λ d s=>.ok (.ret d) s
 | .retN,_,s=>.ok (.ret .non) s
 | .ite c a b,ρ,s=>tru (ev F c ρ s) λ k s=>if k then exs F a ρ s else exs F b ρ s
 | .whl c b,ρ,s=>whl (ev F c) (exs F b) ρ s
 | .for_ tg it b,ρ,s=>(evI F it ρ s).bind λ q s0=>aS7 (λ s=>chk s0 s q.src) (λ d ρ s=>match ai5 ρ tg d with
   | some ρ=>exs F b ρ s
   | none=>.bad) q.its ρ s0
 | .pass,ρ,s=>.ok (.next ρ) s
 | .cont,ρ,s=>.ok (.cont ρ) s
 | .brk,ρ,s=>.ok (.brk ρ) s
 | .raise,_,_=>.bad
 | .und i,ρ,s=>match aq7 ρ i with|some ρ=>.ok (.next ρ) s|none=>.bad
noncomputable def exs (F:Fns):Ss->Env->Sto->R Ct
 | .nil,ρ,s=>.ok (.next ρ) s
 | .cons st ss,ρ,s=>(ex F st ρ s).bind λ c s=>match c with|.next ρ=>exs F ss ρ s|c=>.ok c s
end
structure Df where
 name:String
 ps:Nat
 vs:Nat
 body:Ss
structure Lm where
 id:String
 ps:Nat
 cs:Nat
 body:E
structure Pr where
 df:String->Option Df
 lm:String->Option Lm
 con:String->Option D
noncomputable def ay4 (st st':Sto):Bool:=(bj st.length).all λ i=>decide (st'[i]?=st[i]?)||(match st'[i]? with|some o=>o.bnd st.length|none=>false)
noncomputable def zH (st:Sto)(d:D)(st':Sto):R D :=
 if ay4 st st' then
  match d with
  | .ref r=>if r<st.length then .ok d (st'.take st.length)else match st'[r]? with
   | some o=>if o.bnd st.length then .ok (.ref st.length) (st'.take st.length++[o])else .ok d st'
   | none=>.bad
  | d=>if d.bnd st.length then .ok d (st'.take st.length)else .ok d st'
 else .ok d st'
noncomputable def aa1 (P:Pr):Nat->Fns
 | 0=>⟨λ _ _ _=>.bad,λ _ _ _ _=>.bad,P.con⟩
 | n+1=>⟨λ f l s=>match P.df f with
   | some d=>if l.length=d.ps then(exs (aa1 P n) d.body (l.map some++aG d.vs none) s).bind λ c s'=>match c with
     | .ret v=>zH s v s'
     | .next _=>zH s .non s'
     | _=>.bad else .bad
   | none=>.bad,
  λ id cs l s=>match P.lm id with
   | some d=>if l.length=d.ps/\cs.length=d.cs/\(D.nclL l&&D.nclL cs&&s.all O.ncl)=true then(ev (aa1 P n) d.body (l.map some++cs.map some) s).bind λ v s'=>zH s v s' else .bad
   | none=>.bad,P.con⟩
def KP (s s':Sto):Prop:=∀(i:Nat) (o:O),s[i]?=some o->∃ o',s'[i]?=some o'/\o'.kd=o.kd
theorem KP.refl (s:Sto):KP s s:=λ i o h=>⟨o,h,rfl⟩
theorem KP.trans {a b c:Sto}(h:KP a b)(g:KP b c):KP a c:=λ i o e=>by
 obtain⟨z,e1,k1⟩:=h i o e
 obtain⟨y,e2,k2⟩:=g i z e1
 exact⟨y,e2,k2.trans k1⟩
theorem KP.app (s t:Sto):KP s (s++t):=λ i o e=>⟨o,by rw[aL (ac.mp e).1];exact e,rfl⟩
theorem KP.set {s:Sto}{r:Nat}{o y:O}(h:s[r]?=some y)(k:o.kd=y.kd):KP s (s.set r o):=λ i u e=>by
 by_cases z:r=i
 ·subst z
  rw[h]at e;cases e
  exact⟨o,bn (ac.mp h).1,k⟩
 ·exact⟨u,by rw[aY z];exact e,rfl⟩
def KR {α:Type}(s:Sto)(r:R α):Prop:=∀ a s',r=.ok a s'->KP s s'
theorem KR.bad {α:Type}{s:Sto}:KR s (.bad:R α):=λ _ _ h=>by cases h
theorem KR.ok {α:Type}{s:Sto}{a:α}:KR s (.ok a s):=λ _ _ h=>by cases h;exact KP.refl _
theorem KR.bind {α β:Type}{s:Sto}{r:R α}{f:α->Sto->R β}(h:KR s r)(g:∀ a s1,KR s1 (f a s1)):KR s (r.bind f):=λ b s' e=>by
 obtain⟨a,s1,e1,e2⟩:=R.bind_inv e
 exact(h a s1 e1).trans (g a s1 b s' e2)
theorem KR.tru {α:Type}{s:Sto}{r:R D}{f:Bool->Sto->R α}(h:KR s r)(g:∀ a s1,KR s1 (f a s1)):KR s (tru r f):=KR.bind h λ a s1=>by
 cases a with
 | bl b=>exact g b s1
 | _=>exact KR.bad
theorem KR.if {α:Type}{s:Sto}{c:Prop}[Decidable c]{a b:R α}(h:KR s a)(g:KR s b):KR s (if c then a else b):=by split;exact h;exact g
theorem KR.al {s:Sto}{o:O}:KR s (ai2 o s):=λ _ _ h=>by cases h;exact KP.app _ _
theorem KR.pu {s:Sto}{d:D}:KR s (pur d s):=λ _ _ h=>by cases h;exact KP.refl _
theorem KR.bd {s:Sto}:KR s ((DV.bad:M D) s):=λ _ _ h=>by cases h
theorem KR.im {s:Sto}{c:Prop}{_:Decidable c}{d:D}:KR s ((if c then pur d else DV.bad:M D) s):=by split;exact KR.pu;exact KR.bd
theorem KR.ia {s:Sto}{c:Prop}{_:Decidable c}{o:O}:KR s (if c then ai2 o s else .bad):=KR.if KR.al KR.bd
theorem bg5 (op:BOp)(x y:D)(s:Sto):KR s (qB op x y s):=by
 cases op with
 | add=>cases x with
  | int a=>cases y with
   | int b=>exact KR.pu
   | _=>exact KR.bd
  | str a=>cases y with
   | str b=>exact KR.im
   | _=>exact KR.bd
  | tup a=>cases y with
   | tup b=>exact KR.im
   | _=>exact KR.bd
  | ref a=>cases y with
   | ref b =>
    show KR s (match s[a]?,s[b]? with|some (.lst l),some (.lst m)=>if l.length+m.length<=LIM then ai2 (.lst (l++m)) s else .bad|_,_=>.bad)
    split
    ·exact KR.ia
    ·exact KR.bd
   | _=>exact KR.bd
  | _=>exact KR.bd
 | sub=>cases x with
  | int a=>cases y with
   | int b=>exact KR.pu
   | _=>exact KR.bd
  | _=>exact KR.bd
 | mul=>cases x with
  | int a=>cases y with
   | int b=>exact KR.im
   | _=>exact KR.bd
  | str a=>cases y with
   | int b=>exact KR.im
   | _=>exact KR.bd
  | tup a=>cases y with
   | int b=>exact KR.im
   | _=>exact KR.bd
  | ref a=>cases y with
   | int n =>
    show KR s (match s[a]? with|some (.lst l)=>if 0<=n/\n<=1000000/\l.length*n.toNat<=LIM then ai2 (.lst (aT3 n.toNat l)) s else .bad|_=>.bad)
    split
    ·exact KR.ia
    ·exact KR.bd
   | _=>exact KR.bd
  | _=>exact KR.bd
 | fdiv=>cases x with
  | int a=>cases y with
   | int b=>exact KR.im
   | _=>exact KR.bd
  | _=>exact KR.bd
 | mod=>cases x with
  | int a=>cases y with
   | int b=>exact KR.im
   | _=>exact KR.bd
  | _=>exact KR.bd
 | pow=>cases x with
  | int a=>cases y with
   | int b=>exact KR.im
   | _=>exact KR.bd
  | _=>exact KR.bd
 | shl=>cases x with
  | int a=>cases y with
   | int b=>exact KR.im
   | _=>exact KR.bd
  | _=>exact KR.bd
 | shr=>cases x with
  | int a=>cases y with
   | int b=>exact KR.im
   | _=>exact KR.bd
  | _=>exact KR.bd
 | band=>cases x with
  | int a=>cases y with
   | int b=>exact KR.im
   | _=>exact KR.bd
  | _=>exact KR.bd
 | _=>exact KR.bd
theorem aU5 (op:COp)(x y:D)(s:Sto):KR s (qx op x y s):=by
 have z:∀ a b:D,KR s (inM a b s):=λ a b=>by
  intro r s' h
  unfold inM at h
  split at h
  ·split at h<;>cases h;exact KP.refl _
  ·split at h
   ·split at h<;>cases h;exact KP.refl _
   ·split at h<;>cases h;exact KP.refl _
   ·split at h<;>cases h;exact KP.refl _
   ·cases h
  ·split at h<;>cases h;exact KP.refl _
  ·cases h
 cases op with
 | isin=>exact KR.bind (z x y) λ _ _=>KR.ok
 | notin=>exact KR.bind (z x y) λ _ _=>KR.ok
 | eq=>intro a s' h;change eqM x y s=_ at h;unfold eqM at h;split at h<;>cases h;exact KP.refl _
 | ne =>
  intro a s' h
  change(match eqv s DEEP x y with|some r=>R.ok (D.bl (!r)) s|none=>.bad)=_ at h
  split at h<;>cases h;exact KP.refl _
 | _ =>
  intro a s' h
  cases x with
  | int i=>(cases y with
   | int j=>cases h;exact KP.refl _
   | _=>cases h)
  | _=>cases h
theorem bY4 (x y:D)(s:Sto):KR s (ixM x y s):=by
 intro a s' h
 unfold ixM at h
 repeat' split at h
 all_goals first|(cases h;exact KP.refl _;done)|(cases h;done)
theorem by0 (x:D)(lo hi:Option Int)(s:Sto):KR s (slM x lo hi s):=by
 intro a s' h
 unfold slM at h
 repeat' split at h
 all_goals first|(cases h;exact KP.refl _;done)|(cases h;exact KP.app _ _;done)|(cases h;done)
theorem bx3 (x:D)(s:Sto):KR s (bC8 x s):=by
 intro a s' h
 unfold bC8 at h
 repeat' split at h
 all_goals first|(cases h;exact KP.refl _;done)|(cases h;done)
theorem aZ7 (x:D)(s:Sto):KR s (aY8 x s):=by
 intro a s' h
 unfold aY8 at h
 repeat' split at h
 all_goals first|(cases h;exact KP.refl _;done)|(cases h;done)
theorem bC6 (x:D)(s:Sto):KR s (qV x s):=by
 intro a s' h
 unfold qV at h
 repeat' split at h
 all_goals first|(cases h;exact KP.refl _;done)|(cases h;done)
theorem aL0 (x:D)(s:Sto):KR s (al7 x s):=by
 intro a s' h
 unfold al7 at h
 repeat' split at h
 all_goals first|(cases h;exact KP.refl _;done)|(cases h;done)
theorem bi7 (x:D)(s:Sto):KR s (bh0 x s):=by
 intro a s' h
 unfold bh0 at h
 repeat' split at h
 all_goals first|(cases h;exact KP.refl _;done)|(cases h;done)
theorem bD6 (x y:D)(s:Sto):KR s (by7 x y s):=by
 intro a s' h
 unfold by7 at h
 repeat' split at h
 all_goals first|(cases h;exact KP.refl _;done)|(cases h;done)
theorem ca2 (b:Bi)(l:List D)(s:Sto):KR s (bi b l s):=by
 have k1:∀ f:D->M D,(∀ d,KR s (f d s))->KR s (bi1 f l s):=λ f z=>by
  cases l with
  | nil=>exact KR.bad
  | cons d t=>(cases t with
   | nil=>exact z d
   | cons _ _=>exact KR.bad)
 have k2:∀ k d,KR s (isK k d s):=λ k d=>by
  intro a s' h
  unfold isK at h
  repeat' split at h
  all_goals first|(cases h;exact KP.refl _;done)|(cases h;done)
 have y:∀ d,KR s (bE7 d s):=λ d=>by
  intro a s' h
  unfold bE7 at h
  repeat' split at h
  all_goals first|(cases h;exact KP.refl _;done)|(cases h;done)
 cases b with
 | len=>exact k1 _ y
 | isInt=>exact k1 _ (k2 1)
 | isBool=>exact k1 _ (k2 2)
 | isStr=>exact k1 _ (k2 3)
 | isTup=>exact k1 _ (k2 4)
 | isList=>exact k1 _ (k2 5)
 | _ =>
  intro a s' h
  unfold bi at h
  first|(cases h;done)|(simp only at h;split at h<;>first|(cases h;exact KP.refl _;done)|(cases h;done))
theorem bP7 (k:Mk)(l:List D)(s:Sto):KR s (mk k l s):=by
 cases k with
 | tuple=>exact KR.ok
 | list=>exact KR.al
 | lenset=>exact KR.bad
 | _ =>
  intro a s' h
  unfold mk at h
  simp only at h
  repeat' split at h
  all_goals first|(cases h;exact KP.refl _;done)|(cases h;exact KP.app _ _;done)|(cases h;done)
theorem bq2 (k:Mk)(l:List D)(d:D)(s:Sto):KR s (mkD k l d s):=by
 intro a s' h
 unfold mkD at h
 repeat' split at h
 all_goals first|(cases h;exact KP.refl _;done)|(cases h;done)
theorem bs7 (m:Mt)(o:D)(l:List D)(s:Sto):KR s (meth m o l s):=by
 intro a s' h
 unfold meth at h
 repeat' split at h
 all_goals first|(cases h;done)|(cases h;exact KP.refl _;done)|(rename_i e _;cases h;exact KP.set e rfl;done)|(rename_i e _ _ _;cases h;exact KP.set e rfl;done)|(rename_i e;cases h;exact KP.set e rfl;done)|(rename_i e _ _;cases h;exact KP.set e rfl;done)
theorem bb9 (o:D)(l:List D)(s:Sto):KR s (bm6 o l s):=by
 intro a s' h
 unfold bm6 at h
 repeat' split at h
 all_goals first|(cases h;done)|(rename_i e _;cases h;exact KP.set e rfl;done)
theorem bg8 (o i v:D)(s:Sto):KR s (setIx o i v s):=by
 intro a s' h
 unfold setIx at h
 cases o with
 | ref r =>
  simp only at h
  cases e:s[r]? with
  | none=>rw[e]at h;cases h
  | some ob =>
   rw[e]at h
   cases ob with
   | lst l =>
    cases i with
    | int k=>simp only at h;split at h<;>cases h;exact KP.set e rfl
    | _=>cases h
   | dic l=>simp only at h;split at h<;>cases h;exact KP.set e rfl
   | dit l=>simp only at h;split at h<;>cases h;exact KP.set e rfl
   | _=>cases h
 | _=>cases h
theorem bB8 (o k e:D)(s:Sto):KR s (br7 o k e s):=by
 intro a s' h
 unfold br7 at h
 repeat' split at h
 all_goals first|(cases h;exact KP.refl _;done)|(cases h;done)
theorem bs9 (d:D)(s:Sto):KR s (bn0 d s):=by
 intro a s' h
 unfold bn0 at h
 repeat' split at h
 all_goals first|(cases h;exact KP.refl _;done)|(cases h;done)
structure FK (F:Fns):Prop where
 call:∀ f l s,KR s (F.call f l s)
 lam:∀ id cs l s,KR s (F.lam id cs l s)
theorem az3 {ok:Sto->Bool}{g:D->Env->Sto->R (Option D×Env)}(hg:∀ d ρ s,KR s (g d ρ s)):∀(l:List D) (ρ:Env) (s:Sto),KR s (ak0 ok g l ρ s)
 | [],ρ,s=>KR.if KR.ok KR.bad
 | d::l,ρ,s=>KR.if (KR.bind (hg d ρ s) λ p s1=>KR.bind (az3 hg l p.2 s1) λ r s2=>KR.ok) KR.bad
section
variable {F:Fns} (hF:FK F)
theorem aW6 (ρ:Env)(i:Nat)(s:Sto):KR s (aT2 ρ i s):=by
 intro a s' h
 unfold aT2 at h
 split at h<;>cases h;exact KP.refl _
include hF
mutual
theorem zc:∀(e:E) (ρ:Env) (s:Sto),KR s (ev F e ρ s)
 | .var i,ρ,s=>aW6 ρ i s
 | .cst c,ρ,s=>KR.ok
 | .glob x,ρ,s=>by
  intro a s' h
  change(match F.con x with|some d=>R.ok d s|none=>.bad)=_ at h
  split at h<;>cases h;exact KP.refl _
 | .bin op a b,ρ,s=>KR.bind (zc a ρ s) λ x s=>KR.bind (zc b ρ s) λ y s=>bg5 op x y s
 | .neg a,ρ,s=>KR.bind (zc a ρ s) λ x s=>by
  cases x with
  | int i=>exact KR.ok
  | _=>exact KR.bad
 | .not a,ρ,s=>KR.tru (zc a ρ s) λ b s=>KR.ok
 | .cmp op a b,ρ,s=>KR.bind (zc a ρ s) λ x s=>KR.bind (zc b ρ s) λ y s=>aU5 op x y s
 | .chain o p a b c,ρ,s=>KR.bind (zc a ρ s) λ x s=>KR.bind (zc b ρ s) λ y s=>KR.tru (aU5 o x y s) λ k s=>KR.if (KR.bind (zc c ρ s) λ z s=>aU5 p y z s) KR.ok
 | .isN a,ρ,s=>KR.bind (zc a ρ s) λ x s=>KR.ok
 | .notN a,ρ,s=>KR.bind (zc a ρ s) λ x s=>KR.ok
 | .isB a b,ρ,s=>KR.bind (zc a ρ s) λ x s=>by
  cases x with
  | bl i=>exact KR.ok
  | _=>exact KR.bad
 | .notB a b,ρ,s=>KR.bind (zc a ρ s) λ x s=>by
  cases x with
  | bl i=>exact KR.ok
  | _=>exact KR.bad
 | .and a b,ρ,s=>KR.tru (zc a ρ s) λ c s=>KR.if (KR.tru (zc b ρ s) λ c s=>KR.ok) KR.ok
 | .or a b,ρ,s=>KR.tru (zc a ρ s) λ c s=>KR.if KR.ok (KR.tru (zc b ρ s) λ c s=>KR.ok)
 | .ite c a b,ρ,s=>KR.tru (zc c ρ s) λ k s=>KR.if (zc a ρ s) (zc b ρ s)
 | .tup es,ρ,s=>KR.bind (al5 es ρ s) λ l s=>KR.ok
 | .lst es,ρ,s=>KR.bind (al5 es ρ s) λ l s=>KR.al
 | .dic .nil .nil,ρ,s=>KR.al
 | .dic (.cons k .nil) (.cons v .nil),ρ,s=>by
  intro a s' h
  obtain⟨kd,s1,e1,h⟩:=R.bind_inv (show(ev F k ρ (s++[.dic []])).bind _=_ from h)
  obtain⟨C,s2,e2,h⟩:=R.bind_inv h
  split at h
  case isFalse=>cases h
  rename_i hc
  cases h
  exact((KP.app _ _).trans ((zc k ρ _ _ _ e1).trans (zc v ρ _ _ _ e2))).trans (KP.set hc.2 rfl)
 | .dic .nil (.cons _ _),ρ,s=>KR.bad
 | .dic (.cons _ .nil) .nil,ρ,s=>KR.bad
 | .dic (.cons _ .nil) (.cons _ (.cons _ _)),ρ,s=>KR.bad
 | .dic (.cons _ (.cons _ _)) _,ρ,s=>KR.bad
 | .dicT,ρ,s=>KR.al
 | .bitl a,ρ,s=>KR.bind (zc a ρ s) λ x s=>by
  intro a s' h
  unfold bG9 at h
  repeat' split at h
  all_goals first|(cases h;exact KP.refl _;done)|(cases h;done)
 | .lrng a,ρ,s=>KR.bind (zc a ρ s) λ x s=>by
  intro a s' h
  unfold bE9 at h
  repeat' split at h
  all_goals first|(cases h;exact KP.app _ _;done)|(cases h;done)
 | .get2 o k d,ρ,s=>KR.bind (zc o ρ s) λ x s=>KR.bind (zc k ρ s) λ y s=>KR.bind (zc d ρ s) λ z s=>bB8 x y z s
 | .ix a b,ρ,s=>KR.bind (zc a ρ s) λ x s=>KR.bind (zc b ρ s) λ y s=>bY4 x y s
 | .slL a lo,ρ,s=>KR.bind (zc a ρ s) λ x s=>KR.bind (zc lo ρ s) λ y s=>by
  cases y with
  | int i=>exact by0 _ _ _ _
  | _=>exact KR.bad
 | .slU a hi,ρ,s=>KR.bind (zc a ρ s) λ x s=>KR.bind (zc hi ρ s) λ y s=>by
  cases y with
  | int i=>exact by0 _ _ _ _
  | _=>exact KR.bad
 | .slLU a lo hi,ρ,s=>KR.bind (zc a ρ s) λ x s=>KR.bind (zc lo ρ s) λ y s=>by
  cases y with
  | int i =>
   refine KR.bind (zc hi ρ s) λ z s=>?_
   cases z with
   | int j=>exact by0 _ _ _ _
   | _=>exact KR.bad
  | _=>exact KR.bad
 | .rev a,ρ,s=>KR.bind (zc a ρ s) λ x s=>by
  cases x with
  | str l=>exact KR.ok
  | ref r =>
   intro a s' h
   unfold bz7 at h
   repeat' split at h
   all_goals first|(cases h;exact KP.refl _;done)|(cases h;exact KP.app _ _;done)|(cases h;done)
  | _=>exact KR.bad
 | .call f as,ρ,s=>KR.bind (ar0 as ρ s) λ l s=>hF.call f l s
 | .callC f as,ρ,s=>KR.bind (ar0 as ρ s) λ l s=>KR.bind (hF.call f l s) λ d s'=>KR.if KR.ok KR.bad
 | .callV i es,ρ,s=>KR.bind (al5 es ρ s) λ l s=>by
  intro a s' h
  split at h
  ·exact hF.call _ _ _ _ _ h
  ·exact hF.lam _ _ _ _ _ _ h
  ·cases h
 | .bi b es,ρ,s=>KR.bind (al5 es ρ s) λ l s=>ca2 b l s
 | .mk k it,ρ,s=>KR.bind (aK8 it ρ s) λ q s=>bP7 k q s
 | .mkD k it d,ρ,s=>KR.bind (aK8 it ρ s) λ q s=>KR.bind (zc d ρ s) λ d s=>bq2 k q d s
 | .meth m o es,ρ,s=>KR.bind (zc o ρ s) λ x s=>KR.bind (al5 es ρ s) λ l s=>bs7 m x l s
 | .ext o it,ρ,s=>KR.bind (zc o ρ s) λ x s=>KR.bind (aK8 it ρ s) λ q s=>bb9 x q s
 | .extS o e,ρ,s=>KR.bind (zc o ρ s) λ x s=>KR.bind (zc e ρ s) λ y s=>by
  intro a s' h
  unfold extS at h
  repeat' split at h
  all_goals first|(cases h;done)|exact bb9 _ _ _ _ _ h
 | .join o e,ρ,s=>KR.bind (zc o ρ s) λ x s=>KR.bind (zc e ρ s) λ y s=>bD6 x y s
 | .mks k e,ρ,s=>KR.bind (zc e ρ s) λ x s=>KR.bind (aZ7 x s) λ q s=>bP7 k q s
 | .mkDs k e d,ρ,s=>KR.bind (zc e ρ s) λ x s=>KR.bind (zc d ρ s) λ z s=>KR.bind (aZ7 x s) λ q s=>bq2 k q z s
theorem al5:∀(es:Es) (ρ:Env) (s:Sto),KR s (evs F es ρ s)
 | .nil,ρ,s=>KR.ok
 | .cons e es,ρ,s=>KR.bind (zc e ρ s) λ d s=>KR.bind (al5 es ρ s) λ l s=>KR.ok
theorem ar0:∀(y:As) (ρ:Env) (s:Sto),KR s (ay3 F y ρ s)
 | .nil,ρ,s=>KR.ok
 | .ex e y,ρ,s=>KR.bind (zc e ρ s) λ d s=>KR.bind (ar0 y ρ s) λ l s=>KR.ok
 | .lam id caps y,ρ,s=>by
  intro a s' h
  change(match bu4 ρ caps with|some cs=>(ay3 F y ρ s).bind λ l s=>R.ok (D.clo id cs::l) s|none=>.bad)=_ at h
  split at h
  ·exact KR.bind (ar0 y ρ s) (λ l s=>KR.ok) _ _ h
  ·cases h
 | .fn f y,ρ,s=>KR.bind (ar0 y ρ s) λ l s=>KR.ok
theorem bb8:∀(it:I) (ρ:Env) (s:Sto),KR s (evI F it ρ s)
 | .seq e,ρ,s=>KR.bind (zc e ρ s) λ d s=>bC6 d s
 | .rng1 a,ρ,s=>KR.bind (zc a ρ s) λ x s=>by
  cases x with
  | int i=>exact KR.if KR.ok KR.bad
  | _=>exact KR.bad
 | .rng2 a b,ρ,s=>KR.bind (zc a ρ s) λ x s=>KR.bind (zc b ρ s) λ y s=>by
  cases x with
  | int i=>(cases y with
   | int j=>exact KR.if KR.ok KR.bad
   | _=>exact KR.bad)
  | _=>exact KR.bad
 | .rng3 a b c,ρ,s=>KR.bind (zc a ρ s) λ x s=>KR.bind (zc b ρ s) λ y s=>by
  cases x with
  | int i=>(cases y with
   | int j=>exact KR.if KR.ok KR.bad
   | _=>exact KR.bad)
  | _=>exact KR.bad
 | .enum (.seq e),ρ,s=>KR.bind (zc e ρ s) λ d s=>KR.bind (bi7 d s) λ q s=>KR.ok
 | .zip (.seq a) (.seq b),ρ,s=>KR.bind (zc a ρ s) λ x s=>KR.bind (zc b ρ s) λ y s=>KR.bind (aL0 x s) λ p s=>KR.bind (aL0 y s) λ q s=>KR.ok
 | .enum (.rng1 _),ρ,s=>KR.bad
 | .enum (.rng2 _ _),ρ,s=>KR.bad
 | .enum (.rng3 _ _ _),ρ,s=>KR.bad
 | .enum (.enum _),ρ,s=>KR.bad
 | .enum (.zip _ _),ρ,s=>KR.bad
 | .enum (.items _),ρ,s=>KR.bad
 | .zip (.rng1 _) _,ρ,s=>KR.bad
 | .zip (.rng2 _ _) _,ρ,s=>KR.bad
 | .zip (.rng3 _ _ _) _,ρ,s=>KR.bad
 | .zip (.enum _) _,ρ,s=>KR.bad
 | .zip (.zip _ _) _,ρ,s=>KR.bad
 | .zip (.items _) _,ρ,s=>KR.bad
 | .zip (.seq _) (.rng1 _),ρ,s=>KR.bad
 | .zip (.seq _) (.rng2 _ _),ρ,s=>KR.bad
 | .zip (.seq _) (.rng3 _ _ _),ρ,s=>KR.bad
 | .zip (.seq _) (.enum _),ρ,s=>KR.bad
 | .zip (.seq _) (.zip _ _),ρ,s=>KR.bad
 | .zip (.seq _) (.items _),ρ,s=>KR.bad
 | .items e,ρ,s=>KR.bad
theorem aK8:∀(it:L) (ρ:Env) (s:Sto),KR s (evL F it ρ s)
 | .comp tg it e caps,ρ,s=>KR.bind (bb8 it ρ s) λ q s0=>KR.if (az3 (λ d ρ s=>by
   intro a s' h
   split at h
   ·exact KR.bind (zc e _ s) (λ v s=>KR.ok) _ _ h
   ·cases h) _ _ _) KR.bad
 | .compIf tg it c e caps,ρ,s=>KR.bind (bb8 it ρ s) λ q s0=>KR.if (az3 (λ d ρ s=>by
   intro a s' h
   split at h
   ·exact KR.tru (zc c _ s) (λ k s=>KR.if (KR.bind (zc e _ s) λ v s=>KR.ok) KR.ok) _ _ h
   ·cases h) _ _ _) KR.bad
 | .disp es,ρ,s=>al5 es ρ s
 | .seq e,ρ,s=>KR.bind (zc e ρ s) λ d s=>bx3 d s
 | .itm e,ρ,s=>KR.bind (zc e ρ s) λ d s=>bs9 d s
end
theorem aJ0 {ok:Sto->Bool}{g:D->Env->Sto->R Ct}(hg:∀ d ρ s,KR s (g d ρ s)):∀(l:List D) (ρ:Env) (s:Sto),KR s (aS7 ok g l ρ s)
 | [],ρ,s=>KR.if KR.ok KR.bad
 | d::l,ρ,s=>KR.if (KR.bind (hg d ρ s) λ c s=>by
   cases c with
   | next ρ=>exact aJ0 hg l ρ s
   | cont ρ=>exact aJ0 hg l ρ s
   | brk ρ=>exact KR.ok
   | ret d=>exact KR.ok) KR.bad
theorem aK0 {c:Env->Sto->R D}{g:Env->Sto->R Ct}(hc:∀ ρ s,KR s (c ρ s))(hg:∀ ρ s,KR s (g ρ s)):∀(n:Nat) (ρ:Env) (s:Sto),KR s (qW c g n ρ s)
 | 0,ρ,s=>KR.bad
 | n+1,ρ,s=>KR.tru (hc ρ s) λ b s=>KR.if (KR.bind (hg ρ s) λ h s=>by
   cases h with
   | next ρ=>exact aK0 hc hg n ρ s
   | cont ρ=>exact aK0 hc hg n ρ s
   | brk ρ=>exact KR.ok
   | ret d=>exact KR.ok) KR.ok
mutual
theorem bZ6:∀(st:S) (ρ:Env) (s:Sto),KR s (ex F st ρ s)
 | .asg tg e,ρ,s=>KR.bind (zc hF e ρ s) λ d s=>by
  intro a s' h
  split at h<;>cases h;exact KP.refl _
 | .setIx o i e,ρ,s=>KR.bind (zc hF e ρ s) λ d s=>KR.bind (zc hF o ρ s) λ x s=>KR.bind (zc hF i ρ s) λ y s=>KR.bind (bg8 x y d s) λ _ s=>KR.ok
 | .aug i e,ρ,s=>KR.bind (aW6 ρ i s) λ x s=>KR.bind (zc hF e ρ s) λ y s=>by
  intro a s' h
  repeat' split at h
  all_goals first|(cases h;exact KP.refl _;done)|(cases h;done)
 | .ex e,ρ,s=>KR.bind (zc hF e ρ s) λ d s=>KR.ok
 | .ret e,ρ,s=>KR.bind (zc hF e ρ s) λ d s=>KR.ok
 | .retN,ρ,s=>KR.ok
 | .ite c a b,ρ,s=>KR.tru (zc hF c ρ s) λ k s=>KR.if (au8 a ρ s) (au8 b ρ s)
 | .whl c b,ρ,s=>by
  intro r s' h
  change whl (ev F c) (exs F b) ρ s=_ at h
  unfold whl at h
  split at h
  ·exact aK0 hF (λ ρ s=>zc hF c ρ s) (λ ρ s=>au8 b ρ s) _ ρ s _ _ h
  ·cases h
 | .for_ tg it b,ρ,s=>KR.bind (bb8 hF it ρ s) λ q s0=>aJ0 hF (λ d ρ s=>by
   intro a s' h
   split at h
   ·exact au8 b _ _ _ _ h
   ·cases h) _ _ _
 | .pass,ρ,s=>KR.ok
 | .cont,ρ,s=>KR.ok
 | .brk,ρ,s=>KR.ok
 | .raise,ρ,s=>KR.bad
 | .und i,ρ,s=>by
  intro a s' h
  change(match aq7 ρ i with|some ρ=>R.ok (Ct.next ρ) s|none=>.bad)=_ at h
  split at h<;>cases h;exact KP.refl _
theorem au8:∀(h:Ss) (ρ:Env) (s:Sto),KR s (exs F h ρ s)
 | .nil,ρ,s=>KR.ok
 | .cons st h,ρ,s=>KR.bind (bZ6 st ρ s) λ c s=>by
  cases c with
  | next ρ=>exact au8 h ρ s
  | _=>exact KR.ok
end
end
theorem ay2 {s st:Sto}{d:D}(h:KP s st):KR s (zH s d st):=by
 have tk:∀ t,KP s (st.take s.length++t):=λ t i o e=>by
  obtain⟨z,e',k⟩:=h i o e
  have hi:=(ac.mp e).1
  have C:=(ac.mp e').1
  refine⟨z,?_,k⟩
  rw[aL (by rw[bL];omega),jQ,if_pos hi];exact e'
 have y:KP s (st.take s.length):=by have:=tk [];rwa [bK]at this
 intro a s' e
 unfold zH at e
 repeat' split at e
 all_goals first|(cases e;exact y;done)|(cases e;exact tk _;done)|(cases e;exact h;done)|(cases e;done)
theorem ap2 (P:Pr):∀ n,FK (aa1 P n)
 | 0=>⟨λ _ _ _=>KR.bad,λ _ _ _ _=>KR.bad⟩
 | n+1=>by
  refine⟨λ f l s=>?_,λ id cs l s=>?_⟩
  ·intro a s' h
   unfold aa1 at h
   simp only at h
   split at h
   case h_2=>cases h
   split at h
   case isFalse=>cases h
   obtain⟨c,s1,e1,h⟩:=R.bind_inv h
   have k1:=au8 (ap2 P n) _ _ _ _ _ e1
   cases c with
   | ret v=>exact ay2 k1 _ _ h
   | next ρ=>exact ay2 k1 _ _ h
   | _=>cases h
  ·intro a s' h
   unfold aa1 at h
   simp only at h
   split at h
   case h_2=>cases h
   split at h
   case isFalse=>cases h
   obtain⟨v,s1,e1,h⟩:=R.bind_inv h
   exact ay2 (zc (ap2 P n) _ _ _ _ _ e1) _ _ h
end DV
end
open DV renaming Sto->lU,D->lV,Env->lX,ev->lY,R->l7,LIM->l8,eqv->l9,aa1->mq,tru->mr,DEEP->mw,av9->mx,eqL->mz,rep->mB,aE9->mD,kd->mF,ai8->mG,chk->mH,ai5->mJ,Pr->mK,O->mM,look->mN,am0->mO,Fns->mP,Es->mQ,evs->mR,minI->mT,Bi->mU,Tg->mV,Ct->mW,aT3->mY,ai2->mZ,sbd->m4,qq->m5,loB->m6,inL->m7,ixn->m8,aj0->m9,E->nh,Sq->ni,aH9->nj,M->nk,aI9->nn,ak0->nq,mk->nr,zS->nu,Lm->nv,Df->nw,COp->ny,hiB->nz,slM->nA,ap5->nB,ay3->nD,meth->nE,qO->nF,Mk->nG,Mt->nH,As->nI,aV7->nJ,pur->nK,inM->nM,bi1->nN,al7->nO,aS7->nP,mkD->nQ,evI->nR,bi->nS,BOp->nT,isK->nU,W62->nW,aY8->nX,evL->nY,ay4->nZ
open DV.D renaming bndL->lW,bnd->lZ,hdI->mf,keyS->my,nclL->ng,ncl->nV
open DV.O renaming bnd->l6
noncomputable section
namespace L2
theorem fb {α:Type}{d:α}{s:lU}{p:Prop}(h:(DV.R.bad:l7 α)=.ok d s):p:=nomatch h
open PySem PySem.Spec PyProof.Rows
structure LamI where
 qual:Str
 params:cD
 body:Expr
 scope:Scope
 ps:List Str
 fr:List Str
 nm:Option (Str×Pos)
def CloAt (H:Hp)(f:Addr)(J:LamI)(cap:List V)(clos:List (Str×Addr)):Prop:=match J.nm with
 | none=>aK4 H f J.qual J.params J.body J.scope J.fr cap clos
 | some p=>at5 H f p.1 J.qual J.params [.Return (some J.body) p.2] J.scope J.fr cap clos
def aA0 (H:Hp)(f:Addr)(J:LamI)(clos:List (Str×Addr)):Prop:=match J.nm with
 | none=>∃ pm c' ctv,H f=some (bE3 f (eQ "<lambda>" J.qual J.params J.body J.scope clos pm (.ref c') ctv))/\H c'=some (aD4 c' J.qual)
 | some p=>∃ doc pm c' ctv,H f=some (bE3 f (gv p.1 J.qual J.params [.Return (some J.body) p.2] J.scope clos .none .none doc pm none (.ref c') ctv))/\H c'=some (aD4 c' J.qual)
structure Gm where
 K:ae
 fa:String->Option Addr
 lg:String->LamI->Prop
 T:List (Addr×Str)
variable (Γ:Gm)
mutual
noncomputable def RV (φ:Nat->Addr)(H:Hp):lV->V->Prop
 | .non,v=>v=.non
 | .bl b,v=>v=.bl b
 | .int i,v=>v=.int i
 | .str x,v=>v=.str ⟨x.toArray⟩/\x.length<=l8
 | .tup l,v=>∃ a xs,v=.ref a/\(SqT Γ.K H a xs/\(mf l=true->H a=some (.tup xs)))/\RVL φ H l xs
 | .ref n,v=>v=.ref (φ n)
 | .fn f,v=>∃ a,Γ.fa f=some a/\v=.ref a
 | .clo id cs,v=>∃ f cap J clos,v=.ref f/\Γ.lg id J/\CloAt H f J cap clos/\cap.length=J.fr.length/\RVL φ H cs cap
noncomputable def RVL (φ:Nat->Addr)(H:Hp):List lV->List V->Prop
 | [],xs=>xs=[]
 | d::l,xs=>∃ x r,xs=x::r/\RV φ H d x/\RVL φ H l r
end
noncomputable def bU3:HO->Bool
 | .tup _=>true
 | .frz _ _=>true
 | .ext _=>true
 | _=>false
def Kp (H H':Hp):Prop:=∀ b o,H b=some o->bU3 o=true->H' b=some o
theorem Kp.refl (H:Hp):Kp H H:=λ _ _ h _=>h
theorem Kp.trans {H z y:Hp}(a:Kp H z)(b:Kp z y):Kp H y:=λ c o h f=>b c o (a c o h f) f
theorem Kp.new {H y:Hp}{p:Addr}{o:HO}(a:Kp H y)(h:y p=none):Kp H (upd y p o):=λ c u e f=>by
 have e1:=a c u e f
 rw[zd (zm e1 h)];exact e1
theorem Kp.put {H y:Hp}{p:Addr}{o u:HO}(a:Kp H y)(h:y p=some u)(C:bU3 u=false):Kp H (upd y p o):=λ c v e f=>by
 have e1:=a c v e f
 rw[zd (λ z=>by subst z;rw[h]at e1;cases e1;rw[C]at f;cases f)];exact e1
theorem Kp.sqT {K:ae}{H H':Hp}{a:Addr}{y:List V}(e:Kp H H')(h:SqT K H a y):SqT K H' a y:=by
 rcases h with(h|⟨o,h⟩)|h
 ·exact .inl (.inl (e _ _ h rfl))
 ·exact .inl (.inr ⟨o,e _ _ h rfl⟩)
 ·exact .inr h
theorem aK4.kp {H H':Hp}{f:Addr}{qual:Str}{params:cD}{body:Expr}{scope:Scope}{fr:List Str}{cap:List V}{y:List (Str×Addr)}(h:aK4 H f qual params body scope fr cap y)(e:Kp H H'):aK4 H' f qual params body scope fr cap y:=by
 obtain⟨Z,c',C,G,Y,h3,h4,J,h6⟩:=h
 refine⟨Z,c',C,e _ _ G rfl,e _ _ Y rfl,λ x c q=>?_,h4,J,λ i x v a b=>?_⟩
 ·obtain⟨o,v,z,d⟩:=h3 x c q
  exact⟨o,v,e _ _ z rfl,d⟩
 ·obtain⟨c,o,u,z1,z2,z3⟩:=h6 i x v a b
  exact⟨c,o,u,z1,e _ _ z2 rfl,z3⟩
theorem at5.kp {H H':Hp}{f:Addr}{name qual:Str}{params:cD}{body:List Stmt}{scope:Scope}{fr:List Str}{cap:List V}{y:List (Str×Addr)}(h:at5 H f name qual params body scope fr cap y)(e:Kp H H'):at5 H' f name qual params body scope fr cap y:=by
 obtain⟨C,pm,c',G,J,Z,h3,h4,Y,h6⟩:=h
 refine⟨C,pm,c',G,e _ _ J rfl,e _ _ Z rfl,λ x c q=>?_,h4,Y,λ i x v a b=>?_⟩
 ·obtain⟨o,v,z,d⟩:=h3 x c q
  exact⟨o,v,e _ _ z rfl,d⟩
 ·obtain⟨c,o,u,z1,z2,z3⟩:=h6 i x v a b
  exact⟨c,o,u,z1,e _ _ z2 rfl,z3⟩
theorem CloAt.kp {H H':Hp}{f:Addr}{J:LamI}{cap:List V}{y:List (Str×Addr)}(h:CloAt H f J cap y)(e:Kp H H'):CloAt H' f J cap y:=by
 unfold CloAt at h ⊢
 cases q:J.nm with
 | none=>rw[q]at h;exact aK4.kp h e
 | some p=>rw[q]at h;exact at5.kp h e
theorem aA0.kp {H H':Hp}{f:Addr}{J:LamI}{y:List (Str×Addr)}(h:aA0 H f J y)(e:Kp H H'):aA0 H' f J y:=by
 unfold aA0 at h ⊢
 cases q:J.nm with
 | none =>
  rw[q]at h
  obtain⟨Y,c',z,Z,G⟩:=h
  exact⟨Y,c',z,e _ _ Z rfl,e _ _ G rfl⟩
 | some p =>
  rw[q]at h
  obtain⟨C,Y,c',z,Z,G⟩:=h
  exact⟨C,Y,c',z,e _ _ Z rfl,e _ _ G rfl⟩
theorem CloAt.fn {K:ae}{H:Hp}{f:Addr}{J:LamI}{cap:List V}{y:List (Str×Addr)}(h:CloAt H f J cap y):bU2 K H f:=by
 unfold CloAt at h
 cases q:J.nm with
 | none=>rw[q]at h;obtain⟨G,Y,z,C,_⟩:=h;exact .inl ⟨_,C⟩
 | some p=>rw[q]at h;exact at5.fn h
structure Gw (φ:Nat->Addr)(n:Nat)(H:Hp)(φ':Nat->Addr)(H':Hp):Prop where
 map:∀ i,i<n->φ' i=φ i
 kp:Kp H H'
variable {Γ:Gm}
mutual
theorem RV.monoW {φ φ':Nat->Addr}{n:Nat}{H H':Hp}(g:Gw φ n H φ' H'):∀(d:lV) (v:V),d.bnd n=true->RV Γ φ H d v->RV Γ φ' H' d v
 | .non,_,_,h=>by unfold RV at h ⊢;exact h
 | .bl _,_,_,h=>by unfold RV at h ⊢;exact h
 | .int _,_,_,h=>by unfold RV at h ⊢;exact h
 | .str _,_,_,h=>by unfold RV at h ⊢;exact h
 | .tup l,_,b,h=>by
  unfold RV at h ⊢
  unfold lZ at b
  obtain⟨a,C,e,q,r⟩:=h
  exact⟨a,C,e,⟨g.kp.sqT q.1,λ z=>g.kp _ _ (q.2 z) rfl⟩,RVL.monoW g l C b r⟩
 | .ref k,_,b,h=>by
  unfold RV at h ⊢
  unfold lZ at b
  rw[g.map k (of_decide_eq_true b)];exact h
 | .fn _,_,_,h=>by unfold RV at h ⊢;exact h
 | .clo id cs,_,b,h=>by
  unfold RV at h ⊢
  unfold lZ at b
  obtain⟨f,cap,J,y,e,G,Y,h3,Z⟩:=h
  exact⟨f,cap,J,y,e,G,Y.kp g.kp,h3,RVL.monoW g cs cap b Z⟩
theorem RVL.monoW {φ φ':Nat->Addr}{n:Nat}{H H':Hp}(g:Gw φ n H φ' H'):∀(l:List lV) (y:List V),lW n l=true->RVL Γ φ H l y->RVL Γ φ' H' l y
 | [],_,_,h=>by unfold RVL at h ⊢;exact h
 | d::l,_,b,h=>by
  unfold RVL at h ⊢
  unfold lW at b
  rw[ak]at b
  obtain⟨x,r,e,q,t⟩:=h
  exact⟨x,r,e,RV.monoW g d x b.1 q,RVL.monoW g l r b.2 t⟩
end
mutual
theorem ze {n m:Nat}(h:n<=m):∀ d:lV,d.bnd n=true->d.bnd m=true
 | .non,_=>rfl
 | .bl _,_=>rfl
 | .int _,_=>rfl
 | .str _,_=>rfl
 | .tup l,b=>by unfold lZ at b ⊢;exact ad2 h l b
 | .ref k,b=>by unfold lZ at b ⊢;exact decide_eq_true (ay (of_decide_eq_true b) h)
 | .fn _,_=>rfl
 | .clo _ l,b=>by unfold lZ at b ⊢;exact ad2 h l b
theorem ad2 {n m:Nat}(h:n<=m):∀ l:List lV,lW n l=true->lW m l=true
 | [],_=>rfl
 | d::l,b=>by
  unfold lW at b ⊢
  rw[ak]at b ⊢
  exact⟨ze h d b.1,ad2 h l b.2⟩
end
theorem aa8 {n:Nat}:∀ {l:List lV},lW n l=true↔∀ d∈l,d.bnd n=true
 | []=>by unfold lW;simp
 | d::l=>by
  unfold lW
  rw[ak,aa8 (l:=l)]
  simp
theorem zv {n:Nat}{l m:List lV}(h:lW n l=true)(h':lW n m=true):lW n (l++m)=true :=
 aa8.mpr λ d hd=>(aX.mp hd).elim (aa8.mp h d) (aa8.mp h' d)
theorem ax6 {n:Nat}{l m:List lV}(h:lW n l=true)(s:∀ d∈m,d∈l):lW n m=true:=aa8.mpr λ d hd=>aa8.mp h d (s d hd)
theorem ap3 {n:Nat}{l:List lV}{i:Nat}{d:lV}(h:lW n l=true)(e:l[i]?=some d):d.bnd n=true:=aa8.mp h d (aQ e)
section
variable {φ:Nat->Addr} {H:Hp}
theorem RVL.nil:RVL Γ φ H [] []:=by unfold RVL;rfl
theorem RVL.cons {d:lV}{l:List lV}{x:V}{h:List V}(a:RV Γ φ H d x)(b:RVL Γ φ H l h):RVL Γ φ H (d::l) (x::h):=by unfold RVL;exact⟨x,h,rfl,a,b⟩
theorem RVL.unnil {y:List V}(h:RVL Γ φ H [] y):y=[]:=by unfold RVL at h;exact h
theorem RVL.uncons {d:lV}{l:List lV}{y:List V}(h:RVL Γ φ H (d::l) y):∃ x r,y=x::r/\RV Γ φ H d x/\RVL Γ φ H l r:=by unfold RVL at h;exact h
theorem RVL.length:∀ {l:List lV} {y:List V},RVL Γ φ H l y->y.length=l.length
 | [],_,h=>by rw[h.unnil];rfl
 | d::l,_,h=>by
  obtain⟨x,r,rfl,_,t⟩:=h.uncons
  rw[bh,bh,RVL.length t]
theorem RVL.get:∀ {l:List lV} {z:List V} {i:Nat} {d:lV},RVL Γ φ H l z->l[i]?=some d->∃ x,z[i]?=some x/\RV Γ φ H d x
 | [],_,_,_,_,e=>by simp at e
 | d::l,_,0,d',h,e=>by
  obtain⟨x,r,rfl,q,t⟩:=h.uncons
  have e':d=d':=by simpa using e
  subst e'
  exact⟨x,rfl,q⟩
 | d::l,_,i+1,_,h,e=>by
  obtain⟨x,r,rfl,q,t⟩:=h.uncons
  obtain⟨y,e1,e2⟩:=RVL.get (i:=i) t (by simpa using e)
  exact⟨y,by simpa using e1,e2⟩
theorem RVL.append:∀ {l m:List lV} {y ys:List V},RVL Γ φ H l y->RVL Γ φ H m ys->RVL Γ φ H (l++m) (y++ys)
 | [],_,_,_,h,h'=>by rw[h.unnil];exact h'
 | d::l,_,_,_,h,h'=>by
  obtain⟨x,r,rfl,q,t⟩:=h.uncons
  exact .cons q (RVL.append t h')
theorem RVL.drop:∀ {l:List lV} {y:List V} (n:Nat),RVL Γ φ H l y->RVL Γ φ H (l.drop n) (y.drop n)
 | _,_,0,h=>h
 | [],_,n+1,h=>by rw[h.unnil];exact .nil
 | d::l,_,n+1,h=>by
  obtain⟨x,r,rfl,q,t⟩:=h.uncons
  exact RVL.drop n t
theorem RVL.take:∀ {l:List lV} {y:List V} (n:Nat),RVL Γ φ H l y->RVL Γ φ H (l.take n) (y.take n)
 | _,_,0,h=>.nil
 | [],_,n+1,h=>by rw[h.unnil];exact .nil
 | d::l,_,n+1,h=>by
  obtain⟨x,r,rfl,q,t⟩:=h.uncons
  exact .cons q (RVL.take n t)
theorem RVL.set:∀ {l:List lV} {y:List V} {d:lV} {x:V} (i:Nat),RVL Γ φ H l y->RV Γ φ H d x->RVL Γ φ H (l.set i d) (y.set i x)
 | [],_,_,_,_,h,_=>by rw[h.unnil];exact .nil
 | d::l,_,_,_,0,h,q=>by
  obtain⟨x,r,rfl,_,t⟩:=h.uncons
  exact .cons q t
 | d::l,_,_,_,i+1,h,q=>by
  obtain⟨x,r,rfl,z,t⟩:=h.uncons
  exact .cons z (RVL.set i t q)
theorem RVL.reverse:∀ {l:List lV} {y:List V},RVL Γ φ H l y->RVL Γ φ H l.reverse y.reverse
 | [],_,h=>by rw[h.unnil];exact .nil
 | d::l,_,h=>by
  obtain⟨x,r,rfl,q,t⟩:=h.uncons
  rw[dN,dN]
  exact(RVL.reverse t).append (.cons q .nil)
theorem RV.intE {i:Int}{v:V}(h:RV Γ φ H (.int i) v):v=.int i:=by unfold RV at h;exact h
theorem RV.blE {i:Bool}{v:V}(h:RV Γ φ H (.bl i) v):v=.bl i:=by unfold RV at h;exact h
theorem RV.nonE {v:V}(h:RV Γ φ H .non v):v=.non:=by unfold RV at h;exact h
theorem RV.strE {x:List Nat}{v:V}(h:RV Γ φ H (.str x) v):v=.str ⟨x.toArray⟩:=by unfold RV at h;exact h.1
theorem RV.strL {x:List Nat}{v:V}(h:RV Γ φ H (.str x) v):x.length<=l8:=by unfold RV at h;exact h.2
theorem RV.tupE {l:List lV}{v:V}(h:RV Γ φ H (.tup l) v):∃ a y,v=.ref a/\SqT Γ.K H a y/\RVL Γ φ H l y:=by unfold RV at h;obtain⟨a,y,e,q,r⟩:=h;exact⟨a,y,e,q.1,r⟩
theorem RV.tupZ {l:List lV}{v:V}(h:RV Γ φ H (.tup l) v):∃ a y,(v=.ref a/\(mf l=true->H a=some (.tup y)))/\SqT Γ.K H a y/\RVL Γ φ H l y:=by unfold RV at h;obtain⟨a,y,e,q,r⟩:=h;exact⟨a,y,⟨e,q.2⟩,q.1,r⟩
theorem RVL.tonil {l:List lV}(h:RVL Γ φ H l []):l=[]:=cj.mp h.length.symm
theorem RV.tupK {l:List lV}{v:V}(h:RV Γ φ H (.tup l) v)(z:mf l=true):∃ a y,v=.ref a/\H a=some (.tup y)/\RVL Γ φ H l y:=by unfold RV at h;obtain⟨a,y,e,q,r⟩:=h;exact⟨a,y,e,q.2 z,r⟩
theorem RV.refE {n:Nat}{v:V}(h:RV Γ φ H (.ref n) v):v=.ref (φ n):=by unfold RV at h;exact h
theorem RV.intI {i:Int}:RV Γ φ H (.int i) (.int i):=by unfold RV;rfl
theorem RV.blI {i:Bool}:RV Γ φ H (.bl i) (.bl i):=by unfold RV;rfl
theorem RV.nonI:RV Γ φ H .non .non:=by unfold RV;rfl
theorem RV.strI {x:List Nat}(h:x.length<=l8):RV Γ φ H (.str x) (.str ⟨x.toArray⟩):=by unfold RV;exact⟨rfl,h⟩
theorem RV.tupI {l:List lV}{a:Addr}{y:List V}(h:H a=some (.tup y))(q:RVL Γ φ H l y):RV Γ φ H (.tup l) (.ref a):=by unfold RV;exact⟨a,y,rfl,⟨SqT.of h,λ _=>h⟩,q⟩
theorem RV.tupC {l:List lV}{a:Addr}{y:List V}(h:SqT Γ.K H a y)(z:mf l=true->H a=some (.tup y))(q:RVL Γ φ H l y):RV Γ φ H (.tup l) (.ref a):=by unfold RV;exact⟨a,y,rfl,⟨h,z⟩,q⟩
theorem RV.refI {n:Nat}:RV Γ φ H (.ref n) (.ref (φ n)):=by unfold RV;rfl
end
theorem bv8 {n:Nat}{l:List lV}(h:mf (mY n l)=true):mf l=true:=by
 cases n with
 | zero=>cases h
 | succ n =>
  cases l with
  | nil => 
   have:∀ k,mY k ([]:List lV)=[]:=λ k=>by
    induction k with
    | zero=>rfl
    | succ k ih=>show[]++mY k []=[];rw[ih];rfl
   rw[this]at h;cases h
  | cons a l =>
   have e:mY (n+1) (a::l)=a::(l++mY n (a::l)):=rfl
   rw[e]at h
   cases a with
   | int _=>rfl
   | _=>cases h
theorem aZ0 {α:Type}{l:List α}{lo hi:Option Int}(h:(mO l lo hi).length=l.length):mO l lo hi=l:=by
 unfold mO at h ⊢
 rw[bL,dX]at h
 by_cases z:l=[]
 ·subst z;simp
 ·have hp:=jp.mpr z
  have e1:m6 l.length lo=0:=by omega
  rw[e1]at h ⊢
  rw[eV]
  exact dA (by omega)
def SqF (K:ae)(H:Hp)(a:Addr)(xs:List V):Prop:=SqL K H a xs/\∀ H',Kp H H'->SqL K H' a xs
noncomputable def aD7:lV->Option Key
 | .int i=>some (.inl i)
 | .str x=>some (.inr ⟨x.toArray⟩)
 | _=>none
noncomputable def zR:List lV->Option (List Key)
 | []=>some []
 | d::l=>match aD7 d,zR l with
  | some k,some r=>some (k::r)
  | _,_=>none
noncomputable def bE2:lV->Option (List Key)
 | .tup l=>if(mf l&&(l.all my&&decide (l.length<=1000)))=true then zR l else none
 | _=>none
noncomputable def RVD {κ:Type}(kf:lV->Option κ)(Γ:Gm)(φ:Nat->Addr)(H:Hp):List (lV×lV)->List (κ×V)->Prop
 | [],kvs=>kvs=[]
 | (d,e)::l,kvs=>∃ k v r,kvs=(k,v)::r/\kf d=some k/\RV Γ φ H e v/\RVD kf Γ φ H l r
variable (Γ)
noncomputable def RO (φ:Nat->Addr)(H:Hp)(a:Addr):mM->Prop
 | .lst l=>∃ xs,H a=some (.lst xs)/\RVL Γ φ H l xs
 | .ro l=>∃ xs,SqF Γ.K H a xs/\RVL Γ φ H l xs
 | .dic l=>∃ kvs,H a=some (.dK kvs)/\RVD aD7 Γ φ H l kvs
 | .dit l=>∃ kvs,H a=some (.dT kvs)/\RVD bE2 Γ φ H l kvs
 | .ins _ _=>False
noncomputable abbrev okd:mM->Nat:=DV.O.kd
noncomputable def isMut:mM->Bool
 | .ro _=>false
 | _=>true
structure Rp (φ:Nat->Addr)(H:Hp)(s:lU):Prop where
 inj:∀(i j:Nat) (o o':mM),s[i]?=some o->s[j]?=some o'->isMut o=true->isMut o'=true->φ i=φ j->i=j
 obj:∀(i:Nat) (o:mM),s[i]?=some o->RO Γ φ H (φ i) o
 wf:∀(i:Nat) (o:mM),s[i]?=some o->o.bnd s.length=true
 tab:TabsH Γ.T H
structure RE (φ:Nat->Addr)(H:Hp)(n:Nat)(ρ:lX)(σ:St):Prop where
 len:ρ.length=σ.length
 val:∀(i:Nat) (d:lV),ρ[i]?=some (some d)->d.bnd n=true/\∃ v,σ[i]?=some (some v)/\RV Γ φ H d v
structure Gr (φ:Nat->Addr)(s:lU)(H:Hp)(φ':Nat->Addr)(s':lU)(H':Hp):Prop where
 w:Gw φ s.length H φ' H'
 le:s.length<=s'.length
 new:∀ i:Nat,s.length<=i->i<s'.length->H (φ' i)=none
 kd:∀(i:Nat) (o o':mM),s[i]?=some o->s'[i]?=some o'->okd o'=okd o
 st:∀ b,H b≠none->H' b≠none
 fr:∀ b o,H b=some o->(∀ ps,o≠.tbl ps)->(∀(i:Nat) (ob:mM),s[i]?=some ob->isMut ob=true->φ i≠b)->H' b=some o
variable {Γ}
theorem bA5 {o y:mM}(h:okd y=okd o)(m:isMut y=true):isMut o=true:=by
 cases o with
 | ro _=>cases y with
  | ro _=>cases m
  | _=>cases h
 | _=>rfl
theorem Gr.mu {φ φ':Nat->Addr}{s s':lU}{H H':Hp}(g:Gr φ s H φ' s' H')(i:Nat)(o h:mM)(e:s[i]?=some o)(e':s'[i]?=some h)(m:isMut h=true):isMut o=true:=bA5 (g.kd i o h e e') m
theorem Gr.refl (φ:Nat->Addr)(s:lU)(H:Hp):Gr φ s H φ s H:=⟨⟨λ _ _=>rfl,Kp.refl H⟩,aj _,λ i C y=>absurd y (by omega),λ i o z e e'=>by rw[e]at e';cases e';rfl,λ _ h=>h,λ _ _ h _ _=>h⟩
theorem Gr.trans {φ φ1 φ2:Nat->Addr}{s s1 s2:lU}{H Y G:Hp}(a:Gr φ s H φ1 s1 Y)(b:Gr φ1 s1 Y φ2 s2 G)(_h:s.length<=s1.length):Gr φ s H φ2 s2 G:=by
 refine⟨⟨λ i hi=>(b.w.map i (ay hi a.le)).trans (a.w.map i hi),a.w.kp.trans b.w.kp⟩,ao a.le b.le,λ i h1 h2=>?_,λ i o o' e e'=>?_,λ c h=>b.st c (a.st c h),λ c o h Z ne=>?_⟩
 ·by_cases hi:i<s1.length
  ·rw[b.w.map i hi];exact a.new i h1 hi
  ·have e:=b.new i (by omega) h2
   cases q:H (φ2 i)with
   | none=>rfl
   | some o=>exact absurd e (a.st _ (by rw[q];simp))
 ·have hl:i<s1.length:=ay (ac.mp e).1 a.le
  obtain⟨y,e1⟩:∃ y,s1[i]?=some y:=⟨s1[i],ag hl⟩
  exact(b.kd i y o' e1 e').trans (a.kd i o y e e1)
 ·refine b.fr c o (a.fr c o h Z ne) Z λ i ob e m z=>?_
  by_cases hi:i<s.length
  ·obtain⟨C,J⟩:∃ C,s[i]?=some C:=⟨s[i],ag hi⟩
   exact ne i C J (a.mu i C ob J e m) (by rw[<-a.w.map i hi];exact z)
  ·have:=a.new i (by omega) (ac.mp e).1
   rw[z,h]at this;cases this
theorem RV.mono {φ φ':Nat->Addr}{s s':lU}{H H':Hp}(g:Gr φ s H φ' s' H')(d:lV)(v:V)(b:d.bnd s.length=true)(h:RV Γ φ H d v):RV Γ φ' H' d v:=RV.monoW g.w d v b h
theorem RVL.mono {φ φ':Nat->Addr}{s s':lU}{H H':Hp}(g:Gr φ s H φ' s' H')(d:List lV)(v:List V)(b:lW s.length d=true)(h:RVL Γ φ H d v):RVL Γ φ' H' d v:=RVL.monoW g.w d v b h
theorem RE.mono {φ φ':Nat->Addr}{s s':lU}{H H':Hp}{ρ:lX}{σ:St}(h:RE Γ φ H s.length ρ σ)(g:Gr φ s H φ' s' H')(hn:s.length<=s'.length):RE Γ φ' H' s'.length ρ σ :=
 ⟨h.len,λ i d e=>by
  obtain⟨b,v,e1,e2⟩:=h.val i d e
  exact⟨ze hn d b,v,e1,RV.mono g d v b e2⟩⟩
def aj4 (Γ:Gm)(φ:Nat->Addr)(s:lU)(H:Hp)(d:lV)(s':lU)(Q:VK):Prop :=
 ∀ v φ' H',Gr φ s H φ' s' H'->s.length<=s'.length->d.bnd s'.length=true->RV Γ φ' H' d v->Rp Γ φ' H' s'->Q v H'
theorem aj4.trans {φ φ1:Nat->Addr}{s s1 s':lU}{H y:Hp}{d:lV}{Q:VK}(h:aj4 Γ φ s H d s' Q)(g:Gr φ s H φ1 s1 y)(l:s.length<=s1.length):aj4 Γ φ1 s1 y d s' Q :=
 λ v φ' H' g' z b r p=>h v φ' H' (g.trans g' l) (ao l z) b r p
theorem aj4.here {φ:Nat->Addr}{s:lU}{H:Hp}{d:lV}{Q:VK}{v:V}(h:aj4 Γ φ s H d s Q)(p:Rp Γ φ H s)(b:d.bnd s.length=true)(r:RV Γ φ H d v):Q v H :=
 h v φ H (Gr.refl φ s H) (aj _) b r p
theorem RVD.monoW {κ:Type}{z:lV->Option κ}{φ φ':Nat->Addr}{n:Nat}{H H':Hp}(g:Gw φ n H φ' H'):∀(l:List (lV×lV)) (y:List (κ×V)),lW n (l.map (·.2))=true->RVD z Γ φ H l y->RVD z Γ φ' H' l y
 | [],_,_,h=>h
 | (d,e)::l,_,b,h=>by
  obtain⟨k,v,r,e1,e2,C,G⟩:=h
  rw[aJ]at b
  unfold lW at b
  rw[ak]at b
  exact⟨k,v,r,e1,e2,RV.monoW g e v b.1 C,RVD.monoW g l r b.2 G⟩
theorem RO.mono {φ φ':Nat->Addr}{n:Nat}{H H':Hp}{a:Addr}{o:mM}(h:RO Γ φ H a o)(g:Gw φ n H φ' H')(b:o.bnd n=true)(hl:isMut o=true->∀ u,H a=some u->H' a=some u):RO Γ φ' H' a o:=by
 cases o with
 | lst l =>
  unfold l6 at b
  obtain⟨z,e,r⟩:=h
  exact⟨z,hl rfl _ e,RVL.monoW g l z b r⟩
 | ro l =>
  unfold l6 at b
  obtain⟨z,e,r⟩:=h
  exact⟨z,⟨e.2 _ g.kp,λ C k=>e.2 _ (g.kp.trans k)⟩,RVL.monoW g l z b r⟩
 | dic l =>
  unfold l6 at b
  rw[ak]at b
  obtain⟨y,e,r⟩:=h
  exact⟨y,hl rfl _ e,RVD.monoW g l y b.2 r⟩
 | dit l =>
  unfold l6 at b
  rw[ak]at b
  obtain⟨y,e,r⟩:=h
  exact⟨y,hl rfl _ e,RVD.monoW g l y b.2 r⟩
 | ins _ _=>exact h.elim
theorem RO.there {φ:Nat->Addr}{H:Hp}{a:Addr}{o:mM}(h:RO Γ φ H a o)(m:isMut o=true):∃ u,H a=some u/\bU3 u=false/\∀ ps,u≠.tbl ps:=by
 cases o with
 | lst l=>obtain⟨y,e,_⟩:=h;exact⟨_,e,rfl,by nofun⟩
 | ro l=>cases m
 | dic l=>obtain⟨y,e,_⟩:=h;exact⟨_,e,rfl,by nofun⟩
 | dit l=>obtain⟨y,e,_⟩:=h;exact⟨_,e,rfl,by nofun⟩
 | ins _ _=>exact h.elim
theorem Rp.addr {φ:Nat->Addr}{H:Hp}{s:lU}(p:Rp Γ φ H s){i:Nat}{l:List lV}(e:s[i]?=some (.lst l)):∃ h,H (φ i)=some (.lst h)/\RVL Γ φ H l h:=p.obj i _ e
theorem zZ {n m:Nat}(h:n<=m)(o:mM)(b:o.bnd n=true):o.bnd m=true:=by
 cases o with
 | lst l=>unfold l6 at b ⊢;exact ad2 h l b
 | ro l=>unfold l6 at b ⊢;exact ad2 h l b
 | dic l =>
  unfold l6 at b ⊢
  rw[ak]at b ⊢
  exact⟨ad2 h _ b.1,ad2 h _ b.2⟩
 | dit l =>
  unfold l6 at b ⊢
  rw[ak]at b ⊢
  exact⟨ad2 h _ b.1,ad2 h _ b.2⟩
 | ins c l=>unfold l6 at b ⊢;exact ad2 h _ b
theorem TabsH.keepF {T:List (Addr×Str)}{H H':Hp}(h:TabsH T H)(k:∀ b o,(bU3 o=true\/∃ ps,o=.tbl ps)->H b=some o->H' b=some o):TabsH T H':=λ y hy=>by
 obtain⟨ps,e,t,c⟩:=h y hy
 refine⟨ps,k _ _ (.inr ⟨_,rfl⟩) e,t,λ pos z q=>?_⟩
 obtain⟨C,e1,e2⟩:=c pos z q
 exact⟨C,e1,k _ _ (.inl rfl) e2⟩
theorem Rp.new {φ:Nat->Addr}{H:Hp}{s:lU}{p:Addr}{u:HO}{o:mM}(r:Rp Γ φ H s)(hp:H p=none)(hb:o.bnd s.length=true)
  (ho:∀ φ' H',Gw φ s.length H φ' H'->H' p=some u->RO Γ φ' H' p o):Gr φ s H (λ i=>if i=s.length then p else φ i) (s++[o]) (upd H p u)/\Rp Γ (λ i=>if i=s.length then p else φ i) (upd H p u) (s++[o]):=by
 have g:Gw φ s.length H (λ i=>if i=s.length then p else φ i) (upd H p u):=⟨λ i hi=>if_neg (ax hi),(Kp.refl H).new hp⟩
 have key:∀ i y,(s++[o])[i]?=some y->(i<s.length/\s[i]?=some y)\/(i=s.length/\y=o):=λ i y e=>by
  rcases gz i s.length with h|h|h
  ·rw[aL h]at e;exact .inl ⟨h,e⟩
  ·subst h;simp at e;exact .inr ⟨rfl,e.symm⟩
  ·rw[bT (by simp;omega)]at e;cases e
 refine⟨⟨g,by simp,λ i h1 h2=>?_,λ i o1 o2 e1 e2=>?_,λ b hb=>?_,λ b ob hb _ _=>by rw[zd (zm hb hp)];exact hb⟩,λ i j J G C ej Z Y e=>?_,λ i y e=>?_,λ i y e=>?_,r.tab.new hp⟩
 ·rw[aw,cW]at h2
  rw[if_pos (by omega)];exact hp
 ·rcases key i o2 e2 with⟨_,e⟩|⟨hi,_⟩
  ·rw[e1]at e;cases e;rfl
  ·have:=(ac.mp e1).1;omega
 ·unfold upd;split
  ·simp
  ·exact hb
 ·rcases key i J C with⟨hi,C⟩|⟨hi,rfl⟩<;>rcases key j G ej with⟨hj,ej⟩|⟨hj,ej'⟩
  ·rw[if_neg (ax hi),if_neg (ax hj)]at e
   exact r.inj i j J G C ej Z Y e
  ·rw[if_neg (ax hi),if_pos hj]at e
   obtain⟨u,z,_,_⟩:=(r.obj i J C).there Z
   rw[e,hp]at z;cases z
  ·rw[if_neg (ax hj),if_pos hi]at e
   obtain⟨u,z,_,_⟩:=(r.obj j G ej).there Y
   rw[<-e,hp]at z;cases z
  ·rw[hi,hj]
 ·rcases key i y e with⟨hi,e⟩|⟨hi,rfl⟩
  ·show RO Γ _ _ (if i=s.length then p else φ i) y
   rw[if_neg (ax hi)]
   exact(r.obj i y e).mono g (r.wf i y e) λ _ v hv=>by rw[zd (zm hv hp)];exact hv
  ·show RO Γ _ _ (if i=s.length then p else φ i) y
   rw[if_pos hi]
   exact ho _ _ g zh
 ·rw[aw,cW]
  rcases key i y e with⟨hi,e⟩|⟨hi,rfl⟩
  ·exact zZ (dU _) _ (r.wf i y e)
  ·exact zZ (dU _) _ hb
theorem Rp.set {φ:Nat->Addr}{H:Hp}{s:lU}{k:Nat}{u:HO}{o C:mM}(r:Rp Γ φ H s)(hk:s[k]?=some C)(Y:isMut C=true)(hb:o.bnd s.length=true)
  (ho:∀ H',Gw φ s.length H φ H'->H' (φ k)=some u->RO Γ φ H' (φ k) o) (Z:okd o=okd C:=by rfl):Gr φ s H φ (s.set k o) (upd H (φ k) u)/\Rp Γ φ (upd H (φ k) u) (s.set k o):=by
 obtain⟨v0,J,f0,a1⟩:=(r.obj k C hk).there Y
 have a2:k<s.length:=(ac.mp hk).1
 have g:Gw φ s.length H φ (upd H (φ k) u):=⟨λ _ _=>rfl,(Kp.refl H).put J f0⟩
 have key:∀ i y,(s.set k o)[i]?=some y->(i≠k/\s[i]?=some y)\/(i=k/\y=o):=λ i y e=>by
  by_cases h:i=k
  ·subst h;rw[bn a2]at e;exact .inr ⟨rfl,(aA e).symm⟩
  ·rw[aY (cV h)]at e;exact .inl ⟨h,e⟩
 have mm:∀ i y,(s.set k o)[i]?=some y->isMut y=true->∃ G,s[i]?=some G/\isMut G=true:=λ i y e m=>by
  rcases key i y e with⟨_,e⟩|⟨h,_⟩
  ·exact⟨y,e,m⟩
  ·exact⟨C,by rw[h];exact hk,Y⟩
 refine⟨⟨g,by simp,λ i h1 h2=>by rw[bz]at h2;omega,λ i o1 o2 e1 e2=>?_,λ b hb=>?_,λ b ob hb nt ne=>by rw[zd (cV (ne k C hk Y))];exact hb⟩,λ i j oi oj ei ej mi mj e=>?_,λ i y e=>?_,λ i y e=>?_,r.tab.keepF λ b v hv q=>?_⟩
 ·rcases key i o2 e2 with⟨_,e⟩|⟨h,rfl⟩
  ·rw[e1]at e;cases e;rfl
  ·subst h;rw[hk]at e1;cases e1;exact Z
 ·unfold upd;split
  ·simp
  ·exact hb
 ·obtain⟨o1,e1,m1⟩:=mm i oi ei mi
  obtain⟨o2,e2,m2⟩:=mm j oj ej mj
  exact r.inj i j o1 o2 e1 e2 m1 m2 e
 ·rcases key i y e with⟨h,e⟩|⟨h,rfl⟩
  ·refine(r.obj i y e).mono g (r.wf i y e) λ m v hv=>?_
   rw[zd λ z=>h (r.inj i k y C e hk m Y z)];exact hv
  ·subst h
   exact ho _ g zh
 ·rw[bz]
  rcases key i y e with⟨_,e⟩|⟨_,rfl⟩
  ·exact r.wf i y e
  ·exact hb
 ·rw[zd λ z=>by
   subst z;rw[J]at q;cases q
   rcases hv with h|⟨ps,h⟩
   ·rw[f0]at h;cases h
   ·exact a1 _ h]
  exact q
theorem Rp.same {φ:Nat->Addr}{H H':Hp}{s:lU}(r:Rp Γ φ H s)(e:aj8 H H'):Gr φ s H φ s H'/\Rp Γ φ H' s:=by
 have g:Gw φ s.length H φ H':=⟨λ _ _=>rfl,λ b o h _=>e b o h⟩
 exact⟨⟨g,aj _,λ i G y=>absurd y (by omega),λ i o C e e'=>by rw[e]at e';cases e';rfl,λ b hb=>by
  cases q:H b with
  | none=>exact absurd q hb
  | some o=>rw[e b o q];simp,λ b o h _ _=>e b o h⟩,r.inj,λ i o h=>(r.obj i o h).mono g (r.wf i o h) λ _ u z=>e _ u z,r.wf,r.tab.same e⟩
section
variable {φ:Nat->Addr} {H:Hp} {s:lU} {Q:VK}
theorem aj4.alloc {l:List lV}{y:List V}(h:aj4 Γ φ s H (.ref s.length) (s++[.lst l]) Q)(r:Rp Γ φ H s)(hl:RVL Γ φ H l y)(hb:lW s.length l=true){p:Addr}(hp:H p=none):Q (.ref p) (upd H p (.lst y)):=by
 obtain⟨g,z⟩:=r.new (o:=.lst l) (u:=.lst y) hp hb λ φ' H' g e=>⟨y,e,RVL.monoW g l y hb hl⟩
 have:=h (.ref p) _ _ g (by simp) (by unfold lZ;simp) (by unfold RV;simp) z
 exact this
theorem aj4.tup {l:List lV}{y:List V}(h:aj4 Γ φ s H (.tup l) s Q)(r:Rp Γ φ H s)(hl:RVL Γ φ H l y)(hb:lW s.length l=true){p:Addr}(hp:H p=none):Q (.ref p) (upd H p (.tup y)):=by
 obtain⟨g,z⟩:=r.same (H':=upd H p (.tup y)) ((aj8.refl H).new hp)
 exact h _ _ _ g (aj _) (by unfold lZ;exact hb) (RV.tupI zh (RVL.mono g l y hb hl)) z
theorem aj4.put {k:Nat}{l l0:List lV}{y:List V}{d:lV}{v:V}(h:aj4 Γ φ s H d (s.set k (.lst l)) Q)(r:Rp Γ φ H s)(hk:s[k]?=some (.lst l0))(hl:RVL Γ φ H l y)(hb:lW s.length l=true)
  (hd:d.bnd s.length=true) (hv:RV Γ φ H d v):Q v (upd H (φ k) (.lst y)):=by
 obtain⟨g,z⟩:=r.set (o:=.lst l) (u:=.lst y) hk rfl hb λ H' g e=>⟨y,e,RVL.monoW g l y hb hl⟩
 exact h _ _ _ g (by simp) (by rw[bz];exact hd) (RV.mono g d v hd hv) z
end
variable {Γ:Gm}
theorem keyOf_inj {a b:lV}{k:Key}(ha:aD7 a=some k)(hb:aD7 b=some k):a=b:=by
 cases a with
 | int i =>
  cases ha
  cases b with
  | int j=>cases hb;rfl
  | str y=>cases hb
  | _=>cases hb
 | str x =>
  cases ha
  cases b with
  | int j=>cases hb
  | str y =>
   have h:=aA hb
   injection h with h
   injection h with h
   have z:y=x:=by simpa using h
   rw[z]
  | _=>cases hb
 | _=>cases ha
theorem ao5 {d:lV}(h:d.key=true):∃ k,aD7 d=some k:=by
 cases d with
 | int i=>exact⟨_,rfl⟩
 | str x=>exact⟨_,rfl⟩
 | _=>cases h
theorem aA9 {φ:Nat->Addr}{H:Hp}{d:lV}{k:Key}{v:V}(h:aD7 d=some k)(r:RV Γ φ H d v):v=kV k:=by
 cases d with
 | int i=>cases h;exact r.intE
 | str x=>cases h;exact r.strE
 | _=>cases h
def bM1 {κ:Type}(kf:lV->Option κ):Prop:=∀ {a b:lV} {k:κ},kf a=some k->kf b=some k->a=b
theorem av8:∀ {a b:List lV} {k:List Key},zR a=some k->zR b=some k->a=b
 | [],[],k,_,_=>rfl
 | [],y::b,k,ha,hb=>by
  cases ha
  unfold zR at hb
  split at hb<;>cases hb
 | x::a,[],k,ha,hb=>by
  cases hb
  unfold zR at ha
  split at ha<;>cases ha
 | x::a,y::b,k,ha,hb=>by
  unfold zR at ha hb
  split at ha
  ·rename_i k1 r1 e1 e2
   cases ha
   split at hb
   ·rename_i k2 C h z
    cases hb
    rw[keyOf_inj e1 h,av8 e2 z]
   ·cases hb
  ·cases ha
theorem al0 {d:lV}{k:List Key}(h:bE2 d=some k):∃ l,d=.tup l/\(mf l=true/\l.all my=true/\l.length<=1000)/\zR l=some k:=by
 cases d with
 | tup l =>
  have h:(if(mf l&&(l.all my&&decide (l.length<=1000)))=true then zR l else none)=some k:=h
  by_cases z:(mf l&&(l.all my&&decide (l.length<=1000)))=true
  ·rw[if_pos z]at h;rw[ak,ak]at z;exact⟨l,rfl,⟨z.1,z.2.1,of_decide_eq_true z.2.2⟩,h⟩
  ·rw[if_neg z]at h;cases h
 | _=>cases h
theorem keyT_inj:bM1 bE2:=λ ha hb=>by
 obtain⟨l,rfl,_,h⟩:=al0 ha
 obtain⟨m,rfl,_,y⟩:=al0 hb
 rw[av8 h y]
theorem aT7 {d:lV}(h:d.keyS=true):∃ k,aD7 d=some k:=by
 cases d with
 | int i=>exact⟨_,rfl⟩
 | str x=>exact⟨_,rfl⟩
 | _=>cases h
theorem as2:∀ {l:List lV},l.all my=true->∃ k,zR l=some k
 | [],_=>⟨[],rfl⟩
 | d::l,h=>by
  rw[eg,ak]at h
  obtain⟨k,hk⟩:=aT7 h.1
  obtain⟨r,hr⟩:=as2 h.2
  exact⟨k::r,by unfold zR;rw[hk,hr]⟩
theorem al1 {d:lV}(h:d.keyT=true):∃ k,bE2 d=some k:=by
 cases d with
 | tup l =>
  have h:(mf l&&(l.all my&&decide (l.length<=1000)))=true:=h
  have h':=h
  rw[ak,ak]at h'
  obtain⟨k,hk⟩:=as2 h'.2.1
  exact⟨k,by show(if(mf l&&(l.all my&&decide (l.length<=1000)))=true then zR l else none)=some k;rw[if_pos h];exact hk⟩
 | _=>cases h
theorem aZ6 {φ:Nat->Addr}{H:Hp}:∀ {l:List lV} {k:List Key} {y:List V},zR l=some k->RVL Γ φ H l y->y=k.map kV
 | [],k,y,h,r=>by cases h;exact r.unnil
 | d::l,k,y,h,r=>by
  unfold zR at h
  split at h
  ·rename_i k1 r1 e1 e2
   cases h
   obtain⟨x,ys,rfl,z,C⟩:=r.uncons
   rw[aA9 e1 z,aZ6 e2 C,aJ]
  ·cases h
theorem ay5 {φ:Nat->Addr}{H:Hp}{d:lV}{k:List Key}{v:V}(h:bE2 d=some k)(r:RV Γ φ H d v):∃ b,v=.ref b/\H b=some (.tup (k.map kV)):=by
 obtain⟨l,rfl,z,hk⟩:=al0 h
 obtain⟨a,G,e,y,C⟩:=r.tupK z.1
 rw[aZ6 hk C]at y
 exact⟨a,e,y⟩
theorem bN3 {φ:Nat->Addr}{H:Hp}{d:lV}{k:Key}(h:aD7 d=some k)(hl:d.keyS=true):RV Γ φ H d (kV k):=by
 cases d with
 | int i=>cases h;exact RV.intI
 | str x=>cases h;exact RV.strI (ao (of_decide_eq_true hl) (by decide))
 | _=>cases h
theorem aV8 {φ:Nat->Addr}{H:Hp}:∀ {l:List lV} {k:List Key},zR l=some k->l.all my=true->RVL Γ φ H l (k.map kV)
 | [],k,h,_=>by cases h;exact .nil
 | d::l,k,h,z=>by
  unfold zR at h
  rw[eg,ak]at z
  split at h
  ·rename_i k1 r1 e1 e2
   cases h
   exact .cons (bN3 e1 z.1) (aV8 e2 z.2)
  ·cases h
theorem au2:∀ {l:List lV} {k:List Key},zR l=some k->k.length=l.length
 | [],k,h=>by cases h;rfl
 | d::l,k,h=>by
  unfold zR at h
  split at h
  ·rename_i k1 r1 e1 e2
   cases h
   rw[bh,bh,au2 e2]
  ·cases h
theorem bm1 {d:lV}{k:List Key}(h:bE2 d=some k):k≠[]/\k.length<=1000:=by
 obtain⟨l,rfl,z,hk⟩:=al0 h
 have:=au2 hk
 refine⟨λ e=>?_,by omega⟩
 subst e
 have hl:l=[]:=cj.mp this.symm
 subst hl
 cases z.1
section
variable {κ:Type} [DecidableEq κ] {kf:lV->Option κ}
theorem RVD.val {φ:Nat->Addr}{H:Hp}{d:lV}{k:κ}(G:bM1 kf)(hk:kf d=some k):∀ {l:List (lV×lV)} {y:List (κ×V)},RVD kf Γ φ H l y->(mN d l=none/\aF6 y k=none)\/∃ e v,mN d l=some e/\aF6 y k=some v/\RV Γ φ H e v/\e∈l.map (·.2)
 | [],y,h=>by
  have h:y=[]:=h
  subst h
  exact .inl ⟨rfl,rfl⟩
 | (a,e)::l,y,h=>by
  obtain⟨C,v,r,rfl,e2,Y,J⟩:=h
  by_cases z:a=d
  ·subst z
   rw[hk]at e2;cases e2
   exact .inr ⟨e,v,by unfold mN;rw[if_pos rfl],ao6 rfl,Y,by simp⟩
  ·have zk:¬ C=k:=λ q=>z (G e2 (by rw[q];exact hk))
   have e5:mN d ((a,e)::l)=mN d l:=by
    conv=>lhs;unfold mN
    rw[if_neg z]
   rw[e5,ao8 (show ¬(C,v).1=k from zk)]
   rcases RVD.val G hk J with q|⟨e',v',Z,q2,q3,q4⟩
   ·exact .inl q
   ·exact .inr ⟨e',v',Z,q2,q3,by simp at q4 ⊢;exact .inr q4⟩
theorem RVD.repl {φ:Nat->Addr}{H:Hp}{d e:lV}{k:κ}{v:V}(C:bM1 kf)(hk:kf d=some k)(hv:RV Γ φ H e v):∀ {l:List (lV×lV)} {y:List (κ×V)},RVD kf Γ φ H l y->RVD kf Γ φ H (l.map λ p=>if p.1=d then(p.1,e)else p) (y.map λ kv=>if kv.1=k then(kv.1,v)else kv)
 | [],y,h=>by
  have h:y=[]:=h
  subst h;exact(rfl:([]:List (κ×V))=[])
 | (a,e0)::l,y,h=>by
  obtain⟨J,v0,r,rfl,e2,Y,G⟩:=h
  rw[aJ,aJ]
  by_cases z:a=d
  ·subst z
   rw[hk]at e2;cases e2
   rw[if_pos rfl,if_pos rfl]
   exact⟨k,v,_,rfl,hk,hv,RVD.repl C hk hv G⟩
  ·have Z:¬ J=k:=λ q=>z (C e2 (by rw[q];exact hk))
   rw[if_neg z,if_neg Z]
   exact⟨J,v0,_,rfl,e2,Y,RVD.repl C hk hv G⟩
theorem RVD.snoc {φ:Nat->Addr}{H:Hp}{d e:lV}{k:κ}{v:V}(J:bM1 kf)(hk:kf d=some k)(hv:RV Γ φ H e v):∀ {l:List (lV×lV)} {y:List (κ×V)},RVD kf Γ φ H l y->RVD kf Γ φ H (l++[(d,e)]) (y++[(k,v)])
 | [],y,h=>by
  have h:y=[]:=h
  subst h;exact⟨k,v,[],rfl,hk,hv,rfl⟩
 | (a,e0)::l,y,h=>by
  obtain⟨G,v0,r,rfl,e2,C,z⟩:=h
  exact⟨G,v0,_,rfl,e2,C,RVD.snoc J hk hv z⟩
theorem RVD.put {φ:Nat->Addr}{H:Hp}{d e:lV}{k:κ}{v:V}{l:List (lV×lV)}{y:List (κ×V)}(C:bM1 kf)(hk:kf d=some k)(hv:RV Γ φ H e v)(h:RVD kf Γ φ H l y):RVD kf Γ φ H (mx d e l) (av6 y k v):=by
 unfold mx av6
 rw[ax4]
 rcases h.val C hk with⟨z,q2⟩|⟨e',v',z,q2,_⟩
 ·rw[z,q2];exact h.snoc C hk hv
 ·rw[z,q2];exact h.repl C hk hv
theorem RVD.get {φ:Nat->Addr}{H:Hp}:∀ {l:List (lV×lV)} {y:List (κ×V)} {i:Nat} {d e:lV},RVD kf Γ φ H l y->l[i]?=some (d,e)->∃ k v,y[i]?=some (k,v)/\kf d=some k/\RV Γ φ H e v
 | [],_,_,_,_,_,h=>by cases h
 | (a,b)::l,y,0,d,e,h,q=>by
  obtain⟨k,v,r,rfl,e2,C,z⟩:=h
  cases q
  exact⟨k,v,rfl,e2,C⟩
 | (a,b)::l,y,i+1,d,e,h,q=>by
  obtain⟨k,v,r,rfl,e2,C,z⟩:=h
  exact RVD.get (i:=i) z (show l[i]?=some (d,e)from q)
theorem RVD.keys {φ:Nat->Addr}{H:Hp}:∀ {l:List (lV×lV)} {y:List (κ×V)},RVD kf Γ φ H l y->∀ kv∈y,∃ d,kf d=some kv.1
 | [],y,h,kv,hk=>by
  have h:y=[]:=h
  subst h;cases hk
 | (a,b)::l,y,h,kv,hk=>by
  obtain⟨k,v,r,rfl,e2,G,C⟩:=h
  rcases aP.mp hk with z|z
  ·subst z;exact⟨a,e2⟩
  ·exact RVD.keys C kv z
theorem RVD.length {φ:Nat->Addr}{H:Hp}:∀ {l:List (lV×lV)} {y:List (κ×V)},RVD kf Γ φ H l y->y.length=l.length
 | [],y,h=>by
  have h:y=[]:=h
  subst h;rfl
 | (a,e)::l,y,h=>by
  obtain⟨G,v,r,rfl,e2,C,z⟩:=h
  rw[bh,bh,RVD.length z]
end
theorem aN0 {n:Nat}{d e:lV}{l:List (lV×lV)}(h:(DV.O.dic l).bnd n=true)(hd:d.bnd n=true)(y:e.bnd n=true):(DV.O.dic (mx d e l)).bnd n=true:=by
 unfold l6 at h ⊢
 rw[ak]at h ⊢
 obtain⟨G,C⟩:=h
 have g1:=aa8.mp G
 have z:=aa8.mp C
 unfold mx
 refine⟨aa8.mpr λ x hx=>?_,aa8.mpr λ x hx=>?_⟩
 ·obtain⟨p,hp,rfl⟩:=aH.mp hx
  split at hp
  ·obtain⟨q,hq,rfl⟩:=aH.mp hp
   split
   ·exact g1 _ (be (f:=(·.1)) hq)
   ·exact g1 _ (be (f:=(·.1)) hq)
  ·rcases aX.mp hp with q|q
   ·exact g1 _ (be (f:=(·.1)) q)
   ·rw[bf.mp q];exact hd
 ·obtain⟨p,hp,rfl⟩:=aH.mp hx
  split at hp
  ·obtain⟨q,hq,rfl⟩:=aH.mp hp
   split
   ·exact y
   ·exact z _ (be (f:=(·.2)) hq)
  ·rcases aX.mp hp with q|q
   ·exact z _ (be (f:=(·.2)) q)
   ·rw[bf.mp q];exact y
theorem bg2 {n:Nat}{d e:lV}{l:List (lV×lV)}(h:(DV.O.dit l).bnd n=true)(hd:d.bnd n=true)(y:e.bnd n=true):(DV.O.dit (mx d e l)).bnd n=true:=aN0 h hd y
theorem ap0 {f:lV->lV->Option Bool}{a b:lV}{l m:List lV}{z:Bool}(h:mz f (a::l) (b::m)=some z):∃ x y,f a b=some x/\mz f l m=some y/\z=(x&&y):=by
 unfold mz at h
 cases e1:f a b with
 | none=>rw[e1]at h;cases h
 | some x =>
  cases e2:mz f l m with
  | none=>rw[e1,e2]at h;cases h
  | some y=>rw[e1,e2]at h;exact⟨x,y,rfl,rfl,(aA h).symm⟩
theorem aU2 {f:lV->lV->Option Bool}:∀ {l m:List lV} {z:Bool},mz f l m=some z->∃ e:Nat->Bool,(∀ j d d',l[j]?=some d->m[j]?=some d'->f d d'=some (e j))/\((l.length==m.length)&&(bj (min l.length m.length)).all e)=z
 | [],[],z,h=>by
  unfold mz at h
  cases h
  exact⟨λ _=>true,λ j d d' h=>by simp at h,by simp⟩
 | [],b::m,z,h=>by
  unfold mz at h
  cases h
  exact⟨λ _=>true,λ j d d' h=>by simp at h,by simp⟩
 | a::l,[],z,h=>by
  unfold mz at h
  cases h
  exact⟨λ _=>true,λ j d d' J G=>by simp at G,by simp⟩
 | a::l,b::m,z,h=>by
  obtain⟨x,y,e1,e2,Y⟩:=ap0 h
  obtain⟨e,J,G⟩:=aU2 e2
  refine⟨λ j=>match j with|0=>x|j+1=>e j,λ j d d' g1 C=>?_,?_⟩
  ·cases j with
   | zero=>simp at g1 C;subst g1;subst C;exact e1
   | succ j=>exact J j d d' (by simpa using g1) (by simpa using C)
  ·rw[bh,bh,show min (l.length+1) (m.length+1)=min l.length m.length+1 by omega,List.range_succ_eq_map,eg,List.all_map,Y,<-G]
   have:((l.length+1==m.length+1)=(l.length==m.length)):=by
    by_cases q:l.length=m.length
    ·simp[q]
    ·have:¬ l.length+1=m.length+1:=by omega
     simp[q]
   rw[this]
   show((l.length==m.length)&&(x&&(bj _).all e))=_
   cases x<;>cases(l.length==m.length)<;>simp
section
variable {X:Cx} {pins:List (Addr×Obj)} {σ:St} {H:Hp} {sh:ai} {φ:Nat->Addr} {s:lU}
theorem aq4 (I:Inv X pins σ H sh){a:Addr}{y ys:List V}(h:H a=some (.lst y))(h':SqT X.K H a ys):False:=by
 rcases h' with(z|⟨o,z⟩)|⟨o,its,n,hk,_⟩
 ·rw[h]at z;cases z
 ·rw[h]at z;cases z
 ·have:=(I.bs a o (I.mod.kin a o hk)).2
  rw[h]at this;cases this
theorem rv_two (I:Inv X pins σ H sh)(hK:X.K=Γ.K)(R:Rp Γ φ H s){a b:lV}{x:V}(G:RV Γ φ H a x)(y:RV Γ φ H b x)(n1:mF s a≠9)(z:mF s b≠9):a=b\/∃ l m p J,a=.tup l/\b=.tup m/\x=.ref p/\RVL Γ φ H l J/\RVL Γ φ H m J:=by
 have C:∀ {r:Nat},mF s (.ref r)≠9->∃ l,s[r]?=some (.lst l):=λ {r} h=>by
  have h:(match s[r]? with|some (DV.O.lst l)=>4|_=>9:Nat)≠9:=h
  cases hs:s[r]? with
  | none=>rw[hs]at h;exact absurd rfl h
  | some o =>
   rw[hs]at h
   cases o with
   | lst l=>exact⟨l,rfl⟩
   | _=>exact absurd rfl h
 cases a with
 | non=>have e:=G.nonE;subst e;cases b with
  | non=>exact .inl rfl
  | bl _=>cases y.blE
  | int _=>cases y.intE
  | str _=>cases y.strE
  | tup _=>obtain⟨_,_,e,_⟩:=y.tupE;cases e
  | ref _=>cases y.refE
  | fn _=>exact absurd rfl z
  | clo _ _=>exact absurd rfl z
 | bl p=>have e:=G.blE;subst e;cases b with
  | non=>cases y.nonE
  | bl _=>cases y.blE;exact .inl rfl
  | int _=>cases y.intE
  | str _=>cases y.strE
  | tup _=>obtain⟨_,_,e,_⟩:=y.tupE;cases e
  | ref _=>cases y.refE
  | fn _=>exact absurd rfl z
  | clo _ _=>exact absurd rfl z
 | int p=>have e:=G.intE;subst e;cases b with
  | non=>cases y.nonE
  | bl _=>cases y.blE
  | int _=>cases y.intE;exact .inl rfl
  | str _=>cases y.strE
  | tup _=>obtain⟨_,_,e,_⟩:=y.tupE;cases e
  | ref _=>cases y.refE
  | fn _=>exact absurd rfl z
  | clo _ _=>exact absurd rfl z
 | str p=>have e:=G.strE;subst e;cases b with
  | non=>cases y.nonE
  | bl _=>cases y.blE
  | int _=>cases y.intE
  | str q =>
   have e':p.toArray=q.toArray:=Str.mk.inj (V.str.inj y.strE)
   have a1:p=q:=by simpa using congrArg jV e'
   subst a1;exact .inl rfl
  | tup _=>obtain⟨_,_,e,_⟩:=y.tupE;cases e
  | ref _=>cases y.refE
  | fn _=>exact absurd rfl z
  | clo _ _=>exact absurd rfl z
 | tup l =>
  obtain⟨p,J,e,Y,d1⟩:=G.tupE;subst e;cases b with
  | non=>cases y.nonE
  | bl _=>cases y.blE
  | int _=>cases y.intE
  | str _=>cases y.strE
  | tup m =>
   obtain⟨p',ys,e,q2,Z⟩:=y.tupE
   cases e
   rw[<-hK]at Y q2
   rw[I.tuple_inj q2 Y]at Z
   exact .inr ⟨l,m,p,J,rfl,rfl,rfl,d1,Z⟩
  | ref r =>
   cases y.refE
   obtain⟨m,hm⟩:=C z
   obtain⟨ys,hy,_⟩:=R.addr hm
   rw[<-hK]at Y
   exact(aq4 I hy Y).elim
  | fn _=>exact absurd rfl z
  | clo _ _=>exact absurd rfl z
 | ref r =>
  have e:=G.refE;subst e
  obtain⟨l,hl⟩:=C n1
  obtain⟨J,hx,_⟩:=R.addr hl
  cases b with
  | non=>cases y.nonE
  | bl _=>cases y.blE
  | int _=>cases y.intE
  | str _=>cases y.strE
  | tup m =>
   obtain⟨p',ys,e,q2,Z⟩:=y.tupE
   cases e
   rw[<-hK]at q2
   exact(aq4 I hx q2).elim
  | ref r' =>
   obtain⟨m,hm⟩:=C z
   have e:φ r=φ r':=V.ref.inj y.refE
   rw[R.inj r r' _ _ hl hm rfl rfl e]
   exact .inl rfl
  | fn _=>exact absurd rfl z
  | clo _ _=>exact absurd rfl z
 | fn _=>exact absurd rfl n1
 | clo _ _=>exact absurd rfl n1
theorem qM {a b:lV}{z:Bool}(h:mG s a b=some z):nJ a b=some z\/(nJ a b=none/\nj (mF s a) (mF s b)=false/\z=false):=by
 unfold mG at h
 cases e:nJ a b with
 | some w=>rw[e]at h;exact .inl h
 | none =>
  rw[e]at h
  cases q:nj (mF s a) (mF s b)with
  | true=>rw[q]at h;cases h
  | false=>rw[q]at h;exact .inr ⟨rfl,rfl,(aA h).symm⟩
theorem bj5 {a b:lV}{z:Bool}(h:nJ a b=some z):mF s a≠9/\mF s b≠9:=by
 cases a<;>cases b<;>first|(cases h;done)|(constructor<;>(intro z;cases z))
theorem ak7 {a b:lV}{z:Bool}(h:mG s a b=some z):mF s a≠9/\mF s b≠9:=by
 rcases qM h with h|⟨_,h,_⟩
 ·exact bj5 h
 ·unfold nj at h
  simp only[fw,beq_eq_false_iff_ne]at h
  exact⟨h.1.1,h.1.2⟩
theorem aH5 {a:lV}{z:Bool}(h:mG s a a=some z):z=true:=by
 rcases qM h with h|⟨_,h,_⟩
 ·cases a<;>cases h<;>first|rfl|exact beq_self_eq_true _
 ·unfold nj at h;simp at h
theorem aM9 (I:Inv X pins σ H sh)(hK:X.K=Γ.K)(R:Rp Γ φ H s):∀(n:Nat) (a b:lV) (x:V) (z:Bool),l9 s n a b=some z->RV Γ φ H a x->RV Γ φ H b x->z=true:=by
 have G:∀(a b:lV) (x:V) (z:Bool),mG s a b=some z->RV Γ φ H a x->RV Γ φ H b x->z=true:=by
  intro a b x z h y C
  rcases rv_two I hK R y C (ak7 h).1 (ak7 h).2 with e|⟨l,m,_,_,rfl,rfl,_⟩
  ·subst e;exact aH5 h
  ·rcases qM h with h|⟨_,h,_⟩
   ·cases h
   ·unfold nj at h;simp[mF]at h
 intro n
 induction n with
 | zero=>intro a b x z h;unfold l9 at h;exact G a b x z h
 | succ n ih =>
  have Z:∀(l m:List lV) (J:List V) (z:Bool),mz (l9 s n) l m=some z->RVL Γ φ H l J->RVL Γ φ H m J->z=true:=by
   intro l
   induction l with
   | nil =>
    intro m J z h y C
    cases m with
    | nil=>unfold mz at h;exact(aA h).symm
    | cons b m=>obtain⟨x,r,e,_⟩:=C.uncons;rw[y.unnil]at e;cases e
   | cons a l ihl =>
    intro m J z h y C
    cases m with
    | nil=>obtain⟨x,r,e,_⟩:=y.uncons;rw[C.unnil]at e;cases e
    | cons b m =>
     obtain⟨p,q,e1,e2,ez⟩:=ap0 h
     obtain⟨v,r,rfl,g1,g2⟩:=y.uncons
     obtain⟨v',r',e,g3,g4⟩:=C.uncons
     cases e
     rw[ez,ih a b v p e1 g1 g3,ihl m r q e2 g2 g4];rfl
  intro a b x z h y C
  unfold l9 at h
  split at h
  ·rename_i l m
   obtain⟨a,J,rfl,q1,d1⟩:=y.tupE
   obtain⟨b,ys,e,q2,Y⟩:=C.tupE
   cases e
   rw[<-hK]at q1 q2
   rw[I.tuple_inj q2 q1]at Y
   exact Z l m J z h d1 Y
  ·rename_i p q
   split at h
   ·rename_i l m hl hm
    obtain⟨J,e1,d1⟩:=R.addr hl
    obtain⟨ys,e2,Y⟩:=R.addr hm
    have e:=y.refE.symm.trans C.refE
    have e':φ p=φ q:=V.ref.inj e
    rw[e',e2]at e1
    have e3:ys=J:=by injection (aA e1)
    subst e3
    split at h
    ·exact Z l m ys z h d1 Y
    ·rename_i a1;exact absurd (d1.length.symm.trans Y.length) a1
   ·cases h
  ·exact G a b x z h y C
end
variable {Γ:Gm}
inductive Vw (sh:ai):Nat->Value->Prop where
 | non:Vw sh 0 .none
 | bl (b:Bool):Vw sh 1 (.bool b)
 | int (i:Int) (t:Tok):Vw sh 1 (.int i t)
 | str (x:Str) (t:Tok):Vw sh 2 (.str x t)
 | tup {l:Addr} {items:Array Value} (h:sh.heap.IsTuple l items):Vw sh 3 (.ref l)
 | lst {l:Addr} {items:Array Value} (h:sh.heap.IsList l items):Vw sh 4 (.ref l)
theorem Vw.eq {A:a0}{C:ai}{k G:Nat}{u v:Value}(a:Vw C k u)(b:Vw C G v)(z:k≠G)(y:A.units<cLine):iw A C u v false:=by
 cases a with
 | non=>cases b with
  | non=>exact absurd rfl z
  | bl b=>exact SeqAt.EqAt.none_bool b
  | int i t=>exact SeqAt.EqAt.none_int i t
  | str x t=>exact SeqAt.EqAt.none_str x t
  | tup h=>exact SeqAt.EqAt.none_tuple h y
  | lst h=>exact SeqAt.EqAt.none_list h y
 | bl a=>cases b with
  | non=>exact SeqAt.EqAt.bool_none a
  | bl b=>exact absurd rfl z
  | int i t=>exact absurd rfl z
  | str x t=>exact SeqAt.EqAt.bool_str a x t
  | tup h=>exact SeqAt.EqAt.bool_tuple a h y
  | lst h=>exact SeqAt.EqAt.bool_list a h y
 | int a q=>cases b with
  | non=>exact SeqAt.EqAt.int_none a q
  | bl b=>exact absurd rfl z
  | int i t=>exact absurd rfl z
  | str x t=>exact jC a q x t
  | tup h=>exact SeqAt.EqAt.int_tuple a q h y
  | lst h=>exact SeqAt.EqAt.int_list a q h y
 | str a q=>cases b with
  | non=>exact SeqAt.EqAt.str_none a q
  | bl b=>exact SeqAt.EqAt.str_bool a q b
  | int i t=>exact jD a q i t
  | str x t=>exact absurd rfl z
  | tup h=>exact SeqAt.EqAt.str_tuple a q h y
  | lst h=>exact SeqAt.EqAt.str_list a q h y
 | tup g=>cases b with
  | non=>exact SeqAt.EqAt.tuple_none g y
  | bl b=>exact SeqAt.EqAt.tuple_bool b g y
  | int i t=>exact SeqAt.EqAt.tuple_int i t g y
  | str x t=>exact SeqAt.EqAt.tuple_str x t g y
  | tup h=>exact absurd rfl z
  | lst h=>exact SeqAt.EqAt.tuple_list g h y
 | lst g=>cases b with
  | non=>exact SeqAt.EqAt.list_none g y
  | bl b=>exact SeqAt.EqAt.list_bool b g y
  | int i t=>exact SeqAt.EqAt.list_int i t g y
  | str x t=>exact SeqAt.EqAt.list_str x t g y
  | tup h=>exact SeqAt.EqAt.list_tuple g h y
  | lst h=>exact absurd rfl z
theorem Vw.rc {A:a0}{C:ai}{k G:Nat}{u v:Value}(a:Vw C k u)(b:Vw C G v)(z:k≠G)(y:A.units<cLine):lS A C u v false:=by
 cases a with
 | non=>cases b with
  | non=>exact absurd rfl z
  | bl b=>exact SeqAt.RcAt.none_bool b
  | int i t=>exact SeqAt.RcAt.none_int i t
  | str x t=>exact SeqAt.RcAt.none_str x t
  | tup h=>exact SeqAt.RcAt.none_tuple h y
  | lst h=>exact SeqAt.RcAt.none_list h y
 | bl a=>cases b with
  | non=>exact SeqAt.RcAt.bool_none a
  | bl b=>exact absurd rfl z
  | int i t=>exact absurd rfl z
  | str x t=>exact SeqAt.RcAt.bool_str a x t
  | tup h=>exact SeqAt.RcAt.bool_tuple a h y
  | lst h=>exact SeqAt.RcAt.bool_list a h y
 | int a q=>cases b with
  | non=>exact SeqAt.RcAt.int_none a q
  | bl b=>exact absurd rfl z
  | int i t=>exact absurd rfl z
  | str x t=>exact SeqAt.RcAt.int_str a q x t
  | tup h=>exact SeqAt.RcAt.int_tuple a q h y
  | lst h=>exact SeqAt.RcAt.int_list a q h y
 | str a q=>cases b with
  | non=>exact SeqAt.RcAt.str_none a q
  | bl b=>exact SeqAt.RcAt.str_bool a q b
  | int i t=>exact SeqAt.RcAt.str_int a q i t
  | str x t=>exact absurd rfl z
  | tup h=>exact SeqAt.RcAt.str_tuple a q h y
  | lst h=>exact SeqAt.RcAt.str_list a q h y
 | tup g=>cases b with
  | non=>exact SeqAt.RcAt.tuple_none g y
  | bl b=>exact SeqAt.RcAt.tuple_bool b g y
  | int i t=>exact SeqAt.RcAt.tuple_int i t g y
  | str x t=>exact SeqAt.RcAt.tuple_str x t g y
  | tup h=>exact absurd rfl z
  | lst h=>exact SeqAt.RcAt.tuple_list g h y
 | lst g=>cases b with
  | non=>exact SeqAt.RcAt.list_none g y
  | bl b=>exact SeqAt.RcAt.list_bool b g y
  | int i t=>exact SeqAt.RcAt.list_int i t g y
  | str x t=>exact SeqAt.RcAt.list_str x t g y
  | tup h=>exact SeqAt.RcAt.list_tuple g h y
  | lst h=>exact absurd rfl z
theorem Vw.ne {A:a0}{C:ai}{k G:Nat}{u v:Value}(a:Vw C k u)(b:Vw C G v)(z:k≠G)(y:A.units<cLine):lE A C u v true:=by
 cases a with
 | non=>cases b with
  | non=>exact absurd rfl z
  | bl b=>exact SeqAt.RcNeAt.none_bool b
  | int i t=>exact SeqAt.RcNeAt.none_int i t
  | str x t=>exact SeqAt.RcNeAt.none_str x t
  | tup h=>exact SeqAt.RcNeAt.none_tuple h y
  | lst h=>exact SeqAt.RcNeAt.none_list h y
 | bl a=>cases b with
  | non=>exact SeqAt.RcNeAt.bool_none a
  | bl b=>exact absurd rfl z
  | int i t=>exact absurd rfl z
  | str x t=>exact SeqAt.RcNeAt.bool_str a x t
  | tup h=>exact SeqAt.RcNeAt.bool_tuple a h y
  | lst h=>exact SeqAt.RcNeAt.bool_list a h y
 | int a q=>cases b with
  | non=>exact SeqAt.RcNeAt.int_none a q
  | bl b=>exact absurd rfl z
  | int i t=>exact absurd rfl z
  | str x t=>exact SeqAt.RcNeAt.int_str a q x t
  | tup h=>exact SeqAt.RcNeAt.int_tuple a q h y
  | lst h=>exact SeqAt.RcNeAt.int_list a q h y
 | str a q=>cases b with
  | non=>exact SeqAt.RcNeAt.str_none a q
  | bl b=>exact SeqAt.RcNeAt.str_bool a q b
  | int i t=>exact SeqAt.RcNeAt.str_int a q i t
  | str x t=>exact absurd rfl z
  | tup h=>exact SeqAt.RcNeAt.str_tuple a q h y
  | lst h=>exact SeqAt.RcNeAt.str_list a q h y
 | tup g=>cases b with
  | non=>exact SeqAt.RcNeAt.tuple_none g y
  | bl b=>exact SeqAt.RcNeAt.tuple_bool b g y
  | int i t=>exact SeqAt.RcNeAt.tuple_int i t g y
  | str x t=>exact SeqAt.RcNeAt.tuple_str x t g y
  | tup h=>exact absurd rfl z
  | lst h=>exact SeqAt.RcNeAt.tuple_list g h y
 | lst g=>cases b with
  | non=>exact SeqAt.RcNeAt.list_none g y
  | bl b=>exact SeqAt.RcNeAt.list_bool b g y
  | int i t=>exact SeqAt.RcNeAt.list_int i t g y
  | str x t=>exact SeqAt.RcNeAt.list_str x t g y
  | tup h=>exact SeqAt.RcNeAt.list_tuple g h y
  | lst h=>exact absurd rfl z
theorem bT0 (a b:List Nat):((⟨a.toArray⟩:Str)==⟨b.toArray⟩)=(a==b):=by
 by_cases e:a=b
 ·subst e;simp
 ·have:(⟨a.toArray⟩:Str)≠⟨b.toArray⟩:=λ q=>e (by simpa using congrArg (λ z=>z.cps.toList) q)
  rw[beq_eq_false_iff_ne.mpr this,beq_eq_false_iff_ne.mpr e]
structure Cmp (A:a0)(sh:ai)(u v:Value)(z:Bool):Prop where
 rc:lS A sh u v z
 ne:lE A sh u v (!z)
section
variable {X:Cx} {pins:List (Addr×Obj)} {σ:St} {H:Hp} {sh:ai} {φ:Nat->Addr} {s:lU}
theorem bN2 (I:Inv X pins σ H sh)(C:X.K=Γ.K)(R:Rp Γ φ H s){d:lV}{x:V}{u:Value}(h:RV Γ φ H d x)(r:RelV x u)(hk:mF s d≠9):Vw sh (mF s d) u:=by
 cases d with
 | non=>have e:=h.nonE;subst e;cases r;exact .non
 | bl b=>have e:=h.blE;subst e;cases r;exact .bl b
 | int i=>have e:=h.intE;subst e;obtain⟨t,rfl⟩:=r;exact .int i t
 | str y=>have e:=h.strE;subst e;obtain⟨t,rfl⟩:=r;exact .str _ t
 | tup l =>
  obtain⟨a,z,e,q,_⟩:=h.tupE
  subst e;cases r
  rw[<-C]at q
  obtain⟨its,_,t,_⟩:=I.tuple q
  exact .tup t
 | ref n =>
  have e:=h.refE;subst e;cases r
  have hk:(match s[n]? with|some (DV.O.lst l)=>4|_=>9:Nat)≠9:=hk
  show Vw sh (match s[n]? with|some (DV.O.lst l)=>4|_=>9:Nat) _
  cases hs:s[n]? with
  | none=>rw[hs]at hk;exact absurd rfl hk
  | some o =>
   rw[hs]at hk
   cases o with
   | lst l =>
    obtain⟨z,e,_⟩:=R.addr hs
    obtain⟨its,_,t,_⟩:=I.list (SqL.of e)
    exact .lst t.isList
   | _=>exact absurd rfl hk
 | fn _=>exact absurd rfl hk
 | clo _ _=>exact absurd rfl hk
theorem aC7 (I:Inv X pins σ H sh)(hK:X.K=Γ.K)(R:Rp Γ φ H s){a b:lV}{x y:V}{u v:Value}{A:a0}{z:Bool}(h:mG s a b=some z)(J:RV Γ φ H a x)(G:RV Γ φ H b y)(r1:RelV x u)(C:RelV y v)(Z:A.units<cLine) :
  iw A sh u v z/\Cmp A sh u v z:=by
 rcases qM h with h|⟨_,hn,hz⟩
 ·cases a<;>cases b<;>try cases h
  ·cases J.nonE;cases G.nonE;cases r1;cases C
   exact⟨iH _,SeqAt.RcAt.none_none,SeqAt.RcNeAt.none_none⟩
  ·cases J.blE;cases G.blE;cases r1;cases C
   exact⟨SeqAt.EqAt.bool_bool _ _,SeqAt.RcAt.bool_bool _ _,SeqAt.RcNeAt.bool_bool _ _⟩
  ·cases J.blE;cases G.intE;cases r1;obtain⟨t',rfl⟩:=C
   exact⟨SeqAt.EqAt.bool_int _ _ _,SeqAt.RcAt.bool_int _ _ _,SeqAt.RcNeAt.bool_int _ _ _⟩
  ·cases J.intE;cases G.blE;obtain⟨t,rfl⟩:=r1;cases C
   exact⟨SeqAt.EqAt.int_bool _ _ _,SeqAt.RcAt.int_bool _ _ _,SeqAt.RcNeAt.int_bool _ _ _⟩
  ·cases J.intE;cases G.intE;obtain⟨t,rfl⟩:=r1;obtain⟨t',rfl⟩:=C
   exact⟨SeqAt.EqAt.int_int _ _ _ _,SeqAt.RcAt.int_int _ _ _ _,SeqAt.RcNeAt.int_int _ _ _ _⟩
  ·cases J.strE;cases G.strE;obtain⟨t,rfl⟩:=r1;obtain⟨t',rfl⟩:=C
   rw[<-bT0]
   exact⟨SeqAt.EqAt.str_str _ _ _ _,SeqAt.RcAt.str_str _ _ _ _,SeqAt.RcNeAt.str_str _ _ _ _⟩
 ·subst hz
  unfold nj at hn
  simp only[fw,beq_eq_false_iff_ne]at hn
  have Y:=bN2 I hK R J r1 hn.1.1
  have w2:=bN2 I hK R G C hn.1.2
  exact⟨Y.eq w2 hn.2 Z,Y.rc w2 hn.2 Z,Y.ne w2 hn.2 Z⟩
theorem aZ1 (I:Inv X pins σ H sh)(hK:X.K=Γ.K)(R:Rp Γ φ H s):∀(n:Nat) (a b:lV) (x y:V) (u v:Value) (A:a0) (z:Bool),l9 s n a b=some z->RV Γ φ H a x->RV Γ φ H b y->RelV x u->RelV y v->Room n A ->
  iw A sh u v z/\Cmp A sh u v z:=by
 intro n
 induction n with
 | zero=>intro a b x y u v A z h h1 h2 r1 r2 hr;unfold l9 at h;exact aC7 I hK R h h1 h2 r1 r2 hr.units0
 | succ n ih =>
  have C:∀ {l m:List lV} {xs ys:List V} {its its':List Value} {A:a0} {e:Nat->Bool},RVL Γ φ H l xs->RVL Γ φ H m ys->Vals xs its->Vals ys its'->Room n A->(∀ j d d',l[j]?=some d->m[j]?=some d'->l9 s n d d'=some (e j)) ->
    ∀ j (h1:j<its.toArray.size) (h2:j<its'.toArray.size),iw A sh its.toArray[j] its'.toArray[j] (e j):=by
   intro l m xs ys its its' A e d1 Y v1 Z hr he j h1 h2
   have l1:=v1.length
   have l2:=Z.length
   have e1:=d1.length
   have e2:=Y.length
   have a4:j<its.length:=by simpa using h1
   have a5:j<its'.length:=by simpa using h2
   have hj:j<l.length:=by omega
   have a2:j<m.length:=by omega
   obtain⟨x,ex,dx⟩:=d1.get (ag hj)
   obtain⟨y,ey,dy⟩:=Y.get (ag a2)
   obtain⟨u,eu,ru⟩:=v1.get ex
   obtain⟨w,ew,a3⟩:=Z.get ey
   have g1:its.toArray[j]=u:=by
    have:=ag a4
    rw[eu]at this
    simpa using(aA this).symm
   have g2:its'.toArray[j]=w:=by
    have:=ag a5
    rw[ew]at this
    simpa using(aA this).symm
   rw[g1,g2]
   exact(ih _ _ x y u w A (e j) (he j _ _ (ag hj) (ag a2)) dx dy ru a3 hr).1
  intro a b x y u v A z h h1 h2 r1 r2 hr
  have hz:=h
  unfold l9 at h
  split at h
  ·rename_i l m
   obtain⟨p,xs,ex,q1,d1⟩:=id h1.tupE
   obtain⟨q,ys,ey,q2,Y⟩:=id h2.tupE
   subst ex;subst ey
   cases r1;cases r2
   rw[<-hK]at q1 q2
   obtain⟨its,v1,t1,_⟩:=I.tuple q1
   obtain⟨its',Z,t2,_⟩:=I.tuple q2
   obtain⟨e,he,G⟩:=aU2 h
   have l1:=v1.length
   have l2:=Z.length
   have e1:=d1.length
   have e2:=Y.length
   have sz:((bj (min its.toArray.size its'.toArray.size)).all e&&its.toArray.size==its'.toArray.size)=z:=by
    rw[<-G,Bool.and_comm,show its.toArray.size=l.length by simp;omega,show its'.toArray.size=m.length by simp;omega]
   have key:=SeqAt.RcAt.tuples (A:=A) (s:=sh) (e:=e) t1 t2 hr.units0 (C d1 Y v1 Z hr.in1 he)
   have J:=SeqAt.RcNeAt.tuples (A:=A) (s:=sh) (e:=e) t1 t2 hr.units0 (C d1 Y v1 Z hr.in1 he)
   rw[sz]at key J
   refine⟨?_,key,J⟩
   by_cases hab:p=q
   ·subst hab
    rw[aM9 I hK R _ _ _ _ _ hz h1 h2]
    exact iH _
   ·exact jR hab key
  ·rename_i p q
   split at h
   ·rename_i l m hl hm
    obtain⟨xs,e1,d1⟩:=R.addr hl
    obtain⟨ys,e2,Y⟩:=R.addr hm
    have ex:=h1.refE
    have ey:=h2.refE
    subst ex;subst ey
    cases r1;cases r2
    obtain⟨its,v1,t1,_⟩:=I.list (SqL.of e1)
    obtain⟨its',Z,t2,_⟩:=I.list (SqL.of e2)
    have l1:=v1.length
    have l2:=Z.length
    have c1:=d1.length
    have c2:=Y.length
    have fin:Cmp A sh (.ref (φ p)) (.ref (φ q)) z:=by
     split at h
     ·rename_i a1
      obtain⟨e,he,G⟩:=aU2 h
      have sz:(bj its.toArray.size).all e=z:=by
       rw[<-G,show its.toArray.size=l.length by simp;omega,a1]
       simp
      have key:=SeqAt.RcAt.lists (A:=A) (s:=sh) (e:=e) t1.isList t2.isList (by simp;omega) hr.units0 (C d1 Y v1 Z hr.in1 he)
      have J:=SeqAt.RcNeAt.lists (A:=A) (s:=sh) (e:=e) t1.isList t2.isList (by simp;omega) hr.units0 (C d1 Y v1 Z hr.in1 he)
      rw[sz]at key J
      exact⟨key,J⟩
     ·rename_i a1
      cases h
      have hs:(its.toArray.size != its'.toArray.size)=true:=by simp;omega
      exact⟨SeqAt.RcAt.lists_lengths t1.isList t2.isList hs hr.units0,SeqAt.RcNeAt.lists_lengths t1.isList t2.isList hs hr.units0⟩
    refine⟨?_,fin⟩
    by_cases hab:φ p=φ q
    ·rw[aM9 I hK R _ _ _ _ _ hz RV.refI (by rw[hab];exact RV.refI),hab]
     exact iH _
    ·exact jR hab fin.rc
   ·cases h
  ·exact aC7 I hK R h h1 h2 r1 r2 hr.units0
end
variable {Γ:Gm} {X:Cx}
noncomputable def bX6:nT->Operator
 | .add=>.Add|.sub=>.Sub|.mul=>.Mult|.fdiv=>.FloorDiv|.mod=>.Mod|.pow=>.Pow|.shl=>.LShift|.shr=>.RShift|.band=>.BitAnd|.bor=>.BitOr
noncomputable def at0:ny->CmpOp
 | .eq=>.Eq|.ne=>.NotEq|.lt=>.Lt|.le=>.LtE|.gt=>.Gt|.ge=>.GtE|.isin=>.In|.notin=>.NotIn
def rOp (Γ:Gm)(f:lV->lV->lU->l7 lV):R2:=λ x y H Q=>∃ φ s a b d s',Rp Γ φ H s/\RV Γ φ H a x/\RV Γ φ H b y/\a.bnd s.length=true/\b.bnd s.length=true/\f a b s=.ok d s'/\aj4 Γ φ s H d s' Q
theorem zT {d e:lV}{s t:lU}(h:nK d s=.ok e t):d=e/\s=t:=by
 unfold nK at h
 cases h
 exact⟨rfl,rfl⟩
theorem zQ {o:mM}{e:lV}{s t:lU}(h:mZ o s=.ok e t):e=.ref s.length/\t=s++[o]:=by
 unfold mZ at h
 cases h
 exact⟨rfl,rfl⟩
theorem by1 (a b:List Nat):(⟨a.toArray⟩:Str)++⟨b.toArray⟩=⟨(a++b).toArray⟩:=by
 show Str.append _ _=_
 unfold Str.append
 simp
theorem qc:l8<=aI:=by rw[c6];decide
theorem bt2:OpR X (cC .Mult) (rI (λ i j=>DV.mulOk i j=true) λ i j=>.int (i*j)):=opI λ i j _ _ _ _ _ hc q=>mul_int q (by
 unfold DV.mulOk at hc
 simp only[cx,ak,decide_eq_true_eq]at hc
 rcases hc with(h|h)|⟨y,z⟩
 ·exact bT9.ok (.inl (by omega))
 ·exact bT9.ok (.inr (by omega))
 ·unfold DV.BIG at y z
  exact IntMulOk.of_le (m:=60000) (n:=60000) (intBits_le_iff.mpr y) (intBits_le_iff.mpr z) (by decide))
theorem aK6 (l:List Nat):∀(n:Nat) (h:Array Nat),(aG n l.toArray).foldl (·++·) h=h++(mB n l).toArray
 | 0,h=>by simp[mB]
 | n+1,h=>by
  rw[ci,dD,aK6 l n]
  simp[mB,jE]
theorem bC3 (l:List Nat):mB 1 l=l:=by simp[mB]
theorem aT8:∀ n,mB n []=[]
 | 0=>rfl
 | n+1=>by simp[mB,aT8 n]
theorem rep_len (l:List Nat):∀ n,(mB n l).length=l.length*n
 | 0=>by simp[mB]
 | n+1=>by simp[mB,rep_len l n,kI];omega
theorem bz4:OpR X (cC .Mult) (λ x y H Q=>∃(l:List Nat) (n:Int),x=.str ⟨l.toArray⟩/\y=.int n/\(0<=n/\n<=1000000/\l.length*n.toNat<=l8)/\Q (.str ⟨(mB n.toNat l).toArray⟩) H):=by
 intro G s σ H x y v u Q I rx ry h
 obtain⟨l,n,rfl,rfl,⟨h0,J,Z⟩,q⟩:=h
 obtain⟨t,rfl⟩:=rx
 obtain⟨t',rfl⟩:=ry
 have z:(⟨l.toArray⟩:Str).length=l.length:=by show l.toArray.size=_;simp
 have hL:=qc
 have Y:=ar6
 refine SB.mul ⟨?_,λ hn _=>?_,λ hn _=>?_⟩ λ t2 k=>?_
 ·rw[decide_eq_false (by omega),decide_eq_false (by omega)];rfl
 ·rw[z]
  have C:1<=n:=by omega
  intro a1
  have h3:(l.length:Int)*n<=1000000:=by
   have:((l.length*n.toNat:Nat):Int)<=(l8:Nat):=Int.ofNat_le.mpr Z
   rw[kL,fK h0]at this
   have e:((l8:Nat):Int)=1000000:=by unfold l8;rfl
   omega
  have h4:(l.length:Int)<=1000000:=by
   have:(l.length:Int)*1<=(l.length:Int)*n:=fy C (by omega)
   omega
  have h5:(1000000:Int)<=(2^63 - 1) / n:=by
   rw[Int.le_ediv_iff_mul_le (by omega)]
   have:(1000000:Int)*n<=1000000*1000000:=fy J (by omega)
   omega
  omega
 ·rw[z]
  unfold la
  exact decide_eq_false (by omega)
 ·have e:Txt.mul ⟨l.toArray⟩ n=⟨(mB n.toNat l).toArray⟩:=by
   unfold Txt.mul
   split
   ·have:n.toNat=0:=by omega
    rw[this];rfl
   ·split
    ·rename_i hc
     rw[cx]at hc
     rcases hc with hc|hc
     ·have:n=1:=by simpa using hc
      subst this
      show(⟨l.toArray⟩:Str)=⟨(mB 1 l).toArray⟩
      rw[bC3]
     ·have:l=[]:=by
       have:=eq_of_beq hc
       rw[z]at this
       exact cj.mp this
      subst this
      rw[aT8]
    ·show(⟨(aG n.toNat l.toArray).foldl (·++·) #[]⟩:Str)=_
     rw[aK6];simp
  rw[e]
  exact⟨.str _,H,I.tok _,⟨_,rfl⟩,q⟩
theorem as3 {n:Nat}{l:List lV}(h:lW n l=true):∀ k,lW n (mY k l)=true
 | 0=>rfl
 | k+1=>zv h (as3 h k)
theorem RVL.repD {φ:Nat->Addr}{H:Hp}{l:List lV}{y:List V}(h:RVL Γ φ H l y):∀ k,RVL Γ φ H (mY k l) (as4 k y)
 | 0=>RVL.nil
 | k+1=>h.append (RVL.repD h k)
theorem aD1 {α:Type}(h:List α):∀ k,as4 k h=(aG k h).flatten
 | 0=>rfl
 | k+1=>by rw[ci,dP,<-aD1 h k];rfl
theorem bS1 (hK:X.K=Γ.K)(op:nT):OpR X (cC (bX6 op)) (rOp Γ (DV.qB op)):=by
 intro G s σ H x y v u Q I Z Y h
 obtain⟨φ,st,a,b,d,a1,R,ha,hb,na,nb,C,q⟩:=h
 cases op with
 | add =>
  cases a with
  | int a =>
   cases b with
   | int b =>
    change(nK _) st=_ at C
    obtain⟨rfl,rfl⟩:=zT C
    have ex:=ha.intE;have J:=hb.intE;subst ex;subst J
    exact bM2 G s σ H _ _ v u Q I Z Y ⟨_,_,rfl,rfl,q.here R rfl RV.intI⟩
   | _=>exact fb C
  | str a =>
   cases b with
   | str b =>
    change(if _ then _ else _:nk lV) st=_ at C
    split at C
    ·rename_i hl
     obtain⟨rfl,rfl⟩:=zT C
     have ex:=ha.strE;have J:=hb.strE;subst ex;subst J
     refine aQ6 G s σ H _ _ v u Q I Z Y ⟨_,_,rfl,rfl,?_,?_⟩
     ·show a.toArray.size+b.toArray.size<=_
      simp only[ar]
      exact ao hl qc
     ·rw[by1];exact q.here R rfl (RV.strI (by rw[aw];exact hl))
    ·exact fb C
   | _=>exact fb C
  | tup a =>
   cases b with
   | tup b =>
    change(if _ then _ else _:nk lV) st=_ at C
    split at C
    ·rename_i hl
     obtain⟨rfl,rfl⟩:=zT C
     obtain⟨p,xs,⟨rfl,z1⟩,h1,d1⟩:=ha.tupZ
     obtain⟨p',ys,⟨rfl,z2⟩,h2,d2⟩:=hb.tupZ
     refine ba2 hK G s σ H _ _ v u Q I Z Y ⟨p,p',xs,ys,rfl,rfl,h1,h2,?_,λ t H' e ht hn=>?_⟩
     ·rw[d1.length,d2.length];exact ao hl qc
     ·obtain⟨g,r'⟩:=R.same e
      unfold lZ at na nb
      refine q _ _ _ g (aj _) (by unfold lZ;exact zv na nb) (RV.tupC ht (λ z=>?_) ((RVL.mono g _ _ na d1).append (RVL.mono g _ _ nb d2))) r'
      rcases hn with hn|⟨rfl,rfl⟩|⟨rfl,rfl⟩
      ·exact hn
      ·rw[d2.tonil,bK]at z;rw[bK];exact e _ _ (z1 z)
      ·rw[d1.tonil]at z;exact e _ _ (z2 z)
    ·exact fb C
   | _=>exact fb C
  | ref a =>
   cases b with
   | ref b =>
    change(match st[a]?,st[b]? with|some (DV.O.lst l),some (DV.O.lst m)=>if l.length+m.length<=l8 then mZ (.lst (l++m)) st else .bad|_,_=>.bad:l7 lV)=_ at C
    split at C
    ·rename_i l m h1 h2
     split at C
     ·rename_i hl
      obtain⟨rfl,rfl⟩:=zQ C
      obtain⟨xs,e1,d1⟩:=R.addr h1
      obtain⟨ys,e2,d2⟩:=R.addr h2
      have ex:=ha.refE;have J:=hb.refE;subst ex;subst J
      have b1:=R.wf _ _ h1
      have b2:=R.wf _ _ h2
      unfold l6 at b1 b2
      refine bO1 G s σ H _ _ v u Q I Z Y ⟨φ a,φ b,xs,ys,rfl,rfl,e1,e2,?_,λ p hp=>?_⟩
      ·rw[d1.length,d2.length];exact ao hl qc
      ·exact q.alloc R (d1.append d2) (zv b1 b2) hp
     ·exact fb C
    ·exact fb C
   | _=>exact fb C
  | _=>exact fb C
 | sub =>
  cases a with
  | int a =>
   cases b with
   | int b =>
    change(nK _) st=_ at C
    obtain⟨rfl,rfl⟩:=zT C
    have ex:=ha.intE;have J:=hb.intE;subst ex;subst J
    exact bQ7 G s σ H _ _ v u Q I Z Y ⟨_,_,rfl,rfl,q.here R rfl RV.intI⟩
   | _=>exact fb C
  | _=>exact fb C
 | mul =>
  cases a with
  | int a =>
   cases b with
   | int b =>
    change(if _ then _ else _:nk lV) st=_ at C
    split at C
    ·rename_i hc
     obtain⟨rfl,rfl⟩:=zT C
     have ex:=ha.intE;have J:=hb.intE;subst ex;subst J
     exact bt2 G s σ H _ _ v u Q I Z Y ⟨_,_,rfl,rfl,hc,q.here R rfl RV.intI⟩
    ·exact fb C
   | _=>exact fb C
  | str a =>
   cases b with
   | int b =>
    change(if _ then _ else _:nk lV) st=_ at C
    split at C
    ·rename_i hc
     obtain⟨rfl,rfl⟩:=zT C
     have ex:=ha.strE;have J:=hb.intE;subst ex;subst J
     exact bz4 G s σ H _ _ v u Q I Z Y ⟨_,_,rfl,rfl,hc,q.here R rfl (RV.strI (by rw[rep_len];exact hc.2.2))⟩
    ·exact fb C
   | _=>exact fb C
  | tup a =>
   cases b with
   | int b =>
    change(if _ then _ else _:nk lV) st=_ at C
    split at C
    ·rename_i hc
     obtain⟨rfl,rfl⟩:=zT C
     obtain⟨p,xs,⟨rfl,z1⟩,h1,d1⟩:=ha.tupZ
     have J:=hb.intE;subst J
     refine bA0 hK G s σ H _ _ v u Q I Z Y ⟨p,xs,_,rfl,rfl,h1,⟨hc.1,hc.2.1,by rw[d1.length];exact hc.2.2⟩,λ t H' e ht hn=>?_⟩
     obtain⟨g,r'⟩:=R.same e
     unfold lZ at na
     refine q _ _ _ g (aj _) (by unfold lZ;exact as3 na _) (RV.tupC ht (λ z=>?_) (RVL.repD (RVL.mono g _ _ na d1) _)) r'
     rcases hn with hn|⟨rfl,ex⟩
     ·exact hn
     ·rw[ex];exact e _ _ (z1 (bv8 z))
    ·exact fb C
   | _=>exact fb C
  | ref a =>
   cases b with
   | int b =>
    change(match st[a]? with|some (DV.O.lst l)=>if 0<=b/\b<=1000000/\l.length*b.toNat<=l8 then mZ (.lst (mY b.toNat l)) st else .bad|_=>.bad:l7 lV)=_ at C
    split at C
    ·rename_i l h1
     split at C
     ·rename_i hc
      obtain⟨rfl,rfl⟩:=zQ C
      obtain⟨xs,e1,d1⟩:=R.addr h1
      have ex:=ha.refE;have J:=hb.intE;subst ex;subst J
      have b1:=R.wf _ _ h1
      unfold l6 at b1
      refine bG6 G s σ H _ _ v u Q I Z Y ⟨φ a,b,xs,rfl,rfl,e1,by omega,by omega,?_,λ p hp=>?_⟩
      ·rw[d1.length];exact ao hc.2.2 qc
      ·rw[<-aD1];exact q.alloc R (RVL.repD d1 _) (as3 b1 _) hp
     ·exact fb C
    ·exact fb C
   | _=>exact fb C
  | _=>exact fb C
 | fdiv =>
  cases a with
  | int a =>
   cases b with
   | int b =>
    change(if _ then _ else _:nk lV) st=_ at C
    split at C
    ·rename_i hc
     obtain⟨rfl,rfl⟩:=zT C
     have ex:=ha.intE;have J:=hb.intE;subst ex;subst J
     refine bl8 G s σ H _ _ v u Q I Z Y ⟨_,_,rfl,rfl,⟨hc.1,?_⟩,q.here R rfl RV.intI⟩
     have:=hc.2
     unfold DV.DIVL at this
     simpa using this
    ·exact fb C
   | _=>exact fb C
  | _=>exact fb C
 | mod =>
  cases a with
  | int a =>
   cases b with
   | int b =>
    change(if _ then _ else _:nk lV) st=_ at C
    split at C
    ·rename_i hc
     obtain⟨rfl,rfl⟩:=zT C
     have ex:=ha.intE;have J:=hb.intE;subst ex;subst J
     exact bF4 G s σ H _ _ v u Q I Z Y ⟨_,_,rfl,rfl,hc,q.here R rfl RV.intI⟩
    ·exact fb C
   | _=>exact fb C
  | _=>exact fb C
 | pow =>
  cases a with
  | int a =>
   cases b with
   | int b =>
    change(if _ then _ else _:nk lV) st=_ at C
    split at C
    ·rename_i hc
     obtain⟨rfl,rfl⟩:=zT C
     have ex:=ha.intE;have J:=hb.intE;subst ex;subst J
     exact bM6 G s σ H _ _ v u Q I Z Y ⟨_,_,rfl,rfl,hc,q.here R rfl RV.intI⟩
    ·exact fb C
   | _=>exact fb C
  | _=>exact fb C
 | shl =>
  cases a with
  | int a =>
   cases b with
   | int b =>
    change(if _ then _ else _:nk lV) st=_ at C
    split at C
    ·rename_i hc
     obtain⟨rfl,rfl⟩:=zT C
     have ex:=ha.intE;have J:=hb.intE;subst ex;subst J
     exact bK7 G s σ H _ _ v u Q I Z Y ⟨_,_,rfl,rfl,hc,q.here R rfl RV.intI⟩
    ·exact fb C
   | _=>exact fb C
  | _=>exact fb C
 | shr =>
  cases a with
  | int a =>
   cases b with
   | int b =>
    change(if _ then _ else _:nk lV) st=_ at C
    split at C
    ·rename_i hc
     obtain⟨rfl,rfl⟩:=zT C
     have ex:=ha.intE;have J:=hb.intE;subst ex;subst J
     exact bN9 G s σ H _ _ v u Q I Z Y ⟨_,_,rfl,rfl,hc,q.here R rfl RV.intI⟩
    ·exact fb C
   | _=>exact fb C
  | _=>exact fb C
 | band =>
  cases a with
  | int a =>
   cases b with
   | int b =>
    change(if _ then _ else _:nk lV) st=_ at C
    split at C
    ·rename_i hc
     obtain⟨rfl,rfl⟩:=zT C
     have ex:=ha.intE;have J:=hb.intE;subst ex;subst J
     exact bx6 G s σ H _ _ v u Q I Z Y ⟨_,_,rfl,rfl,hc,q.here R rfl RV.intI⟩
    ·exact fb C
   | _=>exact fb C
  | _=>exact fb C
 | bor=>exact fb C
variable {Γ:Gm} {X:Cx} {pins:List (Addr×Obj)} {σ:St} {H:Hp} {sh:ai} {φ:Nat->Addr} {s:lU}
theorem aP5 {n:Nat}{a b:lV}{z:Bool}(h:l9 s n a b=some z):mF s a≠9:=by
 cases n with
 | zero=>unfold l9 at h;exact(ak7 h).1
 | succ n =>
  unfold l9 at h
  split at h
  ·simp[mF]
  ·split at h
   ·rename_i y _;simp[mF,y]
   ·cases h
  ·exact(ak7 h).1
theorem aU8 (I:Inv X pins σ H sh)(G:X.K=Γ.K)(R:Rp Γ φ H s):∀(n:Nat) (a b c:lV) (x:V) (p q:Bool),RV Γ φ H a x->RV Γ φ H b x->l9 s n a c=some p->l9 s n b c=some q->p=q:=by
 intro n
 induction n with
 | zero =>
  intro a b c x p q y h e1 e2
  rcases rv_two I G R y h (aP5 e1) (aP5 e2)with e|⟨l,m,_,_,rfl,rfl,_⟩
  ·subst e;rw[e1]at e2;exact aA e2
  ·unfold l9 at e1 e2
   have:mG s (.tup l) c=mG s (.tup m) c:=by unfold mG;cases c<;>rfl
   rw[this,e2]at e1;exact(aA e1).symm
 | succ n ih =>
  have C:∀(l m k:List lV) (z:List V) (p q:Bool),RVL Γ φ H l z->RVL Γ φ H m z->mz (l9 s n) l k=some p->mz (l9 s n) m k=some q->p=q:=by
   intro l
   induction l with
   | nil =>
    intro m k z p q y h e1 e2
    have:=y.unnil;subst this
    have hm:m=[]:=by have:=h.length;exact cj.mp this.symm
    subst hm
    rw[e1]at e2;exact aA e2
   | cons a l ihl =>
    intro m k z p q y h e1 e2
    obtain⟨x,r,rfl,g1,Z⟩:=y.uncons
    cases m with
    | nil=>have:=h.unnil;cases this
    | cons b m =>
     obtain⟨x',r',e,g3,g4⟩:=h.uncons
     cases e
     cases k with
     | nil=>unfold mz at e1 e2;rw[<-aA e1,<-aA e2]
     | cons c k =>
      obtain⟨p1,Y,a1,a2,a3⟩:=ap0 e1
      obtain⟨q1,q2,b1,b2,b3⟩:=ap0 e2
      rw[a3,b3,ih a b c x p1 q1 g1 g3 a1 b1,ihl m k r Y q2 Z g4 a2 b2]
  intro a b c x p q y h e1 e2
  rcases rv_two I G R y h (aP5 e1) (aP5 e2)with e|⟨l,m,_,z,rfl,rfl,_,d1,J⟩
  ·subst e;rw[e1]at e2;exact aA e2
  ·cases c with
   | tup k=>unfold l9 at e1 e2;exact C l m k z p q d1 J e1 e2
   | _ =>
    unfold l9 at e1 e2
    simp only at e1 e2
    have e3:mG s (.tup l)=mG s (.tup m):=by funext c;unfold mG;cases c<;>rfl
    rw[e3]at e1
    exact aA (e1.symm.trans e2)
theorem bo6 {x:lV}:∀ {l:List lV} {z:Bool},m7 s x l=some z->∃ e:Nat->Bool,(∀ j d,l[j]?=some d->l9 s mw d x=some (e j))/\(z=true↔∃ j,j<l.length/\e j=true)
 | [],z,h=>by
  unfold m7 at h
  cases h
  exact⟨λ _=>true,λ j d h=>by simp at h,by simp⟩
 | y::l,z,h=>by
  unfold m7 at h
  cases e1:l9 s mw y x with
  | none=>rw[e1]at h;cases h
  | some a =>
   cases e2:m7 s x l with
   | none=>rw[e1,e2]at h;cases h
   | some b =>
    rw[e1,e2]at h
    obtain⟨e,G,C⟩:=bo6 e2
    refine⟨λ j=>match j with|0=>a|j+1=>e j,λ j d g=>?_,?_⟩
    ·cases j with
     | zero=>simp at g;subst g;exact e1
     | succ j=>exact G j d (by simpa using g)
    ·have hz:(a||b)=z:=aA h
     rw[<-hz,cx,C]
     constructor
     ·rintro(q|⟨j,hj,q⟩)
      ·exact⟨0,by simp,q⟩
      ·exact⟨j+1,by simpa using hj,q⟩
     ·rintro⟨j,hj,q⟩
      cases j with
      | zero=>exact .inl q
      | succ j=>exact .inr ⟨j,by simpa using hj,q⟩
theorem bn3 (I:Inv X pins σ H sh)(hK:X.K=Γ.K)(R:Rp Γ φ H s){x:lV}{xv:V}{xu:Value}(hx:RV Γ φ H x xv)(rx:RelV xv xu){l:List lV}{ys:List V}{its:List Value}(hl:RVL Γ φ H l ys)(hv:Vals ys its){z:Bool}(h:m7 s x l=some z){A:a0}(hr:Room mw A) :
  ∃ e:Value->Bool,(∀ y,y∈its.toArray->iw A sh y xu (e y))/\its.toArray.any e=z:=by
 obtain⟨e,h1,h2⟩:=bo6 h
 have len:its.length=l.length:=by rw[<-hv.length];exact hl.length
 have C:∀ j u,its[j]?=some u->∃ d y,l[j]?=some d/\ys[j]?=some y/\RV Γ φ H d y/\RelV y u:=λ j u g=>by
  have hj:j<l.length:=by rw[<-len];exact(ac.mp g).1
  obtain⟨y,g1,Z⟩:=hl.get (ag hj)
  obtain⟨u',G,Y⟩:=hv.get g1
  rw[g]at G;cases G
  exact⟨_,y,ag hj,g1,Z,Y⟩
 classical
 let f:Value->Bool:=λ u=>decide (∃ j,its[j]?=some u/\e j=true)
 have hf:∀ j u,its[j]?=some u->f u=e j:=λ j u g=>by
  obtain⟨d,y,g1,Z,G,Y⟩:=C j u g
  cases q:e j with
  | true=>exact decide_eq_true ⟨j,g,q⟩
  | false =>
   refine decide_eq_false λ⟨k,g',q'⟩=>?_
   obtain⟨d',y',k1,k2,k3,k4⟩:=C k u g'
   have ey:y'=y:=k4.inj Y
   subst ey
   have:=aU8 I hK R _ d d' x _ _ _ G k3 (h1 j d g1) (h1 k d' k1)
   rw[q,q']at this;cases this
 refine⟨f,λ u hu=>?_,?_⟩
 ·obtain⟨j,hj,g⟩:=cJ.mp (by simpa using hu:u∈its)
  have g':its[j]?=some u:=by rw[ag hj,g]
  obtain⟨d,y,g1,Z,G,Y⟩:=C j u g'
  rw[hf j u g']
  exact(aZ1 I hK R _ d x y xv u xu A _ (h1 j d g1) G hx Y rx hr).1
 ·have e1:its.toArray.any f=true↔z=true:=by
   rw[h2,List.any_toArray,dj]
   constructor
   ·rintro⟨u,hu,q⟩
    obtain⟨j,hj,g⟩:=cJ.mp hu
    have g':its[j]?=some u:=by rw[ag hj,g]
    exact⟨j,by omega,by rw[<-hf j u g'];exact q⟩
   ·rintro⟨j,hj,q⟩
    have J:j<its.length:=by omega
    exact⟨its[j],dZ J,by rw[hf j _ (ag J)];exact q⟩
  cases z<;>cases q:its.toArray.any f
  ·rfl
  ·have:=e1.mp q;cases this
  ·rw[q]at e1;have:=e1.mpr rfl;cases this
  ·rfl
variable {Γ:Gm} {X:Cx}
theorem aa0 {α β:Type}{r:l7 α}{f:α->lU->l7 β}{b:β}{t:lU}(h:r.bind f=.ok b t):∃ a s,r=.ok a s/\f a s=.ok b t:=DV.R.bind_inv h
theorem bp5 (hK:X.K=Γ.K)(hr:Room (mw+1) X.A)(C:Bool){J:List (Addr×Obj)}{sh:ai}{σ:St}{H:Hp}{x y:V}{v u:Value}{φ:Nat->Addr}{st a1:lU}{a b:lV}{z:Bool}
  (I:Inv X J σ H sh) (Z:RelV x v) (ry:RelV y u) (R:Rp Γ φ H st) (ha:RV Γ φ H a x) (hb:RV Γ φ H b y) (h:nM a b st=.ok z a1) :
  a1=st/\∀ Q:Value->ai->Prop,(∀ a2,Inv X J σ H a2->Q (.bool (if C then !z else z)) a2)->wpAny (model X.prog X.w) X.A (cK (if C then .NotIn else .In) v u) Q X.xe sh:=by
 unfold nM at h
 cases b with
 | tup l =>
  simp only at h
  cases e:m7 st a l with
  | none=>rw[e]at h;cases h
  | some w =>
   rw[e]at h
   cases h
   obtain⟨p,ys,rfl,q,d⟩:=hb.tupE
   cases ry
   rw[<-hK]at q
   obtain⟨its,rv,t,_⟩:=I.tuple q
   obtain⟨f,h1,h2⟩:=bn3 I hK R ha Z d rv e (A:=X.A.in1) hr.in1
   refine⟨rfl,λ Q hq=>?_⟩
   cases C with
   | false=>exact SeqAt.in_tupleAt f t h1 (by rw[h2];exact hq _ I)
   | true=>exact SeqAt.notIn_tupleAt f t h1 (by rw[h2];exact hq _ I)
 | str y0 =>
  simp only at h
  split at h
  case h_2=>exact fb h
  rename_i c
  cases h
  refine⟨rfl,λ Q hq=>?_⟩
  have e1:=ha.strE
  have e2:=hb.strE
  subst e1 e2
  obtain⟨t1,rfl⟩:=Z
  obtain⟨t2,rfl⟩:=ry
  have a4:=lu (⟨y0.toArray⟩:Str) c
  cases C with
  | false=>exact in_str (by rw[show(⟨[c].toArray⟩:Str)=⟨#[c]⟩from rfl,a4];simpa using hq _ I)
  | true=>exact notIn_str (by rw[show(⟨[c].toArray⟩:Str)=⟨#[c]⟩from rfl,a4];simpa using hq _ I)
 | ref r =>
  simp only at h
  cases hs:st[r]? with
  | none=>rw[hs]at h;cases h
  | some o =>
   rw[hs]at h
   cases o with
   | lst l =>
    simp only at h
    cases e:m7 st a l with
    | none=>rw[e]at h;cases h
    | some w =>
     rw[e]at h
     cases h
     obtain⟨ys,e1,d⟩:=R.addr hs
     have ey:=hb.refE;subst ey
     cases ry
     obtain⟨its,rv,t,_⟩:=I.list (SqL.of e1)
     obtain⟨f,h1,h2⟩:=bn3 I hK R ha Z d rv e (A:=X.A.in1) hr.in1
     refine⟨rfl,λ Q hq=>?_⟩
     cases C with
     | false=>exact SeqAt.in_listAt f t.isList h1 (by rw[h2];exact hq _ I)
     | true=>exact SeqAt.notIn_listAt f t.isList h1 (by rw[h2];exact hq _ I)
   | dic l =>
    simp only at h
    split at h
    case isFalse=>exact fb h
    rename_i G
    cases h
    obtain⟨k,hk⟩:=ao5 G
    obtain⟨Y,e1,d⟩:=R.obj r _ hs
    have ey:=hb.refE;subst ey
    cases ry
    have ex:=aA9 hk ha;subst ex
    have ez:(mN a l).isSome=(aF6 Y k).isSome:=by
     rcases d.val keyOf_inj hk with⟨q1,q2⟩|⟨_,_,q1,q2,_⟩<;>rw[q1,q2]<;>rfl
    refine⟨rfl,λ Q hq=>?_⟩
    rw[ez]at hq
    cases C with
    | false=>exact cd3 (aG4 hr) I (ax3.k e1) Z hq
    | true=>exact aW0 (aG4 hr) I (ax3.k e1) Z hq
   | dit l =>
    simp only at h
    split at h
    case isFalse=>exact fb h
    rename_i G
    cases h
    obtain⟨k,hk⟩:=al1 G
    obtain⟨Y,e1,d⟩:=R.obj r _ hs
    have ey:=hb.refE;subst ey
    cases ry
    obtain⟨kb,ex,a3⟩:=ay5 hk ha;subst ex
    have ez:(mN a l).isSome=(aF6 Y k).isSome:=by
     rcases d.val keyT_inj hk with⟨q1,q2⟩|⟨_,_,q1,q2,_⟩<;>rw[q1,q2]<;>rfl
    refine⟨rfl,λ Q hq=>?_⟩
    rw[ez]at hq
    cases C with
    | false=>exact cd3 (aG4 hr) I (ax3.t e1 a3) Z hq
    | true=>exact aW0 (aG4 hr) I (ax3.t e1 a3) Z hq
   | ro l=>exact fb h
   | ins c l=>exact fb h
 | _=>exact fb h
theorem ay6 {op:ny}{a b d:lV}{st y:lU}(ho:op=.lt\/op=.le\/op=.gt\/op=.ge)(h:DV.qx op a b st=.ok d y):∃ i j,a=.int i/\b=.int j:=by
 rcases ho with rfl|rfl|rfl|rfl <;>
 (cases a with
 | int i =>
  (cases b with
  | int j=>exact⟨i,j,rfl,rfl⟩
  | _=>cases h)
 | _=>cases h)
theorem aY5 (hK:X.K=Γ.K)(hr:Room (mw+1) X.A)(op:ny):OpR X (cK (at0 op)) (rOp Γ (DV.qx op)):=by
 intro G s σ H x y v u Q I Z Y h
 obtain⟨φ,st,a,b,d,J,R,ha,hb,na,nb,C,q⟩:=h
 cases op with
 | eq =>
  have C:DV.eqM a b st=.ok d J:=C
  unfold DV.eqM at C
  cases e:l9 st mw a b with
  | none=>rw[e]at C;cases C
  | some z =>
   rw[e]at C;cases C
   exact(aZ1 I hK R _ a b x y v u X.A z e ha hb Z Y (hr.mono (by omega))).2.rc X.prog X.w X.xe _ ⟨.bl z,H,I,rfl,q.here R rfl RV.blI⟩
 | ne =>
  have C:(match l9 st mw a b with|some r=>.ok (.bl (!r)) st|none=>.bad:l7 lV)=.ok d J:=C
  cases e:l9 st mw a b with
  | none=>rw[e]at C;cases C
  | some z =>
   rw[e]at C;cases C
   exact(aZ1 I hK R _ a b x y v u X.A z e ha hb Z Y (hr.mono (by omega))).2.ne X.prog X.w X.xe _ ⟨.bl (!z),H,I,rfl,q.here R rfl RV.blI⟩
 | lt =>
  obtain⟨i,j,rfl,rfl⟩:=ay6 (.inl rfl) C
  cases C
  have ex:=ha.intE;have ey:=hb.intE;subst ex;subst ey
  exact ca4 G s σ H _ _ v u Q I Z Y ⟨_,_,rfl,rfl,q.here R rfl RV.blI⟩
 | le =>
  obtain⟨i,j,rfl,rfl⟩:=ay6 (.inr (.inl rfl)) C
  cases C
  have ex:=ha.intE;have ey:=hb.intE;subst ex;subst ey
  exact ca3 G s σ H _ _ v u Q I Z Y ⟨_,_,rfl,rfl,q.here R rfl RV.blI⟩
 | gt =>
  obtain⟨i,j,rfl,rfl⟩:=ay6 (.inr (.inr (.inl rfl))) C
  cases C
  have ex:=ha.intE;have ey:=hb.intE;subst ex;subst ey
  exact bX2 G s σ H _ _ v u Q I Z Y ⟨_,_,rfl,rfl,q.here R rfl RV.blI⟩
 | ge =>
  obtain⟨i,j,rfl,rfl⟩:=ay6 (.inr (.inr (.inr rfl))) C
  cases C
  have ex:=ha.intE;have ey:=hb.intE;subst ex;subst ey
  exact bW2 G s σ H _ _ v u Q I Z Y ⟨_,_,rfl,rfl,q.here R rfl RV.blI⟩
 | isin =>
  have C:(nM a b st).bind (λ r s=>.ok (.bl r) s)=.ok d J:=C
  obtain⟨z,s1,e1,e2⟩:=aa0 C
  obtain⟨rfl,w⟩:=bp5 hK hr false I Z Y R ha hb e1
  cases e2
  exact w _ λ s' I'=>⟨.bl z,H,I',rfl,q.here R rfl RV.blI⟩
 | notin =>
  have C:(nM a b st).bind (λ r s=>.ok (.bl (!r)) s)=.ok d J:=C
  obtain⟨z,s1,e1,e2⟩:=aa0 C
  obtain⟨rfl,w⟩:=bp5 hK hr true I Z Y R ha hb e1
  cases e2
  exact w _ λ s' I'=>⟨.bl (!z),H,I',rfl,q.here R rfl RV.blI⟩
theorem bd7 {φ:Nat->Addr}{H:Hp}{l:List lV}{y:List V}{i:Int}{d:lV}(h:RVL Γ φ H l y)(e:((m8 l.length i).bind λ j=>l[j]?)=some d):∃ v,atI y i=some v/\RV Γ φ H d v:=by
 cases hj:m8 l.length i with
 | none=>rw[hj]at e;cases e
 | some j =>
  rw[hj]at e
  obtain⟨v,e1,e2⟩:=h.get (show l[j]?=some d from e)
  refine⟨v,?_,e2⟩
  unfold atI
  have:ixN y.length i=some j:=by rw[h.length];exact hj
  rw[this];exact e1
theorem aG8 {l:List lV}{i:Int}{d:lV}(e:((m8 l.length i).bind λ j=>l[j]?)=some d):d∈l:=by
 cases hj:m8 l.length i with
 | none=>rw[hj]at e;cases e
 | some j=>rw[hj]at e;exact aQ (show l[j]?=some d from e)
theorem bV5 (hK:X.K=Γ.K)(hu:X.A.units+1<cLine):IxR X (rOp Γ DV.ixM):=by
 intro C G J s σ H x y v u Q I rx ry h hs
 obtain⟨φ,st,a,b,d,a4,R,ha,hb,na,nb,z,q⟩:=h
 unfold DV.ixM at z
 cases a with
 | tup l =>
  cases b with
  | int i =>
   simp only at z
   split at z
   ·rename_i d' e
    cases z
    obtain⟨p,xs,rfl,h1,d1⟩:=ha.tupE
    have Y:=hb.intE;subst Y
    obtain⟨w,e1,e2⟩:=bd7 d1 e
    unfold lZ at na
    exact bD1 hK C G J s σ H _ _ v u Q I rx ry ⟨p,xs,i,w,rfl,rfl,h1,e1,q.here R (aa8.mp na _ (aG8 e)) e2⟩ hs
   ·exact fb z
  | _=>exact fb z
 | str l =>
  cases b with
  | int i =>
   simp only at z
   split at z
   ·rename_i c e
    cases z
    have hl:=ha.strL
    have ex:=ha.strE;have Y:=hb.intE;subst ex;subst Y
    exact bH8 C G J s σ H _ _ v u Q I rx ry ⟨⟨l.toArray⟩,i,c,rfl,rfl,by show l.toArray.size<=_;rw[ar];exact ao hl qc,e,q.here R rfl (RV.strI (by simp;decide))⟩ hs
   ·exact fb z
  | _=>exact fb z
 | ref r =>
  have ex:=ha.refE;subst ex
  simp only at z
  cases hsr:st[r]? with
  | none=>rw[hsr]at z;cases z
  | some o =>
   rw[hsr]at z
   cases o with
   | lst l =>
    cases b with
    | int i =>
     simp only at z
     split at z
     ·rename_i d' e
      cases z
      have Y:=hb.intE;subst Y
      obtain⟨xs,e1,d1⟩:=R.addr hsr
      obtain⟨w,e2,e3⟩:=bd7 d1 e
      have wf:=R.wf _ _ hsr
      unfold l6 at wf
      exact aO1 hK C G J s σ H _ _ v u Q I rx ry ⟨φ r,xs,i,w,rfl,rfl,SqL.of e1,e2,q.here R (aa8.mp wf _ (aG8 e)) e3⟩ hs
     ·exact fb z
    | _=>exact fb z
   | ro l =>
    cases b with
    | int i =>
     simp only at z
     split at z
     ·rename_i d' e
      cases z
      have Y:=hb.intE;subst Y
      obtain⟨xs,e1,d1⟩:=R.obj _ _ hsr
      obtain⟨w,e2,e3⟩:=bd7 d1 e
      have wf:=R.wf _ _ hsr
      unfold l6 at wf
      exact aO1 hK C G J s σ H _ _ v u Q I rx ry ⟨φ r,xs,i,w,rfl,rfl,e1.1,e2,q.here R (aa8.mp wf _ (aG8 e)) e3⟩ hs
     ·exact fb z
    | _=>exact fb z
   | dic l =>
    simp only at z
    split at z
    case isFalse=>exact fb z
    rename_i Z
    obtain⟨k,hk⟩:=ao5 Z
    obtain⟨a2,e1,d1⟩:=R.obj r _ hsr
    have Y:=aA9 hk hb;subst Y
    cases rx
    rcases d1.val keyOf_inj hk with⟨q1,_⟩|⟨e,v',q1,q2,q3,q4⟩
    ·rw[q1]at z;cases z
    ·rw[q1]at z
     cases z
     have wf:=R.wf _ _ hsr
     unfold l6 at wf
     rw[ak]at wf
     have g:ax3 H (φ r) (kV k) (some v'):=by rw[<-q2];exact ax3.k e1
     exact j3 (aq8 I g) f9.lookup (aF2 hu I g ry λ w' s' I' a1=>⟨v',H,I',a1,q.here R (aa8.mp wf.2 _ q4) q3⟩) hs
   | dit l =>
    simp only at z
    split at z
    case isFalse=>exact fb z
    rename_i Z
    obtain⟨k,hk⟩:=al1 Z
    obtain⟨a2,e1,d1⟩:=R.obj r _ hsr
    obtain⟨kb,Y,a3⟩:=ay5 hk hb;subst Y
    cases rx
    rcases d1.val keyT_inj hk with⟨q1,_⟩|⟨e,v',q1,q2,q3,q4⟩
    ·rw[q1]at z;cases z
    ·rw[q1]at z
     cases z
     have wf:=R.wf _ _ hsr
     unfold l6 at wf
     rw[ak]at wf
     have g:ax3 H (φ r) (.ref kb) (some v'):=by rw[<-q2];exact ax3.t e1 a3
     exact j3 (aq8 I g) f9.lookup (aF2 hu I g ry λ w' s' I' a1=>⟨v',H,I',a1,q.here R (aa8.mp wf.2 _ q4) q3⟩) hs
   | ins c l=>cases b<;>cases z
 | _=>cases b<;>cases z
theorem aW2 (n d:Nat)(i:Int):HT.sIx n d (some i)=m4 n i:=by
 show(if i<0 then(i+(n:Int)).toNat else min i.toNat n)=_
 unfold m4
 by_cases h:i<0
 ·rw[if_pos h,if_neg (by omega)]
 ·rw[if_neg h,if_pos (by omega)]
theorem bq1 {φ:Nat->Addr}{H:Hp}{l:List lV}{y:List V}(h:RVL Γ φ H l y)(lo hi:Option Int):RVL Γ φ H (mO l lo hi) (aQ2 y lo hi):=by
 unfold mO aQ2
 have e1:HT.sIx y.length 0 lo=m6 l.length lo:=by
  cases lo with
  | none=>rfl
  | some i=>rw[aW2,h.length];rfl
 have e2:HT.sIx y.length y.length hi=nz l.length hi:=by
  cases hi with
  | none=>exact h.length
  | some i=>rw[aW2,h.length];rfl
 rw[e1,e2]
 exact(h.drop _).take _
theorem aL2 {α:Type}{l:List α}{lo hi:Option Int}:∀ d∈mO l lo hi,d∈l:=λ d hd=>jc (jd hd)
theorem bi5 {α:Type}(l:List α)(lo hi:Option Int):(mO l lo hi).length<=l.length:=by
 unfold mO
 rw[bL,dX]
 omega
theorem bZ9 (lo hi:Option Int)(n:Nat):bR lo hi 1 n=(bj (nz n hi - m6 n lo)).map (m6 n lo+·):=by
 rw[<-sliceRange_one]
 unfold bR
 have cl:∀ i:Int,max 0 (min (if i<0 then i+(n:Int)else i) (n:Int))=((m4 n i:Nat):Int):=λ i=>by
  unfold m4
  by_cases h:i<0
  ·rw[if_pos h,if_neg (by omega)];omega
  ·rw[if_neg h,if_pos (by omega)];omega
 simp only[show((1:Int) > 0)=True by simp,if_true]
 cases lo<;>cases hi<;>simp only[cl,m6,nz]<;>rfl
theorem aN8 {l:List Nat}:∀(a k:Nat),a+k<=l.length->((bj k).map (a+·)).filterMap (λ x=>l.toArray[x]?)=(l.drop a).take k
 | a,0,_=>by simp
 | a,k+1,h=>by
  rw[List.range_succ,et,e8,aN8 a k (by omega)]
  have hk:a+k<l.length:=by omega
  rw[List.take_add_one,List.getElem?_drop]
  simp[hk]
theorem aX3 (l:List Nat)(lo hi:Option Int):fG ⟨l.toArray⟩ lo hi=⟨(mO l lo hi).toArray⟩:=by
 unfold fG
 have hn:(⟨l.toArray⟩:Str).length=l.length:=by show l.toArray.size=_;simp
 rw[hn,bZ9]
 have hb:nz l.length hi<=l.length:=by
  cases hi with
  | none=>exact aj _
  | some i=>show m4 l.length i<=_;unfold m4;split<;>omega
 have ha:m6 l.length lo<=l.length:=by
  cases lo with
  | none=>exact cz _
  | some i=>show m4 l.length i<=_;unfold m4;split<;>omega
 unfold mO
 generalize nz l.length hi=b at *
 generalize m6 l.length lo=a at *
 by_cases hc:((1:Int)==1&&((bj (b - a)).map (a+·)).length==l.length)=true
 ·rw[if_pos hc]
  have:b - a=l.length:=by simpa using hc
  have h0:a=0\/l.length=0:=by omega
  rcases h0 with h0|h0
  ·subst h0
   rw[this];simp
  ·have:l=[]:=cj.mp h0
   subst this;simp
 ·rw[if_neg hc]
  by_cases hab:a<=b
  ·have e:=aN8 (l:=l) a (b - a) (by omega)
   show(⟨(i7 (λ x=>l.toArray[x]?) _).toArray⟩:Str)=_
   rw[e]
  ·rw[show b - a=0 by omega];simp
def rSl (Γ:Gm):V->Option Int->Option Int->Hp->VK->Prop:=λ x lo hi H Q=>∃ φ s a d s',Rp Γ φ H s/\RV Γ φ H a x/\a.bnd s.length=true/\nA a lo hi s=.ok d s'/\aj4 Γ φ s H d s' Q
theorem bR0 (hK:X.K=Γ.K):SlR X (rSl Γ):=by
 intro y s σ H x v vl vu lo hi sl Q I Y hs G pu h
 obtain⟨φ,st,a,d,a1,R,ha,J,C,q⟩:=h
 unfold nA at C
 cases a with
 | tup l =>
  cases C
  obtain⟨p,Z,⟨rfl,z1⟩,h1,d1⟩:=ha.tupZ
  unfold lZ at J
  refine bC1 hK y s σ H _ v vl vu lo hi sl Q I Y hs G pu ⟨p,Z,rfl,h1,λ t H' e ht hn=>?_⟩
  obtain⟨g,r'⟩:=R.same e
  have d2:=bq1 (RVL.mono g _ _ J d1) lo hi
  refine q _ _ _ g (aj _) (by unfold lZ;exact ax6 J aL2) (RV.tupC ht (λ z=>?_) d2) r'
  rcases hn with hn|⟨rfl,ex⟩
  ·exact hn
  ·rw[ex]
   refine e _ _ (z1 ?_)
   have hl:(mO l lo hi).length=l.length:=by rw[<-d2.length,ex,d1.length]
   rwa [aZ0 hl]at z
 | str l =>
  cases C
  have hl:=ha.strL
  have ex:=ha.strE;subst ex
  refine bQ3 y s σ H _ v vl vu lo hi sl Q I Y hs G pu ⟨_,rfl,by show l.toArray.size<=_;rw[ar];exact ao hl qc,?_⟩
  rw[aX3]
  exact q.here R rfl (RV.strI (ao (bi5 l lo hi) hl))
 | ref r =>
  have ex:=ha.refE;subst ex
  simp only at C
  cases hsr:st[r]? with
  | none=>rw[hsr]at C;cases C
  | some o =>
   rw[hsr]at C
   cases o with
   | lst l =>
    obtain⟨rfl,rfl⟩:=zQ C
    obtain⟨Z,e1,d1⟩:=R.addr hsr
    have wf:=R.wf _ _ hsr
    unfold l6 at wf
    exact bk1 hK y s σ H _ v vl vu lo hi sl Q I Y hs G pu ⟨φ r,Z,rfl,SqL.of e1,λ p hp=>q.alloc R (bq1 d1 lo hi) (ax6 wf aL2) hp⟩
   | _=>exact fb C
 | _=>exact fb C
variable {Γ:Gm} {X:Cx}
def rCl (Γ:Gm)(f:List lV->lU->l7 lV):List V->Hp->VK->Prop:=λ xs H Q=>∃ φ s l d s',Rp Γ φ H s/\RVL Γ φ H l xs/\lW s.length l=true/\f l s=.ok d s'/\aj4 Γ φ s H d s' Q
theorem RVL.one {φ:Nat->Addr}{H:Hp}{d:lV}{y:List V}(h:RVL Γ φ H [d] y):∃ x,y=[x]/\RV Γ φ H d x:=by
 obtain⟨x,r,rfl,C,z⟩:=h.uncons
 rw[z.unnil];exact⟨x,rfl,C⟩
noncomputable def biN:mU->Option (String×Nat)
 | .len=>some ("len",1)|.abs=>some ("abs",1)|.min2=>some ("min",2)|.max2=>some ("max",2)|_=>none
theorem zU:∀ {l:List lV} {is:List Int},m5 l=some is->l=is.map DV.D.int
 | [],is,h=>by unfold m5 at h;cases h;rfl
 | d::l,is,h=>by
  cases d with
  | int i =>
   have h:(m5 l).map (i::·)=some is:=h
   cases e:m5 l with
   | none=>rw[e]at h;cases h
   | some m=>rw[e]at h;cases h;rw[zU e];rfl
  | _=>cases h
theorem al4:∀ {l:List lV} {is:List Bool},m9 l=some is->l=is.map DV.D.bl
 | [],is,h=>by unfold m9 at h;cases h;rfl
 | d::l,is,h=>by
  cases d with
  | bl i =>
   have h:(m9 l).map (i::·)=some is:=h
   cases e:m9 l with
   | none=>rw[e]at h;cases h
   | some m=>rw[e]at h;cases h;rw[al4 e];rfl
  | _=>cases h
theorem RVL.ints {φ:Nat->Addr}{H:Hp}:∀ {is:List Int} {y:List V},RVL Γ φ H (is.map DV.D.int) y->y=is.map V.int
 | [],_,h=>h.unnil
 | i::is,_,h=>by
  obtain⟨x,r,rfl,C,z⟩:=RVL.uncons h
  rw[C.intE,RVL.ints z];rfl
theorem RVL.bls {φ:Nat->Addr}{H:Hp}:∀ {is:List Bool} {y:List V},RVL Γ φ H (is.map DV.D.bl) y->y=is.map V.bl
 | [],_,h=>h.unnil
 | i::is,_,h=>by
  obtain⟨x,r,rfl,C,z⟩:=RVL.uncons h
  rw[C.blE,RVL.bls z];rfl
theorem aZ3 {f:lV->nk lV}{l:List lV}{s s':lU}{d:lV}(h:nN f l s=.ok d s'):∃ a,l=[a]/\f a s=.ok d s':=by
 match l,h with
 | [a],h=>exact⟨a,rfl,h⟩
 | [],h=>exact fb h
 | _::_::_,h=>exact fb h
theorem bh1 (G:X.K=Γ.K)(hc:X.calm=true){b:mU}{J:String}{k:Nat}(hn:biN b=some (J,k)):ah8 X (.builtin J) (rCl Γ (nS b)):=by
 intro y s σ H xs us Q I r h
 obtain⟨φ,st,l,d,C,R,hl,nl,z,q⟩:=h
 cases b with
 | len =>
  cases hn
  have z:nN DV.bE7 l st=.ok d C:=z
  obtain⟨a,rfl,hg⟩:=aZ3 z
  clear z
  obtain⟨x,rfl,hx⟩:=hl.one
  unfold DV.bE7 at hg
  cases a with
  | tup l =>
   cases hg
   obtain⟨p,ys,rfl,Z,d1⟩:=hx.tupE
   refine as1 G y s σ H _ us Q I r ⟨p,ys,rfl,.inr Z,?_⟩
   rw[d1.length];exact q.here R rfl RV.intI
  | str l =>
   cases hg
   have Y:=hx.strL
   have e:=hx.strE;subst e
   refine aD2 y s σ H _ us Q I r ⟨_,rfl,by show l.toArray.size<=_;rw[ar];exact ao Y qc,?_⟩
   show Q (.int ((l.toArray.size:Nat):Int)) H
   rw[ar]
   exact q.here R rfl RV.intI
  | ref n =>
   have e:=hx.refE;subst e
   simp only at hg
   cases hs:st[n]? with
   | none=>rw[hs]at hg;cases hg
   | some o =>
    rw[hs]at hg
    cases o with
    | lst l =>
     cases hg
     obtain⟨ys,e1,d1⟩:=R.addr hs
     refine as1 G y s σ H _ us Q I r ⟨φ n,ys,rfl,.inl (SqL.of e1),?_⟩
     rw[d1.length];exact q.here R rfl RV.intI
    | ro l =>
     cases hg
     obtain⟨ys,e1,d1⟩:=R.obj _ _ hs
     refine as1 G y s σ H _ us Q I r ⟨φ n,ys,rfl,.inl e1.1,?_⟩
     rw[d1.length];exact q.here R rfl RV.intI
    | dic l=>exact fb hg
    | dit l=>exact fb hg
    | ins c l=>exact fb hg
  | _=>exact fb hg
 | abs =>
  cases hn
  have z:(match m5 l with|some [i]=>.ok (.int (if i<0 then -i else i)) st|_=>.bad:l7 lV)=.ok d C:=z
  split at z
  ·rename_i i e
   cases z
   have:=zU e;subst this
   have:=RVL.ints hl;subst this
   exact bg1 y s σ H _ us Q I r ⟨i,rfl,q.here R rfl RV.intI⟩
  ·exact fb z
 | min2 =>
  cases hn
  have z:(match m5 l with|some [a,b]=>.ok (.int (if b<a then b else a)) st|_=>.bad:l7 lV)=.ok d C:=z
  split at z
  ·rename_i a b e
   cases z
   have:=zU e;subst this
   have:=RVL.ints hl;subst this
   exact bb2 hc y s σ H _ us Q I r ⟨_,_,rfl,q.here R rfl RV.intI⟩
  ·exact fb z
 | max2 =>
  cases hn
  have z:(match m5 l with|some [a,b]=>.ok (.int (if b > a then b else a)) st|_=>.bad:l7 lV)=.ok d C:=z
  split at z
  ·rename_i a b e
   cases z
   have:=zU e;subst this
   have:=RVL.ints hl;subst this
   exact aY2 hc y s σ H _ us Q I r ⟨_,_,rfl,q.here R rfl RV.intI⟩
  ·exact fb z
 | _=>cases hn
theorem bO6:ah8 X (.type "int") (rCl Γ (nS .int)):=by
 intro y s σ H G us Q I r h
 obtain⟨φ,st,l,d,C,R,hl,J,z,q⟩:=h
 have z:(match m9 l with|some [b]=>.ok (.int (if b then 1 else 0)) st|_=>.bad:l7 lV)=.ok d C:=z
 split at z
 ·rename_i b e
  cases z
  have:=al4 e;subst this
  have:=RVL.bls hl;subst this
  exact ba6 y s σ H _ us Q I r (.inr ⟨b,rfl,q.here R rfl RV.intI⟩)
 ·exact fb z
noncomputable def at1:Nat->String
 | 1 => "int" | 2 => "bool" | 3 => "str" | 4 => "tuple" | _ => "list"
theorem by5 {K:ae}(k:Nat)(hk:1<=k/\k<=5):cS K (.type "NoneType") (.type (at1 k))=some false/\cS K (.type "bool") (.type (at1 k))=some (k==1||k==2) /\
  cS K (.type "int") (.type (at1 k))=some (k==1)/\cS K (.type "str") (.type (at1 k))=some (k==3)/\cS K (.type "tuple") (.type (at1 k))=some (k==4)/\cS K (.type "list") (.type (at1 k))=some (k==5):=by
 obtain⟨z,y⟩:=hk
 rcases(by omega:k=1\/k=2\/k=3\/k=4\/k=5)with h|h|h|h|h<;>subst h<;>refine⟨?_,?_,?_,?_,?_,?_⟩<;>with_unfolding_all rfl
theorem aR1 {y:List (Addr×Obj)}{σ:St}{H:Hp}{s:ai}{A:a0}{E:Value->ai->Prop}{Q:Value->ai->Prop}{c:Value}{b:Bool}{a:Addr}{J:List V}(I:Inv X y σ H s)(G:SqT X.K H a J)(e:cS X.K (.type "tuple") c=some b)
  (h:∀ tk,Q (.bool b) { s with toks:=tk }):wpAny (model X.prog X.w) A (call (.builtin "isinstance") [.ref a,c]) Q E s:=by
 obtain⟨its,_,⟨o,g1,C,_⟩,_⟩:=I.tuple G
 exact b9 jI I.kIn ⟨o,g1,C⟩ e (λ z=>nomatch z) h
theorem bQ9 (Z:X.K=Γ.K){k:Nat}(hk:1<=k/\k<=5):ah8 X (.builtin "isinstance") (λ J H Q=>∃ x,J=[x,.ty (at1 k)]/\rCl Γ (nN (nU k)) [x] H Q):=by
 intro z s σ H J us Q I r h
 obtain⟨x,rfl,φ,st,l,d,y,R,hl,nl,G,q⟩:=h
 obtain⟨a,rfl,hg⟩:=aZ3 G
 clear G
 obtain⟨u,w',rfl,r1,r2⟩:=bu8 r
 cases r2
 obtain⟨x',e',hx⟩:=hl.one
 cases e'
 obtain⟨k0,k1,k2,Y,k4,k5⟩:=by5 (K:=X.K) k hk
 unfold nU at hg
 cases a with
 | non=>cases hg;have e:=hx.nonE;subst e;exact qD I r1 .non k0 λ tk=>⟨.bl _,H,I.tok _,rfl,q.here R rfl RV.blI⟩
 | bl b=>cases hg;have e:=hx.blE;subst e;exact qD I r1 (.bl b) k1 λ tk=>⟨.bl _,H,I.tok _,rfl,q.here R rfl RV.blI⟩
 | int b=>cases hg;have e:=hx.intE;subst e;exact qD I r1 (.int b) k2 λ tk=>⟨.bl _,H,I.tok _,rfl,q.here R rfl RV.blI⟩
 | str b=>cases hg;have e:=hx.strE;subst e;exact qD I r1 (.str _) Y λ tk=>⟨.bl _,H,I.tok _,rfl,q.here R rfl RV.blI⟩
 | tup l =>
  cases hg
  obtain⟨p,ys,rfl,C,d1⟩:=hx.tupE
  cases r1
  rw[<-Z]at C
  exact aR1 I C k4 λ tk=>⟨.bl _,H,I.tok _,rfl,q.here R rfl RV.blI⟩
 | ref n =>
  have e:=hx.refE;subst e
  have hg:(match st[n]? with|some (.lst _)=>.ok (.bl (k==5)) st|_=>.bad:l7 lV)=.ok d y:=hg
  cases hs:st[n]? with
  | none=>rw[hs]at hg;cases hg
  | some o =>
   rw[hs]at hg
   cases o with
   | lst l =>
    cases hg
    obtain⟨ys,e1,d1⟩:=R.addr hs
    exact qD I r1 (.lst e1) k5 λ tk=>⟨.bl _,H,I.tok _,rfl,q.here R rfl RV.blI⟩
   | _=>exact fb hg
 | _=>exact fb hg
variable {X:Cx}
theorem aW7 {bs:List Bool}{its:List Value}(r:Vals (bs.map V.bl) its){i:Nat}{v:Value}(h:its[i]?=some v):∃ z,bs[i]?=some z/\v=Value.bool z:=by
 induction bs generalizing its i with
 | nil=>rw[bP]at r;cases r;simp at h
 | cons b bs ih =>
  rw[aJ]at r
  cases r with
  | cons r1 r2 =>
   cases i with
   | zero =>
    cases r1
    have:_=v:=aA h
    exact⟨b,rfl,this.symm⟩
   | succ i=>exact ih r2 h
theorem ba5 {bs:List Bool}:(bj bs.length).all (λ i=>bs.getD i false)=bs.all id:=by
 rw[eA,bq,bq]
 constructor
 ·intro h b hb
  obtain⟨i,hi,e⟩:=cJ.mp hb
  have:=h i (bN.mpr hi)
  rw[aR,ag hi]at this
  rw[<-e];exact this
 ·intro h i hi
  have hi:=bN.mp hi
  rw[aR,ag hi]
  exact h _ (dZ hi)
theorem ba3 {bs:List Bool}:(bj bs.length).any (λ i=>bs.getD i false)=bs.any id:=by
 rw[eA,dj,dj]
 constructor
 ·rintro⟨i,hi,e⟩
  have hi:=bN.mp hi
  rw[aR,ag hi]at e
  exact⟨_,dZ hi,e⟩
 ·rintro⟨b,hb,e⟩
  obtain⟨i,hi,e2⟩:=cJ.mp hb
  refine⟨i,bN.mpr hi,?_⟩
  rw[aR,ag hi]
  show bs[i]=true
  rw[e2];exact e
theorem aV0 {K:ae}(hc:X.calm=true)(hK:X.K=K):ah8 X (.builtin "all") (λ Z H Q=>∃(a:Addr) (bs:List Bool),Z=[.ref a]/\SqL K H a (bs.map V.bl)/\Q (.bl (bs.all id)) H):=by
 subst hK
 intro J s σ H Z us Q I r h
 obtain⟨a,bs,rfl,hS,q⟩:=h
 obtain⟨u,rfl,ru⟩:=am1 r
 cases ru
 obtain⟨its,Y,G,hz⟩:=I.list hS
 have hl:=Y.length
 rw[aq]at hl
 refine call_all_walk (c5 G.isList ?_)
 have C:a<s.heap.objs.size:=by obtain⟨o,_,e,_⟩:=G;exact aE e
 have W:=jM (prog:=X.prog) (w:=X.w) (A:=X.A.in1) (I.ok.hd hc) s.heap.objs.size a (ax C) its.toArray
 refine⟨_,_,_,_,_,_,λ i=>bs.getD i false,rfl,W,⟨⟨_,av _ rfl,rfl,rfl⟩,?_⟩,λ i v s' Q' E' y hQ=>?_,λ h' tk k=>?_⟩
 ·obtain⟨o,e,r⟩:=G.isList
  exact⟨o,af _ e,r⟩
 ·obtain⟨z,e1,e2⟩:=aW7 Y (i:=i) (v:=v) (by have y:its.toArray[i]?=some v:=y;rw[cq]at y;exact y)
  subst e2
  refine bO ?_
  have:bs.getD i false=z:=by rw[aR,e1];rfl
  rw[<-this];exact hQ
 ·have es:its.toArray.size=bs.length:=by rw[ar];omega
  rw[es,ba5]
  refine⟨.bl (bs.all id),H,I.kept (h':=h') (t':=tk) λ b o q=>k b o ?_ (af _ q),rfl,q⟩
  intro z
  have z':b=s.heap.objs.size:=by simpa using z
  exact absurd (aE q) (by rw[z'];exact bI _)
theorem bc9 {K:ae}(hc:X.calm=true)(hK:X.K=K):ah8 X (.builtin "any") (λ Z H Q=>∃(a:Addr) (bs:List Bool),Z=[.ref a]/\SqL K H a (bs.map V.bl)/\Q (.bl (bs.any id)) H):=by
 subst hK
 intro J s σ H Z us Q I r h
 obtain⟨a,bs,rfl,hS,q⟩:=h
 obtain⟨u,rfl,ru⟩:=am1 r
 cases ru
 obtain⟨its,Y,G,hz⟩:=I.list hS
 have hl:=Y.length
 rw[aq]at hl
 refine call_any_walk (c5 G.isList ?_)
 have C:a<s.heap.objs.size:=by obtain⟨o,_,e,_⟩:=G;exact aE e
 have W:=jM (prog:=X.prog) (w:=X.w) (A:=X.A.in1) (I.ok.hd hc) s.heap.objs.size a (ax C) its.toArray
 refine⟨_,_,_,_,_,_,λ i=>bs.getD i false,rfl,W,⟨⟨_,av _ rfl,rfl,rfl⟩,?_⟩,λ i v s' Q' E' y hQ=>?_,λ h' tk k=>?_⟩
 ·obtain⟨o,e,r⟩:=G.isList
  exact⟨o,af _ e,r⟩
 ·obtain⟨z,e1,e2⟩:=aW7 Y (i:=i) (v:=v) (by have y:its.toArray[i]?=some v:=y;rw[cq]at y;exact y)
  subst e2
  refine bO ?_
  have:bs.getD i false=z:=by rw[aR,e1];rfl
  rw[<-this];exact hQ
 ·have es:its.toArray.size=bs.length:=by rw[ar];omega
  rw[es,ba3]
  refine⟨.bl (bs.any id),H,I.kept (h':=h') (t':=tk) λ b o q=>k b o ?_ (af _ q),rfl,q⟩
  intro z
  have z':b=s.heap.objs.size:=by simpa using z
  exact absurd (aE q) (by rw[z'];exact bI _)
theorem bW9:bA "any"=some (.builtin "any"):=by decide +kernel
noncomputable def sgV (x:List Nat):List V:=x.map λ c=>.str ⟨#[c]⟩
theorem bB7 {vs:List V}{y:List Value}(hl:vs.length=y.length)(h:∀(i:Nat) (x:V) (u:Value),vs[i]?=some x->y[i]?=some u->RelV x u):Vals vs y:=by
 induction vs generalizing y with
 | nil=>cases y with
  | nil=>exact .nil
  | cons _ _=>cases hl
 | cons v vs ih=>cases y with
  | nil=>cases hl
  | cons a y=>exact .cons (h 0 v a rfl rfl) (ih (by simpa using hl) λ i x u e1 e2=>h (i+1) x u e1 e2)
theorem at9 {x:List Nat}{y:Array Value}(h:ItemsOf (SignAt ⟨x.toArray⟩) y x.length):Vals (sgV x) y.toList:=by
 have hl:(sgV x).length=y.toList.length:=by unfold sgV;rw[aq];simpa using h.1.symm
 refine bB7 hl λ i v u e1 e2=>?_
 obtain⟨c,t,z,C⟩:=h.2 i u (by rw[<-iQ];exact e2)
 unfold sgV at e1
 rw[az]at e1
 have z:x[i]?=some c:=by simpa using z
 rw[z]at e1
 cases e1
 exact⟨t,C⟩
theorem aJ7 (hc:X.calm=true):ah8 X (.type "tuple") (λ G H Q=>∃ x:List Nat,G=[.str ⟨x.toArray⟩]/\x.length<=l8/\∀ l,H l=none->Q (.ref l) (upd H l (.tup (sgV x)))):=by
 intro y s σ H G us Q I r h
 obtain⟨x,rfl,hl,q⟩:=h
 obtain⟨u,rfl,Z⟩:=am1 r
 obtain⟨t,rfl⟩:=Z
 have hz:(sgV x).length<=aI:=by unfold sgV;rw[aq];exact ao hl qc
 refine call_tuple_str (I.ok.hd hc) _ t (λ h' tk z kp hi=>?_) (by show x.toArray.size<=_;rw[ar];exact ao hl qc)
 have hi:ItemsOf (SignAt ⟨x.toArray⟩) z x.length:=by simpa using hi
 have Y:=at9 hi
 have C:Inv X y σ H { s with heap:=h',toks:=tk }:=I.kept (t':=tk) kp
 have J:Inv X y σ (upd H h'.objs.size (.tup (sgV x))) { s with heap:=h'.push { cls:=.type "tuple",data:=.seq z },toks:=tk } :=
  C.laid (t':=tk) (λ b o e=>af _ e) (aj _) (show ag7 X.prog X.w _ _ _ (.tup (sgV x))from⟨hz,z.toList,Y,ko _ _⟩)
 exact⟨.ref h'.objs.size,_,J,rfl,q _ (C.hok.fresh (aj _))⟩
theorem aS5 (hc:X.calm=true):ah8 X (.type "list") (λ C H Q=>∃ x:List Nat,C=[.str ⟨x.toArray⟩]/\x.length<=l8/\∀ l,H l=none->Q (.ref l) (upd H l (.lst (sgV x)))):=by
 intro z s σ H C us Q I r h
 obtain⟨x,rfl,hl,q⟩:=h
 obtain⟨u,rfl,Y⟩:=am1 r
 obtain⟨t,rfl⟩:=Y
 have hz:(sgV x).length<=aI:=by unfold sgV;rw[aq];exact ao hl qc
 refine call_list_str (I.ok.hd hc) _ t (λ h' tk y G kp e hi=>?_) (by show x.toArray.size<=_;rw[ar];exact ao hl qc)
 have hi:ItemsOf (SignAt ⟨x.toArray⟩) y x.length:=by simpa using hi
 have J:=at9 hi
 exact⟨.ref s.heap.objs.size,_,I.laid (t':=tk) kp (aj _) (show ag7 X.prog X.w _ h' _ (.lst (sgV x))from⟨hz,y.toList,G,J,e⟩),rfl,q _ (I.hok.fresh (aj _))⟩
section
variable {Γ:Gm} {φ φ':Nat->Addr} {H H' H1 H2 H3:Hp} {clos:List (Str×Addr)} {s s':lU}
theorem zP (hc:Cells clos H){a:Addr}{u:HO}(e:H a=some u)(h:∀ o,u≠.frz o (.own a)):isC clos a≠true:=λ z=>by
 obtain⟨o,v,q,_⟩:=hc.at z
 rw[e]at q;cases q;exact h o rfl
theorem SqT.dropC {K:ae}{a:Addr}{y:List V}(hc:Cells clos H)(h:SqT K H a y):SqT K (ah4 clos H) a y:=by
 rcases h with(h|⟨o,h⟩)|h
 ·exact .inl (.inl (by rw[ah4.ne (zP hc h (λ _ z=>by cases z))];exact h))
 ·exact .inl (.inr ⟨o,by rw[ah4.ne (zP hc h (λ _ z=>by cases z))];exact h⟩)
 ·exact .inr h
theorem SqL.dropC {K:ae}{a:Addr}{y:List V}(hc:Cells clos H)(h:SqL K H a y):SqL K (ah4 clos H) a y:=by
 rcases h with(h|⟨o,h⟩)|h
 ·exact .inl (.inl (by rw[ah4.ne (zP hc h (λ _ z=>by cases z))];exact h))
 ·exact .inl (.inr ⟨o,by rw[ah4.ne (zP hc h (λ _ z=>by cases z))];exact h⟩)
 ·exact .inr h
theorem SqF.dropC {K:ae}{a:Addr}{C:List V}(hc:Cells clos H)(h:SqF K H a C):SqF K (ah4 clos H) a C:=by
 refine⟨SqL.dropC hc h.1,λ y k=>?_⟩
 have hk:Kp H (λ b=>if isC clos b=true then H b else y b):=λ b o e f=>by
  by_cases z:isC clos b=true
  ·show(if isC clos b=true then H b else y b)=_;rw[if_pos z];exact e
  ·show(if isC clos b=true then H b else y b)=_
   rw[if_neg z]
   exact k b o (by rw[ah4.ne z];exact e) f
 have q:=h.2 _ hk
 have at_:∀ u,(if isC clos a=true then H a else y a)=some u->(∀ o,u≠.frz o (.own a))->y a=some u:=λ u e G=>by
  by_cases z:isC clos a=true
  ·rw[if_pos z]at e
   exact absurd z (zP hc e G)
  ·rw[if_neg z]at e;exact e
 rcases q with(q|⟨o,q⟩)|q
 ·exact .inl (.inl (at_ _ q (λ _ z=>by cases z)))
 ·exact .inl (.inr ⟨o,at_ _ q (λ _ z=>by cases z)⟩)
 ·exact .inr q
mutual
theorem RV.dropC (hc:Cells clos H):∀(d:lV) (v:V),d.ncl=true->RV Γ φ H d v->RV Γ φ (ah4 clos H) d v
 | .non,_,_,h=>by unfold RV at h ⊢;exact h
 | .bl _,_,_,h=>by unfold RV at h ⊢;exact h
 | .int _,_,_,h=>by unfold RV at h ⊢;exact h
 | .str _,_,_,h=>by unfold RV at h ⊢;exact h
 | .tup l,_,n,h=>by
  unfold RV at h ⊢
  unfold nV at n
  obtain⟨a,y,e,q,r⟩:=h
  exact⟨a,y,e,⟨SqT.dropC hc q.1,λ z=>by rw[ah4.ne (zP hc (q.2 z) (λ _ z=>by cases z))];exact q.2 z⟩,RVL.dropC hc l y n r⟩
 | .ref k,_,_,h=>by unfold RV at h ⊢;exact h
 | .fn _,_,_,h=>by unfold RV at h ⊢;exact h
 | .clo id cs,_,n,h=>by unfold nV at n;cases n
theorem RVL.dropC (hc:Cells clos H):∀(l:List lV) (y:List V),ng l=true->RVL Γ φ H l y->RVL Γ φ (ah4 clos H) l y
 | [],_,_,h=>by unfold RVL at h ⊢;exact h
 | d::l,_,n,h=>by
  unfold ng at n
  rw[ak]at n
  obtain⟨x,r,e,C,z⟩:=h.uncons
  subst e
  exact .cons (RV.dropC hc d x n.1 C) (RVL.dropC hc l r n.2 z)
end
theorem RVD.dropC {κ:Type}{z:lV->Option κ}(hc:Cells clos H):∀(l:List (lV×lV)) (y:List (κ×V)),ng (l.map (·.2))=true->RVD z Γ φ H l y->RVD z Γ φ (ah4 clos H) l y
 | [],_,_,h=>h
 | (d,e)::l,_,n,h=>by
  obtain⟨k,v,r,e1,e2,C,G⟩:=h
  rw[aJ]at n
  unfold ng at n
  rw[ak]at n
  exact⟨k,v,r,e1,e2,RV.dropC hc e v n.1 C,RVD.dropC hc l r n.2 G⟩
theorem RO.dropC {a:Addr}{o:mM}(hc:Cells clos H)(h:RO Γ φ H a o)(n:o.ncl=true):RO Γ φ (ah4 clos H) a o:=by
 cases o with
 | lst l =>
  obtain⟨y,e,r⟩:=h
  exact⟨y,by rw[ah4.ne (zP hc e (λ _ z=>by cases z))];exact e,RVL.dropC hc l y n r⟩
 | ro l =>
  obtain⟨y,e,r⟩:=h
  exact⟨y,SqF.dropC hc e,RVL.dropC hc l y n r⟩
 | dic l =>
  obtain⟨y,e,r⟩:=h
  exact⟨y,by rw[ah4.ne (zP hc e (λ _ z=>by cases z))];exact e,RVD.dropC hc l y n r⟩
 | dit l =>
  obtain⟨y,e,r⟩:=h
  exact⟨y,by rw[ah4.ne (zP hc e (λ _ z=>by cases z))];exact e,RVD.dropC hc l y n r⟩
 | ins _ _=>exact h.elim
theorem TabsH.dropC {T:List (Addr×Str)}(hc:Cells clos H)(h:TabsH T H):TabsH T (ah4 clos H):=λ y hy=>by
 obtain⟨ps,e,t,c⟩:=h y hy
 refine⟨ps,by rw[ah4.ne (zP hc e (λ _ z=>by cases z))];exact e,t,λ pos C q=>?_⟩
 obtain⟨G,e1,e2⟩:=c pos C q
 exact⟨G,e1,by rw[ah4.ne (zP hc e2 (λ _ z=>by unfold aD4 at z;cases z))];exact e2⟩
theorem Rp.dropC (hc:Cells clos H)(r:Rp Γ φ H s)(n:s.all DV.O.ncl=true):Rp Γ φ (ah4 clos H) s :=
 ⟨r.inj,λ i o e=>RO.dropC hc (r.obj i o e) (bq.mp n o (aQ e)),r.wf,TabsH.dropC hc r.tab⟩
theorem bd9 (h:∀ b,isC clos b=true->H' b=none):aj8 H' (Put clos H H'):=λ b o e=>by
 rw[Put.ne (λ z=>by rw[h b z]at e;cases e)];exact e
theorem Gr.put (hc:Cells clos H)(y:∀ b,isC clos b=true->H' b=none)(hK:∀ b o,Γ.K.lookup b=some o->H b=none)(J:Rp Γ φ' H' s')(g:Gr φ s (ah4 clos H) φ' s' H'):Gr φ s H φ' s' (Put clos H H'):=by
 refine⟨⟨g.w.map,λ b o e f=>?_⟩,g.le,λ i h1 G=>?_,g.kd,λ b e=>?_,λ b o e nt Y=>?_⟩
 ·by_cases z:isC clos b=true
  ·rw[Put.cell z];exact e
  ·rw[Put.ne z];exact g.w.kp b o (by rw[ah4.ne z];exact e) f
 ·have hd:=g.new i h1 G
  by_cases z:isC clos (φ' i)=true
  ·have hg:=y _ z
   obtain⟨o,Z⟩:∃ o,s'[i]?=some o:=⟨s'[i],ag G⟩
   have h:=J.obj i o Z
   cases o with
   | lst l=>obtain⟨C,e,_⟩:=h;rw[hg]at e;cases e
   | ro l =>
    obtain⟨C,e,_⟩:=h
    rcases e.1 with(e|⟨_,e⟩)|⟨ob,its,n,e,_⟩
    ·rw[hg]at e;cases e
    ·rw[hg]at e;cases e
    ·exact hK _ _ e
   | dic l=>obtain⟨C,e,_⟩:=h;rw[hg]at e;cases e
   | dit l=>obtain⟨C,e,_⟩:=h;rw[hg]at e;cases e
   | ins _ _=>exact h.elim
  ·rw[ah4.ne z]at hd;exact hd
 ·by_cases z:isC clos b=true
  ·rw[Put.cell z];exact e
  ·rw[Put.ne z];exact g.st b (by rw[ah4.ne z];exact e)
 ·by_cases z:isC clos b=true
  ·rw[Put.cell z];exact e
  ·rw[Put.ne z];exact g.fr b o (by rw[ah4.ne z];exact e) nt Y
theorem bB3 {P:aO}{w:World}{K:ae}{mg:Str->Option Value}{base:Heap}{k:Nat}{f:Addr}{N ps fr:List Str}{name qual:Str}{params:cD}{body:List Stmt}{scope:Scope}{h:List (Str×Addr)}{cap:List V}{sp:Sp}
  (S:LamScope N ps fr scope) (len:∀ vs H Q E,sp vs H Q E->vs.length=ps.length) (a5:cap.length=fr.length)
  (Y:∀(Z pm:Value) (c':Addr) (a1:Value) (us:List Value),us.length=ps.length->fi (gv name qual params body scope h .none .none Z pm none (.ref c') a1) ⟨us,[]⟩=pure (ps.zip us))
  (G:∀(A:a0) (outer:List Env) (s:ai) (H:Hp) (cd:Value) (vs:List V) (Q:VK),Room k (A.deeper (dw qual scope s.heap.objs.size f cd (aW (s.heap.objs.size+1) scope.names h)))->at5 H f name qual params body scope fr cap h->(∀ b o,K.lookup b=some o->H b=none)->sp vs H Q E0 ->
   ∃ t,PSs (aH3 P w K mg base N qual scope f cd h A outer s H) body t/\t { nx:=λ _ H'=>(∀ b,isC h b=true->H' b=none)->Q .non (Put h H H'),rt:=λ v H'=>(∀ b,isC h b=true->H' b=none)->Q v (Put h H H') } (vs.map some++cap.map some) (ah4 h H)) :
  ClOk P w K mg base (k+1) (λ H=>at5 H f name qual params body scope fr cap h) f sp:=by
 refine⟨λ A outer s H us vs Q hr C hR r a3=>?_⟩
 have hl:=len _ _ _ _ a3
 obtain⟨Z,pm,c',a1,h1,h2,h3,h4,h5,h6⟩:=id hR
 have a6:s.heap.NoLimit:=C.mod.nolimit.keeps λ b o e=>(C.bs b o e).1
 refine iM hr.depth (az4 C.hok h1) rfl S.co S.gen rfl (aA4 C.hok h2) ?_
 rw[Y Z pm c' a1 us (by rw[<-r.length];exact hl)]
 refine am (at8 S.kind (λ y hy=>?_) λ env he s1 x=>?_)
 ·rcases S.par y.1 (eh (show(y.1,y.2)∈ps.zip us from hy)).1 with q|q
  ·exact .inl q
  ·exact .inr ⟨q,zV q⟩
 ·subst he
  refine⟨a6.keeps x.toInCall.keep,codeAny_func ?_⟩
  obtain⟨t,ht,hq⟩:=G A outer s H (.ref c') vs Q (hr.deeper _) hR (λ b o e=>(C.bs b o (C.mod.kin b o e)).2) a3
  have I:=aX1 S hr.hd C hl a5 r h3 h4 h5 h6 x
  refine cM (ht [] s1 _ _ _ I hq) (λ fl s' hs=>?_) λ e s' hs=>hs.elim
  have fin:∀ {σ':St} {H':Hp} {v:V} {u:Value},Inv (aH3 P w K mg base N qual scope f (.ref c') h A outer s H) [] σ' H' s'->RelV v u->((∀ b,isC h b=true->H' b=none)->Q v (Put h H H'))->CE outer P w H s Q u s':=λ {σ' H' v u} J rv q=>by
   obtain⟨un,a4⟩:=aY9 C.hok h3 C.frf J.base J.hok
   have a2:∀ b,isC h b=true->H' b=none:=λ b y=>by
    obtain⟨o,v,z,_⟩:=h3.at y
    exact(show Un (frs outer) [] (ah4 h H) H' s.heap s'.heap from J.base).free b o (C.hok b _ z).1 (ah4.cell y) (by simp)
   exact⟨v,_,J.os,J.bare,un,a4,rv,q a2⟩
  cases fl with
  | ret u =>
   obtain⟨v,σ',H',J,rv,q⟩:=hs
   exact fin J rv q
  | next =>
   obtain⟨σ',H',J,q⟩:=hs
   exact fin (v:=V.non) (u:=Value.none) J rfl q
  | brk =>
   obtain⟨_,_,_,q⟩:=hs
   exact cN q
  | cont =>
   obtain⟨_,_,_,q⟩:=hs
   exact cN q
theorem bv9 {P:aO}{w:World}{K:ae}{mg:Str->Option Value}{base:Heap}{k:Nat}{f:Addr}{N ps fr:List Str}{qual:Str}{params:cD}{body:Expr}{scope:Scope}{h:List (Str×Addr)}{cap:List V}{sp:Sp}
  (S:LamScope N ps fr scope) (len:∀ vs H Q E,sp vs H Q E->vs.length=ps.length) (a3:cap.length=fr.length)
  (Y:∀(pm:Value) (c':Addr) (Z:Value) (us:List Value),us.length=ps.length->fi (eQ "<lambda>" qual params body scope h pm (.ref c') Z) ⟨us,[]⟩=pure (ps.zip us))
  (G:∀(A:a0) (outer:List Env) (s:ai) (H:Hp) (cd:Value) (vs:List V) (Q:VK),Room k (A.deeper (dw qual scope s.heap.objs.size f cd (aW (s.heap.objs.size+1) scope.names h)))->aK4 H f qual params body scope fr cap h->(∀ b o,K.lookup b=some o->H b=none)->sp vs H Q E0 ->
   ∃ t,PE (aH3 P w K mg base N qual scope f cd h A outer s H) body t/\t (vs.map some++cap.map some) (ah4 h H) λ v H'=>(∀ b,isC h b=true->H' b=none)->Q v (Put h H H')) :
  ClOk P w K mg base (k+1) (λ H=>aK4 H f qual params body scope fr cap h) f sp:=by
 refine⟨λ A outer s H us vs Q hr C hR r a2=>?_⟩
 have hl:=len _ _ _ _ a2
 obtain⟨pm,c',Z,h1,h2,h3,h4,h5,h6⟩:=id hR
 have a5:s.heap.NoLimit:=C.mod.nolimit.keeps λ b o e=>(C.bs b o e).1
 refine PySem.W.kla_callFunE hr.depth (az4 C.hok h1) rfl S.co S.gen rfl (aA4 C.hok h2) ?_
 rw[Y pm c' Z us (by rw[<-r.length];exact hl)]
 refine am (at8 S.kind (λ y hy=>?_) λ env he s1 x=>?_)
 ·rcases S.par y.1 (eh (show(y.1,y.2)∈ps.zip us from hy)).1 with q|q
  ·exact .inl q
  ·exact .inr ⟨q,zV q⟩
 ·subst he
  refine⟨a5.keeps x.toInCall.keep,PySem.W.kla_codeExpr ?_⟩
  obtain⟨t,ht,hq⟩:=G A outer s H (.ref c') vs Q (hr.deeper _) hR (λ b o e=>(C.bs b o (C.mod.kin b o e)).2) a2
  have I:=aX1 S hr.hd C hl a3 r h3 h4 h5 h6 x
  refine cM (ht [] s1 _ _ _ I hq) (λ u s' hs=>?_) λ e s' hs=>hs.elim
  obtain⟨v,H',J,rv,q⟩:=hs
  obtain⟨un,a4⟩:=aY9 C.hok h3 C.frf J.base J.hok
  have a1:∀ b,isC h b=true->H' b=none:=λ b y=>by
   obtain⟨o,v,z,_⟩:=h3.at y
   exact(show Un (frs outer) [] (ah4 h H) H' s.heap s'.heap from J.base).free b o (C.hok b _ z).1 (ah4.cell y) (by simp)
  exact⟨v,_,J.os,J.bare,un,a4,rv,q a1⟩
theorem Cells.kp {H H':Hp}(h:Cells clos H)(k:Kp H H'):Cells clos H':=λ x c e=>by
 obtain⟨o,v,q,d⟩:=h x c e
 exact⟨o,v,k _ _ q rfl,d⟩
noncomputable def PVp (Γ : Gm) (cells : List (Str × Addr)) (N : List Str) (σ : St) (φ : Nat -> Addr) (H : Hp) (d : DV.D) (v : V) : Prop := RV Γ φ H d v \/ ∃ id cs, d = .clo id cs /\ ∃ f J, v = .ref f /\ Γ.lg id J /\ aA0 H f J (as8 cells J.scope.names []) /\
      cs.length = J.fr.length /\ (∀ x, J.scope.names.lookup x = some .free -> ∃ c, cells.lookup x = some c) /\
      ∃ cap, RVL Γ φ H cs cap /\ ∀(i : Nat) (x : Str) (v : V), J.fr[i]? = some x -> cap[i]? = some v -> J.scope.names.lookup x = some .free /\ ∃ j : Nat, N[j]? = some x /\ σ[j]? = some (some v)
inductive PVL (Γ:Gm)(cells:List (Str×Addr))(N:List Str)(σ:St)(φ:Nat->Addr)(H:Hp):List lV->List V->Prop where
 | nil:PVL Γ cells N σ φ H [] []
 | cons {d v l vs} (a:PVp Γ cells N σ φ H d v) (b:PVL Γ cells N σ φ H l vs):PVL Γ cells N σ φ H (d::l) (v::vs)
theorem PVp.mono {cells:List (Str×Addr)}{N:List Str}{σ:St}{φ φ':Nat->Addr}{s s':lU}{H H':Hp}(g:Gr φ s H φ' s' H'){d:lV}{v:V}(b:d.bnd s.length=true)(h:PVp Γ cells N σ φ H d v):PVp Γ cells N σ φ' H' d v:=by
 rcases h with h|⟨id,cs,rfl,h⟩
 ·exact .inl (RV.mono g _ _ b h)
 ·obtain⟨f,J,e,y,C,G,z,cap,Y,h7⟩:=h
  unfold lZ at b
  exact .inr ⟨id,cs,rfl,f,J,e,y,C.kp g.w.kp,G,z,cap,RVL.mono g cs cap b Y,h7⟩
end
variable {Γ:Gm} {X:Cx}
def TEv (Γ:Gm)(m:lX->lU->l7 lV):TE:=λ σ H Q=>∃ φ ρ s d s',RE Γ φ H s.length ρ σ/\Rp Γ φ H s/\m ρ s=.ok d s'/\aj4 Γ φ s H d s' Q
def bI3 (Γ:Gm)(φ:Nat->Addr)(s:lU)(H:Hp)(l:List lV)(s':lU)(Q:List V->Hp->Prop):Prop :=
 ∀ vs φ' H',Gr φ s H φ' s' H'->s.length<=s'.length->lW s'.length l=true->RVL Γ φ' H' l vs->Rp Γ φ' H' s'->Q vs H'
def TAv (Γ:Gm)(m:lX->lU->l7 (List lV)):TA:=λ σ H Q=>∃ φ ρ s l s',RE Γ φ H s.length ρ σ/\Rp Γ φ H s/\m ρ s=.ok l s'/\bI3 Γ φ s H l s' Q
def aN9 (Γ:Gm)(φ:Nat->Addr)(s:lU)(H:Hp)(b:Bool)(s':lU)(Q:Bool->Hp->Prop):Prop :=
 ∀ φ' H',Gr φ s H φ' s' H'->s.length<=s'.length->Rp Γ φ' H' s'->Q b H'
def TTv (Γ:Gm)(m:lX->lU->l7 lV):TT:=λ σ H Q=>∃ φ ρ s b s',RE Γ φ H s.length ρ σ/\Rp Γ φ H s/\m ρ s=.ok (.bl b) s'/\aN9 Γ φ s H b s' Q
theorem PE.imp {e:Expr}{t t':TE}(h:PE X e t)(i:∀ σ H Q,t' σ H Q->t σ H Q):PE X e t':=λ y s σ H Q I q=>h y s σ H Q I (i σ H Q q)
theorem PT.imp {e:Expr}{t t':TT}(h:PT X e t)(i:∀ σ H Q,t' σ H Q->t σ H Q):PT X e t':=λ y s σ H Q I q=>h y s σ H Q I (i σ H Q q)
theorem PA.imp {e:List Expr}{t t':TA}(h:PA X e t)(i:∀ σ H Q,t' σ H Q->t σ H Q):PA X e t':=λ pos y s σ H Q I q=>h pos y s σ H Q I (i σ H Q q)
theorem aN9.trans {φ φ1:Nat->Addr}{s s1 s':lU}{H y:Hp}{b:Bool}{Q:Bool->Hp->Prop}(h:aN9 Γ φ s H b s' Q)(g:Gr φ s H φ1 s1 y)(l:s.length<=s1.length):aN9 Γ φ1 s1 y b s' Q :=
 λ φ' H' g' z p=>h φ' H' (g.trans g' l) (ao l z) p
theorem bL5 (i:Nat){σ:St}{H:Hp}{Q:VK}(h:TEv Γ (λ ρ s=>DV.aT2 ρ i s) σ H Q):bO8 i σ H Q:=by
 obtain⟨φ,ρ,s,d,s',E,R,y,q⟩:=h
 simp only[DV.aT2]at y
 split at y
 ·rename_i d' e
  cases y
  obtain⟨b,v,e1,e2⟩:=E.val i _ e
  exact⟨v,e1,q.here R b e2⟩
 ·exact fb y
theorem az8 {c:lV}{v:V}(hb:∀ n,c.bnd n=true)(hv:∀ φ H,RV Γ φ H c v){σ:St}{H:Hp}{Q:VK}(h:TEv Γ (λ ρ s=>.ok c s) σ H Q):tC v σ H Q:=by
 obtain⟨φ,ρ,s,d,s',E,R,y,q⟩:=h
 cases y
 exact q.here R (hb _) (hv _ _)
theorem bm7 {m1 m2:lX->lU->l7 lV}{f:lV->lV->lU->l7 lV}{σ:St}{H:Hp}{Q:VK}(h:TEv Γ (λ ρ s=>(m1 ρ s).bind λ x s=>(m2 ρ s).bind λ y s=>f x y s) σ H Q):tOp (rOp Γ f) (TEv Γ m1) (TEv Γ m2) σ H Q:=by
 obtain⟨φ,ρ,s,d,s',E,R,z,q⟩:=h
 obtain⟨x,s1,e1,z⟩:=aa0 z
 obtain⟨y,s2,e2,z⟩:=aa0 z
 refine⟨φ,ρ,s,x,s1,E,R,e1,λ Y φ1 H1 g1 l1 b1 r1 R1=>?_⟩
 refine⟨φ1,ρ,s1,y,s2,E.mono g1 l1,R1,e2,λ v2 φ2 H2 C G J Z R2=>?_⟩
 exact⟨φ2,s2,x,y,d,s',R2,RV.mono C x Y b1 r1,Z,ze G x b1,J,z,q.trans (g1.trans C l1) (ao l1 G)⟩
theorem bY9 {m:lX->lU->l7 lV}{f:lV->lU->l7 lV}{r:V->Hp->VK->Prop}{σ:St}{H:Hp}{Q:VK}(h:TEv Γ (λ ρ s=>(m ρ s).bind λ x s=>f x s) σ H Q)
  (hr:∀ φ s x d s' v H',Rp Γ φ H' s->RV Γ φ H' x v->x.bnd s.length=true->f x s=.ok d s'->aj4 Γ φ s H' d s' Q->r v H' Q):tUn r (TEv Γ m) σ H Q:=by
 obtain⟨φ,ρ,s,d,s',E,R,y,q⟩:=h
 obtain⟨x,s1,e1,y⟩:=aa0 y
 exact⟨φ,ρ,s,x,s1,E,R,e1,λ z φ1 C g1 l1 b1 r1 R1=>hr φ1 s1 x d s' z C R1 r1 b1 y (q.trans g1 l1)⟩
theorem zC {α:Type}{r:l7 lV}{f:Bool->lU->l7 α}{a:α}{t:lU}(h:mr r f=.ok a t):∃ b s,r=.ok (.bl b) s/\f b s=.ok a t:=by
 unfold mr at h
 obtain⟨d,s,e,h⟩:=aa0 h
 cases d with
 | bl b=>exact⟨b,s,e,h⟩
 | _=>exact fb h
theorem aL9 {m:lX->lU->l7 lV}{σ:St}{H:Hp}{Q:Bool->Hp->Prop}(h:TTv Γ m σ H Q):tB (TEv Γ m) σ H Q:=by
 obtain⟨φ,ρ,s,b,s',E,R,z,q⟩:=h
 refine⟨φ,ρ,s,.bl b,s',E,R,z,λ v φ' H' g l C r y=>?_⟩
 exact⟨b,r.blE,q φ' H' g l y⟩
theorem aX9 {m:lX->lU->l7 lV}{σ:St}{H:Hp}{Q:Bool->Hp->Prop}(h:TTv Γ m σ H Q):bw8 (TEv Γ m) σ H Q:=aL9 h
theorem bH9 {m:lX->lU->l7 lV}{σ:St}{H:Hp}{Q:Bool->Hp->Prop}(h:TTv Γ (λ ρ s=>mr (m ρ s) λ b s=>.ok (.bl (!b)) s) σ H Q):cd5 (TTv Γ m) σ H Q:=by
 obtain⟨φ,ρ,s,b,s',E,R,y,q⟩:=h
 obtain⟨c,s1,e1,y⟩:=zC y
 cases y
 exact⟨φ,ρ,s,c,_,E,R,e1,q⟩
theorem bp7 {m1 m2:lX->lU->l7 lV}{σ:St}{H:Hp}{Q:Bool->Hp->Prop}(h:TTv Γ (λ ρ s=>mr (m1 ρ s) λ c s=>if c then mr (m2 ρ s) λ c s=>.ok (.bl c) s else .ok (.bl false) s) σ H Q):cb9 (TTv Γ m1) (TTv Γ m2) σ H Q:=by
 obtain⟨φ,ρ,s,b,s',E,R,y,q⟩:=h
 obtain⟨c,s1,e1,y⟩:=zC y
 refine⟨φ,ρ,s,c,s1,E,R,e1,λ φ1 z g1 l1 R1=>?_⟩
 cases c with
 | true =>
  rw[if_pos rfl]at y ⊢
  obtain⟨C,s2,e2,y⟩:=zC y
  cases y
  exact⟨φ1,ρ,s1,_,_,E.mono g1 l1,R1,e2,q.trans g1 l1⟩
 | false =>
  rw[if_neg aS]at y ⊢
  cases y
  exact q φ1 z g1 l1 R1
theorem bR6 {m1 m2:lX->lU->l7 lV}{σ:St}{H:Hp}{Q:Bool->Hp->Prop}(h:TTv Γ (λ ρ s=>mr (m1 ρ s) λ c s=>if c then .ok (.bl true) s else mr (m2 ρ s) λ c s=>.ok (.bl c) s) σ H Q):tOr (TTv Γ m1) (TTv Γ m2) σ H Q:=by
 obtain⟨φ,ρ,s,b,s',E,R,y,q⟩:=h
 obtain⟨c,s1,e1,y⟩:=zC y
 refine⟨φ,ρ,s,c,s1,E,R,e1,λ φ1 z g1 l1 R1=>?_⟩
 cases c with
 | true =>
  rw[if_pos rfl]at y ⊢
  cases y
  exact q φ1 z g1 l1 R1
 | false =>
  rw[if_neg aS]at y ⊢
  obtain⟨C,s2,e2,y⟩:=zC y
  cases y
  exact⟨φ1,ρ,s1,_,_,E.mono g1 l1,R1,e2,q.trans g1 l1⟩
theorem bP6 {m:lX->lU->l7 lV}{σ:St}{H:Hp}{Q:VK}(h:TEv Γ (λ ρ s=>mr (m ρ s) λ b s=>.ok (.bl (!b)) s) σ H Q):bP3 (TEv Γ m) σ H Q:=by
 obtain⟨φ,ρ,s,d,s',E,R,y,q⟩:=h
 obtain⟨c,s1,e1,y⟩:=zC y
 cases y
 exact⟨φ,ρ,s,.bl c,_,E,R,e1,λ v φ1 z g l b r R1=>⟨c,r.blE,q _ φ1 z g l rfl RV.blI R1⟩⟩
theorem bp1 {m1 m2:lX->lU->l7 lV}{σ:St}{H:Hp}{Q:VK}(h:TEv Γ (λ ρ s=>mr (m1 ρ s) λ c s=>if c then mr (m2 ρ s) λ c s=>.ok (.bl c) s else .ok (.bl false) s) σ H Q):bM3 (TEv Γ m1) (TEv Γ m2) σ H Q:=by
 obtain⟨φ,ρ,s,d,s',E,R,y,q⟩:=h
 obtain⟨c,s1,e1,y⟩:=zC y
 refine⟨φ,ρ,s,.bl c,s1,E,R,e1,λ v φ1 z g1 l1 b1 r1 R1=>⟨c,r1.blE,?_⟩⟩
 cases c with
 | true =>
  rw[if_pos rfl]at y ⊢
  obtain⟨c,s2,e2,y⟩:=zC y
  cases y
  exact⟨φ1,ρ,s1,.bl c,_,E.mono g1 l1,R1,e2,q.trans g1 l1⟩
 | false =>
  rw[if_neg aS]at y ⊢
  cases y
  exact q _ φ1 z g1 l1 rfl RV.blI R1
theorem bJ8 {m1 m2:lX->lU->l7 lV}{σ:St}{H:Hp}{Q:VK}(h:TEv Γ (λ ρ s=>mr (m1 ρ s) λ c s=>if c then .ok (.bl true) s else mr (m2 ρ s) λ c s=>.ok (.bl c) s) σ H Q):cc9 (TEv Γ m1) (TEv Γ m2) σ H Q:=by
 obtain⟨φ,ρ,s,d,s',E,R,y,q⟩:=h
 obtain⟨c,s1,e1,y⟩:=zC y
 refine⟨φ,ρ,s,.bl c,s1,E,R,e1,λ v φ1 z g1 l1 b1 r1 R1=>⟨c,r1.blE,?_⟩⟩
 cases c with
 | true =>
  rw[if_pos rfl]at y ⊢
  cases y
  exact q _ φ1 z g1 l1 rfl RV.blI R1
 | false =>
  rw[if_neg aS]at y ⊢
  obtain⟨c,s2,e2,y⟩:=zC y
  cases y
  exact⟨φ1,ρ,s1,.bl c,_,E.mono g1 l1,R1,e2,q.trans g1 l1⟩
theorem bP8 {mc m1 m2:lX->lU->l7 lV}{σ:St}{H:Hp}{Q:VK}(h:TEv Γ (λ ρ s=>mr (mc ρ s) λ k s=>if k then m1 ρ s else m2 ρ s) σ H Q):tIf (TTv Γ mc) (TEv Γ m1) (TEv Γ m2) σ H Q:=by
 obtain⟨φ,ρ,s,d,s',E,R,y,q⟩:=h
 obtain⟨c,s1,e1,y⟩:=zC y
 refine⟨φ,ρ,s,c,s1,E,R,e1,λ φ1 z g1 l1 R1=>?_⟩
 cases c with
 | true =>
  rw[if_pos rfl]at y ⊢
  exact⟨φ1,ρ,s1,d,s',E.mono g1 l1,R1,y,q.trans g1 l1⟩
 | false =>
  rw[if_neg aS]at y ⊢
  exact⟨φ1,ρ,s1,d,s',E.mono g1 l1,R1,y,q.trans g1 l1⟩
theorem aM6 {ma mb mc:lX->lU->l7 lV}{f g:lV->lV->lU->l7 lV}{σ:St}{H:Hp}{Q:VK}(h:TEv Γ (λ ρ s=>(ma ρ s).bind λ x s=>(mb ρ s).bind λ y s=>mr (f x y s) λ k s=>if k then(mc ρ s).bind λ z s=>g y z s else .ok (.bl false) s) σ H Q) :
  bc2 (rOp Γ f) (rOp Γ g) (TEv Γ ma) (TEv Γ mb) (TEv Γ mc) σ H Q:=by
 obtain⟨φ,ρ,s,d,s',E,R,C,q⟩:=h
 obtain⟨x,s1,e1,C⟩:=aa0 C
 obtain⟨y,s2,e2,C⟩:=aa0 C
 obtain⟨c,s3,e3,C⟩:=zC C
 refine⟨φ,ρ,s,x,s1,E,R,e1,λ v1 φ1 H1 g1 l1 b1 r1 R1=>?_⟩
 refine⟨φ1,ρ,s1,y,s2,E.mono g1 l1,R1,e2,λ v2 φ2 H2 g2 Z J r2 R2=>?_⟩
 refine⟨φ2,s2,x,y,.bl c,s3,R2,RV.mono g2 x v1 b1 r1,r2,ze Z x b1,J,e3,λ v3 φ3 H3 g3 Y b3 r3 R3=>⟨c,r3.blE,?_⟩⟩
 have G:=(g1.trans g2 l1).trans g3 (ao l1 Z)
 have L:=ao (ao l1 Z) Y
 cases c with
 | true =>
  rw[if_pos rfl]at C ⊢
  obtain⟨z,s4,e4,C⟩:=aa0 C
  refine⟨φ3,ρ,s3,z,s4,E.mono G L,R3,e4,λ v4 φ4 H4 g4 l4 b4 r4 R4=>?_⟩
  exact⟨φ4,s4,y,z,d,s',R4,RV.mono (g3.trans g4 Y) y v2 J r2,r4,ze (ao Y l4) y J,b4,C,q.trans (G.trans g4 L) (ao L l4)⟩
 | false =>
  rw[if_neg aS]at C ⊢
  cases C
  exact q _ φ3 H3 G L rfl RV.blI R3
theorem aN1 {σ:St}{H:Hp}{Q:List V->Hp->Prop}(h:TAv Γ (λ ρ s=>.ok [] s) σ H Q):be3 σ H Q:=by
 obtain⟨φ,ρ,s,d,s',E,R,y,q⟩:=h
 cases y
 exact q [] φ H (Gr.refl _ _ _) (aj _) rfl .nil R
theorem bz5 {m:lX->lU->l7 lV}{G:lX->lU->l7 (List lV)}{σ:St}{H:Hp}{Q:List V->Hp->Prop}(h:TAv Γ (λ ρ s=>(m ρ s).bind λ d s=>(G ρ s).bind λ l s=>.ok (d::l) s) σ H Q):at4 (TEv Γ m) (TAv Γ G) σ H Q:=by
 obtain⟨φ,ρ,s,l,s',E,R,z,q⟩:=h
 obtain⟨x,s1,e1,z⟩:=aa0 z
 obtain⟨y,s2,e2,z⟩:=aa0 z
 cases z
 refine⟨φ,ρ,s,x,s1,E,R,e1,λ J φ1 H1 g1 l1 b1 r1 R1=>?_⟩
 refine⟨φ1,ρ,s1,y,_,E.mono g1 l1,R1,e2,λ Z φ2 H2 C Y b2 r2 R2=>?_⟩
 refine q (J::Z) φ2 H2 (g1.trans C l1) (ao l1 Y) ?_ (.cons (RV.mono C x J b1 r1) r2) R2
 unfold lW
 rw[ze Y x b1,b2];rfl
theorem aH1 {z:lX->lU->l7 (List lV)}{f:List lV->lU->l7 lV}{σ:St}{H:Hp}{Q:VK}(h:TEv Γ (λ ρ s=>(z ρ s).bind λ l s=>f l s) σ H Q):tCB (rCl Γ f) (TAv Γ z) σ H Q:=by
 obtain⟨φ,ρ,s,d,s',E,R,y,q⟩:=h
 obtain⟨l,s1,e1,y⟩:=aa0 y
 exact⟨φ,ρ,s,l,s1,E,R,e1,λ vs φ1 C g1 l1 b1 r1 R1=>⟨φ1,s1,l,d,s',R1,r1,b1,y,q.trans g1 l1⟩⟩
theorem bR5 {m:lX->lU->l7 lV}{ml mh:lX->lU->l7 lV}{σ:St}{H:Hp}{Q:VK} :
  (TEv Γ (λ ρ s=>(m ρ s).bind λ x s=>(ml ρ s).bind λ y s=>match y with|.int i=>nA x (some i) none s|_=>.bad) σ H Q->tSl (rSl Γ) (TEv Γ m) (aZ2 (TEv Γ ml)) aJ1 σ H Q) /\
  (TEv Γ (λ ρ s=>(m ρ s).bind λ x s=>(mh ρ s).bind λ y s=>match y with|.int i=>nA x none (some i) s|_=>.bad) σ H Q->tSl (rSl Γ) (TEv Γ m) aJ1 (aZ2 (TEv Γ mh)) σ H Q) /\
  (TEv Γ (λ ρ s=>(m ρ s).bind λ x s=>(ml ρ s).bind λ y s=>match y with|.int i=>(mh ρ s).bind (λ z s=>match z with|.int j=>nA x (some i) (some j) s|_=>.bad)|_=>.bad) σ H Q->tSl (rSl Γ) (TEv Γ m) (aZ2 (TEv Γ ml)) (aZ2 (TEv Γ mh)) σ H Q):=by
 refine⟨λ h=>?_,λ h=>?_,λ h=>?_⟩
 ·obtain⟨φ,ρ,s,d,s',E,R,C,q⟩:=h
  obtain⟨x,s1,e1,C⟩:=aa0 C
  obtain⟨y,s2,e2,C⟩:=aa0 C
  refine⟨φ,ρ,s,x,s1,E,R,e1,λ Y φ1 H1 g1 l1 b1 r1 R1=>?_⟩
  refine⟨φ1,ρ,s1,y,s2,E.mono g1 l1,R1,e2,λ v2 φ2 H2 J G b2 Z R2=>?_⟩
  cases y with
  | int i=>exact⟨i,Z.intE,φ2,s2,x,d,s',R2,RV.mono J x Y b1 r1,ze G x b1,C,q.trans (g1.trans J l1) (ao l1 G)⟩
  | _=>exact fb C
 ·obtain⟨φ,ρ,s,d,s',E,R,C,q⟩:=h
  obtain⟨x,s1,e1,C⟩:=aa0 C
  obtain⟨y,s2,e2,C⟩:=aa0 C
  refine⟨φ,ρ,s,x,s1,E,R,e1,λ Y φ1 H1 g1 l1 b1 r1 R1=>?_⟩
  refine⟨φ1,ρ,s1,y,s2,E.mono g1 l1,R1,e2,λ v2 φ2 H2 J G b2 Z R2=>?_⟩
  cases y with
  | int i=>exact⟨i,Z.intE,φ2,s2,x,d,s',R2,RV.mono J x Y b1 r1,ze G x b1,C,q.trans (g1.trans J l1) (ao l1 G)⟩
  | _=>exact fb C
 ·obtain⟨φ,ρ,s,d,s',E,R,C,q⟩:=h
  obtain⟨x,s1,e1,C⟩:=aa0 C
  obtain⟨y,s2,e2,C⟩:=aa0 C
  refine⟨φ,ρ,s,x,s1,E,R,e1,λ Y φ1 H1 g1 l1 b1 r1 R1=>?_⟩
  refine⟨φ1,ρ,s1,y,s2,E.mono g1 l1,R1,e2,λ v2 φ2 H2 J G b2 Z R2=>?_⟩
  cases y with
  | int i =>
   obtain⟨z,s3,e3,C⟩:=aa0 C
   refine⟨i,Z.intE,φ2,ρ,s2,z,s3,E.mono (g1.trans J l1) (ao l1 G),R2,e3,λ v3 φ3 H3 g3 l3 b3 r3 R3=>?_⟩
   cases z with
   | int j=>exact⟨j,r3.intE,φ3,s3,x,d,s',R3,RV.mono (J.trans g3 G) x Y b1 r1,ze (ao G l3) x b1,C,q.trans ((g1.trans J l1).trans g3 (ao l1 G)) (ao (ao l1 G) l3)⟩
   | _=>exact fb C
  | _=>exact fb C
variable {Γ:Gm} {X:Cx}
def qQ (Γ:Gm)(J:It)(φ0:Nat->Addr)(H0:Hp)(s0:lU)(q:ni):Prop :=
 ∀ φ H s,Gr φ0 s0 H0 φ s H->s0.length<=s.length->Rp Γ φ H s->mH s0 s q.src=true->∀ i:Nat,
  (i<q.its.length->J.go i H/\∀ x H',J.yld i H x H'->aj8 H H'/\∀ d,q.its[i]?=some d->RV Γ φ H' d x)/\(q.its.length<=i->J.stop i H)
def TIv (Γ:Gm)(m:lX->lU->l7 ni):TI:=λ σ H R=>∃ φ ρ s q s',RE Γ φ H s.length ρ σ/\Rp Γ φ H s/\m ρ s=.ok q s' /\
 ∀ J φ' H',Gr φ s H φ' s' H'->s.length<=s'.length->lW s'.length q.its=true->Rp Γ φ' H' s'->qQ Γ J φ' H' s' q->R J H'
theorem PI.imp {tg e:Expr}{t t':TI}(h:PI X tg e t)(i:∀ σ H R,t' σ H R->t σ H R):PI X tg e t':=λ y s σ H R I q=>h y s σ H R I (i σ H R q)
theorem PI.or {tg e:Expr}{t t':TI}(h:PI X tg e t)(h':PI X tg e t'):PI X tg e (λ σ H R=>t σ H R\/t' σ H R):=λ y s σ H R I q=>q.elim (h y s σ H R I) (h' y s σ H R I)
theorem aM5 {φ0:Nat->Addr}{H0:Hp}{s0:lU}{a:Addr}{C:List V}{l:List lV}(h:SqT Γ.K H0 a C)(hl:RVL Γ φ0 H0 l C)(hb:lW s0.length l=true):qQ Γ (Itt Γ.K a) φ0 H0 s0 ⟨l,[]⟩:=by
 intro φ H s g _ R _ i
 have h':=g.w.kp.sqT h
 have z:=RVL.mono g l C hb hl
 refine⟨λ hlt=>⟨⟨C,C[i]'(by rw[z.length];exact hlt),h',ag _⟩,λ x H' y=>?_⟩,λ G=>⟨C,h',by rw[z.length];exact G⟩⟩
 obtain⟨e,y⟩:=y
 subst e
 refine⟨aj8.refl _,λ d hd=>?_⟩
 obtain⟨v,e1,e2⟩:=z.get hd
 rw[y C h']at e1;cases e1
 exact e2
theorem aT4 {φ0:Nat->Addr}{H0:Hp}{s0:lU}{a:Addr}{C:List V}{l:List lV}(h:SqF Γ.K H0 a C)(hl:RVL Γ φ0 H0 l C)(hb:lW s0.length l=true):qQ Γ (Itl Γ.K a) φ0 H0 s0 ⟨l,[]⟩:=by
 intro φ H s g _ R _ i
 have h':=h.2 _ g.w.kp
 have z:=RVL.mono g l C hb hl
 refine⟨λ hlt=>⟨⟨C,C[i]'(by rw[z.length];exact hlt),h',ag _⟩,λ x H' y=>?_⟩,λ G=>⟨C,h',by rw[z.length];exact G⟩⟩
 obtain⟨e,y⟩:=y
 subst e
 refine⟨aj8.refl _,λ d hd=>?_⟩
 obtain⟨v,e1,e2⟩:=z.get hd
 rw[y C h']at e1;cases e1
 exact e2
theorem aO4 {φ0:Nat->Addr}{H0:Hp}{s0:lU}{r:Nat}{l:List lV}(hr:s0[r]?=some (.lst l)):qQ Γ (Itl Γ.K (φ0 r)) φ0 H0 s0 ⟨l,[r]⟩:=by
 intro φ H s g _ R J i
 have z:r<s0.length:=(ac.mp hr).1
 have hs:s[r]?=some (.lst l):=by
  unfold mH at J
  simp only[eg,lF,gP,decide_eq_true_eq]at J
  rw[J];exact hr
 obtain⟨C,e,h⟩:=R.addr hs
 rw[g.w.map r z]at e
 have h':SqL Γ.K H (φ0 r) C:=SqL.of e
 refine⟨λ hlt=>⟨⟨C,C[i]'(by rw[h.length];exact hlt),h',ag _⟩,λ x H' y=>?_⟩,λ G=>⟨C,h',by rw[h.length];exact G⟩⟩
 obtain⟨e,y⟩:=y
 subst e
 refine⟨aj8.refl _,λ d hd=>?_⟩
 obtain⟨v,e1,e2⟩:=h.get hd
 rw[y C h']at e1;cases e1
 exact e2
theorem aO7 {φ0:Nat->Addr}{H0:Hp}{s0:lU}{l:List Nat}:qQ Γ (Its ⟨l.toArray⟩) φ0 H0 s0 ⟨l.map λ c=>.str [c],[]⟩:=by
 intro φ H s g _ R _ i
 have hsz:(⟨l.toArray⟩:Str).cps.size=l.length:=by simp
 refine⟨λ hlt=>?_,λ h=>?_⟩
 ·simp only[aq]at hlt
  refine⟨show i<(⟨l.toArray⟩:Str).cps.size by rw[hsz];exact hlt,λ x H' y=>?_⟩
  obtain⟨e,c,hc,rfl⟩:=y
  subst e
  refine⟨aj8.refl _,λ d hd=>?_⟩
  have z:l[i]?=some c:=by simpa using hc
  rw[az,z]at hd
  cases hd
  exact RV.strI (by simp;decide)
 ·simp only[aq]at h
  show(⟨l.toArray⟩:Str).cps.size<=i
  rw[hsz];exact h
theorem bm2 {φ0:Nat->Addr}{H0:Hp}{s0:lU}{a b:Int}:qQ Γ (Itr a (b - a).toNat) φ0 H0 s0 ⟨nF a b,[]⟩:=by
 intro φ H s g _ R _ i
 have hn:(nF a b).length=(b - a).toNat:=by simp[nF]
 refine⟨λ hlt=>⟨show i<(b - a).toNat by rw[<-hn];exact hlt,λ x H' y=>?_⟩,λ h=>show(b - a).toNat<=i by rw[<-hn];exact h⟩
 obtain⟨e,rfl⟩:=y
 subst e
 refine⟨aj8.refl _,λ d hd=>?_⟩
 simp only[nF]at hd hlt
 rw[az,di (by simpa using hlt)]at hd
 cases hd
 exact RV.intI
theorem bx1 {m:lX->lU->l7 lV}{σ:St}{H:Hp}{R:It->Hp->Prop}(h:TIv Γ (λ ρ s=>(m ρ s).bind λ x s=>match x with|.int i=>if -nW<=i/\i<nW then .ok ⟨nF 0 i,[]⟩ s else .bad|_=>.bad) σ H R) :
  bF0 (at4 (TEv Γ m) be3) σ H R:=by
 obtain⟨φ,ρ,s,q,s',E,P,y,k⟩:=h
 obtain⟨x,s1,e1,y⟩:=aa0 y
 refine⟨φ,ρ,s,x,s1,E,P,e1,λ v φ1 z g l b r C=>?_⟩
 cases x with
 | int i =>
  simp only at y
  split at y
  ·rename_i hi
   cases y
   have hw:nW=2^62:=by decide
   rw[hw]at hi
   refine⟨i,by rw[r.intE],hi.1,hi.2,k _ φ1 z g l ?_ C ?_⟩
   ·refine aa8.mpr λ d hd=>?_
    simp only[nF,aH]at hd
    obtain⟨_,_,rfl⟩:=hd
    rfl
   ·have:=bm2 (Γ:=Γ) (φ0:=φ1) (H0:=z) (s0:=s') (a:=0) (b:=i)
    rwa [iy]at this
  ·exact fb y
 | _=>exact fb y
theorem bO7 {m:lX->lU->l7 lV}{σ:St}{H:Hp}{R:It->Hp->Prop}(h:TIv Γ (λ ρ s=>(m ρ s).bind λ d s=>DV.qV d s) σ H R) :
  ca8 Γ.K (TEv Γ m) σ H R\/bC5 Γ.K (TEv Γ m) σ H R\/ce1 (TEv Γ m) σ H R:=by
 obtain⟨φ,ρ,s,q,s',E,P,y,k⟩:=h
 obtain⟨x,s1,e1,y⟩:=aa0 y
 unfold DV.qV at y
 cases x with
 | tup l =>
  cases y
  refine .inl ⟨φ,ρ,s,_,_,E,P,e1,λ v φ1 C g l b r z=>?_⟩
  obtain⟨a,J,rfl,Z,d1⟩:=r.tupE
  unfold lZ at b
  exact⟨a,rfl,⟨J,Z⟩,k _ φ1 C g l b z (aM5 Z d1 b)⟩
 | str l =>
  cases y
  refine .inr (.inr ⟨φ,ρ,s,_,_,E,P,e1,λ v φ1 C g G b r z=>?_⟩)
  refine⟨_,r.strE,k _ φ1 C g G ?_ z aO7⟩
  refine aa8.mpr λ d hd=>?_
  simp only[aH]at hd
  obtain⟨_,_,rfl⟩:=hd
  rfl
 | ref r =>
  simp only at y
  cases hs:s1[r]? with
  | none=>rw[hs]at y;cases y
  | some o =>
   rw[hs]at y
   cases o with
   | lst l =>
    cases y
    refine .inr (.inl ⟨φ,ρ,s,_,_,E,P,e1,λ v φ1 C g G b Y z=>?_⟩)
    have e:=Y.refE;subst e
    obtain⟨J,e2,d1⟩:=z.addr hs
    have wf:=z.wf _ _ hs
    unfold l6 at wf
    exact⟨φ1 r,rfl,⟨J,SqL.of e2⟩,k _ φ1 C g G wf z (aO4 hs)⟩
   | ro l =>
    cases y
    refine .inr (.inl ⟨φ,ρ,s,_,_,E,P,e1,λ v φ1 C g G b Y z=>?_⟩)
    have e:=Y.refE;subst e
    obtain⟨J,e2,d1⟩:=z.obj _ _ hs
    have wf:=z.wf _ _ hs
    unfold l6 at wf
    exact⟨φ1 r,rfl,⟨J,e2.1⟩,k _ φ1 C g G wf z (aT4 e2 d1 wf)⟩
   | dic l=>exact fb y
   | dit l=>exact fb y
   | ins c l=>exact fb y
 | _=>exact fb y
theorem aX2 {d:lV}{s s':lU}{q:ni}(h:nO d s=.ok q s'):s'=s/\∀ φ H v,RV Γ φ H d v->Rp Γ φ H s->d.bnd s.length=true ->
  ∃ J,Sr Γ.K H v J/\qQ Γ J φ H s q/\lW s.length q.its=true:=by
 unfold nO at h
 cases d with
 | tup l =>
  cases h
  refine⟨rfl,λ φ H v r P b=>?_⟩
  obtain⟨a,y,rfl,C,d1⟩:=r.tupE
  unfold lZ at b
  exact⟨_,.inr (.inl ⟨a,rfl,⟨y,C⟩,rfl⟩),aM5 C d1 b,b⟩
 | str l =>
  cases h
  refine⟨rfl,λ φ H v r P b=>⟨_,.inr (.inr ⟨_,r.strE,rfl⟩),aO7,?_⟩⟩
  refine aa8.mpr λ d hd=>?_
  simp only[aH]at hd
  obtain⟨_,_,rfl⟩:=hd
  rfl
 | ref r =>
  simp only at h
  cases hs:s[r]? with
  | none=>rw[hs]at h;cases h
  | some o =>
   rw[hs]at h
   cases o with
   | lst l =>
    cases h
    refine⟨rfl,λ φ H v z P b=>?_⟩
    have e:=z.refE;subst e
    obtain⟨y,e2,d1⟩:=P.addr hs
    have wf:=P.wf _ _ hs
    unfold l6 at wf
    exact⟨_,.inl ⟨_,rfl,⟨y,SqL.of e2⟩,rfl⟩,aO4 hs,wf⟩
   | ro l =>
    cases h
    refine⟨rfl,λ φ H v z P b=>?_⟩
    have e:=z.refE;subst e
    obtain⟨y,e2,d1⟩:=P.obj _ _ hs
    have wf:=P.wf _ _ hs
    unfold l6 at wf
    exact⟨_,.inl ⟨_,rfl,⟨y,e2.1⟩,rfl⟩,aT4 e2 d1 wf,wf⟩
   | dic l=>exact fb h
   | dit l=>exact fb h
   | ins c l=>exact fb h
 | _=>exact fb h
theorem bt6 {s0 s:lU}{a b:List Nat}:mH s0 s (a++b)=(mH s0 s a&&mH s0 s b):=by unfold mH;exact List.all_append
theorem aw6:∀(l m:List lV) (i:Nat),(mD l m)[i]?=(match l[i]?,m[i]? with|some a,some b=>some (.tup [a,b])|_,_=>none)
 | [],m,i=>by rw[mD]<;>simp
 | a::l,[],i=>by
  rw[mD]<;>simp
 | a::l,b::m,0=>by rw[mD];rfl
 | a::l,b::m,i+1=>by
  rw[mD]
  exact aw6 l m i
theorem ax0:∀(l m:List lV),(mD l m).length=min l.length m.length
 | [],m=>by rw[mD]<;>simp
 | a::l,[]=>by rw[mD]<;>simp
 | a::l,b::m=>by rw[mD];simp[ax0 l m]
theorem bm5 {φ0:Nat->Addr}{H0:Hp}{s0:lU}{J1 Y:It}{p q:ni}(w1:qQ Γ J1 φ0 H0 s0 p)(w2:qQ Γ Y φ0 H0 s0 q)(b1:lW s0.length p.its=true)(b2:lW s0.length q.its=true) :
  qQ Γ (Jz J1 Y) φ0 H0 s0 ⟨mD p.its q.its,p.src++q.src⟩:=by
 intro φ H s g hl R J i
 rw[bt6,ak]at J
 obtain⟨u1,u2⟩:=w1 φ H s g hl R J.1 i
 obtain⟨v1,v2⟩:=w2 φ H s g hl R J.2 i
 refine⟨λ hlt=>?_,λ G=>?_⟩
 ·simp only[ax0]at hlt
  have h:i<p.its.length:=ay hlt (Nat.min_le_left ..)
  have C:i<q.its.length:=ay hlt (kn ..)
  obtain⟨g1,y1⟩:=u1 h
  obtain⟨g2,y2⟩:=v1 C
  refine⟨⟨g1,g2⟩,λ x H' y=>?_⟩
  obtain⟨a,x1,x2,e1,e2,hn,rfl,rfl⟩:=y
  have Z:aj8 H (upd H a (.tup [x1,x2])):=(aj8.refl H).new hn
  refine⟨Z,λ d hd=>?_⟩
  have z:(mD p.its q.its)[i]?=some d:=hd
  rw[aw6,ag h,ag C]at z
  cases z
  obtain⟨gr,R'⟩:=R.same Z
  have c1:=aa8.mp b1 _ (dZ h)
  have c2:=aa8.mp b2 _ (dZ C)
  exact RV.tupI zh (RVL.cons (RV.mono gr _ _ (ze hl _ c1) ((y1 _ _ e1).2 _ (ag h))) (RVL.cons (RV.mono gr _ _ (ze hl _ c2) ((y2 _ _ e2).2 _ (ag C))) RVL.nil))
 ·simp only[ax0]at G
  by_cases h:p.its.length<=i
  ·exact .inl (u2 h)
  ·refine .inr ⟨(u1 (by omega)).1,v2 (by omega)⟩
theorem bD2 {n:Nat}{l m:List lV}(a:lW n l=true)(b:lW n m=true):lW n (mD l m)=true:=by
 refine aa8.mpr λ d hd=>?_
 obtain⟨i,hi⟩:=c7 hd
 rw[aw6]at hi
 split at hi
 ·rename_i x y e1 e2
  cases hi
  unfold lZ
  exact aa8.mpr λ d hd=>by
   simp only[aP,bC,or_false]at hd
   rcases hd with rfl|rfl
   ·exact aa8.mp a _ (aQ e1)
   ·exact aa8.mp b _ (aQ e2)
 ·cases hi
theorem bG7 {m1 m2:lX->lU->l7 lV}{σ:St}{H:Hp}{R:It->Hp->Prop}(h:TIv Γ (λ ρ s=>(m1 ρ s).bind λ x s=>(m2 ρ s).bind λ y s=>(nO x s).bind λ p s=>(nO y s).bind λ q s=>.ok ⟨mD p.its q.its,p.src++q.src⟩ s) σ H R) :
  cd1 Γ.K (at4 (TEv Γ m1) (at4 (TEv Γ m2) be3)) σ H R:=by
 obtain⟨φ,ρ,s,q,s',E,P,z,k⟩:=h
 obtain⟨x,s1,e1,z⟩:=aa0 z
 obtain⟨y,s2,e2,z⟩:=aa0 z
 obtain⟨p1,s3,e3,z⟩:=aa0 z
 obtain⟨p2,s4,e4,z⟩:=aa0 z
 cases z
 obtain⟨rfl,d1⟩:=aX2 (Γ:=Γ) e3
 obtain⟨rfl,d2⟩:=aX2 (Γ:=Γ) e4
 refine⟨φ,ρ,s,x,s1,E,P,e1,λ v φ1 H1 g l b r P1=>?_⟩
 refine⟨φ1,ρ,s1,y,_,E.mono g l,P1,e2,λ J φ2 G Z l2 b2 r2 C=>?_⟩
 obtain⟨J1,S1,w1,Y⟩:=d1 φ2 G v (RV.mono Z _ _ b r) C (ze l2 _ b)
 obtain⟨J2,S2,w2,c2⟩:=d2 φ2 G J r2 C b2
 exact⟨v,J,J1,J2,rfl,S1,S2,k _ φ2 G (g.trans Z l) (ao l l2) (bD2 Y c2) C (bm5 w1 w2 Y c2)⟩
variable {Γ:Gm} {X:Cx}
noncomputable def bU6:List Nat->TGs
 | []=>bX4
 | i::is=>bj1 (as7 i) (bU6 is)
noncomputable def gOf (K:ae):mV->TG
 | .one i=>as7 i
 | .tup is=>bU7 K is.length (bU6 is)
theorem bp0 {φ:Nat->Addr}{H:Hp}{n:Nat}{ρ ρ':lX}{σ:St}{i:Nat}{d:lV}{v:V}(E:RE Γ φ H n ρ σ)(r:RV Γ φ H d v)(b:d.bnd n=true)(h:nn ρ i d=some ρ'):RE Γ φ H n ρ' (σ.set i (some v)):=by
 unfold nn at h
 split at h
 ·rename_i hi
  cases h
  refine⟨by rw[bz,bz];exact E.len,λ j e hj=>?_⟩
  by_cases hij:j=i
  ·subst hij
   rw[bn hi]at hj
   cases hj
   exact⟨b,v,by rw[bn (by rw[<-E.len];exact hi)],r⟩
  ·rw[aY (cV hij)]at hj
   obtain⟨z,w,y,h3⟩:=E.val j e hj
   exact⟨z,w,by rw[aY (cV hij)];exact y,h3⟩
 ·cases h
theorem bS5 {φ:Nat->Addr}{H:Hp}{n:Nat}{Q:St->Hp->Prop}:∀(is:List Nat) (l:List lV) (y:List V) (ρ ρ':lX) (σ:St),RE Γ φ H n ρ σ->RVL Γ φ H l y->lW n l=true->nB ρ is l=some ρ'->(∀ σ',RE Γ φ H n ρ' σ'->Q σ' H)->bU6 is y σ H Q
 | [],[],y,ρ,ρ',σ,E,r,_,h,k=>by
  cases h
  exact⟨r.unnil,k σ E⟩
 | [],d::l,_,_,_,_,_,_,_,h,_=>by cases h
 | i::is,[],_,_,_,_,_,_,_,h,_=>by cases h
 | i::is,d::l,y,ρ,ρ',σ,E,r,b,h,k=>by
  have h:(nn ρ i d).bind (λ ρ=>nB ρ is l)=some ρ':=h
  obtain⟨x,z,rfl,G,C⟩:=r.uncons
  unfold lW at b
  rw[ak]at b
  cases e:nn ρ i d with
  | none=>rw[e]at h;cases h
  | some ρ1 =>
   rw[e]at h
   exact⟨x,z,rfl,bS5 is l z ρ1 ρ' _ (bp0 E G b.1 e) C b.2 h k⟩
theorem aX8 {l:List lV}:∀ {is:List Nat} {ρ ρ':lX},nB ρ is l=some ρ'->is.length=l.length:=by
 induction l with
 | nil=>intro is ρ ρ' h;cases is with
  | nil=>rfl
  | cons i is=>cases h
 | cons d l ih=>intro is ρ ρ' h;cases is with
  | nil=>cases h
  | cons i is =>
   have h:(nn ρ i d).bind (λ ρ=>nB ρ is l)=some ρ':=h
   cases e:nn ρ i d with
   | none=>rw[e]at h;cases h
   | some ρ1=>rw[e]at h;rw[bh,bh,ih h]
theorem bx5 {φ:Nat->Addr}{H:Hp}{n:Nat}{Q:St->Hp->Prop}{tg:mV}{d:lV}{v:V}{ρ ρ':lX}{σ:St}(E:RE Γ φ H n ρ σ)(r:RV Γ φ H d v)(b:d.bnd n=true)(h:mJ ρ tg d=some ρ')(k:∀ σ',RE Γ φ H n ρ' σ'->Q σ' H):gOf Γ.K tg v σ H Q:=by
 cases tg with
 | one i=>exact k _ (bp0 E r b h)
 | tup is =>
  cases d with
  | tup l =>
   have h:nB ρ is l=some ρ':=h
   obtain⟨a,y,rfl,z,d1⟩:=r.tupE
   unfold lZ at b
   exact⟨a,y,rfl,z,by rw[d1.length,aX8 h],bS5 is l y ρ ρ' σ E d1 b h k⟩
  | _=>cases h
def Off (φ:Nat->Addr)(s:lU)(b:Addr):Prop:=∀(i:Nat) (ob:mM),s[i]?=some ob->isMut ob=true->φ i≠b
theorem Off.mono {φ φ':Nat->Addr}{s s':lU}{H H':Hp}{b:Addr}{o:HO}(h:Off φ s b)(g:Gr φ s H φ' s' H')(hb:H b=some o):Off φ' s' b:=λ i ob e m z=>by
 by_cases hi:i<s.length
 ·obtain⟨y,C⟩:∃ y,s[i]?=some y:=⟨s[i],ag hi⟩
  exact h i y C (g.mu i y ob C e m) (by rw[<-g.w.map i hi];exact z)
 ·have:=g.new i (by omega) (ac.mp e).1
  rw[z,hb]at this;cases this
theorem Off.new {φ:Nat->Addr}{s:lU}{H:Hp}{b:Addr}(r:Rp Γ φ H s)(h:H b=none):Off φ s b:=λ i ob e m z=>by
 obtain⟨u,y,_⟩:=(r.obj i ob e).there m
 rw[z,h]at y;cases y
theorem Rp.foreign {φ:Nat->Addr}{s:lU}{H:Hp}{b:Addr}{ys h:List V}(r:Rp Γ φ H s)(hb:H b=some (.lst ys))(ho:Off φ s b):Rp Γ φ (upd H b (.lst h)) s:=by
 have g:Gw φ s.length H φ (upd H b (.lst h)):=⟨λ _ _=>rfl,(Kp.refl H).put hb rfl⟩
 exact⟨r.inj,λ i o e=>(r.obj i o e).mono g (r.wf i o e) λ m u y=>by rw[zd (ho i o e m)];exact y,r.wf,r.tab.put hb⟩
theorem Gr.foreign {φ φ':Nat->Addr}{s s':lU}{H H':Hp}{b:Addr}{ys z:List V}(g:Gr φ s H φ' s' H')(h0:H b=none)(hb:H' b=some (.lst ys)):Gr φ s H φ' s' (upd H' b (.lst z)):=by
 have ne:∀ c o,H c=some o->c≠b:=λ c o e=>zm e h0
 refine⟨⟨g.w.map,λ c o e f=>?_⟩,g.le,g.new,g.kd,λ c hc=>?_,λ c o e y h=>?_⟩
 ·rw[zd (ne c o e)];exact g.w.kp c o e f
 ·unfold upd;split
  ·simp
  ·exact g.st c hc
 ·rw[zd (ne c o e)];exact g.fr c o e y h
def bN4 (Γ:Gm)(φ:Nat->Addr)(s:lU)(H:Hp)(l:List lV)(s':lU)(Q:VK):Prop :=
 ∀ p ys φ' H',Gr φ s H φ' s' H'->s.length<=s'.length->lW s'.length l=true->H' p=some (.lst ys)->H p=none->Off φ' s' p->RVL Γ φ' H' l ys->Rp Γ φ' H' s'->Q (.ref p) H'
def TFv (Γ:Gm)(m:lX->lU->l7 (List lV)):TE:=λ σ H Q=>∃ φ ρ s l s',RE Γ φ H s.length ρ σ/\Rp Γ φ H s/\m ρ s=.ok l s'/\bN4 Γ φ s H l s' Q
theorem aV2 {m:lX->lU->l7 (List lV)}{σ:St}{H:Hp}{Q:VK}(h:TEv Γ (λ ρ s=>(m ρ s).bind λ l s=>mZ (.lst l) s) σ H Q):TFv Γ m σ H Q:=by
 obtain⟨φ,ρ,s,d,s',E,R,Z,q⟩:=h
 obtain⟨l,s1,e1,Z⟩:=aa0 Z
 obtain⟨rfl,rfl⟩:=zQ Z
 refine⟨φ,ρ,s,l,s1,E,R,e1,λ p ys φ' H' g hl hb hp h0 ho r z=>?_⟩
 have gw:Gw φ' s1.length H' (λ i=>if i=s1.length then p else φ' i) H':=⟨λ i hi=>if_neg (ax hi),Kp.refl _⟩
 have key:∀(i:Nat) (y:mM),(s1++[DV.O.lst l])[i]?=some y->(i<s1.length/\s1[i]?=some y)\/(i=s1.length/\y=.lst l):=λ i y e=>by
  rcases gz i s1.length with h|h|h
  ·rw[aL h]at e;exact .inl ⟨h,e⟩
  ·subst h;simp at e;exact .inr ⟨rfl,e.symm⟩
  ·rw[bT (by simp;omega)]at e;cases e
 have G:Gr φ s H (λ i=>if i=s1.length then p else φ' i) (s1++[.lst l]) H':=by
  refine⟨⟨λ i hi=>by show(if i=s1.length then p else φ' i)=_;rw[if_neg (by omega)];exact g.w.map i hi,g.w.kp⟩,by simp;omega,λ i h1 h2=>?_,λ i o y e e'=>?_,g.st,g.fr⟩
  ·by_cases hi:i=s1.length
   ·show H (if i=s1.length then p else φ' i)=none
    rw[if_pos hi];exact h0
   ·show H (if i=s1.length then p else φ' i)=none
    rw[if_neg hi];exact g.new i h1 (by simp at h2;omega)
  ·rcases key i y e' with⟨_,e2⟩|⟨hi,_⟩
   ·exact g.kd i o y e e2
   ·have:=(ac.mp e).1;omega
 have P:Rp Γ (λ i=>if i=s1.length then p else φ' i) H' (s1++[.lst l]):=by
  refine⟨λ i j Y J C ej mi mj e=>?_,λ i o e=>?_,λ i o e=>?_,z.tab⟩
  ·rcases key i Y C with⟨hi,C⟩|⟨hi,_⟩<;>rcases key j J ej with⟨hj,ej⟩|⟨hj,_⟩
   ·rw[if_neg (ax hi),if_neg (ax hj)]at e
    exact z.inj i j Y J C ej mi mj e
   ·rw[if_neg (ax hi),if_pos hj]at e
    exact absurd e (ho i Y C mi)
   ·rw[if_neg (ax hj),if_pos hi]at e
    exact absurd e.symm (ho j J ej mj)
   ·rw[hi,hj]
  ·rcases key i o e with⟨hi,e⟩|⟨hi,rfl⟩
   ·show RO Γ _ _ (if i=s1.length then p else φ' i) o
    rw[if_neg (ax hi)]
    exact(z.obj i o e).mono gw (z.wf i o e) λ _ u hu=>hu
   ·show RO Γ _ _ (if i=s1.length then p else φ' i) _
    rw[if_pos hi]
    exact⟨ys,hp,RVL.monoW gw l ys hb r⟩
  ·rw[aw,cW]
   rcases key i o e with⟨_,e⟩|⟨_,rfl⟩
   ·exact zZ (dU _) _ (z.wf i o e)
   ·exact zZ (dU _) _ (by unfold l6;exact hb)
 exact q (.ref p) _ H' G (by simp;omega) (by unfold lZ;simp) (by unfold RV;simp) P
theorem bH6 {φ:Nat->Addr}{H:Hp}{n:Nat}{ρ:lX}{σ:St}(E:RE Γ φ H n ρ σ)(h:List (Option Nat)):RE Γ φ H n (nu ρ h) (aA1 h σ):=by
 refine⟨by unfold nu aA1;simp,λ i d e=>?_⟩
 unfold nu at e
 rw[az]at e
 cases q:h[i]? with
 | none=>rw[q]at e;cases e
 | some o =>
  rw[q]at e
  cases o with
  | none=>cases e
  | some j =>
   have e':(ρ[j]?).join=some d:=aA e
   have ej:ρ[j]?=some (some d):=by
    cases q2:ρ[j]? with
    | none=>rw[q2]at e';cases e'
    | some o2=>rw[q2]at e';exact congrArg some e'
   obtain⟨b,v,z,y⟩:=E.val j d ej
   refine⟨b,v,?_,y⟩
   unfold aA1
   rw[az,q]
   show some ((σ[j]?).join)=_
   rw[z];rfl
theorem aU0 {mI:lX->lU->l7 ni}{mc me:lX->lU->l7 lV}{tg:mV}{G:List (Option Nat)}{σ:St}{H:Hp}{Q:VK}
  (h:TFv Γ (λ ρ s=>(mI ρ s).bind λ q s0=>if q.its.length<=l8 then nq (λ s=>mH s0 s q.src) (λ d ρ s=>match mJ ρ tg d with
   | some ρ=>mr (mc ρ s) λ k s=>if k then(me ρ s).bind λ v s=>.ok (some v,ρ) s else .ok (none,ρ) s
   | none=>.bad) q.its (nu ρ G) s0 else .bad) σ H Q):tComp G (TIv Γ mI) (gOf Γ.K tg) (TTv Γ mc) (TEv Γ me) σ H Q:=by
 obtain⟨φ,ρ,s,l,s',E,R,hm,k⟩:=h
 obtain⟨q,s0,e1,hm⟩:=aa0 hm
 split at hm
 case isFalse=>exact fb hm
 rename_i b2
 refine⟨φ,ρ,s,q,s0,E,R,e1,λ J φ1 H1 g1 l1 b1 R1 wk D hD=>?_⟩
 have h0:H D=none:=by
  cases e:H D with
  | none=>rfl
  | some o=>exact absurd hD (g1.st D (by rw[e];simp))
 refine⟨λ i m σ' H'=>∃ φ' ρ' t y ys rest,Gr φ1 s0 H1 φ' t H'/\Rp Γ φ' H' t/\RE Γ φ' H' t.length ρ' σ'/\H' D=some (.lst ys)/\Off φ' t D/\RVL Γ φ' H' y ys/\lW t.length y=true/\y.length<=i/\i<=q.its.length/\m=q.its.length - i /\
  nq (λ s=>mH s0 s q.src) (λ d ρ s=>match mJ ρ tg d with
   | some ρ=>mr (mc ρ s) λ k s=>if k then(me ρ s).bind λ v s=>.ok (some v,ρ) s else .ok (none,ρ) s
   | none=>.bad) (q.its.drop i) ρ' t=.ok rest s'/\l=y++rest,⟨q.its.length,?_⟩,?_⟩
 ·obtain⟨g2,R2⟩:=R1.same (H':=upd H1 D (.lst [])) ((aj8.refl H1).new hD)
  exact⟨φ1,nu ρ G,s0,[],[],l,g2,R2,bH6 ((E.mono g1 l1).mono g2 (aj _)) G,zh,Off.new R1 hD,.nil,rfl,aj _,cz _,by simp,by rw[eV];exact hm,rfl⟩
 ·rintro i m σ' H' ⟨φ',ρ',t,y,ys,rest,g,R',E',hy,a3,ra,ba,b3,hil,rfl,hc,hl⟩
  have C:=g.le
  rcases kh i q.its.length with hlt|hge
  ·have hd:q.its[i]?=some q.its[i]:=ag hlt
   rw[d7 hlt]at hc
   unfold nq at hc
   split at hc
   case isFalse=>exact fb hc
   rename_i a4
   obtain⟨b0,a9⟩:=(wk φ' H' t g C R' a4 i).1 hlt
   refine .inr ⟨b0,_,λ σ2 H2 n=>⟨q.its.length - (i+1),by omega,n⟩,λ x H2 a7=>?_⟩
   obtain⟨sm,rv⟩:=a9 x H2 a7
   obtain⟨g2,R2⟩:=R'.same sm
   have rd:=rv _ hd
   have bd:(q.its[i]).bnd t.length=true:=ze C _ (ap3 b1 hd)
   obtain⟨p,t3,hs,hc⟩:=aa0 hc
   obtain⟨r2,t4,a5,hc⟩:=aa0 hc
   cases hb:mJ ρ' tg q.its[i]with
   | none=>rw[hb]at hs;cases hs
   | some ρ3 =>
    rw[hb]at hs
    refine bx5 (E'.mono g2 (aj _)) rd bd hb λ σ3 E3=>?_
    obtain⟨c,t1,ec,hs⟩:=zC hs
    refine⟨φ',ρ3,t,c,t1,E3,R2,ec,λ φ2 H4 g4 l4 R4=>?_⟩
    have a6:H2 D=some (.lst ys):=sm _ _ hy
    have a2:H4 D=some (.lst ys):=g4.fr D _ a6 (by nofun) a3
    have Y:Off φ2 t1 D:=a3.mono g4 a6
    have G4:=(g.trans g2 C).trans g4 C
    cases c with
    | true =>
     rw[if_pos rfl]at hs
     refine cf1 ?_
     obtain⟨v,t2,ev,hs⟩:=aa0 hs
     cases hs
     refine⟨φ2,ρ3,t1,v,t3,E3.mono g4 l4,R4,ev,λ w φ3 H5 g5 l5 b5 r5 R5=>?_⟩
     have Z:H5 D=some (.lst ys):=g5.fr D _ a2 (by nofun) Y
     have a1:Off φ3 t3 D:=Y.mono g5 a2
     refine⟨ys,Z,?_,?_⟩
     ·rw[ra.length]
      have:=qc
      omega
     ·have gw:Gw φ3 t3.length H5 φ3 (upd H5 D (.lst (ys++[w]))):=⟨λ _ _=>rfl,(Kp.refl H5).put Z rfl⟩
      have G5:=G4.trans g5 (ao C l4)
      have GG:=g2.trans (g4.trans g5 l4) (aj _)
      have a8:RVL Γ φ3 H5 y ys:=RVL.mono GG _ _ ba ra
      have bb:lW t3.length (y++[v])=true:=zv (ad2 GG.le _ ba) (by unfold lW;rw[b5];rfl)
      refine⟨φ3,ρ3,t3,y++[v],ys++[w],r2,G5.foreign hD Z,R5.foreign Z a1,?_,zh,a1,RVL.monoW gw _ _ bb (a8.append (.cons r5 .nil)),bb,by simp;omega,hlt,rfl,?_,?_⟩
      ·have E5:=(E3.mono g4 l4).mono g5 l5
       exact⟨E5.len,λ j e hj=>by
        obtain⟨h1,z,h2,h3⟩:=E5.val j e hj
        exact⟨h1,z,h2,RV.monoW gw _ _ h1 h3⟩⟩
      ·cases hc;exact a5
      ·cases hc;rw[hl];simp
    | false =>
     rw[if_neg aS]at hs
     refine cf0 ?_
     cases hs
     have GG:=g2.trans g4 (aj _)
     exact⟨φ2,ρ3,t3,y,ys,r2,G4,R4,E3.mono g4 l4,a2,Y,RVL.mono GG _ _ ba ra,ad2 l4 _ ba,by omega,hlt,rfl,by cases hc;exact a5,by cases hc;exact hl⟩
  ·have hi:i=q.its.length:=by omega
   rw[iz hge]at hc
   unfold nq at hc
   split at hc
   case isFalse=>exact fb hc
   rename_i a4
   cases hc
   refine .inl ⟨(wk φ' H' s' g C R' a4 i).2 hge,?_⟩
   rw[bK]at hl
   subst hl
   exact k D ys φ' H' (g1.trans g l1) (ao l1 C) ba hy h0 a3 ra R'
variable {Γ:Gm} {X:Cx}
noncomputable def ce0 (Γ:Gm)(φ:Nat->Addr)(H:Hp)(n:Nat)(D:Ends):mW->Prop
 | .next ρ=>∀ σ,RE Γ φ H n ρ σ->D.nx σ H
 | .ret d=>∀ v,d.bnd n=true->RV Γ φ H d v->D.rt v H
 | .cont ρ=>∀ σ,RE Γ φ H n ρ σ->D.ct σ H
 | .brk ρ=>∀ σ,RE Γ φ H n ρ σ->D.bk σ H
def aq3 (Γ:Gm)(φ:Nat->Addr)(s:lU)(H:Hp)(c:mW)(s':lU)(D:Ends):Prop :=
 ∀ φ' H',Gr φ s H φ' s' H'->s.length<=s'.length->Rp Γ φ' H' s'->ce0 Γ φ' H' s'.length D c
def TSv (Γ:Gm)(m:lX->lU->l7 mW):TS:=λ D σ H=>∃ φ ρ s c s',RE Γ φ H s.length ρ σ/\Rp Γ φ H s/\m ρ s=.ok c s'/\aq3 Γ φ s H c s' D
theorem PS.imp {e:Stmt}{t t':TS}(h:PS X e t)(i:∀ D σ H,t' D σ H->t D σ H):PS X e t':=λ y s σ H Q I q=>h y s σ H Q I (i Q σ H q)
theorem PSs.imp {e:List Stmt}{t t':TS}(h:PSs X e t)(i:∀ D σ H,t' D σ H->t D σ H):PSs X e t':=λ y s σ H Q I q=>h y s σ H Q I (i Q σ H q)
theorem aq3.trans {φ φ1:Nat->Addr}{s s1 s':lU}{H y:Hp}{c:mW}{D:Ends}(h:aq3 Γ φ s H c s' D)(g:Gr φ s H φ1 s1 y)(l:s.length<=s1.length):aq3 Γ φ1 s1 y c s' D :=
 λ φ' H' g' z p=>h φ' H' (g.trans g' l) (ao l z) p
theorem aq3.here {φ:Nat->Addr}{s:lU}{H:Hp}{c:mW}{D:Ends}(h:aq3 Γ φ s H c s D)(p:Rp Γ φ H s):ce0 Γ φ H s.length D c:=h φ H (Gr.refl φ s H) (aj _) p
variable {D:Ends} {σ:St} {H:Hp}
theorem bE1 {m:lX->lU->l7 mW}(y:∀ ρ s,m ρ s=.ok (.next ρ) s)(h:TSv Γ m D σ H):bQ8 D σ H:=by
 obtain⟨φ,ρ,s,c,s',E,R,e,q⟩:=h
 rw[y]at e;cases e
 exact q.here R σ E
theorem bM7 {m:lX->lU->l7 lV}(h:TSv Γ (λ ρ s=>(m ρ s).bind λ d s=>.ok (.ret d) s) D σ H):cc5 (TEv Γ m) D σ H:=by
 obtain⟨φ,ρ,s,c,s',E,R,e,q⟩:=h
 obtain⟨x,s1,e1,e⟩:=aa0 e
 cases e
 exact⟨φ,ρ,s,x,_,E,R,e1,λ v φ1 y g1 l1 b1 r1 R1=>q φ1 y g1 l1 R1 v b1 r1⟩
theorem br9 {m:lX->lU->l7 lV}(h:TSv Γ (λ ρ s=>(m ρ s).bind λ _ s=>.ok (.next ρ) s) D σ H):bL6 (TEv Γ m) D σ H:=by
 obtain⟨φ,ρ,s,c,s',E,R,e,q⟩:=h
 obtain⟨x,s1,e1,e⟩:=aa0 e
 cases e
 exact⟨φ,ρ,s,x,_,E,R,e1,λ v φ1 y g1 l1 b1 r1 R1=>q φ1 y g1 l1 R1 σ (E.mono g1 l1)⟩
theorem aV4 {m:lX->lU->l7 lV}{tg:mV}(h:TSv Γ (λ ρ s=>(m ρ s).bind λ d s=>match mJ ρ tg d with|some ρ=>.ok (.next ρ) s|none=>.bad) D σ H):bj2 (TEv Γ m) (gOf Γ.K tg) D σ H:=by
 obtain⟨φ,ρ,s,c,s',E,R,e,q⟩:=h
 obtain⟨x,s1,e1,e⟩:=aa0 e
 refine⟨φ,ρ,s,x,s1,E,R,e1,λ v φ1 z g1 l1 b1 r1 R1=>?_⟩
 cases hb:mJ ρ tg x with
 | none=>rw[hb]at e;cases e
 | some ρ1 =>
  rw[hb]at e
  cases e
  exact bx5 (E.mono g1 l1) r1 b1 hb λ σ' y=>q φ1 z g1 l1 R1 σ' y
theorem be8 {m:lX->lU->l7 (List lV)}(h:TSv Γ (λ ρ s=>((m ρ s).bind λ l s=>mZ (.lst l) s).bind λ d s=>match mJ ρ tg d with|some ρ=>.ok (.next ρ) s|none=>.bad) D σ H):bj2 (TFv Γ m) (gOf Γ.K tg) D σ H :=
 aV2 (aV4 h)
def bE8 (Γ:Gm):bT3:=λ o i v H Q=>∃ φ s x y d s',Rp Γ φ H s/\RV Γ φ H x o/\RV Γ φ H y i/\RV Γ φ H d v/\x.bnd s.length=true/\y.bnd s.length=true/\d.bnd s.length=true/\DV.setIx x y d s=.ok () s' /\
 ∀ φ' H',Gr φ s H φ' s' H'->s.length<=s'.length->Rp Γ φ' H' s'->Q H'
theorem bk8 {Z Y mi:lX->lU->l7 lV}(h:TSv Γ (λ ρ s=>(Z ρ s).bind λ d s=>(Y ρ s).bind λ x s=>(mi ρ s).bind λ y s=>(DV.setIx x y d s).bind λ _ s=>.ok (.next ρ) s) D σ H) :
  bj2 (TEv Γ Z) (cb7 (TEv Γ Y) (TEv Γ mi) (bE8 Γ)) D σ H:=by
 obtain⟨φ,ρ,s,c,s',E,R,e,q⟩:=h
 obtain⟨d,s1,e1,e⟩:=aa0 e
 obtain⟨x,s2,e2,e⟩:=aa0 e
 obtain⟨y,s3,e3,e⟩:=aa0 e
 obtain⟨u,s4,e4,e⟩:=aa0 e
 cases e
 refine⟨φ,ρ,s,d,s1,E,R,e1,λ v1 φ1 H1 g1 l1 b1 r1 R1=>?_⟩
 refine⟨φ1,ρ,s1,x,s2,E.mono g1 l1,R1,e2,λ v2 φ2 H2 J C b2 r2 R2=>?_⟩
 have G2:=g1.trans J l1
 have L2:=ao l1 C
 refine⟨φ2,ρ,s2,y,s3,E.mono G2 L2,R2,e3,λ v3 φ3 H3 G z b3 r3 R3=>?_⟩
 refine⟨φ3,s3,x,y,d,_,R3,RV.mono G x v2 b2 r2,r3,RV.mono (J.trans G C) d v1 b1 r1,ze z x b2,b3,ze (ao C z) d b1,e4,λ φ4 H4 g4 l4 R4=>?_⟩
 have G3:=G2.trans G L2
 have L3:=ao L2 z
 exact q φ4 H4 (G3.trans g4 L3) (ao L3 l4) R4 σ (E.mono (G3.trans g4 L3) (ao L3 l4))
theorem bL7 (hu:X.A.units+1<cLine):ca1 X (bE8 Γ):=by
 intro Z sh σ H o i v ov iv u Q I ro ri rv h
 obtain⟨φ,s,x,y,d,s',R,rx,ry,rd,bx,a1,bd,C,q⟩:=h
 cases x with
 | ref r =>
  have C:(match s[r]? with
   | some (.lst l)=>(match y with
    | .int i=>(match m8 l.length i with|some j=>DV.R.ok () (s.set r (.lst (l.set j d)))|none=>.bad)
    | _=>.bad)
   | some (.dic l)=>if y.key&&decide (l.length<l8)then .ok () (s.set r (.dic (mx y d l)))else .bad
   | some (.dit l)=>if y.keyT&&decide (l.length<l8)then .ok () (s.set r (.dit (mx y d l)))else .bad
   | _=>.bad)=.ok () s':=C
  cases e:s[r]? with
  | none=>rw[e]at C;cases C
  | some ob =>
   rw[e]at C
   cases ob with
   | lst l =>
    cases y with
    | int k =>
     have C:(match m8 l.length k with|some j=>DV.R.ok () (s.set r (.lst (l.set j d)))|none=>.bad)=.ok () s':=C
     cases ej:m8 l.length k with
     | none=>rw[ej]at C;cases C
     | some j =>
      rw[ej]at C
      cases C
      obtain⟨xs,h1,G⟩:=R.addr e
      have hb:lW s.length (l.set j d)=true:=aa8.mpr λ z hz=>by
       rcases List.mem_or_eq_of_mem_set hz with h|h
       ·exact aa8.mp (by have:=R.wf r _ e;unfold l6 at this;exact this) z h
       ·subst h;exact bd
      refine bk3 Z sh σ H o i v ov iv u Q I ro ri rv ⟨φ r,xs,k,j,rx.refE,ry.intE,h1,?_,?_⟩
      ·rw[G.length];exact ej
      ·obtain⟨g,R'⟩:=R.set (o:=.lst (l.set j d)) (u:=.lst (xs.set j v)) e rfl hb λ H' g e=>⟨_,e,RVL.monoW g _ _ hb (G.set j rd)⟩
       exact q _ _ g (by simp) R'
    | _=>exact fb C
   | dic l =>
    have C:(if y.key&&decide (l.length<l8)then DV.R.ok () (s.set r (.dic (mx y d l)))else .bad)=.ok () s':=C
    split at C
    case isFalse=>exact fb C
    rename_i hc
    cases C
    rw[ak]at hc
    obtain⟨k,hk⟩:=ao5 hc.1
    have hlt:=of_decide_eq_true hc.2
    obtain⟨J,h1,G⟩:=R.obj r _ e
    have ex:=rx.refE;subst ex
    cases ro
    have ey:=aA9 hk ry;subst ey
    have hb:(DV.O.dic (mx y d l)).bnd s.length=true:=aN0 (R.wf r _ e) a1 bd
    have Y:lW s.length ((mx y d l).map (·.2))=true:=by
     unfold l6 at hb
     rw[ak]at hb
     exact hb.2
    obtain⟨g,R'⟩:=R.set (o:=.dic (mx y d l)) (u:=.dK (av6 J k v)) e rfl hb λ H' g e=>⟨_,e,RVD.monoW g _ _ Y (G.put keyOf_inj hk rd)⟩
    exact aB7 hu I (bB5.k h1 (by rw[G.length];exact ay hlt qc)) ri rv λ s4 I4=>⟨_,I4,q _ _ g (by simp) R'⟩
   | dit l =>
    have C:(if y.keyT&&decide (l.length<l8)then DV.R.ok () (s.set r (.dit (mx y d l)))else .bad)=.ok () s':=C
    split at C
    case isFalse=>exact fb C
    rename_i hc
    cases C
    rw[ak]at hc
    obtain⟨k,hk⟩:=al1 hc.1
    have hlt:=of_decide_eq_true hc.2
    obtain⟨J,h1,G⟩:=R.obj r _ e
    have ex:=rx.refE;subst ex
    cases ro
    obtain⟨kb,ey,a2⟩:=ay5 hk ry;subst ey
    have hb:(DV.O.dit (mx y d l)).bnd s.length=true:=bg2 (R.wf r _ e) a1 bd
    have Y:lW s.length ((mx y d l).map (·.2))=true:=by
     unfold l6 at hb
     rw[ak]at hb
     exact hb.2
    obtain⟨g,R'⟩:=R.set (o:=.dit (mx y d l)) (u:=.dT (av6 J k v)) e rfl hb λ H' g e=>⟨_,e,RVD.monoW g _ _ Y (G.put keyT_inj hk rd)⟩
    exact aB7 hu I (bB5.t h1 a2 (by rw[G.length];exact ay hlt qc)) ri rv λ s4 I4=>⟨_,I4,q _ _ g (by simp) R'⟩
   | _=>exact fb C
 | _=>exact fb C
theorem bY6 {mc:lX->lU->l7 lV}{m1 m2:lX->lU->l7 mW}(h:TSv Γ (λ ρ s=>mr (mc ρ s) λ k s=>if k then m1 ρ s else m2 ρ s) D σ H):cc1 (TTv Γ mc) (TSv Γ m1) (TSv Γ m2) D σ H:=by
 obtain⟨φ,ρ,s,d,s',E,R,y,q⟩:=h
 obtain⟨c,s1,e1,y⟩:=zC y
 refine⟨φ,ρ,s,c,s1,E,R,e1,λ φ1 z g1 l1 R1=>?_⟩
 cases c with
 | true =>
  rw[if_pos rfl]at y ⊢
  exact⟨φ1,ρ,s1,d,s',E.mono g1 l1,R1,y,q.trans g1 l1⟩
 | false =>
  rw[if_neg aS]at y ⊢
  exact⟨φ1,ρ,s1,d,s',E.mono g1 l1,R1,y,q.trans g1 l1⟩
theorem bQ1 {m1 m2:lX->lU->l7 mW}(h:TSv Γ (λ ρ s=>(m1 ρ s).bind λ c s=>match c with|.next ρ=>m2 ρ s|c=>.ok c s) D σ H):cb8 (TSv Γ m1) (TSv Γ m2) D σ H:=by
 obtain⟨φ,ρ,s,c,s',E,R,y,q⟩:=h
 obtain⟨C,s1,e1,y⟩:=aa0 y
 refine⟨φ,ρ,s,C,s1,E,R,e1,λ φ1 z g1 l1 R1=>?_⟩
 cases C with
 | next ρ1=>exact λ σ1 G=>⟨φ1,ρ1,s1,c,s',G,R1,y,q.trans g1 l1⟩
 | ret d=>cases y;exact q φ1 z g1 l1 R1
 | cont ρ=>cases y;exact q φ1 z g1 l1 R1
 | brk ρ=>cases y;exact q φ1 z g1 l1 R1
theorem bl7 {mc:lX->lU->l7 lV}{C:lX->lU->l7 mW}(h:TSv Γ (DV.whl mc C) D σ H):bo3 (TTv Γ mc) (TSv Γ C) D σ H:=by
 obtain⟨φ,ρ,s,c,s',E,R,y,q⟩:=h
 unfold DV.whl at y
 split at y
 case isFalse=>exact fb y
 rename_i hn
 generalize hn.choose=n at y
 refine⟨λ n σ H=>∃ φ ρ s,RE Γ φ H s.length ρ σ/\Rp Γ φ H s/\DV.qW mc C n ρ s=.ok c s'/\aq3 Γ φ s H c s' D,⟨n,φ,ρ,s,E,R,y,q⟩,?_⟩
 clear E R y q hn
 rintro n σ H ⟨φ,ρ,s,E,R,y,q⟩
 cases n with
 | zero=>exact fb y
 | succ n =>
  unfold DV.qW at y
  obtain⟨b,s1,e1,y⟩:=zC y
  refine⟨φ,ρ,s,b,s1,E,R,e1,λ φ1 H1 g1 l1 R1=>?_⟩
  cases b with
  | false =>
   rw[if_neg aS]at y ⊢
   cases y
   exact q φ1 H1 g1 l1 R1 σ (E.mono g1 l1)
  | true =>
   rw[if_pos rfl]at y ⊢
   obtain⟨J,s2,e2,y⟩:=aa0 y
   refine⟨_,λ σ' H' w=>⟨n,fe n,w⟩,φ1,ρ,s1,J,s2,E.mono g1 l1,R1,e2,λ φ2 Y Z l2 R2=>?_⟩
   have G:=g1.trans Z l1
   have L:=ao l1 l2
   cases J with
   | next ρ1=>exact λ σ1 z=>⟨φ2,ρ1,s2,z,R2,y,q.trans G L⟩
   | cont ρ1=>exact λ σ1 z=>⟨φ2,ρ1,s2,z,R2,y,q.trans G L⟩
   | ret d=>cases y;exact q φ2 Y G L R2
   | brk ρ=>cases y;exact q φ2 Y G L R2
theorem bF1 {mI : DV.Env -> DV.Sto -> DV.R DV.Sq} {mb : DV.Env -> DV.Sto -> DV.R DV.Ct} {tg : DV.Tg} (h : TSv Γ (λ ρ s => (mI ρ s).bind λ q s0 => DV.aS7 (λ s => DV.chk s0 s q.src) (λ d ρ s => match DV.ai5 ρ tg d with
      | some ρ => mb ρ s
      | none => .bad) q.its ρ s0) D σ H) : cd8 (TIv Γ mI) (gOf Γ.K tg) (TSv Γ mb) D σ H := by
  obtain⟨φ, ρ, s, c, s', E, R, hm, k⟩ := h
  obtain⟨q, s0, e1, hm⟩ := aa0 hm
  refine⟨φ, ρ, s, q, s0, E, R, e1, λ J φ1 H1 g1 l1 b1 R1 wk => ?_⟩
  refine⟨λ i m σ' H' => ∃ φ' ρ' t, Gr φ1 s0 H1 φ' t H' /\ Rp Γ φ' H' t /\ RE Γ φ' H' t.length ρ' σ' /\ i <= q.its.length /\ m = q.its.length - i /\
    nP (λ s => mH s0 s q.src) (λ d ρ s => match mJ ρ tg d with
      | some ρ => mb ρ s
      | none => .bad) (q.its.drop i) ρ' t = .ok c s', ⟨q.its.length, ?_⟩, ?_⟩
  · exact⟨φ1, ρ, s0, Gr.refl _ _ _, R1, E.mono g1 l1, cz _, by simp, by rw[eV]; exact hm⟩
  · rintro i m σ' H' ⟨φ', ρ', t, g, R', E', hil, rfl, hc⟩
    have hle := g.le
    rcases kh i q.its.length with hlt|hge
    · have hd : q.its[i]? = some q.its[i] := ag hlt
      rw[d7 hlt]at hc
      unfold nP at hc
      split at hc
      case isFalse => exact fb hc
      rename_i hck
      obtain⟨hgo, hy2⟩ := (wk φ' H' t g hle R' hck i).1 hlt
      refine .inr ⟨hgo, _, λ σ2 H2 n => ⟨q.its.length - (i + 1), by omega, n⟩, λ x H2 hyl => ?_⟩
      obtain⟨sm, rv⟩ := hy2 x H2 hyl
      obtain⟨g2, R2⟩ := R'.same sm
      have rd := rv _ hd
      have bd : (q.its[i]).bnd t.length = true := ze hle _ (ap3 b1 hd)
      obtain⟨c1, t3, hs, hc⟩ := aa0 hc
      cases hb : mJ ρ' tg q.its[i]with
      | none => rw[hb]at hs; cases hs
      | some ρ3 =>
        rw[hb]at hs
        refine bx5 (E'.mono g2 (aj _)) rd bd hb λ σ3 E3 => ?_
        refine⟨φ', ρ3, t, c1, t3, E3, R2, hs, λ φ2 H4 g4 l4 R4 => ?_⟩
        have G4 := (g.trans g2 hle).trans g4 hle
        have L4 := ao hle l4
        have GG := g1.trans G4 l1
        cases c1 with
        | next ρ1 => exact λ σ1 E1 => ⟨φ2, ρ1, t3, G4, R4, E1, hlt, rfl, hc⟩
        | cont ρ1 => exact λ σ1 E1 => ⟨φ2, ρ1, t3, G4, R4, E1, hlt, rfl, hc⟩
        | ret d => cases hc; exact k φ2 H4 GG (ao l1 L4) R4
        | brk ρ => cases hc; exact k φ2 H4 GG (ao l1 L4) R4
    · rw[iz hge]at hc
      unfold nP at hc
      split at hc
      case isFalse => exact fb hc
      rename_i hck
      cases hc
      exact .inl ⟨(wk φ' H' s' g hle R' hck i).2 hge, k φ' H' (g1.trans g l1) (ao l1 hle) R' σ' E'⟩
structure Ck where
 N:List Str
 sc:Scope
 lk:String->List Nat->Expr->Bool
noncomputable abbrev ck0 (N:List Str)(sc:Scope):Ck:=⟨N,sc,λ _ _ _=>false⟩
noncomputable def Ck.vis (c:Ck)(x:Str):Bool:=match c.sc.names.lookup x with|some .local=>true|some .cell=>true|some .free=>true|_=>false
noncomputable def Ck.loc (c:Ck)(x:Str):Bool:=match c.sc.names.lookup x with|some .local=>true|some .cell=>true|_=>false
noncomputable def Ck.gl (c:Ck)(x:Str):Bool:=(match c.sc.names.lookup x with|some .globalImplicit=>true|_=>false)&&!(x==("__debug__":Str))&&!decide (x=("__name__":Str))
noncomputable def Ck.var (c:Ck)(i:Nat)(x:Str):Bool:=decide (c.N[i]?=some x)&&c.vis x&&!(x==("__debug__":Str))&&!(x==("__classdict__":Str))
noncomputable def shp:Expr->Bool
 | .Starred ..=>false
 | .Set ..=>false
 | .SetComp ..=>false
 | .DictComp ..=>false
 | .GeneratorExp ..=>false
 | .Slice ..=>false
 | .NamedExpr ..=>false
 | _=>true
noncomputable def aB2:Expr->Bool
 | .ListComp ..=>false
 | .SetComp ..=>false
 | .DictComp ..=>false
 | _=>true
noncomputable def be7:Expr->Bool
 | .Tuple ..=>false
 | _=>true
noncomputable def be2:Expr->Bool
 | .Call _ [] [] _=>false
 | _=>true
noncomputable def mC:DV.Cn->Const->Bool
 | .non,.none=>true
 | .bl b,.bool c=>b==c
 | .int i,.int j=>decide (i=j)
 | .str x,.str y=>decide (y=⟨x.toArray⟩)&&decide (x.length<=1000)
 | _,_=>false
noncomputable def bU8 (ck:Ck):List Nat->List Expr->Bool
 | [],[]=>true
 | i::is,.Name x _::es=>decide (ck.N[i]?=some x)&&ck.loc x&&bU8 ck is es
 | _,_=>false
noncomputable def mTg (ck:Ck):mV->Expr->Bool
 | .one i,.Name x _=>decide (ck.N[i]?=some x)&&ck.loc x
 | .tup is,.Tuple es _ _=>bU8 ck is es
 | _,_=>false
noncomputable def tgN:Expr->List Str
 | .Name x _=>[x]
 | .Tuple es _ _=>es.filterMap λ e=>match e with|.Name x _=>some x|_=>none
 | _=>[]
structure ItT where
 x:Str
 y:Str
 ob:Expr
 sc:Scope
 p1:Pos
 p2:Pos
 p3:Pos
 p4:Pos
 p5:Pos
 p6:Pos
 p7:Pos
 k1:Nat
 k2:Nat
 ap:Pos
 cp:Pos
 pos:Pos
noncomputable def ItT.tg (q:ItT):Expr:=.Tuple [.Name q.x q.p5,.Name q.y q.p6] q.k2 q.p7
noncomputable def ItT.it (q:ItT):Expr:=.Call (.Attribute q.ob "items" q.ap) [] [] q.cp
noncomputable def ItT.text (q:ItT):Expr:=.ListComp (.BinOp (.Name q.x q.p1) .Add (.Tuple [.Name q.y q.p2] q.k1 q.p3) q.p4) [⟨q.tg,q.it,[],0⟩] q.sc q.pos
noncomputable def bU5:Expr->Option ItT
 | .ListComp (.BinOp (.Name x p1) .Add (.Tuple [.Name y p2] k1 p3) p4) [⟨.Tuple [.Name x' p5,.Name y' p6] k2 p7,.Call (.Attribute ob it ap) [] [] cp,[],z⟩] sc pos=>if x'=x/\y'=y/\it=("items":Str)/\z=0 then some ⟨x,y,ob,sc,p1,p2,p3,p4,p5,p6,p7,k1,k2,ap,cp,pos⟩else none
 | _=>none
noncomputable def ckC (ck:Ck)(tgt:Expr)(caps:List (Option Nat))(scope:Scope):Ck:=⟨tgN tgt++(caps.filterMap id).map λ j=>ck.N.getD j "",scope,λ _ _ _=>false⟩
noncomputable def aG3 (ck:Ck)(tg:mV)(tgt iter:Expr)(caps:List (Option Nat))(scope:Scope):Bool :=
 zM (ckC ck tgt caps scope).N caps scope ck.N ck.sc&&decide ((ckC ck tgt caps scope).N.Nodup)&&mTg (ckC ck tgt caps scope) tg tgt&&shp iter
noncomputable def bI8:Expr->Bool
 | .Tuple ..=>true
 | _=>false
noncomputable def biT:mU->Option Str
 | .len=>some "len" | .abs=>some "abs" | .min2=>some "min" | .max2=>some "max" | .int=>some "int" | _=>none
noncomputable def biK:mU->Option (Nat×Str)
 | .isInt=>some (1, "int")|.isBool=>some (2, "bool")|.isStr=>some (3, "str")|.isTup=>some (4, "tuple")|.isList=>some (5, "list")|_=>none
noncomputable def mkT:nG->Option Str
 | .tuple=>some "tuple" | .list=>some "list" | _=>none
noncomputable def mkF:nG->Option Str
 | .all=>some "all" | .any=>some "any" | .min=>some "min" | _=>none
noncomputable def mtT:nH->Option (Str×Nat)
 | .append=>some ("append",1)|_=>none
noncomputable def cd0:Expr->Bool
 | .UnaryOp .USub (.Constant (.int i) _ _) _=>decide (i=1)
 | _=>false
noncomputable def bT4 (ck:Ck)(b:mU)(x:Str)(xs:List Expr)(m1 m2:Bool):Bool:=match biK b with
 | some p=>(match xs with|[_,.Name y _]=>decide (x=("isinstance":Str))&&ck.gl x&&decide (y=p.2)&&ck.gl y&&m2|_=>false)
 | none=>(match xs with|_::_=>decide (biT b=some x)&&ck.gl x&&m1|[]=>false)
noncomputable def bT1 (ck:Ck)(q:ItT):Bool:=aG3 ck (.tup [0,1]) q.tg q.it [none,none] q.sc&&decide (q.x≠q.y)&&decide (q.sc.names.lookup q.x=some .local)&&decide (q.sc.names.lookup q.y=some .local)&&be2 q.ob&&(q.ap.endLine==q.cp.line) &&
 (!(q.x==("__debug__":Str))&&!(q.y==("__debug__":Str))&&!(q.x==("__classdict__":Str))&&!(q.y==("__classdict__":Str)))
mutual
noncomputable def mE (ck:Ck):nh->Expr->Bool
 | .var i,E=>match E with|.Name x _=>ck.var i x|_=>false
 | .cst c,E=>match E with|.Constant v _ _=>mC c v|_=>false
 | .glob g,E=>match E with|.Name x _=>decide (x=(g:Str))&&ck.gl x|_=>false
 | .bin op a b,E=>match E with|.BinOp l o r _=>decide (o=bX6 op)&&mE ck a l&&mE ck b r|_=>false
 | .neg a,E=>match E with|.UnaryOp .USub l _=>mE ck a l|_=>false
 | .not a,E=>match E with|.UnaryOp .Not l _=>mE ck a l|_=>false
 | .cmp op a b,E=>match E with|.Compare l [o] [r] _=>decide (o=at0 op)&&mE ck a l&&mE ck b r|_=>false
 | .chain o p a b c,E=>match E with|.Compare l [o1,o2] [m,r] _=>decide (o1=at0 o)&&decide (o2=at0 p)&&mE ck a l&&mE ck b m&&mE ck c r|_=>false
 | .isN a,E=>match E with|.Compare l [.Is] [.Constant .none _ _] _=>mE ck a l|_=>false
 | .notN a,E=>match E with|.Compare l [.IsNot] [.Constant .none _ _] _=>mE ck a l|_=>false
 | .isB _ _,_=>false
 | .notB _ _,_=>false
 | .and a b,E=>match E with
  | .BoolOp .And [l,r] _=>mE ck a l&&mE ck b r
  | .BoolOp .And (l::m::r::es) p=>mE ck a l&&mE ck b (.BoolOp .And (m::r::es) p)
  | _=>false
 | .or a b,E=>match E with
  | .BoolOp .Or [l,r] _=>mE ck a l&&mE ck b r
  | .BoolOp .Or (l::m::r::es) p=>mE ck a l&&mE ck b (.BoolOp .Or (m::r::es) p)
  | _=>false
 | .ite c a b,E=>match E with|.IfExp t l r _=>mE ck c t&&mE ck a l&&mE ck b r|_=>false
 | .tup es,E=>match E with|.Tuple xs _ _=>mEs ck es xs&&decide (xs.length<=1000)|_=>false
 | .lst es,E=>match E with|.List xs _=>mEs ck es xs&&decide (xs.length<=1000)|_=>false
 | .dic ks vs,E=>match E with|.Dict a b _=>(match a,b with|[],[]=>mEs ck ks []&&mEs ck vs []|[some x],[y]=>mEs ck ks [x]&&mEs ck vs [y]|_,_=>false)|_=>false
 | .slL a lo,E=>match E with|.Subscript o (.Slice (some l) none none _) _=>mE ck a o&&mE ck lo l|_=>false
 | .slU a hi,E=>match E with|.Subscript o (.Slice none (some h) none _) _=>mE ck a o&&mE ck hi h|_=>false
 | .slLU _ _ _,_=>false
 | .rev a,E=>match E with|.Subscript o (.Slice none none (some u) _) _=>cd0 u&&mE ck a o|_=>false
 | .bitl _,_=>false
 | .lrng _,_=>false
 | .dicT,E=>match E with|.Dict [] [] _=>true|_=>false
 | .get2 o k d,E=>match E with|.Call (.Attribute ob x ap) [a,b] [] cp=>decide (x=("get":Str))&&be2 ob&&(ap.endLine==cp.line)&&mE ck o ob&&mE ck k a&&mE ck d b&&shp a&&shp b|_=>false
 | .ix a b,E=>match E with|.Subscript o i _=>mE ck a o&&mE ck b i|_=>false
 | .call f as,E=>match E with|.Call (.Name x _) xs [] _=>decide (x=(f:Str))&&ck.gl x&&mAs ck as xs|_=>false
 | .callC _ _,_=>false
 | .callV _ _,_=>false
 | .bi b es,E=>match E with|.Call (.Name x _) xs [] _=>bT4 ck b x xs (mEs ck es xs) (mEs ck es (xs.take 1))|_=>false
 | .mk k l,E=>match E with
  | .Call (.Name x _) [a] [] _=>ck.gl x&&shp a&&((decide (mkT k=some x)&&mL ck 2 l a)||(decide (mkF k=some x)&&mL ck 1 l a))
  | .ListComp e gs sc p=>decide (k=.list)&&mL ck 0 l (.ListComp e gs sc p)
  | _=>false
 | .mkD k l d,E=>match E with
  | .Call (.Name x _) [a] [⟨some y,de,_⟩] _=>(decide (k=.min)&&decide (x=("min":Str)))&&decide (y=("default":Str))&&ck.gl x&&shp a&&mL ck 1 l a&&mE ck d de
  | _=>false
 | .meth m o es,E=>match E with
  | .Call (.Attribute ob x ap) xs [] cp=>decide (mtT m=some (x,xs.length))&&be2 ob&&(ap.endLine==cp.line)&&mE ck o ob&&mEs ck es xs
  | _=>false
 | .ext o l,E=>match E with
  | .Call (.Attribute ob x ap) [a] [] cp=>decide (x=("extend":Str))&&be2 ob&&(ap.endLine==cp.line)&&mE ck o ob&&mL ck 1 l a&&shp a
  | _=>false
 | .extS o e,E=>match E with
  | .Call (.Attribute ob x ap) [a] [] cp=>decide (x=("extend":Str))&&be2 ob&&(ap.endLine==cp.line)&&mE ck o ob&&mE ck e a&&shp a
  | _=>false
 | .mks _ _,_=>false
 | .mkDs k e d,E=>match E with
  | .Call (.Name x _) [a] [⟨some y,de,_⟩] _=>decide (k=.min)&&decide (x=("min":Str))&&decide (y=("default":Str))&&ck.gl "min"&&shp a&&mE ck e a&&mE ck d de
  | _=>false
 | .join _ _,_=>false
noncomputable def mEs (ck:Ck):mQ->List Expr->Bool
 | .nil,xs=>match xs with|[]=>true|_=>false
 | .cons e es,xs=>match xs with|x::xs=>mE ck e x&&shp x&&mEs ck es xs|_=>false
noncomputable def mAs (ck:Ck):nI->List Expr->Bool
 | .nil,xs=>match xs with|[]=>true|_=>false
 | .ex e es,xs=>match xs with|x::xs=>mE ck e x&&shp x&&mAs ck es xs|_=>false
 | .lam _ _ _,_=>false
 | .fn _ _,_=>false
noncomputable def cd6 (ck:Ck):nI->List Expr->Bool
 | .nil,xs=>match xs with|[]=>true|_=>false
 | .ex e es,xs=>match xs with|x::xs=>mE ck e x&&shp x&&cd6 ck es xs|_=>false
 | .lam _ _ _,_=>false
 | .fn _ _,_=>false
noncomputable def mI (ck:Ck)(tgt:Expr):DV.I->Expr->Bool
 | .rng1 a,E=>match E with|.Call (.Name x _) [l] [] _=>decide (x=("range":Str))&&ck.gl x&&mE ck a l&&shp l|_=>false
 | .rng2 _ _,_=>false
 | .seq e,x=>mE ck e x&&shp x
 | .rng3 _ _ _,_=>false
 | .enum (.seq _),_=>false
 | .zip (.seq a) (.seq b),E=>match E with|.Call (.Name x _) [l,r] [] _=>decide (x=("zip":Str))&&ck.gl x&&mE ck a l&&shp l&&mE ck b r&&shp r&&bI8 tgt|_=>false
 | .enum _,_=>false
 | .zip _ _,_=>false
 | .items _,_=>false
noncomputable def mL (ck:Ck)(k:Nat):DV.L->Expr->Bool
 | .comp tg it e caps,E=>match E with|.ListComp elt [⟨tgt,iter,[],z⟩] scope _=>decide (z=0)&&aG3 ck tg tgt iter caps scope&&mI ck tgt it iter&&mE (ckC ck tgt caps scope) e elt|_=>false
 | .compIf tg it c e caps,E=>match E with|.ListComp elt [⟨tgt,iter,[i],z⟩] scope _=>decide (z=0)&&aG3 ck tg tgt iter caps scope&&mI ck tgt it iter&&mE (ckC ck tgt caps scope) c i&&mE (ckC ck tgt caps scope) e elt|_=>false
 | .disp es,E=>match E with|.List xs _=>decide (1<=k)&&mEs ck es xs&&decide (xs.length<=1000)|_=>false
 | .seq e,x=>decide (k=2)&&mE ck e x
 | .itm e,E=>match bU5 E with|some q=>decide (1<=k)&&bT1 ck q&&mE ck e q.ob|none=>false
end
theorem ff {p:Prop}(h:false=true):p:=Bool.noConfusion h
mutual
noncomputable def mS (ck:Ck):DV.S->Stmt->Bool
 | .asg tg e,S=>match S with
  | .Assign [t] v _=>mTg ck tg t&&mE ck e v&&(match tg with|.one _=>true|.tup _=>be7 v&&aB2 v)
  | _=>false
 | .setIx o i e,S=>match S with|.Assign [.Subscript ob ix _] v _=>mE ck o ob&&mE ck i ix&&mE ck e v&&aB2 v&&be7 v|_=>false
 | .aug _ _,_=>false
 | .ex e,S=>match S with|.Expr v _=>mE ck e v&&aB2 v|_=>false
 | .ret e,S=>match S with|.Return (some v) _=>mE ck e v|_=>false
 | .retN,_=>false
 | .ite c a b,S=>match S with|.If t l r _=>mE ck c t&&mSs ck a l&&mSs ck b r|_=>false
 | .whl c b,S=>match S with|.While t l [] _=>mE ck c t&&mSs ck b l|_=>false
 | .for_ tg it b,S=>match S with|.For tgt iter l [] _=>mTg ck tg tgt&&mI ck tgt it iter&&mSs ck b l|_=>false
 | .pass,_=>false
 | .cont,_=>false
 | .brk,_=>false
 | .raise,_=>true
 | .und _,_=>false
noncomputable def mSs (ck:Ck):DV.Ss->List Stmt->Bool
 | .nil,xs=>match xs with|[]=>true|_=>false
 | .cons s ss,xs=>match xs with|x::xs=>(mS ck s x&&mSs ck ss xs)|_=>false
end
theorem aE6 {y:Ck}{e:nh}{E:Expr}(h:mE y e E=true):shp E=true:=by
 cases E<;>first|rfl|(exfalso;cases e<;>exact ff h)
theorem bK1 {z:Ck}{y:Expr}{e:DV.I}{E:Expr}(h:mI z y e E=true):shp E=true:=by
 cases e with
 | seq e=>have h:(mE z e E&&shp E)=true:=h;rw[ak]at h;exact h.2
 | enum a=>cases E<;>first|rfl|(exfalso;cases a<;>exact ff h)
 | zip a b=>cases E<;>first|rfl|(exfalso;cases a<;>first|exact ff h|(cases b<;>exact ff h))
 | _=>cases E<;>first|rfl|exact ff h
theorem za {e:Expr}{es:List Expr}{env:Env}(h:shp e=true):bE (e::es) env=(false,eval e env)::bE es env:=by
 cases e<;>first|rfl|cases h
theorem zy {env:Env}{pos:Pos}:∀ {es:List Expr},(∀ e∈es,shp e=true)->(eJ pos (bE es env)).any (·.1)=false/\(eJ pos (bE es env)).all (λ x=>!x.1)=true
 | [],_=>⟨rfl,rfl⟩
 | e::es,h=>by
  have z:=za (es:=es) (env:=env) (h e (aN ..))
  obtain⟨y,h3⟩:=zy (env:=env) (pos:=pos) (es:=es) λ x hx=>h x (aF _ hx)
  rw[z]
  unfold eJ at y h3 ⊢
  simp only[aJ,gO,eg,y,h3]
  exact⟨rfl,rfl⟩
theorem aJ4 {e:Expr}{env:Env}(h:shp e=true)(x:Value):dM e env x=pure x:=by
 cases e<;>first|rfl|cases h
theorem behind_ok {e:Expr}{op:CmpOp}(h:shp e=true):c8 op e=false:=by
 cases e<;>first|rfl|cases h
theorem az0 {e:Expr}{t:Option Expr}{l:Nat}{env:Env}(h:aB2 e=true):fQ e t l env=pure false:=by
 cases e<;>first|rfl|cases h
theorem am8 {e:Expr}{f:Str}{env:Env}(h:be2 e=true):dG e f env (eval e env)=eval e env:=by
 cases e with
 | Call g a k p =>
  cases g with
  | Name x p' =>
   cases a with
   | nil=>cases k with
    | nil=>cases h
    | cons _ _=>rfl
   | cons _ _=>rfl
  | _=>rfl
 | _=>rfl
theorem aQ9 {es:List Expr}{k:Nat}{p:Pos}{e:Expr}{env:Env}(h:be7 e=true):jt [.Tuple es k p] e env=pure none:=by
 cases e<;>first|rfl|cases h
theorem aT0 {o i:Expr}{p:Pos}{e:Expr}{env:Env}(h:be7 e=true):jt [.Subscript o i p] e env=pure none:=by
 cases e<;>first|rfl|cases h
theorem aR9 {e:Expr}(h:shp e=true):bc4 e:=by
 intro o i
 cases e<;>first|rfl|cases h
def spV (Γ:Gm)(c:List lV->lU->l7 lV):Sp:=λ vs H Q _=>rCl Γ c vs H Q
noncomputable def bNames:List Str:=["len", "abs", "min", "max", "int", "isinstance", "bool", "str", "tuple", "list", "range", "sum", "all", "any", "sorted", "zip", "enumerate", "ord"]
def spL (Γ:Gm)(c:List lV->List lV->lU->l7 lV)(cap:List V):Sp:=λ vs H Q _=>∃ φ s cs l d s',Rp Γ φ H s/\RVL Γ φ H l vs/\RVL Γ φ H cs cap/\lW s.length l=true/\lW s.length cs=true/\c cs l s=.ok d s'/\aj4 Γ φ s H d s' Q
noncomputable def LamI.own (J:LamI):Str:=match J.nm with|none => "<lambda>" | some p=>p.1
noncomputable def lamText (J:LamI)(params:cD)(body:Expr)(scope:Scope)(pos:Pos):Expr:=match J.nm with
 | none=>.Lambda params body scope pos
 | some p=>.NamedExpr (.Name p.1 p.2) (.Lambda params body scope pos) pos
structure LamHere (Γ:Gm)(X:Cx)(N:List Str)(id:String)(caps:List Nat)(params:cD)(body:Expr)(scope:Scope)(c P:Addr)(J:LamI):Prop where
 code:X.env.code=.ref c
 hd:dk X.base c P
 bm:BM X.mg X.base
 ck:lamCheck scope X.env.scope=true
 df:defaultsOf params X.env=([],[])
 lg:Γ.lg id J
 q:J.qual=X.env.qual++J.own
 p:J.params=params
 b:J.body=body
 s:J.scope=scope
 len:J.fr.length=caps.length
 at_:∀(i j:Nat) (x:Str),caps[i]?=some j->J.fr[i]?=some x->N[j]?=some x
 fr:∀ x∈J.fr,scope.names.lookup x=some .free
 cl:∀ x,scope.names.lookup x=some .free->∃ c,X.env.cells.lookup x=some c
 tab:(P,J.qual)∈Γ.T
 nd:(Γ.T.map (·.1)).Nodup
 fn:∀ x,X.fn x=true
 kd:∀ x c,X.env.cells.lookup x=some c->X.env.kindOf x=some .cell\/X.env.kindOf x=some .free
structure CG (Γ:Gm)(F:mP)(n:Nat)(X:Cx)(ck:Ck):Prop where
 K:X.K=Γ.K
 N:X.N=ck.N
 nd:ck.N.Nodup
 xe:X.xe=λ _ _=>False
 calm:X.calm=true
 deep:mw+1<=n
 room:Room n X.A
 sc:∀ x k,ck.sc.names.lookup x=some k->X.env.scope.names.lookup x=some k\/(k=.free/\X.env.scope.names.lookup x=some .cell)
 fn:∀ x,ck.sc.names.lookup x=some .cell->X.fn x=true
 bi:∀ x∈bNames,X.mg x=none
 call:∀ f:String,(∀ l s,F.call f l s=.bad)\/∃ a fd ps,FnOk X.prog X.w X.K X.mg X.base CX0 n a fd ps (spV Γ (F.call f))/\X.mg (f:Str)=some (.ref a)/\cT X.K (.ref a)=true/\Binds X.K fd ps []
 con:∀ x d,F.con x=some d->∃ v u,X.mg (x:Str)=some u/\RelV v u/\(∀ m,d.bnd m=true)/\∀ φ H,RV Γ φ H d v
 lam:∀ id caps E,ck.lk id caps E=true->∃ c P params body scope pos J,E=lamText J params body scope pos/\LamHere Γ X ck.N id caps params body scope c P J
 cl:∀(id:String) (J:LamI) (f:Addr) (cap:List V) (clos:List (Str×Addr)),Γ.lg id J->cap.length=J.fr.length->ClOk X.prog X.w X.K X.mg X.base n (λ H=>CloAt H f J cap clos) f (spL Γ (F.lam id) cap)
 fa:∀(f:String) (a:Addr),Γ.fa f=some a->X.mg (f:Str)=some (.ref a)/\∃ oc od fd sl,X.K.lookup a=some ⟨oc,od,.func fd,sl⟩
 fk:DV.FK F
section
variable {Γ:Gm} {F:mP} {n:Nat} {X:Cx} {ck:Ck}
theorem CG.vis (G:CG Γ F n X ck){x:Str}(h:ck.vis x=true):Vis X.env.scope x:=by
 unfold Ck.vis at h
 split at h
 ·rename_i e;rcases G.sc _ _ e with z|⟨z,_⟩
  ·exact .inl z
  ·cases z
 ·rename_i e;rcases G.sc _ _ e with z|⟨z,_⟩
  ·exact .inr (.inl z)
  ·cases z
 ·rename_i e;rcases G.sc _ _ e with z|⟨_,z⟩
  ·exact .inr (.inr z)
  ·exact .inr (.inl z)
 ·cases h
theorem CG.loc (G:CG Γ F n X ck){x:Str}(h:ck.loc x=true):Loc X.env.scope x/\(X.fn x=true\/X.env.scope.names.lookup x=some .local):=by
 unfold Ck.loc at h
 split at h
 ·rename_i e;rcases G.sc _ _ e with z|⟨z,_⟩
  ·exact⟨.inl z,.inr z⟩
  ·cases z
 ·rename_i e;rcases G.sc _ _ e with z|⟨z,_⟩
  ·exact⟨.inr z,.inl (G.fn _ e)⟩
  ·cases z
 ·cases h
theorem CG.gl (G:CG Γ F n X ck){x:Str}(h:ck.gl x=true):Gl X x/\(x==("__debug__":Str))=false/\x ≠ "__name__":=by
 unfold Ck.gl at h
 simp only[ak,eW]at h
 obtain⟨⟨y,C⟩,h3⟩:=h
 refine⟨?_,C,of_decide_eq_false h3⟩
 split at y
 ·rename_i e;rcases G.sc _ _ e with z|⟨z,_⟩
  ·exact z
  ·cases z
 ·cases y
theorem bq5 (G:CG Γ F n X ck):∀ {is:List Nat} {es:List Expr},bU8 ck is es=true->PGs X es (bU6 is)/\(cR es X.env).length=is.length/\(cR es X.env).findIdx? (·.1)=none
 | [],[],_=>⟨aZ9,rfl,rfl⟩
 | [],_::_,h=>by cases h
 | i::is,[],h=>by cases h
 | i::is,e::es,h=>by
  cases e with
  | Name x p =>
   unfold bU8 at h
   simp only[ak,decide_eq_true_eq]at h
   obtain⟨⟨z,y⟩,h3⟩:=h
   obtain⟨l1,C⟩:=G.loc y
   obtain⟨a,b,c⟩:=bq5 G h3
   have hs:cR (.Name x p::es) X.env=(false,hJ (.Name x p) X.env)::cR es X.env:=rfl
   refine⟨ax2 (ay7 (by rw[G.N];exact G.nd) (by rw[G.N];exact z) l1 C) a (by rw[hs];rfl),by rw[hs,bh,bh,b],?_⟩
   rw[hs,List.findIdx?_cons]
   simp[c]
  | _=>cases h
theorem bx4 (G:CG Γ F n X ck){tg:mV}{e:Expr}(h:mTg ck tg e=true):PG X e (gOf Γ.K tg):=by
 unfold mTg at h
 split at h
 ·simp only[ak,decide_eq_true_eq]at h
  obtain⟨l1,y⟩:=G.loc h.2
  exact ay7 (by rw[G.N];exact G.nd) (by rw[G.N];exact h.1) l1 y
 ·obtain⟨a,b,c⟩:=bq5 G h
  exact bA8 G.K G.calm a b c
 ·cases h
theorem CG.comp (G:CG Γ F n X ck){tg:mV}{Y iter:Expr}{J:List (Option Nat)}{scope:Scope}(h:aG3 ck tg Y iter J scope=true) :
  zM (ckC ck Y J scope).N J scope X.N X.env.scope=true/\shp iter=true /\
  ∀(C:Addr) (cells:List (Str×Addr)) (s:ai) (H:Hp) (ex:List Addr),CG Γ F n (zE X (ckC ck Y J scope).N scope C cells s H ex) (ckC ck Y J scope)/\PG (zE X (ckC ck Y J scope).N scope C cells s H ex) Y (gOf Γ.K tg):=by
 unfold aG3 at h
 simp only[ak,decide_eq_true_eq]at h
 obtain⟨⟨⟨Z,h2⟩,h3⟩,h4⟩:=h
 refine⟨?_,h4,λ C cells s H ex=>?_⟩
 ·rw[G.N]
  unfold zM at Z ⊢
  simp only[ak]at Z ⊢
  obtain⟨⟨⟨⟨⟨a1,a2⟩,a3⟩,a4⟩,a5⟩,a6⟩:=Z
  refine⟨⟨⟨⟨⟨a1,?_⟩,a3⟩,a4⟩,a5⟩,a6⟩
  rw[bq]at a2 ⊢
  intro y hy
  have:=a2 y hy
  rw[cx]at this ⊢
  rcases this with q|q
  ·exact .inl q
  ·right
   rw[cx]at q ⊢
   rcases q with q|q
   ·rcases G.sc _ _ (eq_of_beq q)with z|⟨z,_⟩
    ·left;rw[z];exact beq_self_eq_true _
    ·cases z
   ·rcases G.sc _ _ (eq_of_beq q)with z|⟨_,z⟩
    ·right;rw[z];exact beq_self_eq_true _
    ·left;rw[z];exact beq_self_eq_true _
 ·have G':CG Γ F n (zE X (ckC ck Y J scope).N scope C cells s H ex) (ckC ck Y J scope):=by
   refine⟨G.K,rfl,h2,rfl,G.calm,G.deep,G.room,λ x k e=>?_,λ x e=>?_,G.bi,G.call,G.con,λ _ _ _ h=>(by cases h),G.cl,G.fa,G.fk⟩
   ·have q:=zW (env:=X.env) e
    have q':(dQ scope X.env).names.lookup x=some (if(k==NameKind.free&&X.env.scope.kind==.function&&X.env.kindOf x==some .cell)then NameKind.cell else k):=q
    show(dQ scope X.env).names.lookup x=some k\/_
    rw[q']
    split
    ·rename_i hc
     simp only[ak]at hc
     exact .inr ⟨eq_of_beq hc.1.1,rfl⟩
    ·exact .inl rfl
   ·show(scope.names.lookup x==some .cell)=true
    rw[show scope.names.lookup x=some .cell from e];rfl
  exact⟨G',bx4 G' h3⟩
end
section
variable {Γ:Gm} {F:mP} {n:Nat} {X:Cx} {ck:Ck} {σ:St} {H:Hp} {Q:VK}
theorem TEv.eq {m m':lX->lU->l7 lV}(e:∀ ρ s,m ρ s=m' ρ s)(q:TEv Γ m σ H Q):TEv Γ m' σ H Q:=by
 have:m=m':=funext λ ρ=>funext λ s=>e ρ s
 subst this;exact q
theorem TTv.eq {m m':lX->lU->l7 lV}{Q:Bool->Hp->Prop}(e:∀ ρ s,m ρ s=m' ρ s)(q:TTv Γ m σ H Q):TTv Γ m' σ H Q:=by
 have:m=m':=funext λ ρ=>funext λ s=>e ρ s
 subst this;exact q
theorem TAv.eq {m m':lX->lU->l7 (List lV)}{Q:List V->Hp->Prop}(e:∀ ρ s,m ρ s=m' ρ s)(q:TAv Γ m σ H Q):TAv Γ m' σ H Q:=by
 have:m=m':=funext λ ρ=>funext λ s=>e ρ s
 subst this;exact q
theorem TFv.eq {m m':lX->lU->l7 (List lV)}(e:∀ ρ s,m ρ s=m' ρ s)(q:TFv Γ m σ H Q):TFv Γ m' σ H Q:=by
 have:m=m':=funext λ ρ=>funext λ s=>e ρ s
 subst this;exact q
theorem TIv.eq {m m':lX->lU->l7 ni}{R:It->Hp->Prop}(e:∀ ρ s,m ρ s=m' ρ s)(q:TIv Γ m σ H R):TIv Γ m' σ H R:=by
 have:m=m':=funext λ ρ=>funext λ s=>e ρ s
 subst this;exact q
theorem TSv.eq {m m':lX->lU->l7 mW}{D:Ends}(e:∀ ρ s,m ρ s=m' ρ s)(q:TSv Γ m D σ H):TSv Γ m' D σ H:=by
 have:m=m':=funext λ ρ=>funext λ s=>e ρ s
 subst this;exact q
def EvT (Γ:Gm)(X:Cx)(E:Expr)(m:lX->lU->l7 lV):Prop:=PE X E (TEv Γ m)/\PT X E (TTv Γ m)
theorem EvT.val {E:Expr}{m:lX->lU->l7 lV}(h:PE X E (TEv Γ m))(z:∀ y,eB E X.env y=(do let v <- y;standAt E.pos;jU [v] (truthy v)):=by intro _;rfl):EvT Γ X E m :=
 ⟨h,(bL9 h z).imp λ σ H Q q=>aL9 q⟩
theorem bk4 {c a b:Expr}{pos:Pos}{J tb tc:TT}(hc:PT X c J)(ha:PT X a tb)(hb:PT X b tc):PT X (.IfExp c a b pos) (λ σ H Q=>J σ H λ k z=>if k=true then tb σ z Q else tc σ z Q):=by
 intro y s σ H Q I h
 have e:eB (.IfExp c a b pos) X.env (eval (.IfExp c a b pos) X.env)=(do if <- eB c X.env (eval c X.env)then eB a X.env (eval a X.env)else eB b X.env (eval b X.env)):=by rw[eB]
 rw[e]
 refine ab (thn (hc y s σ H _ I h) λ k s1 ⟨z,G,C⟩=>?_)
 cases k with
 | true=>exact ha y s1 σ z Q G C
 | false=>exact hb y s1 σ z Q G C
theorem bI4 {mc m1 m2:lX->lU->l7 lV}{Q:Bool->Hp->Prop}(h:TTv Γ (λ ρ s=>mr (mc ρ s) λ k s=>if k then m1 ρ s else m2 ρ s) σ H Q):TTv Γ mc σ H λ k z=>if k=true then TTv Γ m1 σ z Q else TTv Γ m2 σ z Q:=by
 obtain⟨φ,ρ,s,d,s',E,R,y,q⟩:=h
 obtain⟨c,s1,e1,y⟩:=zC y
 refine⟨φ,ρ,s,c,s1,E,R,e1,λ φ1 z g1 l1 R1=>?_⟩
 cases c with
 | true =>
  rw[if_pos rfl]at y ⊢
  exact⟨φ1,ρ,s1,d,s',E.mono g1 l1,R1,y,q.trans g1 l1⟩
 | false =>
  rw[if_neg aS]at y ⊢
  exact⟨φ1,ρ,s1,d,s',E.mono g1 l1,R1,y,q.trans g1 l1⟩
section
variable {a b c:nh} {l r t:Expr} {pos:Pos}
theorem bv4 (G:CG Γ F n X ck)(op:nT)(ha:EvT Γ X l (lY F a))(hb:EvT Γ X r (lY F b)):EvT Γ X (.BinOp l (bX6 op) r pos) (lY F (.bin op a b)) :=
 .val ((bR8 (bS1 G.K op) ha.1 hb.1).imp λ σ H Q q=>bm7 (TEv.eq (λ ρ s=>rfl) q))
theorem bx8 (ha:EvT Γ X l (lY F a)):EvT Γ X (.UnaryOp .USub l pos) (lY F (.neg a)) :=
 .val ((bJ3 bn6 ha.1).imp λ σ H Q q=>bY9 (f:=λ x s=>match x with|.int i=>.ok (.int (-i)) s|_=>.bad) (TEv.eq (λ ρ s=>rfl) q) λ φ s x d s' v H' R r y h k=>by
  cases x with
  | int i =>
   cases h
   exact⟨i,r.intE,k.here R rfl RV.intI⟩
  | _=>cases h)
theorem bv7 (ha:EvT Γ X l (lY F a)):EvT Γ X (.UnaryOp .Not l pos) (lY F (.not a)) :=
 ⟨(bH0 ha.1).imp λ σ H Q q=>bP6 (TEv.eq (λ ρ s=>rfl) q),(bQ2 ha.2).imp λ σ H Q q=>bH9 (TTv.eq (λ ρ s=>rfl) q)⟩
theorem bu9 (G:CG Γ F n X ck)(op:ny)(hs:shp r=true)(ha:EvT Γ X l (lY F a))(hb:EvT Γ X r (lY F b)):EvT Γ X (.Compare l [at0 op] [r] pos) (lY F (.cmp op a b)):=by
 have ho:=aY5 (Γ:=Γ) G.K (G.room.mono G.deep) op
 refine⟨(bw9 ho ha.1 hb.1 (behind_ok hs)).imp λ σ H Q q=>bm7 (TEv.eq (λ ρ s=>rfl) q),(bE0 ho ha.1 hb.1 (behind_ok hs)).imp λ σ H Q q=>?_⟩
 have q:=aX9 q
 exact bm7 (TEv.eq (λ ρ s=>rfl) q)
theorem bc0 (G:CG Γ F n X ck)(o p:ny)(y:shp t=true)(ha:EvT Γ X l (lY F a))(hb:EvT Γ X r (lY F b))(hc:EvT Γ X t (lY F c)):EvT Γ X (.Compare l [at0 o,at0 p] [r,t] pos) (lY F (.chain o p a b c)):=by
 have ho:=aY5 (Γ:=Γ) G.K (G.room.mono G.deep) o
 have hp:=aY5 (Γ:=Γ) G.K (G.room.mono G.deep) p
 have h:lq [at0 o,at0 p] [r,t]=false:=by
  show c8 (at0 p) t=false
  exact behind_ok y
 refine⟨(bg7 ho hp ha.1 hb.1 hc.1 h).imp λ σ H Q q=>aM6 (TEv.eq (λ ρ s=>rfl) q),(bj0 ho hp ha.1 hb.1 hc.1 h).imp λ σ H Q q=>?_⟩
 have q:=aX9 q
 exact aM6 (TEv.eq (λ ρ s=>rfl) q)
theorem RV.nonIff {φ:Nat->Addr}{x:lV}{v:V}(r:RV Γ φ H x v):decide (v=.non)=decide (x=.non):=by
 cases x with
 | non=>rw[r.nonE];rfl
 | bl b=>rw[r.blE];rfl
 | int i=>rw[r.intE];rfl
 | str z=>rw[r.strE];rfl
 | tup l=>obtain⟨a,h,rfl,_⟩:=r.tupE;rfl
 | ref k=>rw[r.refE];rfl
 | fn f=>unfold RV at r;obtain⟨a,_,rfl⟩:=r;rfl
 | clo f cs=>unfold RV at r;obtain⟨f,_,_,_,rfl,_⟩:=r;rfl
theorem bD8 {j pos'}(ha:EvT Γ X l (lY F a)):EvT Γ X (.Compare l [.Is] [.Constant .none j pos'] pos) (lY F (.isN a)):=by
 have key:∀ σ H Q,TEv Γ (lY F (.isN a)) σ H Q->cc0 (TEv Γ (lY F a)) σ H Q:=λ σ H Q q=>by
  obtain⟨φ,ρ,s,d,s',E,R,h,k⟩:=q
  obtain⟨x,s1,e1,h⟩:=aa0 h
  cases h
  refine⟨φ,ρ,s,x,_,E,R,e1,λ v φ1 y g1 l1 b1 r1 R1=>?_⟩
  show Q (.bl (decide (v=.non))) y
  rw[r1.nonIff]
  exact k _ φ1 y g1 l1 rfl RV.blI R1
 exact⟨(bq0 (bm9 ha.1)).imp key,(bn7 (bm9 ha.1)).imp λ σ H Q q=>key _ _ _ (aL9 q)⟩
theorem bi0 {j pos'}(ha:EvT Γ X l (lY F a)):EvT Γ X (.Compare l [.IsNot] [.Constant .none j pos'] pos) (lY F (.notN a)):=by
 have key:∀ σ H Q,TEv Γ (lY F (.notN a)) σ H Q->bG5 (TEv Γ (lY F a)) σ H Q:=λ σ H Q q=>by
  obtain⟨φ,ρ,s,d,s',E,R,h,k⟩:=q
  obtain⟨x,s1,e1,h⟩:=aa0 h
  cases h
  refine⟨φ,ρ,s,x,_,E,R,e1,λ v φ1 y g1 l1 b1 r1 R1=>?_⟩
  show Q (.bl (!decide (v=.non))) y
  rw[r1.nonIff]
  exact k _ φ1 y g1 l1 rfl RV.blI R1
 exact⟨(bq0 (aV3 ha.1)).imp key,(bn7 (aV3 ha.1)).imp λ σ H Q q=>key _ _ _ (aL9 q)⟩
theorem bc6 {op:BoolOp}{es:List Expr}{t:TT}(h:PT X (.BoolOp op es pos) t):PW X (.BoolOp op es pos) t:=by
 intro z y s σ H Q I q
 have:=h y s σ H Q I q
 have e:∀ w,eB (.BoolOp op es pos) X.env w=allTrue op es X.env:=λ w=>by rw[eB]
 rw[e]at this ⊢
 exact this
theorem bt5 (ha:EvT Γ X l (lY F a))(hb:EvT Γ X r (lY F b)):EvT Γ X (.BoolOp .And [l,r] pos) (lY F (.and a b)) :=
 ⟨(bq3 ha.1 (bo7 hb.1)).imp λ σ H Q q=>bp1 (TEv.eq (λ ρ s=>rfl) q),(bp3 ha.2 (bs0 hb.2)).pt.imp λ σ H Q q=>bp7 (TTv.eq (λ ρ s=>rfl) q)⟩
theorem bw6 {es:List Expr}(ha:EvT Γ X l (lY F a))(hb:EvT Γ X (.BoolOp .And (r::es) pos) (lY F b)):EvT Γ X (.BoolOp .And (l::r::es) pos) (lY F (.and a b)) :=
 ⟨(bq3 ha.1 hb.1).imp λ σ H Q q=>bp1 (TEv.eq (λ ρ s=>rfl) q),(bp3 ha.2 (bc6 hb.2)).pt.imp λ σ H Q q=>bp7 (TTv.eq (λ ρ s=>rfl) q)⟩
theorem bR3 (ha:EvT Γ X l (lY F a))(hb:EvT Γ X r (lY F b)):EvT Γ X (.BoolOp .Or [l,r] pos) (lY F (.or a b)) :=
 ⟨(bI9 ha.1 (bo7 hb.1)).imp λ σ H Q q=>bJ8 (TEv.eq (λ ρ s=>rfl) q),(bI7 ha.2 (bF7 hb.2)).pt.imp λ σ H Q q=>bR6 (TTv.eq (λ ρ s=>rfl) q)⟩
theorem bO3 {es:List Expr}(ha:EvT Γ X l (lY F a))(hb:EvT Γ X (.BoolOp .Or (r::es) pos) (lY F b)):EvT Γ X (.BoolOp .Or (l::r::es) pos) (lY F (.or a b)) :=
 ⟨(bI9 ha.1 hb.1).imp λ σ H Q q=>bJ8 (TEv.eq (λ ρ s=>rfl) q),(bI7 ha.2 (bc6 hb.2)).pt.imp λ σ H Q q=>bR6 (TTv.eq (λ ρ s=>rfl) q)⟩
theorem bt9 (hc:EvT Γ X t (lY F c))(ha:EvT Γ X l (lY F a))(hb:EvT Γ X r (lY F b)):EvT Γ X (.IfExp t l r pos) (lY F (.ite c a b)) :=
 ⟨(bg4 hc.2 ha.1 hb.1).imp λ σ H Q q=>bP8 (TEv.eq (λ ρ s=>rfl) q),(bk4 hc.2 ha.2 hb.2).imp λ σ H Q q=>bI4 (TTv.eq (λ ρ s=>rfl) q)⟩
theorem bM5 (G:CG Γ F n X ck)(hs:shp r=true)(ha:EvT Γ X l (lY F a))(hb:EvT Γ X r (lY F b)):EvT Γ X (.Subscript l r pos) (lY F (.ix a b)) :=
 .val ((bY0 (bV5 G.K (aG4 G.room)) ha.1 hb.1 (aR9 hs)).imp λ σ H Q q=>bm7 (TEv.eq (λ ρ s=>rfl) q))
theorem bF2 {m:lX->lU->l7 lV}{Q:VK}(h:TEv Γ (λ ρ s=>(m ρ s).bind λ x s=>DV.bz7 x s) σ H Q):bP5 Γ.K (TEv Γ m) (tUn (rU λ i=>.int (-i)) (tC (.int 1))) σ H Q:=by
 obtain⟨φ,ρ,s,d,s',E,R,y,q⟩:=h
 obtain⟨x,s1,e1,y⟩:=aa0 y
 refine⟨φ,ρ,s,x,s1,E,R,e1,λ G φ1 J g1 l1 b1 r1 R1=>?_⟩
 unfold DV.bz7 at y
 cases x with
 | str x =>
  cases y
  have hl:=r1.strL
  refine⟨1,rfl,rfl,.inl ⟨⟨x.toArray⟩,r1.strE,?_,?_⟩⟩
  ·show x.toArray.size<=aI
   rw[ar]
   have:l8<aI:=by rw[c6];decide
   omega
  ·have e:(⟨(⟨x.toArray⟩:Str).cps.reverse⟩:Str)=⟨x.reverse.toArray⟩:=by simp
   rw[e]
   exact(q.trans g1 l1).here R1 rfl (RV.strI (by rw[cE];exact hl))
 | ref r =>
  simp only at y
  cases hsr:s1[r]? with
  | none=>rw[hsr]at y;cases y
  | some o =>
   rw[hsr]at y
   cases o with
   | lst l =>
    obtain⟨rfl,rfl⟩:=zQ y
    obtain⟨C,z,d1⟩:=R1.addr hsr
    have wf:=R1.wf _ _ hsr
    unfold l6 at wf
    exact⟨1,rfl,rfl,.inr ⟨φ1 r,C,r1.refE,SqL.of z,λ p hp=>(q.trans g1 l1).alloc R1 d1.reverse (ax6 wf λ d hd=>List.mem_reverse.mp hd) hp⟩⟩
   | _=>exact fb y
 | _=>exact fb y
theorem bu7 (G:CG Γ F n X ck){p1 h p3:Pos}{k:Nat}(ha:EvT Γ X l (lY F a)):EvT Γ X (.Subscript l (.Slice none none (some (.UnaryOp .USub (.Constant (.int 1) k p1) p3)) h) pos) (lY F (.rev a)) :=
 .val ((bz8 G.K ha.1 (bJ3 bn6 br2)).imp λ σ H Q q=>bF2 q)
theorem by3 {h:Pos}(G:CG Γ F n X ck)(ha:EvT Γ X l (lY F a))(hb:EvT Γ X r (lY F b)):EvT Γ X (.Subscript l (.Slice (some r) none none h) pos) (lY F (.slL a b)) :=
 .val ((aM8 (bR0 G.K) ha.1 (ba1 hb.1) bc1).imp λ σ H Q q=>(bR5 (mh:=lY F b)).1 (TEv.eq (λ ρ s=>rfl) q))
theorem br8 {h:Pos}(G:CG Γ F n X ck)(ha:EvT Γ X l (lY F a))(hb:EvT Γ X r (lY F b)):EvT Γ X (.Subscript l (.Slice none (some r) none h) pos) (lY F (.slU a b)) :=
 .val ((aM8 (bR0 G.K) ha.1 bc1 (ba1 hb.1)).imp λ σ H Q q=>(bR5 (ml:=lY F b)).2.1 (TEv.eq (λ ρ s=>rfl) q))
end
end
section
variable {Γ:Gm} {F:mP} {n:Nat} {X:Cx} {ck:Ck} {σ:St} {H:Hp} {Q:VK}
theorem ax7:∀ {es:mQ} {ρ:lX} {s s':lU} {l:List lV} {y:List Expr} {z:Ck},mR F es ρ s=.ok l s'->mEs z es y=true->l.length=y.length
 | .nil,ρ,s,s',l,y,z,h,m=>by
  cases h
  cases y with
  | nil=>rfl
  | cons _ _=>rw[mEs]at m<;>first|cases m|(intros;simp_all)
 | .cons e es,ρ,s,s',l,y,z,h,m=>by
  obtain⟨d,s1,e1,h⟩:=aa0 h
  obtain⟨r,s2,e2,h⟩:=aa0 h
  cases h
  cases y with
  | nil=>rw[mEs]at m<;>first|cases m|(intros;simp_all)
  | cons x y =>
   rw[mEs,ak]at m
   rw[bh,bh,ax7 e2 m.2]
theorem aG2:∀ {es:mQ} {z:List Expr},mEs ck es z=true->∀ x∈z,shp x=true
 | .nil,[],_,x,hx=>by cases hx
 | .nil,_::_,m,_,_=>by rw[mEs]at m<;>first|cases m|(intros;simp_all)
 | .cons e es,[],m,x,hx=>by cases hx
 | .cons e es,y::z,m,x,hx=>by
  rw[mEs,ak,ak]at m
  rcases aP.mp hx with h|h
  ·rw[h];exact m.1.2
  ·exact aG2 m.2 x h
theorem aW8:∀ {es:nI} {z:List Expr},mAs ck es z=true->∀ x∈z,shp x=true
 | .nil,[],_,x,hx=>by cases hx
 | .nil,_::_,m,_,_=>by rw[mAs]at m<;>first|cases m|(intros;simp_all)
 | .ex e es,[],m,x,hx=>by cases hx
 | .lam _ _ _,_,m,_,_=>by rw[mAs]at m<;>first|cases m|(intros;simp_all)
 | .fn _ _,_,m,_,_=>by rw[mAs]at m<;>first|cases m|(intros;simp_all)
 | .ex e es,y::z,m,x,hx=>by
  rw[mAs,ak,ak]at m
  rcases aP.mp hx with h|h
  ·rw[h];exact m.1.2
  ·exact aW8 m.2 x h
theorem aO0 {e:nh}{x:Expr}{y:List Expr}{h:lX->lU->l7 (List lV)}(hs:shp x=true)(C:PE X x (TEv Γ (lY F e)))(z:PA X y (TAv Γ h)) :
  PA X (x::y) (TAv Γ (λ ρ s=>(lY F e ρ s).bind λ d s=>(h ρ s).bind λ l s=>.ok (d::l) s)) :=
 (zO C z (za hs)).imp λ σ H Q q=>bz5 q
theorem aM7 {k:Nat}(h:k<=1000):k<=aI:=by rw[c6];omega
theorem bw3 {es:mQ}{y:List Expr}{k:Nat}{pos:Pos}(m:mEs ck es y=true)(hz:y.length<=1000)(h:PA X y (TAv Γ (mR F es))):EvT Γ X (.Tuple y k pos) (lY F (.tup es)) :=
 .val ((br6 h).imp λ σ H Q q=>tv_tup' hz m q)
where
 tv_tup' {es:mQ} {y:List Expr} {σ:St} {H:Hp} {Q:VK} (hz:y.length<=1000) (m:mEs ck es y=true) (q:TEv Γ (lY F (.tup es)) σ H Q):cb0 (TAv Γ (mR F es)) σ H Q:=by
  obtain⟨φ,ρ,s,d,s',E,R,z,q⟩:=q
  obtain⟨l,s1,e1,z⟩:=aa0 z
  cases z
  refine⟨φ,ρ,s,l,_,E,R,e1,λ vs φ1 C g1 l1 b1 r1 R1=>⟨by rw[r1.length,ax7 e1 m];exact aM7 hz,λ p hp=>?_⟩⟩
  exact(q.trans g1 l1).tup R1 r1 b1 hp
theorem by6 {es:mQ}{y:List Expr}{pos:Pos}(m:mEs ck es y=true)(hz:y.length<=1000)(h:PA X y (TAv Γ (mR F es))):EvT Γ X (.List y pos) (lY F (.lst es)):=by
 refine .val ((bo8 h).imp λ σ H Q q=>?_)
 obtain⟨φ,ρ,s,d,s',E,R,z,q⟩:=q
 obtain⟨l,s1,e1,z⟩:=aa0 z
 obtain⟨rfl,rfl⟩:=zQ z
 refine⟨φ,ρ,s,l,_,E,R,e1,λ vs φ1 C g1 l1 b1 r1 R1=>⟨by rw[r1.length,ax7 e1 m];exact aM7 hz,λ p hp=>?_⟩⟩
 exact(q.trans g1 l1).alloc R1 r1 b1 hp
theorem bh5 {f:String}{y:nI}{C:List Expr}{p pos:Pos}(G:CG Γ F n X ck)(hg:ck.gl (f:Str)=true)(m:mAs ck y C=true)(h:PA X C (TAv Γ (nD F y))):EvT Γ X (.Call (.Name (f:Str) p) C [] pos) (lY F (.call f y)):=by
 refine .val ?_
 obtain⟨g1,Y,g3⟩:=G.gl hg
 rcases G.call f with hbad|⟨a,fd,ps,hF,z,hk,hb⟩
 ·intro a1 s σ H Q I q
  obtain⟨φ,ρ,s,d,s',E,R,J,q⟩:=q
  obtain⟨l,s1,e1,J⟩:=aa0 J
  rw[hbad]at J
  cases J
 have key:∀ σ H Q,TEv Γ (lY F (.call f y)) σ H Q->aS2 (spV Γ (F.call f)) [] E0 (TAv Γ (nD F y)) σ H Q:=λ σ H Q q=>by
  have:=aH1 (TEv.eq (m':=λ ρ s=>(nD F y ρ s).bind λ l s=>F.call f l s) (λ ρ s=>rfl) q)
  unfold tCB at this
  unfold aS2 spV
  simpa only[bK]using this
 cases C with
 | nil =>
  have h0:PE X (.Call (.Name (f:Str) p) [] [] pos) (aS2 (spV Γ (F.call f)) [] E0 be3):=bg9 hF G.room g1 z hk hb .nil bP1 Y
  cases y with
  | nil =>
   refine h0.imp λ σ H Q q=>?_
   have Z:=key σ H Q q
   unfold aS2 at Z ⊢
   exact aN1 (TAv.eq (λ ρ s=>rfl) Z)
  | _=>rw[mAs]at m<;>first|cases m|(intros;simp_all)
 | cons x C =>
  have hs:=aW8 m
  exact(bz6 hF G.room g1 z hk hb .nil bP1 h Y (za (hs x (aN ..))) (zy λ e he=>hs e (aF _ he)).1).imp key
def BiC (Γ:Gm)(X:Cx)(b:mU)(x:Str):Prop:=(∃ id,bA x=some (.builtin id)/\ah8 X (.builtin id) (rCl Γ (nS b)))\/∃ T,bA x=some (.type T)/\ah8 X (.type T) (rCl Γ (nS b))
theorem bK4 (G:CG Γ F n X ck){b:mU}{x:Str}(h:biT b=some x):x∈bNames/\BiC Γ X b x:=by
 cases b<;>first|cases h|skip
 ·exact⟨by decide,.inl ⟨_,bZ5,bh1 G.K G.calm (k:=1) rfl⟩⟩
 ·exact⟨by decide,.inl ⟨_,ca5,bh1 G.K G.calm (k:=1) rfl⟩⟩
 ·exact⟨by decide,.inr ⟨_,bO4,bO6⟩⟩
 ·exact⟨by decide,.inl ⟨_,bB2,bh1 G.K G.calm (k:=2) rfl⟩⟩
 ·exact⟨by decide,.inl ⟨_,ca9,bh1 G.K G.calm (k:=2) rfl⟩⟩
theorem bH2 {b:mU}{es:mQ}{x:Str}{y:Expr}{z:List Expr}{p pos:Pos}(G:CG Γ F n X ck)(hb:biT b=some x)(hg:ck.gl x=true)(m:mEs ck es (y::z)=true)(h:PA X (y::z) (TAv Γ (mR F es))) :
  EvT Γ X (.Call (.Name x p) (y::z) [] pos) (lY F (.bi b es)):=by
 refine .val ?_
 obtain⟨g1,Y,g3⟩:=G.gl hg
 obtain⟨Z,hc⟩:=bK4 G hb
 have hs:=aG2 m
 have s1:=za (es:=z) (env:=X.env) (hs y (aN ..))
 have s2:=(zy (env:=X.env) (pos:=pos) λ e he=>hs e (aF _ he)).1
 rcases hc with⟨id,C,J⟩|⟨T,C,J⟩
 ·exact(ay1 J g1 (G.bi _ Z) C h g3 Y s1 s2).imp λ σ H Q q=>aH1 (TEv.eq (λ ρ s=>rfl) q)
 ·exact(aq9 J g1 (G.bi _ Z) C h g3 Y s1 s2).imp λ σ H Q q=>aH1 (TEv.eq (λ ρ s=>rfl) q)
theorem bJ0 {b:mU}{k:Nat}{t:Str}(h:biK b=some (k,t)):(1<=k/\k<=5)/\t∈bNames/\bA t=some (.type (at1 k))/\nS b=nN (nU k):=by
 cases b<;>cases h
 ·exact⟨by omega,by decide,bO4,rfl⟩
 ·exact⟨by omega,by decide,bI0,rfl⟩
 ·exact⟨by omega,by decide,bZ3,rfl⟩
 ·exact⟨by omega,by decide,aT6,rfl⟩
 ·exact⟨by omega,by decide,bq9,rfl⟩
noncomputable def PEs (Γ:Gm)(F:mP)(X:Cx):mQ->List Expr->Prop
 | .nil,[]=>True
 | .cons e es,x::xs=>(shp x=true/\EvT Γ X x (lY F e))/\PEs Γ F X es xs
 | _,_=>False
theorem au4:∀ {es:mQ} {y:List Expr},PEs Γ F X es y->PA X y (TAv Γ (mR F es))
 | .nil,[],_=>aj3.imp λ σ H Q q=>aN1 (TAv.eq (λ ρ s=>rfl) q)
 | .nil,_::_,h=>h.elim
 | .cons _ _,[],h=>h.elim
 | .cons e es,x::y,h=>(aO0 h.1.1 h.1.2.1 (au4 h.2)).imp λ σ H Q q=>TAv.eq (λ ρ s=>rfl) q
theorem bz0 {b:mU}{es:mQ}{k:Nat}{t:Str}{a:Expr}{p C pos:Pos}(G:CG Γ F n X ck)(hb:biK b=some (k,t))(hg:ck.gl "isinstance"=true)(z:ck.gl t=true)(h:PEs Γ F X es [a]) :
  EvT Γ X (.Call (.Name "isinstance" p) [a,.Name t C] [] pos) (lY F (.bi b es)):=by
 refine .val ?_
 obtain⟨g1,g2,g3⟩:=G.gl hg
 obtain⟨t1,t2,t3⟩:=G.gl z
 obtain⟨hk,y,hv,J⟩:=bJ0 hb
 have Y:PE X (.Name t C) (tC (.ty (at1 k))):=bz1 t1 (G.bi _ y) hv rfl t3 t2
 cases es with
 | nil=>exact h.elim
 | cons e es =>
  cases es with
  | cons _ _=>exact h.2.elim
  | nil =>
   obtain⟨⟨hs,ha,_⟩,_⟩:=h
   have hA:PA X [a,.Name t C] (at4 (TEv Γ (lY F e)) (at4 (tC (.ty (at1 k))) be3)):=zO ha (zO Y aj3 (za rfl)) (za hs)
   refine(ay1 (bQ9 G.K hk) g1 (G.bi _ (by decide)) aC8 hA g3 g2 (za hs) (zy λ e Z=>by rw[bf.mp Z];rfl).1).imp λ σ H Q q=>?_
   obtain⟨φ,ρ,s,d,s',E,R,y,q⟩:=q
   obtain⟨l,s1,e1,y⟩:=aa0 y
   obtain⟨x,s2,e2,e1⟩:=aa0 e1
   obtain⟨l2,s3,e3,e1⟩:=aa0 e1
   cases e3
   cases e1
   rw[J]at y
   refine⟨φ,ρ,s,x,_,E,R,e2,λ v φ1 H1 g1 l1 b1 r1 R1=>?_⟩
   exact⟨v,rfl,φ1,_,[x],d,s',R1,.cons r1 .nil,by unfold lW;rw[b1];rfl,y,q.trans g1 l1⟩
end
section
variable {Γ:Gm} {F:mP} {n:Nat} {X:Cx} {ck:Ck} {σ:St} {H:Hp}
def TAp (Γ:Gm)(cells:List (Str×Addr))(N:List Str)(m:lX->lU->l7 (List lV)):TA:=λ σ H Q=>∃ φ ρ s l s',RE Γ φ H s.length ρ σ/\Rp Γ φ H s/\m ρ s=.ok l s' /\
 ∀ vs φ' H',Gr φ s H φ' s' H'->s.length<=s'.length->lW s'.length l=true->PVL Γ cells N σ φ' H' l vs->Rp Γ φ' H' s'->Q vs H'
theorem TAp.eq {cells:List (Str×Addr)}{N:List Str}{m m':lX->lU->l7 (List lV)}{Q:List V->Hp->Prop}(e:∀ ρ s,m ρ s=m' ρ s)(q:TAp Γ cells N m σ H Q):TAp Γ cells N m' σ H Q:=by
 obtain⟨φ,ρ,s,l,s',E,R,h,q⟩:=q
 exact⟨φ,ρ,s,l,s',E,R,by rw[<-e];exact h,q⟩
theorem bt4 {cells:List (Str×Addr)}{N:List Str}{Q:List V->Hp->Prop}(h:TAp Γ cells N (λ ρ s=>.ok [] s) σ H Q):be3 σ H Q:=by
 obtain⟨φ,ρ,s,l,s',E,R,y,q⟩:=h
 cases y
 exact q [] φ H (Gr.refl _ _ _) (aj _) rfl .nil R
theorem bK5 {cells:List (Str×Addr)}{N:List Str}{m:lX->lU->l7 lV}{G:lX->lU->l7 (List lV)}{Q:List V->Hp->Prop}(h:TAp Γ cells N (λ ρ s=>(m ρ s).bind λ d s=>(G ρ s).bind λ l s=>.ok (d::l) s) σ H Q):at4 (TEv Γ m) (TAp Γ cells N G) σ H Q:=by
 obtain⟨φ,ρ,s,l,s',E,R,z,q⟩:=h
 obtain⟨x,s1,e1,z⟩:=aa0 z
 obtain⟨y,s2,e2,z⟩:=aa0 z
 cases z
 refine⟨φ,ρ,s,x,s1,E,R,e1,λ v φ1 H1 g1 l1 b1 r1 R1=>?_⟩
 refine⟨φ1,ρ,s1,y,s',E.mono g1 l1,R1,e2,λ vs φ2 Z C J Y r2 R2=>?_⟩
 exact q (v::vs) φ2 Z (g1.trans C l1) (ao l1 J) (by unfold lW;rw[ze J x b1,Y];rfl) (.cons (PVp.mono C b1 (.inl r1)) r2) R2
end
section
variable {Γ:Gm} {F:mP} {n:Nat} {X:Cx} {ck:Ck} {σ:St} {H:Hp} {Q:VK}
def cg0 (K:ae)(H:Hp)(v:V)(ys:List V)(z:Bool):Prop:=(∃ a,v=.ref a/\(SqL K H a ys\/(SqT K H a ys/\(z=true->H a=some (.tup ys)))))\/∃ x:List Nat,v=.str ⟨x.toArray⟩/\x.length<=l8/\ys=sgV x
def TLv (Γ:Gm)(m:lX->lU->l7 (List lV)):TE:=λ σ H Q=>∃ φ ρ s l s',RE Γ φ H s.length ρ σ/\Rp Γ φ H s/\m ρ s=.ok l s' /\
 ∀ v ys φ' H',Gr φ s H φ' s' H'->s.length<=s'.length->lW s'.length l=true->cg0 Γ.K H' v ys (mf l)->RVL Γ φ' H' l ys->Rp Γ φ' H' s'->Q v H'
theorem aK9 {m:lX->lU->l7 (List lV)}(h:TLv Γ m σ H Q):TFv Γ m σ H Q:=by
 obtain⟨φ,ρ,s,l,s',E,R,z,q⟩:=h
 exact⟨φ,ρ,s,l,s',E,R,z,λ p ys φ' H' g hl hb hp h0 ho r y=>q (.ref p) ys φ' H' g hl hb (.inl ⟨p,rfl,.inl (SqL.of hp)⟩) r y⟩
theorem aB9 {φ:Nat->Addr}:∀ x:List Nat,RVL Γ φ H (x.map λ c=>.str [c]) (sgV x)
 | []=>.nil
 | c::x=>.cons (RV.strI (by unfold l8;simp)) (aB9 x)
theorem av4 {k:Nat}:∀ x:List Nat,lW k (x.map λ c=>.str [c])=true
 | []=>rfl
 | c::x=>by rw[aJ];unfold lW;rw[av4 x];rfl
theorem bP2 {m:lX->lU->l7 lV}(h:TLv Γ (λ ρ s=>(m ρ s).bind λ d s=>DV.bC8 d s) σ H Q):TEv Γ m σ H Q:=by
 obtain⟨φ,ρ,s,l,s',E,R,y,q⟩:=h
 obtain⟨d,s1,e1,y⟩:=aa0 y
 refine⟨φ,ρ,s,d,s1,E,R,e1,λ v φ1 J g1 l1 b1 r1 R1=>?_⟩
 cases d with
 | tup l' =>
  cases y
  obtain⟨a,z,⟨rfl,z1⟩,G,C⟩:=r1.tupZ
  unfold lZ at b1
  exact q _ z φ1 J g1 l1 b1 (.inl ⟨a,rfl,.inr ⟨G,z1⟩⟩) C R1
 | str x =>
  cases y
  exact q v (sgV x) φ1 J g1 l1 (av4 x) (.inr ⟨x,r1.strE,r1.strL,rfl⟩) (aB9 x) R1
 | ref k =>
  have y:(match s1[k]? with
   | some (.lst l)=>DV.R.ok l s1
   | some (.ro l)=>.ok l s1
   | _=>.bad)=.ok l s':=y
  rw[r1.refE]
  cases e:s1[k]? with
  | none=>rw[e]at y;exact fb y
  | some ob =>
   rw[e]at y
   cases ob with
   | lst l' =>
    cases y
    obtain⟨z,G,C⟩:=R1.addr e
    have:=R1.wf k _ e
    unfold l6 at this
    exact q _ z φ1 J g1 l1 this (.inl ⟨_,rfl,.inl (SqL.of G)⟩) C R1
   | ro l' =>
    cases y
    obtain⟨z,G,C⟩:=R1.obj k _ e
    have:=R1.wf k _ e
    unfold l6 at this
    exact q _ z φ1 J g1 l1 this (.inl ⟨_,rfl,.inl G.1⟩) C R1
   | _=>exact fb y
 | _=>exact fb y
theorem TLv.eq {m m':lX->lU->l7 (List lV)}(e:∀ ρ s,m ρ s=m' ρ s)(q:TLv Γ m σ H Q):TLv Γ m' σ H Q:=by
 have:m=m':=funext λ ρ=>funext λ s=>e ρ s
 subst this;exact q
theorem aR2 {m:lX->lU->l7 (List lV)}{a:Expr}{p pos:Pos}(G:CG Γ F n X ck)(hg:ck.gl "tuple"=true)(hs:shp a=true)(h:PE X a (TLv Γ m)) :
  PE X (.Call (.Name "tuple" p) [a] [] pos) (TEv Γ (λ ρ s=>(m ρ s).bind λ l s=>nr .tuple l s)):=by
 obtain⟨g1,z,C⟩:=G.gl hg
 refine(aq9 ((aG6 G.K).or (aJ7 G.calm)) g1 (G.bi _ (by decide)) aT6 (zO h aj3 (za hs)) C z (za hs) rfl).imp λ σ H Q q=>?_
 obtain⟨φ,ρ,s,d,s',E,R,y,q⟩:=q
 obtain⟨l,s1,e1,y⟩:=aa0 y
 cases y
 refine⟨φ,ρ,s,l,_,E,R,e1,λ v ys φ1 J g1 l1 b1 hq r1 R1=>?_⟩
 rcases hq with⟨a,rfl,hq|hq⟩|⟨x,rfl,hx,rfl⟩
 ·exact .inl ⟨a,ys,rfl,.inl ⟨hq,λ p hp=>(q.trans g1 l1).tup R1 r1 b1 hp⟩⟩
 ·exact .inl ⟨a,ys,rfl,.inr ⟨hq.1,q _ φ1 J g1 l1 (by unfold lZ;exact b1) (RV.tupC hq.1 hq.2 r1) R1⟩⟩
 ·exact .inr ⟨x,rfl,hx,λ p hp=>(q.trans g1 l1).tup R1 r1 b1 hp⟩
theorem aU7 {m:lX->lU->l7 (List lV)}{a:Expr}{p pos:Pos}(G:CG Γ F n X ck)(hg:ck.gl "list"=true)(hs:shp a=true)(h:PE X a (TLv Γ m)) :
  PE X (.Call (.Name "list" p) [a] [] pos) (TEv Γ (λ ρ s=>(m ρ s).bind λ l s=>nr .list l s)):=by
 obtain⟨g1,z,C⟩:=G.gl hg
 refine(aq9 ((aR6 G.K).or (aS5 G.calm)) g1 (G.bi _ (by decide)) bq9 (zO h aj3 (za hs)) C z (za hs) rfl).imp λ σ H Q q=>?_
 obtain⟨φ,ρ,s,d,s',E,R,y,q⟩:=q
 obtain⟨l,s1,e1,y⟩:=aa0 y
 obtain⟨rfl,rfl⟩:=zQ y
 refine⟨φ,ρ,s,l,_,E,R,e1,λ v ys φ1 J g1 l1 b1 hq r1 R1=>?_⟩
 rcases hq with⟨a,rfl,hq⟩|⟨x,rfl,hx,rfl⟩
 ·exact .inl ⟨a,ys,rfl,hq.imp id (·.1),λ p hp=>(q.trans g1 l1).alloc R1 r1 b1 hp⟩
 ·exact .inr ⟨x,rfl,hx,λ p hp=>(q.trans g1 l1).alloc R1 r1 b1 hp⟩
theorem bG3 {m:lX->lU->l7 (List lV)}{k:nG}{x:Str}{a:Expr}{p pos:Pos}(G:CG Γ F n X ck)(hk:mkT k=some x)(hg:ck.gl x=true)(hs:shp a=true)(h:PE X a (TLv Γ m)) :
  PE X (.Call (.Name x p) [a] [] pos) (TEv Γ (λ ρ s=>(m ρ s).bind λ l s=>nr k l s)):=by
 cases k<;>cases hk
 ·exact aR2 G hg hs h
 ·exact aU7 G hg hs h
def FrC (Γ:Gm)(X:Cx)(x:Str)(k:nG):Prop:=∃ id r,bA x=some (.builtin id)/\x∈bNames/\ah8 X (.builtin id) r/\∀ φ H s l ys p d s' Q,Rp Γ φ H s->RVL Γ φ H l ys->H p=some (.lst ys)->nr k l s=.ok d s'->aj4 Γ φ s H d s' Q->r [.ref p] H Q
theorem aN6:∀(l:List Int) (a:Int),(l.foldl min a=a\/l.foldl min a∈l)/\l.foldl min a<=a/\∀ y∈l,l.foldl min a<=y
 | [],a=>⟨.inl rfl,fm _,λ y hy=>by cases hy⟩
 | b::l,a=>by
  obtain⟨C,G,h3⟩:=aN6 l (min a b)
  rw[dD]
  refine⟨?_,by omega,λ y hy=>?_⟩
  ·rcases C with h|h
   ·rw[h]
    rcases lG a b with z|z
    ·left;omega
    ·right;rw[show min a b=b by omega];exact aN ..
   ·exact .inr (aF _ h)
  ·rcases aP.mp hy with z|z
   ·rw[z];omega
   ·exact h3 y z
theorem aw0 {l:List Int}{m:Int}(h:mT l=some m):m∈l/\∀ y∈l,m<=y:=by
 cases l with
 | nil=>cases h
 | cons a l =>
  cases h
  obtain⟨G,C,h3⟩:=aN6 l a
  refine⟨?_,λ y hy=>?_⟩
  ·rcases G with h|h
   ·rw[h];exact aN ..
   ·exact aF _ h
  ·rcases aP.mp hy with z|z
   ·rw[z];exact C
   ·exact h3 y z
theorem bu6 (G:CG Γ F n X ck){k:nG}{x:Str}(hk:mkF k=some x):FrC Γ X x k:=by
 cases k<;>cases hk
 ·refine⟨_,_,bV8,by decide,aV0 G.calm G.K,λ φ H s l ys p d s' Q R r hp h q=>?_⟩
  unfold nr at h
  dsimp only at h
  cases e:m9 l with
  | none=>rw[e]at h;exact fb h
  | some bs =>
   rw[e]at h
   cases h
   have:=al4 e
   subst this
   exact⟨p,bs,rfl,SqL.of (by rw[<-r.bls];exact hp),q.here R rfl RV.blI⟩
 ·refine⟨_,_,bW9,by decide,bc9 G.calm G.K,λ φ H s l ys p d s' Q R r hp h q=>?_⟩
  unfold nr at h
  dsimp only at h
  cases e:m9 l with
  | none=>rw[e]at h;exact fb h
  | some bs =>
   rw[e]at h
   cases h
   have:=al4 e
   subst this
   exact⟨p,bs,rfl,SqL.of (by rw[<-r.bls];exact hp),q.here R rfl RV.blI⟩
 ·refine⟨_,_,bB2,by decide,bc8 G.calm G.K,λ φ H s l ys p d s' Q R r hp h q=>?_⟩
  unfold nr at h
  dsimp only at h
  cases e:m5 l with
  | none=>rw[e]at h;exact fb h
  | some is =>
   rw[e]at h
   have h:(match mT is with|some m=>DV.R.ok (DV.D.int m) s|none=>.bad)=.ok d s':=h
   cases e2:mT is with
   | none=>rw[e2]at h;exact fb h
   | some mm =>
    rw[e2]at h
    cases h
    have:=zU e
    subst this
    refine⟨p,is,rfl,SqL.of (by rw[<-r.ints];exact hp),(λ(z:is=[])=>by rw[z]at e2;cases e2),λ m h y=>?_⟩
    obtain⟨a,b⟩:=aw0 e2
    have:m=mm:=iI (y mm a) (b m h)
    rw[this]
    exact q.here R rfl RV.intI
theorem bG0 {m:lX->lU->l7 (List lV)}{k:nG}{x:Str}{a:Expr}{p pos:Pos}(G:CG Γ F n X ck)(hk:mkF k=some x)(hg:ck.gl x=true)(hs:shp a=true)(h:PE X a (TFv Γ m)) :
  PE X (.Call (.Name x p) [a] [] pos) (TEv Γ (λ ρ s=>(m ρ s).bind λ l s=>nr k l s)):=by
 obtain⟨g1,z,C⟩:=G.gl hg
 obtain⟨id,r,hb,hx,hc,hr⟩:=bu6 (Γ:=Γ) G hk
 refine(ay1 hc g1 (G.bi _ hx) hb (zO h aj3 (za hs)) C z (za hs) rfl).imp λ σ H Q q=>?_
 obtain⟨φ,ρ,s,d,s',E,R,y,q⟩:=q
 obtain⟨l,s1,e1,y⟩:=aa0 y
 exact⟨φ,ρ,s,l,_,E,R,e1,λ p ys φ1 J g1 l1 b1 hp h0 ho r1 R1=>hr φ1 J s1 l ys p d s' Q R1 r1 hp y (q.trans g1 l1)⟩
theorem bO0 {md:lX->lU->l7 (lV)}{ml:lX->lU->l7 (List lV)}{a de:Expr}{p pos kp:Pos}(G:CG Γ F n X ck)(hg:ck.gl "min"=true)(hs:shp a=true)(h:PE X a (TFv Γ ml))(hd:PE X de (TEv Γ md)) :
  PE X (.Call (.Name "min" p) [a] [⟨some "default",de,kp⟩] pos) (TEv Γ (λ ρ s=>(ml ρ s).bind λ l s=>(md ρ s).bind λ d s=>nQ .min l d s)):=by
 obtain⟨g1,g2,g3⟩:=G.gl hg
 refine(bb5 rfl G.calm g1 (G.bi _ (by decide)) h hd (za hs)).imp λ σ H Q q=>?_
 obtain⟨φ,ρ,s,d,s',E,R,C,q⟩:=q
 obtain⟨l,s1,e1,C⟩:=aa0 C
 obtain⟨d0,s2,e2,C⟩:=aa0 C
 refine⟨φ,ρ,s,l,s1,E,R,e1,λ p ys φ1 H1 g1 l1 b1 hp h0 ho r1 R1=>?_⟩
 refine⟨φ1,ρ,s1,d0,s2,E.mono g1 l1,R1,e2,λ v φ2 H2 g2 l2 b2 r2 R2=>?_⟩
 have a1:H2 p=some (.lst ys):=g2.fr p _ hp (by nofun) (λ i ob e mu=>ho i ob e mu)
 unfold nQ at C
 dsimp only at C
 cases e:m5 l with
 | none=>rw[e]at C;exact fb C
 | some is =>
  rw[e]at C
  have J:(match mT is with|some m=>DV.R.ok (DV.D.int m) s2|none=>DV.R.ok d0 s2)=.ok d s':=C
  have:=zU e
  subst this
  have hq:=q.trans (g1.trans g2 l1) (ao l1 l2)
  refine⟨p,is,rfl,SqL.of (by rw[<-r1.ints];exact a1),λ z=>?_,λ m Z Y=>?_⟩
  ·subst z
   cases J
   exact hq.here R2 b2 r2
  ·clear e2
   cases e2:mT is with
   | none =>
    cases is with
    | nil=>cases Z
    | cons _ _=>cases e2
   | some mm =>
    rw[e2]at J
    cases J
    obtain⟨x,y⟩:=aw0 e2
    have:m=mm:=iI (Y mm x) (y m Z)
    rw[this]
    exact hq.here R2 rfl RV.intI
theorem bh6 {x:lV}{s s':lU}{l:List lV}(h:nX x s=.ok l s'):s'=s/\∃ r,x=.ref r/\s[r]?=some (.lst l):=by
 unfold nX at h
 split at h
 ·rename_i r
  split at h
  ·rename_i y e;cases h;exact⟨rfl,r,rfl,e⟩
  ·exact fb h
 ·exact fb h
theorem bu2 {md me:lX->lU->l7 (lV)}{a de:Expr}{p pos kp:Pos}(G:CG Γ F n X ck)(hg:ck.gl "min"=true)(hs:shp a=true)(h:PE X a (TEv Γ me))(hd:PE X de (TEv Γ md)) :
  PE X (.Call (.Name "min" p) [a] [⟨some "default",de,kp⟩] pos) (TEv Γ (λ ρ s=>(me ρ s).bind λ x s=>(md ρ s).bind λ d s=>(nX x s).bind λ l s=>nQ .min l d s)):=by
 obtain⟨g1,g2,g3⟩:=G.gl hg
 refine(bb5 rfl G.calm g1 (G.bi _ (by decide)) h hd (za hs)).imp λ σ H Q q=>?_
 obtain⟨φ,ρ,s,d,s',E,R,hm,q⟩:=q
 obtain⟨x0,s1,e1,Z⟩:=aa0 hm
 obtain⟨d0,s2,e2,C⟩:=aa0 Z
 obtain⟨l,s3,e3,J⟩:=aa0 C
 clear hm Z C
 obtain⟨rfl,r0,rfl,er⟩:=bh6 e3
 refine⟨φ,ρ,s,_,s1,E,R,e1,λ v0 φ1 H1 g1 l1 b1 r1 R1=>?_⟩
 refine⟨φ1,ρ,s1,d0,_,E.mono g1 l1,R1,e2,λ v φ2 H2 g2 l2 b2 r2 R2=>?_⟩
 obtain⟨ys,a1,hy⟩:=R2.addr er
 have hlt:r0<s1.length:=by unfold lZ at b1;exact of_decide_eq_true b1
 rw[g2.w.map r0 hlt]at a1
 unfold nQ at J
 dsimp only at J
 cases e:m5 l with
 | none=>rw[e]at J;exact fb J
 | some is =>
  rw[e]at J
  have C:(match mT is with|some m=>DV.R.ok (DV.D.int m) _|none=>DV.R.ok d0 _)=.ok d s':=J
  have:=zU e
  subst this
  have hq:=q.trans (g1.trans g2 l1) (ao l1 l2)
  refine⟨φ1 r0,is,r1.refE,SqL.of (by rw[<-hy.ints];exact a1),λ z=>?_,λ m a2 Y=>?_⟩
  ·subst z
   cases C
   exact hq.here R2 b2 r2
  ·clear e2
   cases e2:mT is with
   | none =>
    cases is with
    | nil=>cases a2
    | cons _ _=>cases e2
   | some mm =>
    rw[e2]at C
    cases C
    obtain⟨x,y⟩:=aw0 e2
    have:m=mm:=iI (Y mm x) (y m a2)
    rw[this]
    exact hq.here R2 rfl RV.intI
theorem bf8 {φ φ':Nat->Addr}{s s':lU}{H':Hp}{r:Nat}{l:List lV}(R:Rp Γ φ H s)(g:Gr φ s H φ' s' H')(hb:r<s.length)(e:s'[r]?=some (.lst l)):tyV Γ.K "list" (.ref (φ r)) H:=by
 obtain⟨h,y⟩:∃ h,s[r]?=some h:=⟨s[r],ag hb⟩
 have z:=g.mu r h _ y e rfl
 have ho:=R.obj r h y
 cases h with
 | lst l0 =>
  obtain⟨C,G,_⟩:=ho
  exact .inl ⟨rfl,C,SqL.of G⟩
 | ro _=>cases z
 | dic _=>have:=g.kd r _ _ y e;cases this
 | dit _=>have:=g.kd r _ _ y e;cases this
 | ins _ _=>exact ho.elim
def mtR (Γ:Gm)(m:nH):V->List V->Hp->VK->Prop:=λ x vs H Q=>∃ φ s a l d s',Rp Γ φ H s/\RV Γ φ H a x/\RVL Γ φ H l vs/\a.bnd s.length=true/\lW s.length l=true/\nE m a l s=.ok d s'/\aj4 Γ φ s H d s' Q
theorem aV9:l8<aI:=by rw[c6];decide
theorem aN3 {m:nH}{x:Str}{k:Nat}(y:mtT m=some (x,k)){a:lV}{l:List lV}{s s':lU}{d:lV}(h:nE m a l s=.ok d s'):∃ r l0,a=.ref r/\s[r]?=some (.lst l0):=by
 have go:∀ {r:Nat} {f:List lV->l7 lV},(match s[r]? with|some (.lst l)=>f l|_=>.bad)=.ok d s'->∃ l0,s[r]?=some (.lst l0):=λ {r f} h=>by
  cases e:s[r]? with
  | none=>rw[e]at h;exact fb h
  | some ob =>
   cases ob with
   | lst l0=>exact⟨l0,rfl⟩
   | _=>rw[e]at h;exact fb h
 unfold nE at h
 split at h
 ·obtain⟨l0,e⟩:=go h;exact⟨_,l0,rfl,e⟩
 ·obtain⟨l0,e⟩:=go h;exact⟨_,l0,rfl,e⟩
 ·obtain⟨l0,e⟩:=go h;exact⟨_,l0,rfl,e⟩
 ·obtain⟨l0,e⟩:=go h;exact⟨_,l0,rfl,e⟩
 ·obtain⟨l0,e⟩:=go h;exact⟨_,l0,rfl,e⟩
 ·exact fb h
theorem bj3:MtR X "list.append" (mtR Γ .append):=by
 intro G sh σ H x vs v us Q I rx rv h
 obtain⟨φ,s,a,l,d,s',R,ra,rl,ba,bl,C,q⟩:=h
 obtain⟨r,l0,rfl,e⟩:=aN3 (m:=.append) rfl C
 cases l with
 | nil=>exact fb C
 | cons y t =>
  cases t with
  | cons _ _=>exact fb C
  | nil =>
   simp only[nE,e]at C
   split at C
   case isFalse=>exact fb C
   rename_i hlt
   cases C
   obtain⟨z,rfl,rz⟩:=rl.one
   obtain⟨xs,Z,Y⟩:=R.addr e
   have J:lW s.length l0=true:=by have:=R.wf r _ e;unfold l6 at this;exact this
   refine aE5 G sh σ H x [z] v us Q I rx rv ⟨φ r,xs,z,ra.refE,rfl,Z,by rw[Y.length];have:=aV9;omega,?_⟩
   exact q.put R e (Y.append (.cons rz .nil)) (zv J bl) rfl RV.nonI
structure MtOk (Γ:Gm)(X:Cx)(m:nH)(x:Str):Prop where
 ex:∃ id,PySem.Slot "list" x id/\typeOf (.builtin id)=pure (.type "method_descriptor")/\MtR X id (mtR Γ m)
theorem bK8 (z:X.K=Γ.K)(y:Room (mw+1) X.A){m:nH}{x:Str}{k:Nat}(h:mtT m=some (x,k)):MtOk Γ X m x:=by
 cases m<;>cases h
 ·exact⟨_,iO,PySem.F.type_list_append,bj3⟩
theorem bi2 {m:nH}{o:nh}{es:mQ}{ob:Expr}{C:List Expr}{x:Str}{ap cp:Pos}(G:CG Γ F n X ck)(Z:mtT m=some (x,C.length))(hab:be2 ob=true)(hl:(ap.endLine==cp.line)=true)(ho:PE X ob (TEv Γ (lY F o)))
  (a2:mEs ck es C=true) (h:PEs Γ F X es C):EvT Γ X (.Call (.Attribute ob x ap) C [] cp) (lY F (.meth m o es)):=by
 refine .val ?_
 obtain⟨id,slot,a1,hr⟩:=(bK8 (Γ:=Γ) (X:=X) G.K (G.room.mono G.deep) Z).ex
 have hs:=aG2 a2
 have key:∀ σ H Q,TEv Γ (lY F (.meth m o es)) σ H Q->tBM Γ.K "list" (mtR Γ m) (TEv Γ (lY F o)) (TAv Γ (mR F es)) σ H Q:=λ σ H Q q=>by
  obtain⟨φ,ρ,s,d,s',E,R,z,q⟩:=q
  obtain⟨a,s1,e1,z⟩:=aa0 z
  obtain⟨l,s2,e2,z⟩:=aa0 z
  refine⟨φ,ρ,s,a,s1,E,R,e1,λ v φ1 H1 g1 l1 b1 r1 R1=>?_⟩
  obtain⟨r,l0,rfl,er⟩:=aN3 Z z
  rw[r1.refE]
  have hk:∀ φ2 H2,Gr φ1 s1 H1 φ2 s2 H2->tyV Γ.K "list" (.ref (φ1 r)) H1:=λ φ2 H2 g2=>bf8 R1 g2 (by unfold lZ at b1;exact of_decide_eq_true b1) er
  have J:TAv Γ (mR F es) σ H1 λ C H2=>mtR Γ m (.ref (φ1 r)) C H2 Q:=by
   refine⟨φ1,ρ,s1,l,s2,E.mono g1 l1,R1,e2,λ vs φ2 H2 g2 l2 b2 r2 R2=>?_⟩
   refine⟨φ2,s2,.ref r,l,d,s',R2,?_,r2,ze l2 _ b1,b2,z,q.trans (g1.trans g2 l1) (ao l1 l2)⟩
   have:=RV.mono g2 _ _ b1 r1
   rw[r1.refE]at this
   exact this
  refine⟨?_,J⟩
  have hlt:r<s1.length:=by unfold lZ at b1;exact of_decide_eq_true b1
  obtain⟨o0,e0⟩:∃ o0,s1[r]?=some o0:=⟨s1[r],ag hlt⟩
  have Y:=R1.obj r o0 e0
  cases o0 with
  | lst l0 =>
   obtain⟨C,h1,_⟩:=Y
   exact .inl ⟨rfl,C,SqL.of h1⟩
  | ro l0 =>
   obtain⟨C,h1,_⟩:=Y
   exact .inl ⟨rfl,C,h1.1⟩
  | dic _ =>
   obtain⟨o',eo,ek⟩:=DV.al5 G.fk es ρ s1 _ _ e2 r _ e0
   rw[er]at eo;cases eo;cases ek
  | dit _ =>
   obtain⟨o',eo,ek⟩:=DV.al5 G.fk es ρ s1 _ _ e2 r _ e0
   rw[er]at eo;cases eo;cases ek
  | ins _ _=>exact Y.elim
 cases C with
 | nil =>
  have p0:PE X (.Call (.Attribute ob x ap) [] [] cp) (bW4 X.K "list" (mtR Γ m) (TEv Γ (lY F o))):=bo0 dm slot a1 hr ho (am8 hab) hl
  rw[G.K]at p0
  refine p0.imp λ σ H Q q=>?_
  cases es with
  | cons _ _=>exact h.elim
  | nil =>
   obtain⟨φ,ρ,s,d,s',E,R,z,k⟩:=key σ H Q q
   refine⟨φ,ρ,s,d,s',E,R,z,λ v φ1 H1 g1 l1 b1 r1 R1=>?_⟩
   obtain⟨h1,h2⟩:=k v φ1 H1 g1 l1 b1 r1 R1
   exact⟨h1,aN1 (TAv.eq (λ ρ s=>rfl) h2)⟩
 | cons y ys =>
  refine(bb3 G.K dm slot a1 hr ho (au4 h) (am8 hab) ?_ hl (za (hs y (aN ..))) (zy λ e he=>hs e (aF _ he)).1).imp key
  rw[(zy hs).2]
  have:(y::ys).length<=1:=by
   unfold mtT at Z
   split at Z<;>first|(have:=aA Z;have:=congrArg Prod.snd this;simp at this;simp;omega)|cases Z
  simp only[jA,em,lH]
  show(true&&decide ((y::ys).length+0+0<30))=true
  rw[jA]
  exact decide_eq_true (by omega)
end
section
variable {Γ:Gm} {F:mP} {n:Nat} {X:Cx} {ck:Ck} {σ:St} {H:Hp} {Q:VK}
theorem bu0 {o:nh}{m:lX->lU->l7 (List lV)}{ob a:Expr}{ap cp:Pos}(G:CG Γ F n X ck)(hab:be2 ob=true)(hl:(ap.endLine==cp.line)=true)(ho:PE X ob (TEv Γ (lY F o)))(hs:shp a=true)(h:PE X a (TFv Γ m))(Z:∀ ρ s,DV.KR s (m ρ s)) :
  PE X (.Call (.Attribute ob "extend" ap) [a] [] cp) (TEv Γ (λ ρ s=>(lY F o ρ s).bind λ x s=>(m ρ s).bind λ q s=>DV.bm6 x q s)):=by
 refine(bb3 G.K dm eN gQ aE3 ho (zO h aj3 (za hs)) (am8 hab) ?_ hl (za hs) rfl).imp λ σ H Q q=>?_
 ·rw[(zy (es:=[a]) λ e he=>by rw[bf.mp he];exact hs).2];rfl
 ·obtain⟨φ,ρ,s,d,s',E,R,y,q⟩:=q
  obtain⟨x,s1,e1,y⟩:=aa0 y
  obtain⟨l,s2,e2,y⟩:=aa0 y
  refine⟨φ,ρ,s,x,s1,E,R,e1,λ v φ1 H1 g1 l1 b1 r1 R1=>?_⟩
  cases x with
  | ref r =>
   have y:(match s2[r]? with
    | some (.lst m)=>if m.length+l.length<=l8 then DV.R.ok DV.D.non (s2.set r (.lst (m++l)))else .bad
    | _=>.bad)=.ok d s':=y
   cases e:s2[r]? with
   | none=>rw[e]at y;exact fb y
   | some ob' =>
    rw[e]at y
    cases ob' with
    | lst l0 =>
     have y:(if l0.length+l.length<=l8 then DV.R.ok DV.D.non (s2.set r (.lst (l0++l)))else .bad)=.ok d s':=y
     split at y
     case isFalse=>exact fb y
     rename_i a3
     cases y
     have hlt:r<s1.length:=by unfold lZ at b1;exact of_decide_eq_true b1
     have a1:tyV Γ.K "list" (.ref (φ1 r)) H1:=by
      obtain⟨o0,e0⟩:∃ o0,s1[r]?=some o0:=⟨s1[r],ag hlt⟩
      have z:=R1.obj r o0 e0
      cases o0 with
      | lst l0 =>
       obtain⟨Y,C,_⟩:=z
       exact .inl ⟨rfl,Y,SqL.of C⟩
      | ro l0 =>
       obtain⟨Y,C,_⟩:=z
       exact .inl ⟨rfl,Y,C.1⟩
      | dic _ =>
       obtain⟨o',J,ek⟩:=Z ρ s1 _ _ e2 r _ e0
       rw[e]at J;cases J;cases ek
      | dit _ =>
       obtain⟨o',J,ek⟩:=Z ρ s1 _ _ e2 r _ e0
       rw[e]at J;cases J;cases ek
      | ins _ _=>exact z.elim
     rw[r1.refE]
     refine⟨a1,φ1,ρ,s1,l,s2,E.mono g1 l1,R1,e2,λ p ys φ2 H2 g2 l2 b2 hp h0 ho r2 R2=>?_⟩
     obtain⟨Y,C,h2⟩:=R2.addr e
     have a2:lW s2.length l0=true:=by have:=R2.wf r _ e;unfold l6 at this;exact this
     refine⟨φ1 r,p,Y,ys,rfl,rfl,by rw[<-g2.w.map r hlt];exact C,hp,by rw[h2.length,r2.length];have:=aV9;omega,?_⟩
     rw[<-g2.w.map r hlt]
     exact(q.trans (g1.trans g2 l1) (ao l1 l2)).put R2 e (h2.append r2) (zv a2 b2) rfl RV.nonI
    | _=>exact fb y
  | _=>exact fb y
theorem bu1 {o:nh}{m:lX->lU->l7 lV}{ob a:Expr}{ap cp:Pos}(G:CG Γ F n X ck)(hab:be2 ob=true)(hl:(ap.endLine==cp.line)=true)(ho:PE X ob (TEv Γ (lY F o)))(hs:shp a=true)(h:PE X a (TEv Γ m))(a1:∀ ρ s,DV.KR s (m ρ s)) :
  PE X (.Call (.Attribute ob "extend" ap) [a] [] cp) (TEv Γ (λ ρ s=>(lY F o ρ s).bind λ x s=>(m ρ s).bind λ q s=>DV.extS x q s)):=by
 refine(bb3 G.K dm eN gQ aE3 ho (zO h aj3 (za hs)) (am8 hab) ?_ hl (za hs) rfl).imp λ σ H Q q=>?_
 ·rw[(zy (es:=[a]) λ e he=>by rw[bf.mp he];exact hs).2];rfl
 ·obtain⟨φ,ρ,s,d,s',E,R,y,q⟩:=q
  obtain⟨x,s1,e1,y⟩:=aa0 y
  obtain⟨l,s2,e2,y⟩:=aa0 y
  obtain⟨k,z,rfl,ek,y⟩:∃ k z,l=.ref k/\s2[k]?=some (.lst z)/\DV.bm6 x z s2=.ok d s':=by
   unfold DV.extS at y
   cases l with
   | ref k =>
    dsimp only at y
    cases e:s2[k]? with
    | none=>rw[e]at y;exact fb y
    | some ob' =>
     rw[e]at y
     cases ob' with
     | lst z=>exact⟨k,z,rfl,e,y⟩
     | _=>exact fb y
   | _=>exact fb y
  refine⟨φ,ρ,s,x,s1,E,R,e1,λ v φ1 H1 g1 l1 b1 r1 R1=>?_⟩
  cases x with
  | ref r =>
   have y:(match s2[r]? with
    | some (.lst m)=>if m.length+z.length<=l8 then DV.R.ok DV.D.non (s2.set r (.lst (m++z)))else .bad
    | _=>.bad)=.ok d s':=y
   cases e:s2[r]? with
   | none=>rw[e]at y;exact fb y
   | some ob' =>
    rw[e]at y
    cases ob' with
    | lst l0 =>
     have y:(if l0.length+z.length<=l8 then DV.R.ok DV.D.non (s2.set r (.lst (l0++z)))else .bad)=.ok d s':=y
     split at y
     case isFalse=>exact fb y
     rename_i a4
     cases y
     have hlt:r<s1.length:=by unfold lZ at b1;exact of_decide_eq_true b1
     have a2:tyV Γ.K "list" (.ref (φ1 r)) H1:=by
      obtain⟨o0,e0⟩:∃ o0,s1[r]?=some o0:=⟨s1[r],ag hlt⟩
      have C:=R1.obj r o0 e0
      cases o0 with
      | lst l0 =>
       obtain⟨Z,J,_⟩:=C
       exact .inl ⟨rfl,Z,SqL.of J⟩
      | ro l0 =>
       obtain⟨Z,J,_⟩:=C
       exact .inl ⟨rfl,Z,J.1⟩
      | dic _ =>
       obtain⟨o',Y,ek⟩:=a1 ρ s1 _ _ e2 r _ e0
       rw[e]at Y;cases Y;cases ek
      | dit _ =>
       obtain⟨o',Y,ek⟩:=a1 ρ s1 _ _ e2 r _ e0
       rw[e]at Y;cases Y;cases ek
      | ins _ _=>exact C.elim
     rw[r1.refE]
     refine⟨a2,φ1,ρ,s1,.ref k,s2,E.mono g1 l1,R1,e2,λ v2 φ2 H2 g2 l2 b2 r2 R2=>?_⟩
     obtain⟨ys,hp,r3⟩:=R2.addr ek
     have bk:lW s2.length z=true:=by have:=R2.wf k _ ek;unfold l6 at this;exact this
     rw[r2.refE]
     obtain⟨Z,J,h2⟩:=R2.addr e
     have a3:lW s2.length l0=true:=by have:=R2.wf r _ e;unfold l6 at this;exact this
     refine⟨φ1 r,φ2 k,Z,ys,rfl,rfl,by rw[<-g2.w.map r hlt];exact J,hp,by rw[h2.length,r3.length];have:=aV9;omega,?_⟩
     rw[<-g2.w.map r hlt]
     exact(q.trans (g1.trans g2 l1) (ao l1 l2)).put R2 e (h2.append r3) (zv a3 bk) rfl RV.nonI
    | _=>exact fb y
  | _=>exact fb y
theorem PIf.imp {e:List Expr}{t t':TT}(h:PIf X e t)(i:∀ σ H Q,t' σ H Q->t σ H Q):PIf X e t':=λ y s σ H Q I q=>h y s σ H Q I (i σ H Q q)
structure CompF (Γ:Gm)(X:Cx)(m:lX->lU->l7 (List lV))(E:Expr):Prop where
 ex:∃ elt tgt iter ifs scope pos N' caps wi g tc te,E=.ListComp elt [⟨tgt,iter,ifs,0⟩] scope pos/\zM N' caps scope X.N X.env.scope=true/\PI X tgt iter wi /\
  (∀(C:Addr) (cells:List (Str×Addr)) (s:ai) (H:Hp) (ex:List Addr),PG (zE X N' scope C cells s H ex) tgt g/\PIf (zE X N' scope C cells s H ex) ifs tc/\PE (zE X N' scope C cells s H ex) elt te) /\
  (∀ x,dM iter X.env x=pure x)/\∀ σ H Q,TFv Γ m σ H Q->tComp caps wi g tc te σ H Q
theorem CompF.pe {m:lX->lU->l7 (List lV)}{E:Expr}(h:CompF Γ X m E)(hc:X.calm=true):PE X E (TFv Γ m):=by
 obtain⟨elt,C,iter,ifs,scope,pos,G,y,wi,g,tc,te,rfl,Z,Y,h3,z,J⟩:=h.ex
 exact(aI7 G y Z Y hc h3 z).imp J
theorem bA7 {tg:mV}{mI:lX->lU->l7 ni}{mc z:lX->lU->l7 lV}{h:List (Option Nat)}{elt y iter i:Expr}{scope:Scope}{pos:Pos}(G:CG Γ F n X ck)(hm:aG3 ck tg y iter h scope=true)
  (hi:PI X y iter (TIv Γ mI)) (hc:∀ C cells s H ex,PT (zE X (ckC ck y h scope).N scope C cells s H ex) i (TTv Γ mc)) (J:∀ C cells s H ex,PE (zE X (ckC ck y h scope).N scope C cells s H ex) elt (TEv Γ z)) :
  CompF Γ X (λ ρ s=>(mI ρ s).bind λ q s0=>if q.its.length<=l8 then nq (λ s=>mH s0 s q.src) (λ d ρ s=>match mJ ρ tg d with
   | some ρ=>mr (mc ρ s) λ k s=>if k then(z ρ s).bind λ v s=>.ok (some v,ρ) s else .ok (none,ρ) s
   | none=>.bad) q.its (nu ρ h) s0 else .bad) (.ListComp elt [⟨y,iter,[i],0⟩] scope pos):=by
 obtain⟨Y,Z,c3⟩:=G.comp hm
 exact⟨elt,y,iter,[i],scope,pos,_,h,_,_,_,_,rfl,Y,hi,λ C cells s H ex=>⟨(c3 C cells s H ex).2,bs3 (hc C cells s H ex),J C cells s H ex⟩,aJ4 Z,λ σ H Q q=>aU0 q⟩
theorem bk2 {tg:mV}{mI:lX->lU->l7 ni}{J:lX->lU->l7 lV}{h:List (Option Nat)}{elt y iter:Expr}{scope:Scope}{pos:Pos}(G:CG Γ F n X ck)(z:aG3 ck tg y iter h scope=true)
  (hi:PI X y iter (TIv Γ mI)) (Y:∀ C cells s H ex,PE (zE X (ckC ck y h scope).N scope C cells s H ex) elt (TEv Γ J)) :
  CompF Γ X (λ ρ s=>(mI ρ s).bind λ q s0=>if q.its.length<=l8 then nq (λ s=>mH s0 s q.src) (λ d ρ s=>match mJ ρ tg d with
   | some ρ=>(J ρ s).bind λ v s=>.ok (some v,ρ) s
   | none=>.bad) q.its (nu ρ h) s0 else .bad) (.ListComp elt [⟨y,iter,[],0⟩] scope pos):=by
 obtain⟨Z,c2,c3⟩:=G.comp z
 refine⟨elt,y,iter,[],scope,pos,_,h,_,_,TTv Γ (λ ρ s=>.ok (.bl true) s),_,rfl,Z,hi,λ C cells s H ex=>⟨(c3 C cells s H ex).2,bc3.imp λ σ H Q q=>?_,Y C cells s H ex⟩,aJ4 c2,λ σ H Q q=>aU0 (TFv.eq (λ ρ s=>?_) q)⟩
 ·obtain⟨φ,ρ,s,b,s',E,R,z,q⟩:=q
  cases z
  exact q φ H (Gr.refl _ _ _) (aj _) R
 ·congr 1
theorem bC9 {tg:Expr}{e:nh}{E:Expr}(G:CG Γ F n X ck)(h:PE X E (TEv Γ (lY F e))):PI X tg E (TIv Γ (nR F (.seq e))):=by
 refine(PI.or (bB4 G.K h) (PI.or (bh4 G.K h) (bH4 h))).imp λ σ H R q=>bO7 (TIv.eq (λ ρ s=>rfl) q)
theorem bl5 {tg:Expr}{a:nh}{l:Expr}{p pos:Pos}(G:CG Γ F n X ck)(hg:ck.gl "range"=true)(hs:shp l=true)(h:PE X l (TEv Γ (lY F a))):PI X tg (.Call (.Name "range" p) [l] [] pos) (TIv Γ (nR F (.rng1 a))) :=
 (aZ8 (G.gl hg).1 (G.bi _ (by decide)) (zO h aj3 (za hs)) (za hs)).imp λ σ H R q=>bx1 (TIv.eq (λ ρ s=>rfl) q)
theorem bA9 {elts:List Expr}{ek:Nat}{epos:Pos}{a b:nh}{l r:Expr}{p pos:Pos}(G:CG Γ F n X ck)(hg:ck.gl "zip"=true)(hs:shp l=true)(y:shp r=true)(h:PE X l (TEv Γ (lY F a)))(z:PE X r (TEv Γ (lY F b))):PI X (.Tuple elts ek epos) (.Call (.Name "zip" p) [l,r] [] pos) (TIv Γ (nR F (.zip (.seq a) (.seq b)))):=by
 have q:=bG8 (elts:=elts) (ek:=ek) (epos:=epos) (p:=p) (pos:=pos) (G.gl hg).1 (G.bi _ (by decide)) (zO h (zO z aj3 (za y)) (za hs)) (by rw[za hs,za y];rfl) (za y)
 rw[G.K]at q
 exact q.imp λ σ H R q=>bG7 (TIv.eq (λ ρ s=>rfl) q)
theorem bP0 (h:TEv Γ (λ ρ s=>mZ (.dic []) s) σ H Q):br5 σ H Q:=by
 obtain⟨φ,ρ,s,d,s',E,R,z,q⟩:=h
 obtain⟨rfl,rfl⟩:=zQ z
 intro p hp
 obtain⟨g,y⟩:=R.new (o:=.dic []) (u:=.dK []) hp rfl λ φ' H' g e=>⟨[],e,rfl⟩
 exact q (.ref p) _ _ g (by simp) (by unfold lZ;simp) (by unfold RV;simp) y
theorem bS4 {mk mv:lX->lU->l7 lV}(h:TEv Γ (λ ρ s=>(mk ρ (s++[.dic []])).bind λ kd s1=>(mv ρ s1).bind λ C s2=>if kd.key=true/\s2[s.length]?=some (.dic [])then .ok (.ref s.length) (s2.set s.length (.dic [(kd,C)]))else .bad) σ H Q):bJ6 [(TEv Γ mk,TEv Γ mv)] σ H Q:=by
 obtain⟨φ,ρ,s,d,s',E,R,z,q⟩:=h
 obtain⟨kd,s1,e1,z⟩:=aa0 z
 obtain⟨C,s2,e2,z⟩:=aa0 z
 split at z
 case isFalse=>exact fb z
 rename_i hc
 cases z
 intro p hp
 obtain⟨g0,R0⟩:=R.new (o:=.dic []) (u:=.dK []) hp rfl λ φ' H' g e=>⟨[],e,rfl⟩
 have l0:s.length<=(s++[DV.O.dic []]).length:=by simp
 refine⟨_,ρ,s++[DV.O.dic []],kd,s1,E.mono g0 l0,R0,e1,λ v1 φ1 H1 g1 l1 b1 r1 R1=>?_⟩
 refine⟨φ1,ρ,s1,C,s2,(E.mono g0 l0).mono g1 l1,R1,e2,λ G φ2 H2 J Z b2 r2 R2=>?_⟩
 have y:φ2 s.length=p:=by
  rw[J.w.map s.length (ay (by simp) l1),g1.w.map s.length (by simp)];simp
 obtain⟨k,hk⟩:=ao5 hc.1
 have ek:=aA9 hk (RV.mono J kd v1 b1 r1)
 obtain⟨Y,z1,z2⟩:=R2.obj s.length _ hc.2
 have z2:Y=[]:=z2
 subst z2
 rw[y]at z1
 refine⟨z1,[(k,G)],by rw[ek];rfl,by simp,?_⟩
 have hb:(DV.O.dic [(kd,C)]).bnd s2.length=true:=by
  unfold l6
  simp only[aJ,bP,lW,gP,ak]
  exact⟨ze Z _ b1,b2⟩
 obtain⟨g3,R3⟩:=R2.set (o:=.dic [(kd,C)]) (u:=.dK [(k,G)]) hc.2 rfl hb λ H' g e=>⟨_,e,k,G,[],rfl,hk,RV.monoW g _ _ b2 r2,rfl⟩
 rw[y]at g3 R3
 have L:s.length<=s2.length:=ao l0 (ao l1 Z)
 have lt:s.length<s2.length:=ay (by simp) (ao l1 Z)
 exact q (.ref p) _ _ (((g0.trans g1 l0).trans J (ao l0 l1)).trans g3 L) (by rw[bz];exact L) (by unfold lZ;rw[bz];exact decide_eq_true lt) (by unfold RV;rw[y]) R3
theorem bs2 (h:TEv Γ (λ ρ s=>mZ (.dit []) s) σ H Q):bq4 σ H Q:=by
 obtain⟨φ,ρ,s,d,s',E,R,z,q⟩:=h
 obtain⟨rfl,rfl⟩:=zQ z
 intro p hp
 obtain⟨g,y⟩:=R.new (o:=.dit []) (u:=.dT []) hp rfl λ φ' H' g e=>⟨[],e,rfl⟩
 exact q (.ref p) _ _ g (by simp) (by unfold lZ;simp) (by unfold RV;simp) y
theorem bm4 {x y z d:lV}{s s':lU}(h:DV.br7 x y z s=.ok d s'):∃ r l,x=.ref r/\s[r]?=some (.dit l)/\y.keyT=true/\d=(mN y l).getD z/\s'=s:=by
 unfold DV.br7 at h
 split at h
 ·split at h
  ·split at h
   ·cases h;exact⟨_,_,rfl,by assumption,by assumption,rfl,rfl⟩
   ·exact fb h
  ·exact fb h
 ·exact fb h
theorem bS2 {o:mM}(h:o.kd=4):∃ l,o=.dit l:=by
 cases o with
 | dit l=>exact⟨l,rfl⟩
 | _=>cases h
theorem bk0 {o k e:nh}{ob a b:Expr}{ap cp:Pos}(G:CG Γ F n X ck)(hab:be2 ob=true)(hl:(ap.endLine==cp.line)=true)(s1:shp a=true)(s2:shp b=true)(ho:PE X ob (TEv Γ (lY F o)))(hk:PE X a (TEv Γ (lY F k)))(he:PE X b (TEv Γ (lY F e))) :
  EvT Γ X (.Call (.Attribute ob "get" ap) [a,b] [] cp) (lY F (.get2 o k e)):=by
 have a3:∀ x∈[a,b],shp x=true:=λ x hx=>by
  rcases aP.mp hx with z|z
  ·rw[z];exact s1
  ·rw[bf.mp z];exact s2
 refine .val ((bj8 (aG4 G.room) ho hk he ⟨am8 hab,by rw[(zy a3).2];rfl,hl,by rw[za s1,za s2];rfl⟩).imp λ σ H Q q=>?_)
 obtain⟨φ,ρ,s,d,s',E,R,hm,q⟩:=q
 obtain⟨x,h,e1,J⟩:=aa0 hm
 obtain⟨y,t2,e2,C⟩:=aa0 J
 obtain⟨z,t3,e3,a5⟩:=aa0 C
 clear hm J C
 obtain⟨r,l,rfl,er,hy,rfl,rfl⟩:=bm4 a5
 refine⟨φ,ρ,s,_,h,E,R,e1,λ v1 φ1 H1 g1 l1 b1 r1 R1=>?_⟩
 have hlt:r<h.length:=by unfold lZ at b1;exact of_decide_eq_true b1
 obtain⟨o1,f1⟩:∃ o1,h[r]?=some o1:=⟨h[r],ag hlt⟩
 obtain⟨o2,f2,k2⟩:=DV.zc G.fk k ρ h _ _ e2 r _ f1
 obtain⟨o3,f3,k3⟩:=DV.zc G.fk e ρ t2 _ _ e3 r _ f2
 rw[er]at f3;cases f3
 obtain⟨l0,rfl⟩:=bS2 (k2.symm.trans k3.symm)
 obtain⟨a2,a1,_⟩:=R1.obj r _ f1
 refine⟨φ1 r,r1.refE,.inr ⟨a2,.inl a1⟩,φ1,ρ,h,y,t2,E.mono g1 l1,R1,e2,λ v2 φ2 H2 g2 l2 b2 r2 R2=>?_⟩
 have G2:=g1.trans g2 l1
 have L2:=ao l1 l2
 refine⟨φ2,ρ,t2,z,_,E.mono G2 L2,R2,e3,λ v3 φ3 H3 g3 l3 b3 r3 Z=>?_⟩
 obtain⟨kk,Y⟩:=al1 hy
 obtain⟨kb,ey,a6⟩:=ay5 Y (RV.mono g3 y v2 b2 r2)
 subst ey
 obtain⟨a4,c1,c2⟩:=Z.obj r _ er
 have a7:φ3 r=φ1 r:=by rw[g3.w.map r (ay hlt l2),g2.w.map r hlt]
 rw[a7]at c1
 refine⟨aF6 a4 kk,ax3.t c1 a6,?_⟩
 have hq:=q.trans (G2.trans g3 L2) (ao L2 l3)
 rcases c2.val keyT_inj Y with⟨q1,q2⟩|⟨e',v',q1,q2,q3,q4⟩
 ·rw[q1]at hq;rw[q2];exact hq.here Z b3 r3
 ·rw[q1]at hq;rw[q2]
  have wf:=Z.wf _ _ er
  unfold l6 at wf
  rw[ak]at wf
  exact hq.here Z (aa8.mp wf.2 _ q4) q3
theorem RVL.ofGet {φ:Nat->Addr}{H:Hp}:∀ {l:List lV} {ys:List V},ys.length=l.length->(∀(i:Nat) (d:lV),l[i]?=some d->∃ x,ys[i]?=some x/\RV Γ φ H d x)->RVL Γ φ H l ys
 | [],ys,h,_=>by rw[cj.mp h];exact .nil
 | d::l,[],h,_=>by cases h
 | d::l,y::ys,h,k=>by
  obtain⟨x,e,r⟩:=k 0 d rfl
  cases e
  exact .cons r (RVL.ofGet (by simpa using h) λ i d e=>k (i+1) d e)
theorem bi3 {x:lV}{s s':lU}{l:List lV}(h:DV.bn0 x s=.ok l s'):∃ r l0,x=.ref r/\s[r]?=some (.dit l0)/\l0.length<=l8/\l=l0.map DV.bW1/\s'=s:=by
 unfold DV.bn0 at h
 split at h
 ·split at h
  ·split at h
   ·cases h;exact⟨_,_,rfl,by assumption,by assumption,rfl,rfl⟩
   ·exact fb h
  ·exact fb h
 ·exact fb h
theorem bH5 {e:nh}{q:ItT}(G:CG Γ F n X ck)(hc:bT1 ck q=true)(he:PE X q.ob (TEv Γ (lY F e))):PE X q.text (TFv Γ (nY F (.itm e))):=by
 unfold bT1 at hc
 simp only[ak,eW,decide_eq_true_eq]at hc
 obtain⟨⟨⟨⟨⟨⟨h1,h2⟩,h3⟩,h4⟩,h5⟩,h6⟩,⟨⟨h7,h8⟩,h9⟩,Z⟩:=hc
 refine(bI5 h2 (G.comp h1).1 G.calm h3 h4 he (am8 h5) h6 h7 h8 h9 Z).imp λ σ H Q h=>?_
 obtain⟨φ,ρ,s,l,s',E,R,hm,k⟩:=h
 obtain⟨d,s1,e1,hm⟩:=aa0 hm
 obtain⟨r,l0,rfl,er,hl,rfl,rfl⟩:=bi3 hm
 refine⟨φ,ρ,s,.ref r,_,E,R,e1,λ v φ1 H1 g1 l1 b1 r1 R1=>?_⟩
 have ev:=r1.refE;subst ev
 obtain⟨y,a1,a2⟩:=R1.obj r _ er
 have J:=a2.length
 refine bP4 (K:=X.K) (σ:=σ) (Q:=λ v H'=>∃ a o y,H' a=some (.frz o (.dT y))/\(∀ o u,H a≠some (.frz o u))/\Q v (upd H' a (.dT y))) a1 (λ kv a7=>by obtain⟨d,hd⟩:=a2.keys kv a7;exact bm1 hd) (by rw[J];exact hl) λ D ys H2 o sm hD a3 hy ha C a5=>?_
 obtain⟨g2,R2⟩:=R1.same sm
 refine⟨φ1 r,o,y,ha,λ o u z=>?_,k D ys φ1 _ (g1.trans g2 l1) l1 ?_ (by rw[zd a3];exact hy) ?_ (Off.new R1 hD) (.ofGet (by rw[C,J,aq]) λ i d hi=>?_) R2⟩
 ·have:=g1.w.kp _ _ z rfl
  rw[a1]at this;cases this
 ·have wf:=R1.wf r _ er
  unfold l6 at wf
  rw[ak]at wf
  refine aa8.mpr λ d hd=>?_
  obtain⟨p,hp,rfl⟩:=aH.mp hd
  have Y:=aa8.mp wf.1 _ (be (f:=(·.1)) hp)
  have c2:=aa8.mp wf.2 _ (be (f:=(·.2)) hp)
  obtain⟨pk,pv⟩:=p
  cases pk with
  | tup ks =>
   show lZ _ (.tup (ks++[pv]))=true
   unfold lZ at Y ⊢
   exact zv Y (by unfold lW;rw[c2];rfl)
  | _=>rfl
 ·cases z:H D with
  | none=>rfl
  | some o=>exact absurd hD (g1.st D (by rw[z];simp))
 ·rw[az]at hi
  cases q0:l0[i]? with
  | none=>rw[q0]at hi;cases hi
  | some p =>
   rw[q0]at hi
   cases hi
   obtain⟨pk,pv⟩:=p
   obtain⟨kk,v,Y,c2,c3⟩:=a2.get q0
   have a6:i<ys.length:=by rw[C,J];exact(ac.mp q0).1
   obtain⟨t,t1,t2,t3⟩:=a5 i kk v a6 Y
   obtain⟨ks,rfl,z,a4⟩:=al0 c2
   have wf:=R1.wf r _ er
   unfold l6 at wf
   rw[ak]at wf
   have hv:=aa8.mp wf.2 _ (be (f:=(·.2)) (aQ q0))
   refine⟨.ref t,t2,?_⟩
   show RV Γ φ1 _ (.tup (ks++[pv])) (.ref t)
   exact RV.tupI (by rw[zd (bA3 t3 ha (by nofun))];exact t3) ((aV8 a4 z.2.1).append (.cons (RV.mono g2 _ _ hv c3) .nil))
end
section
variable {Γ:Gm} {F:mP} {n:Nat}
theorem bJ4 {X:Cx}{c:DV.Cn}{v:Const}{k:Nat}{pos:Pos}(h:mC c v=true):EvT Γ X (.Constant v k pos) (lY F (.cst c)):=by
 refine .val ?_
 unfold mC at h
 split at h
 ·exact bH3.imp λ σ H Q q=>az8 (c:=.non) (λ _=>rfl) (λ _ _=>RV.nonI) (TEv.eq (λ ρ s=>rfl) q)
 ·rename_i b c
  have e:=eq_of_beq h
  subst e
  exact ca7.imp λ σ H Q q=>az8 (c:=.bl b) (λ _=>rfl) (λ _ _=>RV.blI) (TEv.eq (λ ρ s=>rfl) q)
 ·rename_i i j
  have e:=of_decide_eq_true h
  subst e
  exact br2.imp λ σ H Q q=>az8 (c:=.int i) (λ _=>rfl) (λ _ _=>RV.intI) (TEv.eq (λ ρ s=>rfl) q)
 ·rename_i x y
  rw[ak]at h
  have e:=of_decide_eq_true h.1
  have e2:=of_decide_eq_true h.2
  subst e
  exact bQ4.imp λ σ H Q q=>az8 (c:=.str x) (λ _=>rfl) (λ _ _=>RV.strI (by unfold l8;omega)) (TEv.eq (λ ρ s=>rfl) q)
 ·cases h
theorem bC4 {X:Cx}{J:Ck}{es:mQ}{y:List Expr}{pos:Pos}(m:mEs J es y=true)(hz:y.length<=1000)(h:PA X y (TAv Γ (mR F es))):PE X (.List y pos) (TFv Γ (nY F (.disp es))):=by
 refine(bo8 h).imp λ σ H Q q=>?_
 obtain⟨φ,ρ,s,l,s',E,R,C,q⟩:=q
 refine⟨φ,ρ,s,l,s',E,R,C,λ vs φ1 G g1 l1 b1 r1 R1=>⟨by rw[r1.length,ax7 C m];exact aM7 hz,λ p hp=>?_⟩⟩
 obtain⟨z,R2⟩:=R1.same (H':=upd G p (.lst vs)) ((aj8.refl G).new hp)
 refine q p vs φ1 _ (g1.trans z l1) l1 b1 zh ?_ (Off.new R1 hp) (RVL.mono z _ _ b1 r1) R2
 cases e:H p with
 | none=>rfl
 | some o=>exact absurd hp (g1.st p (by rw[e];simp))
theorem CompF.eq {X:Cx}{m m':lX->lU->l7 (List lV)}{E:Expr}(c:CompF Γ X m E)(e:∀ ρ s,m' ρ s=m ρ s):CompF Γ X m' E:=by
 have:m'=m:=funext λ ρ=>funext λ s=>e ρ s
 subst this;exact c
theorem zg {a b:Bool}(h:(a&&b)=true):a=true/\b=true:=by rw[ak]at h;exact h
theorem by8 {X:Cx}{C:Ck}{g:String}{p:Pos}(G:CG Γ F n X C)(h:C.gl (g:Str)=true):EvT Γ X (.Name (g:Str) p) (lY F (.glob g)):=by
 refine .val ?_
 obtain⟨g1,J,g3⟩:=G.gl h
 cases e:F.con g with
 | none =>
  intro z s σ H Q I q
  obtain⟨φ,ρ,s,d,s',E,R,y,q⟩:=q
  have y:(match F.con g with|some d=>DV.R.ok d s|none=>.bad)=.ok d s':=y
  rw[e]at y
  cases y
 | some d =>
  obtain⟨v,u,Y,Z,h3,h4⟩:=G.con g d e
  exact(bD4 g1 Y Z J).imp λ σ H Q q=>az8 (c:=d) h3 h4 (TEv.eq (λ ρ s=>by show(match F.con g with|some d=>DV.R.ok d s|none=>.bad)=DV.R.ok d s;rw[e]) q)
theorem bJ5 {X:Cx}{y:Ck}{i:Nat}{x:Str}{p:Pos}(G:CG Γ F n X y)(h:y.var i x=true):EvT Γ X (.Name x p) (lY F (.var i)):=by
 refine .val ?_
 unfold Ck.var at h
 obtain⟨h,z⟩:=zg h
 obtain⟨h,h3⟩:=zg h
 obtain⟨J,C⟩:=zg h
 have e1:(x==("__debug__":Str))=false:=by simpa using h3
 have e2:(x==("__classdict__":Str))=false:=by simpa using z
 exact(aO3 (by rw[G.N];exact of_decide_eq_true J) (G.vis C) e1 e2).imp λ σ H Q q=>bL5 i (TEv.eq (λ ρ s=>rfl) q)
theorem aP6 {X:Cx}{E:Expr}{m:lX->lU->l7 lV}(h:∀ ρ s,m ρ s=.bad):EvT Γ X E m:=by
 refine⟨λ z s σ H Q I q=>?_,λ z s σ H Q I q=>?_⟩
 ·obtain⟨φ,ρ,s,d,s',E,R,y,q⟩:=q
  rw[h]at y;exact fb y
 ·obtain⟨φ,ρ,s,d,s',E,R,y,q⟩:=q
  rw[h]at y;exact fb y
inductive LK (Γ:Gm)(X:Cx)(m:lX->lU->l7 (List lV))(E:Expr)(k:Nat):Prop where
 | c (h:CompF Γ X m E):LK Γ X m E k
 | f (hk:1<=k) (h:PE X E (TFv Γ m)):LK Γ X m E k
 | s (hk:k=2) (h:PE X E (TLv Γ m)):LK Γ X m E k
theorem bG2 {X:Cx}{m:lX->lU->l7 (List lV)}{E:Expr}(h:LK Γ X m E 0):CompF Γ X m E:=by
 cases h with
 | c h=>exact h
 | f hk h=>omega
 | s hk h=>omega
theorem bs1 {X:Cx}{y:Ck}{m:lX->lU->l7 (List lV)}{E:Expr}(G:CG Γ F n X y)(h:LK Γ X m E 1):PE X E (TFv Γ m):=by
 cases h with
 | c h=>exact h.pe G.calm
 | f hk h=>exact h
 | s hk h=>omega
theorem cb3 {X:Cx}{y:Ck}{m:lX->lU->l7 (List lV)}{E:Expr}(G:CG Γ F n X y)(h:LK Γ X m E 2):PE X E (TLv Γ m):=by
 cases h with
 | c h=>exact(h.pe G.calm).imp λ σ H Q q=>aK9 q
 | f hk h=>exact h.imp λ σ H Q q=>aK9 q
 | s hk h=>exact h
theorem bf5 {u : Expr} (h : cd0 u = true) : ∃ k p1 p2, u = .UnaryOp .USub (.Constant (.int 1) k p1) p2 := by
  cases u with
  | UnaryOp o l p => cases o with
    | USub => cases l with
      | Constant c k p1 => cases c with
        | int i => have e : i = 1 := of_decide_eq_true h
                   subst e; exact⟨k, p1, p, rfl⟩
        | _ => exact ff h
      | _ => exact ff h
    | _ => exact ff h
  | _ => exact ff h
theorem biOk_inv {z:Ck}{b:mU}{x:Str}{C:List Expr}{es:mQ}(h:bT4 z b x C (mEs z es C) (mEs z es (C.take 1))=true) :
  (∃ k t a y G,biK b=some (k,t)/\C=[a,.Name y G]/\x=("isinstance":Str)/\y=t/\z.gl x=true/\z.gl y=true/\mEs z es [a]=true)\/∃ a ys,C=a::ys/\biT b=some x/\z.gl x=true/\mEs z es (a::ys)=true:=by
 unfold bT4 at h
 cases hk:biK b with
 | none =>
  rw[hk]at h
  cases C with
  | nil=>exact ff h
  | cons a ys =>
   obtain⟨h,h3⟩:=zg h
   obtain⟨Y,J⟩:=zg h
   exact .inr ⟨a,ys,rfl,of_decide_eq_true Y,J,h3⟩
 | some p =>
  rw[hk]at h
  cases C with
  | nil=>exact ff h
  | cons a ys=>cases ys with
   | nil=>exact ff h
   | cons b ys=>cases b with
    | Name y G=>cases ys with
     | nil =>
      obtain⟨h,h5⟩:=zg h
      obtain⟨h,Z⟩:=zg h
      obtain⟨h,h3⟩:=zg h
      obtain⟨Y,J⟩:=zg h
      exact .inl ⟨p.1,p.2,a,y,G,rfl,rfl,of_decide_eq_true Y,of_decide_eq_true h3,J,Z,h5⟩
     | cons _ _=>exact ff h
    | _=>exact ff h
theorem bj4 {E:Expr}{q:ItT}(h:bU5 E=some q):E=q.text:=by
 have C:∀ {p:Prop},(none:Option ItT)=some q->p:=λ h=>nomatch h
 cases E with
 | ListComp elt gs sc pos =>
  cases elt with
  | BinOp l op r p4 =>
   cases l with
   | Name x p1 =>
    cases op with
    | Add =>
     cases r with
     | Tuple ts k1 p3 =>
      cases ts with
      | cons t0 ts1 =>
       cases t0 with
       | Name y p2 =>
        cases ts1 with
        | nil =>
         cases gs with
         | cons g gs1 =>
          cases g with
          | mk tgt iter ifs z =>
           cases tgt with
           | Tuple us k2 p7 =>
            cases us with
            | cons u0 us1 =>
             cases u0 with
             | Name x2 p5 =>
              cases us1 with
              | cons u1 us2 =>
               cases u1 with
               | Name y2 p6 =>
                cases us2 with
                | nil =>
                 cases iter with
                 | Call f as kw cp =>
                  cases f with
                  | Attribute ob it ap =>
                   cases as with
                   | nil =>
                    cases kw with
                    | nil =>
                     cases ifs with
                     | nil =>
                      cases gs1 with
                      | nil =>
                       have h:(if x2=x/\y2=y/\it=("items":Str)/\z=0 then some (⟨x,y,ob,sc,p1,p2,p3,p4,p5,p6,p7,k1,k2,ap,cp,pos⟩:ItT)else none)=some q:=h
                       by_cases e:x2=x/\y2=y/\it=("items":Str)/\z=0
                       ·rw[if_pos e]at h;cases h;obtain⟨rfl,rfl,rfl,rfl⟩:=e;rfl
                       ·rw[if_neg e]at h;exact C h
                      | _=>exact C h
                     | _=>exact C h
                    | _=>exact C h
                   | _=>exact C h
                  | _=>exact C h
                 | _=>exact C h
                | _=>exact C h
               | _=>exact C h
              | _=>exact C h
             | _=>exact C h
            | _=>exact C h
           | _=>exact C h
         | _=>exact C h
        | _=>exact C h
       | _=>exact C h
      | _=>exact C h
     | _=>exact C h
    | _=>exact C h
   | _=>exact C h
  | _=>exact C h
 | _=>exact C h
mutual
theorem sE:∀(e:nh) (E:Expr) (X:Cx) (z:Ck),CG Γ F n X z->mE z e E=true->EvT Γ X E (lY F e)
 | .var i,E,X,z,G,h=>by
  cases E with
  | Name x p =>
   exact bJ5 G h
  | _=>exact ff h
 | .cst c,E,X,z,G,h=>by
  cases E with
  | Constant v k p =>
   exact bJ4 h
  | _=>exact ff h
 | .glob g,E,X,z,G,h=>by
  cases E with
  | Name x p =>
   obtain⟨J,C⟩:=zg h
   have e:=of_decide_eq_true J
   subst e
   exact by8 G C
  | _=>exact ff h
 | .bin op a b,E,X,z,G,h=>by
  cases E with
  | BinOp l o r pE =>
   obtain⟨h,h3⟩:=zg h
   obtain⟨J,C⟩:=zg h
   have e:=of_decide_eq_true J
   subst e
   exact bv4 G op (sE a _ X z G C) (sE b _ X z G h3)
  | _=>exact ff h
 | .neg a,E,X,z,G,h=>by
  cases E with
  | UnaryOp o l p =>
   cases o with
   | USub =>
    exact bx8 (sE a _ X z G h)
   | _=>exact ff h
  | _=>exact ff h
 | .not a,E,X,z,G,h=>by
  cases E with
  | UnaryOp o l p =>
   cases o with
   | Not =>
    exact bv7 (sE a _ X z G h)
   | _=>exact ff h
  | _=>exact ff h
 | .cmp op a b,E,X,z,G,h=>by
  cases E with
  | Compare l os rs pE =>
   cases os with
   | cons o os_0 =>
    cases os_0 with
    | nil =>
     cases rs with
     | cons r rs_0 =>
      cases rs_0 with
      | nil =>
       obtain⟨h,h3⟩:=zg h
       obtain⟨J,C⟩:=zg h
       have e:=of_decide_eq_true J
       subst e
       exact bu9 G op (aE6 h3) (sE a _ X z G C) (sE b _ X z G h3)
      | _=>exact ff h
     | _=>exact ff h
    | _=>exact ff h
   | _=>exact ff h
  | _=>exact ff h
 | .chain o p a b c,E,X,z,G,h=>by
  cases E with
  | Compare l os rs pE =>
   cases os with
   | cons o1 os_0 =>
    cases os_0 with
    | cons o2 os_1 =>
     cases os_1 with
     | nil =>
      cases rs with
      | cons m rs_0 =>
       cases rs_0 with
       | cons r rs_1 =>
        cases rs_1 with
        | nil =>
         obtain⟨h,Y⟩:=zg h
         obtain⟨h,Z⟩:=zg h
         obtain⟨h,h3⟩:=zg h
         obtain⟨J,C⟩:=zg h
         have e:=of_decide_eq_true J
         have e':=of_decide_eq_true C
         subst e
         subst e'
         exact bc0 G o p (aE6 Y) (sE a _ X z G h3) (sE b _ X z G Z) (sE c _ X z G Y)
        | _=>exact ff h
       | _=>exact ff h
      | _=>exact ff h
     | _=>exact ff h
    | _=>exact ff h
   | _=>exact ff h
  | _=>exact ff h
 | .isN a,E,X,z,G,h=>by
  cases E with
  | Compare l os rs pE =>
   cases os with
   | cons o os1 =>
    cases o with
    | Is =>
     cases os1 with
     | nil =>
      cases rs with
      | cons r rs1 =>
       cases r with
       | Constant v k p1 =>
        cases v with
        | none =>
         cases rs1 with
         | nil =>
          exact bD8 (sE a _ X z G h)
         | _=>exact ff h
        | _=>exact ff h
       | _=>exact ff h
      | _=>exact ff h
     | _=>exact ff h
    | _=>exact ff h
   | _=>exact ff h
  | _=>exact ff h
 | .notN a,E,X,z,G,h=>by
  cases E with
  | Compare l os rs pE =>
   cases os with
   | cons o os1 =>
    cases o with
    | IsNot =>
     cases os1 with
     | nil =>
      cases rs with
      | cons r rs1 =>
       cases r with
       | Constant v k p1 =>
        cases v with
        | none =>
         cases rs1 with
         | nil =>
          exact bi0 (sE a _ X z G h)
         | _=>exact ff h
        | _=>exact ff h
       | _=>exact ff h
      | _=>exact ff h
     | _=>exact ff h
    | _=>exact ff h
   | _=>exact ff h
  | _=>exact ff h
 | .isB _ _,E,X,z,G,h=>ff h
 | .notB _ _,E,X,z,G,h=>ff h
 | .and a b,E,X,z,G,h=>by
  cases E with
  | BoolOp op vs p=>cases op with
   | And =>
    cases vs with
    | nil=>exact ff h
    | cons l vs=>cases vs with
     | nil=>exact ff h
     | cons r vs=>cases vs with
      | nil =>
       obtain⟨J,C⟩:=zg h
       exact bt5 (sE a _ X z G J) (sE b _ X z G C)
      | cons r2 vs =>
       obtain⟨J,C⟩:=zg h
       exact bw6 (sE a _ X z G J) (sE b _ X z G C)
   | _=>exact ff h
  | _=>exact ff h
 | .or a b,E,X,z,G,h=>by
  cases E with
  | BoolOp op vs p=>cases op with
   | Or =>
    cases vs with
    | nil=>exact ff h
    | cons l vs=>cases vs with
     | nil=>exact ff h
     | cons r vs=>cases vs with
      | nil =>
       obtain⟨J,C⟩:=zg h
       exact bR3 (sE a _ X z G J) (sE b _ X z G C)
      | cons r2 vs =>
       obtain⟨J,C⟩:=zg h
       exact bO3 (sE a _ X z G J) (sE b _ X z G C)
   | _=>exact ff h
  | _=>exact ff h
 | .ite c a b,E,X,z,G,h=>by
  cases E with
  | IfExp tE l r pE =>
   obtain⟨h,h3⟩:=zg h
   obtain⟨J,C⟩:=zg h
   exact bt9 (sE c _ X z G J) (sE a _ X z G C) (sE b _ X z G h3)
  | _=>exact ff h
 | .tup es,E,X,z,G,h=>by
  cases E with
  | Tuple xs k p =>
   obtain⟨J,C⟩:=zg h
   exact bw3 J (of_decide_eq_true C) (au4 (sEs es _ X z G J))
  | _=>exact ff h
 | .lst es,E,X,z,G,h=>by
  cases E with
  | List xs p =>
   obtain⟨J,C⟩:=zg h
   exact by6 J (of_decide_eq_true C) (au4 (sEs es _ X z G J))
  | _=>exact ff h
 | .dic .nil .nil,E,X,z,G,h=>by
  cases E with
  | Dict a b p=>cases a with
   | nil=>cases b with
    | nil=>exact .val (bj6.imp λ σ H Q q=>bP0 (TEv.eq (λ ρ s=>rfl) q))
    | _=>exact ff h
   | cons x a=>cases x with
    | none=>exact ff h
    | some x=>cases a with
     | nil=>cases b with
      | nil=>exact ff h
      | cons y b=>cases b with
       | nil=>exact ff h
       | _=>exact ff h
     | _=>exact ff h
  | _=>exact ff h
 | .dic (.cons k .nil) (.cons v .nil),E,X,z,G,h=>by
  cases E with
  | Dict a b p=>cases a with
   | nil=>cases b with
    | nil=>exact ff h
    | _=>exact ff h
   | cons x a=>cases x with
    | none=>exact ff h
    | some x=>cases a with
     | nil=>cases b with
      | nil=>exact ff h
      | cons y b=>cases b with
       | nil =>
        obtain⟨J,C⟩:=zg h
        obtain⟨J,_⟩:=zg J
        obtain⟨J,_⟩:=zg J
        obtain⟨C,_⟩:=zg C
        obtain⟨C,_⟩:=zg C
        exact .val ((bv5 (bl3 (sE k _ X z G J).1 (sE v _ X z G C).1 bD7) rfl rfl (by nofun) (by show 1<=15;decide)).imp λ σ H Q q=>bS4 (TEv.eq (λ ρ s=>rfl) q))
       | _=>exact ff h
     | _=>exact ff h
  | _=>exact ff h
 | .dic .nil (.cons _ _),E,X,z,G,h=>aP6 λ _ _=>rfl
 | .dic (.cons _ .nil) .nil,E,X,z,G,h=>aP6 λ _ _=>rfl
 | .dic (.cons _ .nil) (.cons _ (.cons _ _)),E,X,z,G,h=>aP6 λ _ _=>rfl
 | .dic (.cons _ (.cons _ _)) _,E,X,z,G,h=>aP6 λ _ _=>rfl
 | .bitl _,E,X,z,G,h=>ff h
 | .lrng _,E,X,z,G,h=>ff h
 | .dicT,E,X,z,G,h=>by
  cases E with
  | Dict a b p=>cases a with
   | nil=>cases b with
    | nil=>exact .val (be9.imp λ σ H Q q=>bs2 (TEv.eq (λ ρ s=>rfl) q))
    | _=>exact ff h
   | _=>exact ff h
  | _=>exact ff h
 | .get2 o k d,E,X,z,G,h=>by
  cases E with
  | Call fE xs kw cp =>
   cases fE with
   | Attribute ob x ap =>
    cases xs with
    | cons a xs_0 =>
     cases xs_0 with
     | cons b xs_1 =>
      cases xs_1 with
      | nil =>
       cases kw with
       | nil =>
        obtain⟨h,h8⟩:=zg h
        obtain⟨h,h7⟩:=zg h
        obtain⟨h,h6⟩:=zg h
        obtain⟨h,Y⟩:=zg h
        obtain⟨h,Z⟩:=zg h
        obtain⟨h,h3⟩:=zg h
        obtain⟨J,C⟩:=zg h
        have e:=of_decide_eq_true J
        subst e
        exact bk0 G C h3 h7 h8 (sE o _ X z G Z).1 (sE k _ X z G Y).1 (sE d _ X z G h6).1
       | _=>exact ff h
      | _=>exact ff h
     | _=>exact ff h
    | _=>exact ff h
   | _=>exact ff h
  | _=>exact ff h
 | .ix a b,E,X,z,G,h=>by
  cases E with
  | Subscript o i p =>
   obtain⟨J,C⟩:=zg h
   exact bM5 G (aE6 C) (sE a _ X z G J) (sE b _ X z G C)
  | _=>exact ff h
 | .slL a lo,E,X,z,G,h=>by
  cases E with
  | Subscript o i p =>
   cases i with
   | Slice lo hi st p2 =>
    cases lo with
    | some l =>
     cases hi with
     | none =>
      cases st with
      | none =>
       obtain⟨J,C⟩:=zg h
       exact by3 G (sE a _ X z G J) (sE lo _ X z G C)
      | _=>exact ff h
     | _=>exact ff h
    | _=>exact ff h
   | _=>exact ff h
  | _=>exact ff h
 | .slU a hi,E,X,z,G,h=>by
  cases E with
  | Subscript o i p =>
   cases i with
   | Slice lo hi st p2 =>
    cases lo with
    | none =>
     cases hi with
     | some l =>
      cases st with
      | none =>
       obtain⟨J,C⟩:=zg h
       exact br8 G (sE a _ X z G J) (sE hi _ X z G C)
      | _=>exact ff h
     | _=>exact ff h
    | _=>exact ff h
   | _=>exact ff h
  | _=>exact ff h
 | .slLU _ _ _,E,X,z,G,h=>ff h
 | .rev a,E,X,z,G,h=>by
  cases E with
  | Subscript o i p =>
   cases i with
   | Slice lo hi st p2 =>
    cases lo with
    | none =>
     cases hi with
     | none =>
      cases st with
      | some u =>
       obtain⟨J,C⟩:=zg h
       obtain⟨_,_,_,rfl⟩:=bf5 J
       exact bu7 G (sE a _ X z G C)
      | _=>exact ff h
     | _=>exact ff h
    | _=>exact ff h
   | _=>exact ff h
  | _=>exact ff h
 | .call f as,E,X,z,G,h=>by
  cases E with
  | Call fE xs kw p =>
   cases fE with
   | Name x pN =>
    cases kw with
    | nil =>
     obtain⟨h,h3⟩:=zg h
     obtain⟨J,C⟩:=zg h
     have e:=of_decide_eq_true J
     subst e
     exact bh5 G C h3 (sAs as _ X z G h3)
    | _=>exact ff h
   | _=>exact ff h
  | _=>exact ff h
 | .callC _ _,E,X,z,G,h=>ff h
 | .callV _ _,E,X,z,G,h=>ff h
 | .bi b es,E,X,z,G,h=>by
  cases E with
  | Call fE xs kw p =>
   cases fE with
   | Name x pN =>
    cases kw with
    | nil =>
     have h:bT4 z b x xs (mEs z es xs) (mEs z es (xs.take 1))=true:=h
     rcases biOk_inv h with⟨k,t,a,y,py,hk,rfl,rfl,rfl,C,Z,Y⟩|⟨a,ys,rfl,J,C,h3⟩
     ·exact bz0 G hk C Z (sEs es _ X z G Y)
     ·exact bH2 G J C h3 (au4 (sEs es _ X z G h3))
    | _=>exact ff h
   | _=>exact ff h
  | _=>exact ff h
 | .mk k l,E,X,z,G,h=>by
  cases E with
  | ListComp e gs sc p =>
   obtain⟨J,C⟩:=zg h
   have e:=of_decide_eq_true J
   subst e
   exact .val (((bG2 (sL l _ X z G 0 C)).pe G.calm).imp λ σ H Q q=>aV2 (TEv.eq (λ ρ s=>rfl) q))
  | Call fE xs kw p =>
   cases fE with
   | Name x pN =>
    cases xs with
    | cons a xs_0 =>
     cases xs_0 with
     | nil =>
      cases kw with
      | nil =>
       obtain⟨h,Z⟩:=zg h
       obtain⟨C,h3⟩:=zg h
       rw[cx]at Z
       rcases Z with Z|Z
       ·obtain⟨Y,h6⟩:=zg Z
        exact .val ((bG3 G (of_decide_eq_true Y) C h3 (cb3 G (sL l _ X z G 2 h6))).imp λ σ H Q q=>TEv.eq (λ ρ s=>rfl) q)
       ·obtain⟨Y,h6⟩:=zg Z
        exact .val ((bG0 G (of_decide_eq_true Y) C h3 (bs1 G (sL l _ X z G 1 h6))).imp λ σ H Q q=>TEv.eq (λ ρ s=>rfl) q)
      | _=>exact ff h
     | _=>exact ff h
    | _=>exact ff h
   | _=>exact ff h
  | _=>exact ff h
 | .mks _ _,E,X,z,G,h=>ff h
 | .mkDs k e d,E,X,z,G,h=>by
  cases E with
  | Call fE xs kw p =>
   cases fE with
   | Name x pN =>
    cases xs with
    | cons a xs_0 =>
     cases xs_0 with
     | nil =>
      cases kw with
      | cons kk kw1 =>
       cases kk with
       | mk ky de kp =>
        cases ky with
        | some y =>
         cases kw1 with
         | nil =>
          obtain⟨h,h7⟩:=zg h
          obtain⟨h,h6⟩:=zg h
          obtain⟨h,Y⟩:=zg h
          obtain⟨h,Z⟩:=zg h
          obtain⟨h,h3⟩:=zg h
          obtain⟨J,C⟩:=zg h
          have e1:=of_decide_eq_true J
          have e2:=of_decide_eq_true C
          have e3:=of_decide_eq_true h3
          subst e1 e2 e3
          exact .val ((bu2 G Z Y (sE e _ X z G h6).1 (sE d _ X z G h7).1).imp λ σ H Q q=>TEv.eq (λ ρ s=>rfl) q)
         | _=>exact ff h
        | _=>exact ff h
      | _=>exact ff h
     | _=>exact ff h
    | _=>exact ff h
   | _=>exact ff h
  | _=>exact ff h
 | .mkD k l d,E,X,z,G,h=>by
  cases E with
  | Call fE xs kw p =>
   cases fE with
   | Name x pN =>
    cases xs with
    | cons a xs_0 =>
     cases xs_0 with
     | nil =>
      cases kw with
      | cons kk kw1 =>
       cases kk with
       | mk ky de kp =>
        cases ky with
        | some y =>
         cases kw1 with
         | nil =>
          obtain⟨h,h7⟩:=zg h
          obtain⟨h,h6⟩:=zg h
          obtain⟨h,Y⟩:=zg h
          obtain⟨h,h3⟩:=zg h
          obtain⟨J,C⟩:=zg h
          have e3:=of_decide_eq_true C
          subst e3
          obtain⟨e,e2⟩:=zg J
          have e:=of_decide_eq_true e
          have e2:=of_decide_eq_true e2
          subst e e2
          exact .val ((bO0 G h3 Y (bs1 G (sL l _ X z G 1 h6)) (sE d _ X z G h7).1).imp λ σ H Q q=>TEv.eq (λ ρ s=>rfl) q)
         | _=>exact ff h
        | _=>exact ff h
      | _=>exact ff h
     | _=>exact ff h
    | _=>exact ff h
   | _=>exact ff h
  | _=>exact ff h
 | .meth m o es,E,X,z,G,h=>by
  cases E with
  | Call fE xs kw p =>
   cases fE with
   | Attribute ob x ap =>
    cases kw with
    | nil =>
     obtain⟨h,Y⟩:=zg h
     obtain⟨h,Z⟩:=zg h
     obtain⟨h,h3⟩:=zg h
     obtain⟨J,C⟩:=zg h
     exact bi2 G (of_decide_eq_true J) C h3 (sE o _ X z G Z).1 Y (sEs es _ X z G Y)
    | _=>exact ff h
   | _=>exact ff h
  | _=>exact ff h
 | .ext o l,E,X,z,G,h=>by
  cases E with
  | Call fE xs kw p =>
   cases fE with
   | Attribute ob x ap =>
    cases xs with
    | cons a xs_0 =>
     cases xs_0 with
     | nil =>
      cases kw with
      | nil =>
       obtain⟨h,h6⟩:=zg h
       obtain⟨h,Y⟩:=zg h
       obtain⟨h,Z⟩:=zg h
       obtain⟨h,h3⟩:=zg h
       obtain⟨J,C⟩:=zg h
       have e:=of_decide_eq_true J
       subst e
       exact .val ((bu0 G C h3 (sE o _ X z G Z).1 h6 (bs1 G (sL l _ X z G 1 Y)) (DV.aK8 G.fk l)).imp λ σ H Q q=>TEv.eq (λ ρ s=>rfl) q)
      | _=>exact ff h
     | _=>exact ff h
    | _=>exact ff h
   | _=>exact ff h
  | _=>exact ff h
 | .extS o e',E,X,z,G,h=>by
  cases E with
  | Call fE xs kw p =>
   cases fE with
   | Attribute ob x ap =>
    cases xs with
    | cons a xs_0 =>
     cases xs_0 with
     | nil =>
      cases kw with
      | nil =>
       obtain⟨h,h6⟩:=zg h
       obtain⟨h,Y⟩:=zg h
       obtain⟨h,Z⟩:=zg h
       obtain⟨h,h3⟩:=zg h
       obtain⟨J,C⟩:=zg h
       have e:=of_decide_eq_true J
       subst e
       exact .val ((bu1 G C h3 (sE o _ X z G Z).1 h6 (sE e' _ X z G Y).1 (DV.zc G.fk e')).imp λ σ H Q q=>TEv.eq (λ ρ s=>rfl) q)
      | _=>exact ff h
     | _=>exact ff h
    | _=>exact ff h
   | _=>exact ff h
  | _=>exact ff h
 | .join _ _,E,X,z,G,h=>ff h
theorem sEs:∀(es:mQ) (y:List Expr) (X:Cx) (z:Ck),CG Γ F n X z->mEs z es y=true->PEs Γ F X es y
 | .nil,y,X,z,G,h=>by
  cases y with
  | nil =>
   exact trivial
  | _=>exact ff h
 | .cons e es,y,X,z,G,h=>by
  cases y with
  | cons x y =>
   obtain⟨h,h3⟩:=zg h
   obtain⟨J,C⟩:=zg h
   exact⟨⟨C,sE e _ X z G J⟩,sEs es _ X z G h3⟩
  | _=>exact ff h
theorem sAs:∀(es:nI) (y:List Expr) (X:Cx) (z:Ck),CG Γ F n X z->mAs z es y=true->PA X y (TAv Γ (nD F es))
 | .nil,y,X,z,G,h=>by
  cases y with
  | nil =>
   exact aj3.imp λ σ H Q q=>aN1 (TAv.eq (λ ρ s=>rfl) q)
  | _=>exact ff h
 | .ex e es,y,X,z,G,h=>by
  cases y with
  | cons x y =>
   obtain⟨h,h3⟩:=zg h
   obtain⟨J,C⟩:=zg h
   exact(aO0 C (sE e _ X z G J).1 (sAs es _ X z G h3)).imp λ σ H Q q=>TAv.eq (λ ρ s=>rfl) q
  | _=>exact ff h
 | .lam _ _ _,y,X,z,G,h=>ff h
 | .fn _ _,y,X,z,G,h=>ff h
theorem ce7:∀(es:nI) (y:List Expr) (X:Cx) (z:Ck),CG Γ F n X z->cd6 z es y=true->PA X y (TAp Γ X.env.cells X.N (nD F es))
 | .nil,y,X,z,G,h=>by
  cases y with
  | nil =>
   exact aj3.imp λ σ H Q q=>bt4 (TAp.eq (λ ρ s=>rfl) q)
  | _=>exact ff h
 | .ex e es,y,X,z,G,h=>by
  cases y with
  | cons x y =>
   obtain⟨h,h3⟩:=zg h
   obtain⟨J,C⟩:=zg h
   exact(zO (sE e _ X z G J).1 (ce7 es _ X z G h3) (za C)).imp λ σ H Q q=>bK5 (TAp.eq (λ ρ s=>rfl) q)
  | _=>exact ff h
 | .lam id caps es,y,X,z,G,h=>ff h
 | .fn _ _,y,X,z,G,h=>ff h
theorem sI:∀(i:DV.I) (E tg:Expr) (X:Cx) (y:Ck),CG Γ F n X y->mI y tg i E=true->PI X tg E (TIv Γ (nR F i))
 | .seq e,E,tg,X,y,G,h=>by
  obtain⟨z,C⟩:=zg h
  exact bC9 G (sE e _ X y G z).1
 | .rng1 a,E,tg,X,y,G,h=>by
  cases E with
  | Call fE xs kw p =>
   cases fE with
   | Name x pN =>
    cases xs with
    | cons l xs_0 =>
     cases xs_0 with
     | nil =>
      cases kw with
      | nil =>
       obtain⟨h,J⟩:=zg h
       obtain⟨h,h3⟩:=zg h
       obtain⟨z,C⟩:=zg h
       have e:=of_decide_eq_true z
       subst e
       exact bl5 G C J (sE a _ X y G h3).1
      | _=>exact ff h
     | _=>exact ff h
    | _=>exact ff h
   | _=>exact ff h
  | _=>exact ff h
 | .rng2 _ _,E,tg,X,y,G,h=>ff h
 | .rng3 _ _ _,E,tg,X,y,G,h=>ff h
 | .enum (.seq _),E,tg,X,y,G,h=>ff h
 | .enum (.rng1 _),E,tg,X,y,G,h=>ff h
 | .enum (.rng2 _ _),E,tg,X,y,G,h=>ff h
 | .enum (.rng3 _ _ _),E,tg,X,y,G,h=>ff h
 | .enum (.enum _),E,tg,X,y,G,h=>ff h
 | .enum (.zip _ _),E,tg,X,y,G,h=>ff h
 | .enum (.items _),E,tg,X,y,G,h=>ff h
 | .zip (.seq a) (.seq b),E,tg,X,y,G,h=>by
  cases E with
  | Call fE xs kw p =>
   cases fE with
   | Name x pN =>
    cases xs with
    | cons l xs_0 =>
     cases xs_0 with
     | cons r xs_1 =>
      cases xs_1 with
      | nil =>
       cases kw with
       | nil =>
        obtain⟨h,h7⟩:=zg h
        obtain⟨h,Y⟩:=zg h
        obtain⟨h,Z⟩:=zg h
        obtain⟨h,J⟩:=zg h
        obtain⟨h,h3⟩:=zg h
        obtain⟨z,C⟩:=zg h
        have e:=of_decide_eq_true z
        subst e
        cases tg with
        | Tuple es k p=>exact bA9 G C J Y (sE a _ X y G h3).1 (sE b _ X y G Z).1
        | _=>exact ff h7
       | _=>exact ff h
      | _=>exact ff h
     | _=>exact ff h
    | _=>exact ff h
   | _=>exact ff h
  | _=>exact ff h
 | .zip (.seq _) (.rng1 _),E,tg,X,y,G,h=>ff h
 | .zip (.seq _) (.rng2 _ _),E,tg,X,y,G,h=>ff h
 | .zip (.seq _) (.rng3 _ _ _),E,tg,X,y,G,h=>ff h
 | .zip (.seq _) (.enum _),E,tg,X,y,G,h=>ff h
 | .zip (.seq _) (.zip _ _),E,tg,X,y,G,h=>ff h
 | .zip (.seq _) (.items _),E,tg,X,y,G,h=>ff h
 | .zip (.rng1 _) _,E,tg,X,y,G,h=>ff h
 | .zip (.rng2 _ _) _,E,tg,X,y,G,h=>ff h
 | .zip (.rng3 _ _ _) _,E,tg,X,y,G,h=>ff h
 | .zip (.enum _) _,E,tg,X,y,G,h=>ff h
 | .zip (.zip _ _) _,E,tg,X,y,G,h=>ff h
 | .zip (.items _) _,E,tg,X,y,G,h=>ff h
 | .items _,E,tg,X,y,G,h=>ff h
theorem sL:∀(l:DV.L) (E:Expr) (X:Cx) (y:Ck),CG Γ F n X y->∀ k,mL y k l E=true->LK Γ X (nY F l) E k
 | .comp tg it e caps,E,X,y,G,k,h=>by
  cases E with
  | ListComp elt gs scope p =>
   cases gs with
   | cons g gs1 =>
    cases g with
    | mk tgt iter ifs z =>
     cases ifs with
     | nil =>
      cases gs1 with
      | nil =>
       obtain⟨h,h3⟩:=zg h
       obtain⟨h,Y⟩:=zg h
       obtain⟨h0,J⟩:=zg h
       have Z:=of_decide_eq_true h0
       subst Z
       have c:=bk2 (pos:=p) G J (sI it _ _ X y G Y) λ C cells s H ex=>(sE e _ _ _ ((G.comp J).2.2 C cells s H ex).1 h3).1
       exact .c (c.eq λ ρ s=>rfl)
      | _=>exact ff h
     | _=>exact ff h
   | _=>exact ff h
  | _=>exact ff h
 | .compIf tg it i e caps,E,X,y,G,k,h=>by
  cases E with
  | ListComp elt gs scope p =>
   cases gs with
   | cons g gs1 =>
    cases g with
    | mk tgt iter ifs z =>
     cases ifs with
     | cons i1 ifs1 =>
      cases ifs1 with
      | nil =>
       cases gs1 with
       | nil =>
        obtain⟨h,h4⟩:=zg h
        obtain⟨h,h3⟩:=zg h
        obtain⟨h,Y⟩:=zg h
        obtain⟨h0,J⟩:=zg h
        have Z:=of_decide_eq_true h0
        subst Z
        have c:=bA7 (pos:=p) G J (sI it _ _ X y G Y) (λ C cells s H ex=>(sE i _ _ _ ((G.comp J).2.2 C cells s H ex).1 h3).2) λ C cells s H ex=>(sE e _ _ _ ((G.comp J).2.2 C cells s H ex).1 h4).1
        exact .c (c.eq λ ρ s=>rfl)
       | _=>exact ff h
      | _=>exact ff h
     | _=>exact ff h
   | _=>exact ff h
  | _=>exact ff h
 | .disp es,E,X,y,G,k,h=>by
  cases E with
  | List xs p =>
   obtain⟨h,Y⟩:=zg h
   obtain⟨h0,J⟩:=zg h
   exact .f (of_decide_eq_true h0) (bC4 J (of_decide_eq_true Y) (au4 (sEs es _ X y G J)))
  | _=>exact ff h
 | .seq e,E,X,y,G,k,h=>by
  obtain⟨h0,J⟩:=zg h
  exact .s (of_decide_eq_true h0) ((sE e _ X y G J).1.imp λ σ H Q q=>bP2 (TLv.eq (λ ρ s=>rfl) q))
 | .itm e,E,X,y,G,k,h=>by
  have h:(match bU5 E with|some q=>decide (1<=k)&&bT1 y q&&mE y e q.ob|none=>false)=true:=h
  cases hq:bU5 E with
  | none=>rw[hq]at h;exact ff h
  | some q =>
   rw[hq]at h
   obtain⟨h,h3⟩:=zg h
   obtain⟨J,Y⟩:=zg h
   rw[bj4 hq]
   exact .f (of_decide_eq_true J) (bH5 G Y (sE e _ X y G h3).1)
end
end
section
variable {Γ:Gm} {F:mP} {n:Nat}
theorem bh2 {X:Cx}{Z:Ck}{m:lX->lU->l7 (List lV)}{E:Expr}{x:Str}{i:Nat}{Y pos:Pos}(G:CG Γ F n X Z)(c:CompF Γ X m E)(hi:Z.N[i]?=some x)(hl:Z.loc x=true) :
  PS X (.Assign [.Name x Y] E pos) (bj2 (TFv Γ m) (as7 i)):=by
 obtain⟨elt,z,iter,ifs,scope,p2,N',h,wi,g,tc,te,rfl,h1,h2,h3,h4,h5⟩:=c.ex
 obtain⟨l1,l2⟩:=G.loc hl
 have nd:X.N.Nodup:=by rw[G.N];exact G.nd
 have y:X.N[i]?=some x:=by rw[G.N];exact hi
 generalize hb:((X.env.blockKind==.function&&X.env.kindOf x==some .local&&Y.line==(Expr.ListComp elt [⟨z,iter,ifs,0⟩] scope p2).pos.line&&!(scope.names.any λ(n,k)=>n==x&&(k==.local||k==.cell))))=b
 have C:fQ (.ListComp elt [⟨z,iter,ifs,0⟩] scope p2) (some (.Name x Y)) pos.line X.env=pure b:=by rw[<-hb];rfl
 have imp:∀ D σ H,bj2 (TFv Γ m) (as7 i) D σ H->bj2 (tComp h wi g tc te) (as7 i) D σ H:=λ D σ H q=>h5 _ _ _ q
 cases b with
 | true =>
  have J:X.env.scope.names.lookup x=some .local:=by
   simp only[ak]at hb
   exact eq_of_beq hb.1.1.2
  exact(aR0 N' h nd y J h1 h2 G.calm h3 h4 C).imp imp
 | false=>exact(bn5 nd y l1 (aI7 N' h h1 h2 G.calm h3 h4) C l2).imp imp
theorem bt8 {X:Cx}{y:Ck}{e:nh}{v:Expr}{x:Str}{i:Nat}{C pos:Pos}(G:CG Γ F n X y)(hi:y.N[i]?=some x)(hl:y.loc x=true)(h:mE y e v=true) :
  PS X (.Assign [.Name x C] v pos) (TSv Γ (DV.ex F (.asg (.one i) e))):=by
 obtain⟨l1,Z⟩:=G.loc hl
 have nd:X.N.Nodup:=by rw[G.N];exact G.nd
 have z:X.N[i]?=some x:=by rw[G.N];exact hi
 by_cases hc:aB2 v=true
 ·exact(bn5 nd z l1 (sE e v X y G h).1 (az0 hc) Z).imp λ D σ H q=>aV4 (tg:=.one i) (TSv.eq (λ ρ s=>rfl) q)
 ·have hs:=aE6 h
  cases v with
  | ListComp elt gs sc p =>
   cases e with
   | mk k l =>
    obtain⟨J,Y⟩:=zg h
    have e:=of_decide_eq_true J
    subst e
    exact(bh2 G (bG2 (sL l _ X y G 0 Y)) hi hl).imp λ D σ H q=>be8 (tg:=.one i) (TSv.eq (λ ρ s=>rfl) q)
   | _=>exact ff h
  | SetComp _ _ _ _=>cases hs
  | DictComp _ _ _ _ _=>cases hs
  | _=>exact absurd rfl hc
mutual
theorem sS:∀(st:DV.S) (S:Stmt) (X:Cx) (y:Ck),CG Γ F n X y->mS y st S=true->PS X S (TSv Γ (DV.ex F st))
 | .asg tg e,S,X,y,G,h=>by
  cases S with
  | Assign ts v p =>
   cases ts with
   | cons t ts1 =>
    cases ts1 with
    | nil =>
     obtain⟨h,h3⟩:=zg h
     obtain⟨C,z⟩:=zg h
     cases tg with
     | one i =>
      have h:=C
      cases t with
      | Name x px =>
       obtain⟨a1,a2⟩:=zg h
       exact bt8 G (of_decide_eq_true a1) a2 z
      | _=>exact ff h
     | tup is =>
      obtain⟨a1,a2⟩:=zg h3
      have h:=C
      cases t with
      | Tuple te tk tp=>exact(bq6 (sE e _ X y G z).1 (bx4 G C) (show fQ v (some (.Tuple te tk tp)) p.line X.env=pure false from az0 a2) (aQ9 a1) rfl).imp λ D σ H q=>aV4 (TSv.eq (λ ρ s=>rfl) q)
      | _=>exact ff h
    | _=>exact ff h
   | _=>exact ff h
  | _=>exact ff h
 | .setIx o i e,S,X,y,G,h=>by
  cases S with
  | Assign ts v p2 =>
   cases ts with
   | cons tt ts1 =>
    cases tt with
    | Subscript ob ix p1 =>
     cases ts1 with
     | nil =>
      obtain⟨h,Y⟩:=zg h
      obtain⟨h,Z⟩:=zg h
      obtain⟨h,h3⟩:=zg h
      obtain⟨C,z⟩:=zg h
      have J:=aE6 z
      refine(bq6 (sE e _ X y G h3).1 (bK6 (sE o _ X y G C).1 (sE i _ X y G z).1 (bL7 (aG4 G.room)) ?_) (show fQ v (some (.Subscript ob ix p1)) p2.line X.env=pure false from az0 Z) (aT0 Y) ?_).imp λ D σ H q=>bk8 (TSv.eq (λ ρ s=>rfl) q)
      ·intro w
       cases ix<;>first|rfl|cases J
      ·rfl
     | _=>exact ff h
    | _=>exact ff h
   | _=>exact ff h
  | _=>exact ff h
 | .aug _ _,S,X,y,G,h=>ff h
 | .ex e,S,X,y,G,h=>by
  cases S with
  | Expr v p =>
   obtain⟨C,z⟩:=zg h
   exact(bA1 (sE e _ X y G C).1 (az0 z)).imp λ D σ H q=>br9 (TSv.eq (λ ρ s=>rfl) q)
  | _=>exact ff h
 | .ret e,S,X,y,G,h=>by
  cases S with
  | Return vo p =>
   cases vo with
   | some v =>
    exact(bo5 (sE e _ X y G h).1).imp λ D σ H q=>bM7 (TSv.eq (λ ρ s=>rfl) q)
   | _=>exact ff h
  | _=>exact ff h
 | .retN,S,X,y,G,h=>ff h
 | .ite c a b,S,X,y,G,h=>by
  cases S with
  | If t l r p =>
   obtain⟨h,h3⟩:=zg h
   obtain⟨C,z⟩:=zg h
   exact(bV6 (sE c _ X y G C).2 (sSs a _ X y G z) (sSs b _ X y G h3)).imp λ D σ H q=>bY6 (TSv.eq (λ ρ s=>rfl) q)
  | _=>exact ff h
 | .whl c b,S,X,y,G,h=>by
  cases S with
  | While t l o p =>
   cases o with
   | nil =>
    obtain⟨C,z⟩:=zg h
    exact(bg0 (by rw[G.xe];exact kM) (sE c _ X y G C).2 (sSs b _ X y G z)).imp λ D σ H q=>bl7 (TSv.eq (λ ρ s=>rfl) q)
   | _=>exact ff h
  | _=>exact ff h
 | .for_ tg it b,S,X,y,G,h=>by
  cases S with
  | For tgt iter l o p =>
   cases o with
   | nil =>
    obtain⟨h,h3⟩:=zg h
    obtain⟨C,z⟩:=zg h
    exact(bR2 (by rw[G.xe];exact kM) G.calm (sI it _ _ X y G z) (bx4 G C) (sSs b _ X y G h3) (aJ4 (bK1 z))).imp λ D σ H q=>bF1 (TSv.eq (λ ρ s=>rfl) q)
   | _=>exact ff h
  | _=>exact ff h
 | .pass,S,X,y,G,h=>ff h
 | .cont,S,X,y,G,h=>ff h
 | .brk,S,X,y,G,h=>ff h
 | .und _,S,X,y,G,h=>ff h
 | .raise,S,X,y,G,h=>be6.imp λ D σ H q=>by
  obtain⟨φ,ρ,s,c,s',E,R,hm,q⟩:=q
  cases hm
theorem sSs:∀(st:DV.Ss) (S:List Stmt) (X:Cx) (y:Ck),CG Γ F n X y->mSs y st S=true->PSs X S (TSv Γ (DV.exs F st))
 | .nil,S,X,y,G,h=>by
  cases S with
  | nil =>
   exact aT9.imp λ D σ H q=>bE1 (m:=DV.exs F .nil) (λ ρ s=>rfl) q
  | _=>exact ff h
 | .cons s ss,S,X,y,G,h=>by
  cases S with
  | cons x xs =>
   obtain⟨C,z⟩:=zg h
   exact(aM2 (sS s _ X y G C) (sSs ss _ X y G z)).imp λ D σ H q=>bQ1 (TSv.eq (λ ρ s=>rfl) q)
  | _=>exact ff h
end
end
section
variable {Γ:Gm}
theorem aH8 {φ φ1:Nat->Addr}{H y:Hp}{s s1:lU}(R:Rp Γ φ H s)(g:Gr φ s H φ1 s1 y)(ho:nZ s s1=true){i:Nat}{o:mM}(hi:i<s.length)(e:s1[i]?=some o):o.bnd s.length=true:=by
 unfold nZ at ho
 have:=bq.mp ho i (bN.mpr hi)
 rw[e,cx]at this
 rcases this with h|h
 ·exact R.wf i o (of_decide_eq_true h).symm
 ·exact h
theorem qt {s1:lU}{k i:Nat}{o:mM}(e:(s1.take k)[i]?=some o):i<k/\s1[i]?=some o:=by
 rw[jQ]at e
 split at e
 ·exact⟨‹_›,e⟩
 ·cases e
theorem aP8 {φ φ1:Nat->Addr}{H h:Hp}{s s1:lU}(R:Rp Γ φ H s)(g:Gr φ s H φ1 s1 h)(R1:Rp Γ φ1 h s1)(ho:nZ s s1=true):Gr φ s H φ1 (s1.take s.length) h/\Rp Γ φ1 h (s1.take s.length):=by
 have hl:(s1.take s.length).length=s.length:=by rw[bL];have:=g.le;omega
 refine⟨⟨g.w,by rw[hl];exact aj _,λ i G C=>by rw[hl]at C;omega,λ i o y e e'=>g.kd i o y e (qt e').2,g.st,g.fr⟩,λ i j o y e e' m m' z=>R1.inj i j o y (qt e).2 (qt e').2 m m' z,λ i o e=>R1.obj i o (qt e).2,λ i o e=>?_,R1.tab⟩
 rw[hl]
 exact aH8 R g ho (qt e).1 (qt e).2
theorem az2 {φ φ1:Nat->Addr}{H C:Hp}{s s1 s':lU}{v0 d:lV}{v:V}(R:Rp Γ φ H s)(g:Gr φ s H φ1 s1 C)(R1:Rp Γ φ1 C s1)(hb:v0.bnd s1.length=true)(r:RV Γ φ1 C v0 v)(h:DV.zH s v0 s1=.ok d s') :
  ∃ φ',Gr φ s H φ' s' C/\s.length<=s'.length/\d.bnd s'.length=true/\RV Γ φ' C d v/\Rp Γ φ' C s':=by
 have all:d=v0->s'=s1->∃ φ',Gr φ s H φ' s' C/\s.length<=s'.length/\d.bnd s'.length=true/\RV Γ φ' C d v/\Rp Γ φ' C s':=λ e1 e2=>by
  subst e1;subst e2
  exact⟨φ1,g,g.le,hb,r,R1⟩
 unfold DV.zH at h
 split at h
 case isFalse=>cases h;exact all rfl rfl
 rename_i ho
 obtain⟨gt,Rt⟩:=aP8 R g R1 ho
 have hl:(s1.take s.length).length=s.length:=by rw[bL];have:=g.le;omega
 have tk:d=v0->s'=s1.take s.length->v0.bnd s.length=true->∃ φ',Gr φ s H φ' s' C/\s.length<=s'.length/\d.bnd s'.length=true/\RV Γ φ' C d v/\Rp Γ φ' C s':=λ e1 e2 b=>by
  subst e1;subst e2
  exact⟨φ1,gt,by rw[hl];exact aj _,by rw[hl];exact b,r,Rt⟩
 split at h
 ·rename_i k
  split at h
  ·cases h
   exact tk rfl rfl (by unfold lZ;exact decide_eq_true ‹_›)
  ·rename_i hk
   split at h
   ·rename_i o J
    split at h
    ·rename_i G
     cases h
     have gw:Gw φ1 s.length C (λ i=>if i=s.length then φ1 k else φ1 i) C:=⟨λ i hi=>if_neg (ax hi),Kp.refl _⟩
     have key:∀(i:Nat) (z:mM),(s1.take s.length++[o])[i]?=some z->(i<s.length/\s1[i]?=some z)\/(i=s.length/\z=o):=λ i z e=>by
      rcases gz i s.length with h|h|h
      ·rw[aL (by rw[hl];exact h)]at e;exact .inl (qt e)
      ·subst h
       rw[aM (by rw[hl];exact aj _),hl,ki]at e
       exact .inr ⟨rfl,(aA e).symm⟩
      ·rw[bT (by rw[aw,hl];simp;omega)]at e;cases e
     have y:(s1.take s.length++[o]).length=s.length+1:=by rw[aw,hl];rfl
     refine⟨λ i=>if i=s.length then φ1 k else φ1 i,⟨⟨λ i hi=>?_,g.w.kp⟩,by rw[y];omega,λ i h1 h2=>?_,λ i oo z e e'=>?_,g.st,g.fr⟩,by rw[y];omega,by unfold lZ;rw[y];exact decide_eq_true (fe _),?_,⟨λ i j Z Y a2 a1 mi mj e=>?_,λ i z e=>?_,λ i z e=>?_,R1.tab⟩⟩
     ·show(if i=s.length then φ1 k else φ1 i)=φ i
      rw[if_neg (ax hi)];exact g.w.map i hi
     ·rw[y]at h2
      show H (if i=s.length then φ1 k else φ1 i)=none
      rw[if_pos (by omega)]
      exact g.new k (by omega) (ac.mp J).1
     ·rcases key i z e' with⟨_,e2⟩|⟨hi,_⟩
      ·exact g.kd i oo z e e2
      ·have:=(ac.mp e).1;omega
     ·rw[r.refE]
      unfold RV
      show V.ref (φ1 k)=V.ref (if s.length=s.length then φ1 k else φ1 s.length)
      rw[if_pos rfl]
     ·rcases key i Z a2 with⟨hi,ei⟩|⟨hi,zi⟩<;>rcases key j Y a1 with⟨hj,ej⟩|⟨hj,zj⟩
      ·rw[if_neg (ax hi),if_neg (ax hj)]at e
       exact R1.inj i j Z Y ei ej mi mj e
      ·rw[if_neg (ax hi),if_pos hj]at e
       subst zj
       have:=R1.inj i k Z _ ei J mi mj e
       omega
      ·rw[if_neg (ax hj),if_pos hi]at e
       subst zi
       have:=R1.inj k j _ Y J ej mi mj e
       omega
      ·rw[hi,hj]
     ·rcases key i z e with⟨hi,e⟩|⟨hi,rfl⟩
      ·show RO Γ _ _ (if i=s.length then φ1 k else φ1 i) z
       rw[if_neg (ax hi)]
       exact(R1.obj i z e).mono gw (aH8 R g ho hi e) λ _ u hu=>hu
      ·show RO Γ _ _ (if i=s.length then φ1 k else φ1 i) z
       rw[if_pos hi]
       exact(R1.obj k _ J).mono gw G λ _ u hu=>hu
     ·rw[y]
      rcases key i z e with⟨hi,e⟩|⟨_,rfl⟩
      ·exact zZ (dU _) _ (aH8 R g ho hi e)
      ·exact zZ (dU _) _ G
    ·cases h;exact all rfl rfl
   ·exact fb h
 ·split at h
  ·cases h;exact tk rfl rfl ‹_›
  ·cases h;exact all rfl rfl
structure LamGood (J:LamI)(L:nv):Prop where
 sc:LamScope (J.ps++J.fr) J.ps J.fr J.scope
 ps:J.ps.length=L.ps
 fr:J.fr.length=L.cs
 m:mE (ck0 (J.ps++J.fr) J.scope) L.body J.body=true
 bind:∀(clos:List (Str×Addr)) (doc pm:Value) (c':Addr) (ctv:Value) (us:List Value),us.length=J.ps.length->fi (eQ "<lambda>" J.qual J.params J.body J.scope clos pm (.ref c') ctv) ⟨us,[]⟩=pure (J.ps.zip us) /\
  ∀(nm:Str) (rp:Pos),fi (gv nm J.qual J.params [.Return (some J.body) rp] J.scope clos .none .none doc pm none (.ref c') ctv) ⟨us,[]⟩=pure (J.ps.zip us)
structure LkAt (Γ:Gm)(cds:List (Addr×Addr))(f:Str)(sc:Scope)(N:List Str)(fd:cy)(id:String)(caps:List Nat)(params:cD)(body:Expr)(scope:Scope)(c P:Addr)(J:LamI):Prop where
 code:fd.code=.ref c
 cd:(c,P)∈cds
 ck:lamCheck scope sc=true
 fre:∀ x,scope.names.lookup x=some .free->sc.names.lookup x=some .cell
 cel:∀ y∈sc.names,y.2=.cell->sc.names.lookup y.1=some .cell
 df:∀ env,defaultsOf params env=([],[])
 lg:Γ.lg id J
 q:J.qual=f ++ ".<locals>."++J.own
 p:J.params=params
 b:J.body=body
 s:J.scope=scope
 len:J.fr.length=caps.length
 at_:∀(i j:Nat) (x:Str),caps[i]?=some j->J.fr[i]?=some x->N[j]?=some x
 fr:∀ x∈J.fr,scope.names.lookup x=some .free
 tab:(P,J.qual)∈Γ.T
def bU0 (Γ:Gm)(cds:List (Addr×Addr))(f:Str)(sc:Scope)(N:List Str)(fd:cy)(lk:String->List Nat->Expr->Bool):Prop :=
 ∀ id caps E,lk id caps E=true->∃ c P params body scope pos J,E=lamText J params body scope pos/\LkAt Γ cds f sc N fd id caps params body scope c P J
def Good (Γ:Gm)(cds:List (Addr×Addr))(mg:Str->Option Value)(f:String)(d:nw):Prop:=∃ st N ps a fd lk,DefAt Γ.K mg (f:Str) st ps a fd/\FnScope N ps (defScope st)/\ps.length=d.ps/\N.length=d.ps+d.vs/\mSs ⟨N,defScope st,lk⟩ d.body (zI st)=true/\bU0 Γ cds (f:Str) (defScope st) N fd lk
structure PrOk (Γ:Gm)(cds:List (Addr×Addr))(P:mK)(mg:Str->Option Value):Prop where
 df:∀ f d,P.df f=some d->Good Γ cds mg f d
 con:∀ x d,P.con x=some d->∃ v u,mg (x:Str)=some u/\RelV v u/\(∀ m,d.bnd m=true)/\∀ φ H,RV Γ φ H d v
 bi:∀ x∈bNames,mg x=none
 fa:∀(f:String) (a:Addr),Γ.fa f=some a->mg (f:Str)=some (.ref a)/\∃ oc od fd sl,Γ.K.lookup a=some ⟨oc,od,.func fd,sl⟩
 lg:∀ id J,Γ.lg id J->∃ L,P.lm id=some L/\LamGood J L
 nd:(Γ.T.map (·.1)).Nodup
noncomputable def aP1 (Γ : Gm) (prog : Program) (w : World) (mg : Str -> Option Value) (base : Heap) (F : DV.Fns) (n : Nat) : Prop := (∀ f : String, (∀ l s, F.call f l s = .bad) \/
      ∃ a fd ps, FnOk prog w Γ.K mg base CX0 n a fd ps (spV Γ (F.call f)) /\ mg (f : Str) = some (.ref a) /\ cT Γ.K (.ref a) = true /\ Binds Γ.K fd ps []) /\
  ∀(id : String) (J : LamI) (f : Addr) (cap : List V) (clos : List (Str × Addr)), Γ.lg id J -> cap.length = J.fr.length -> ClOk prog w Γ.K mg base n (λ H => CloAt H f J cap clos) f (spL Γ (F.lam id) cap)
theorem bk9 {φ:Nat->Addr}{H:Hp}{n k:Nat}{N:List Str}{l:List lV}{vs:List V}(r:RVL Γ φ H l vs)(b:lW n l=true)(hN:N.length=l.length+k):RE Γ φ H n (l.map some++aG k none) (an3 N vs):=by
 have hl:=r.length
 refine⟨?_,λ i d e=>?_⟩
 ·unfold an3;simp[hl,hN]
 ·by_cases hi:i<l.length
  ·rw[aL (by simpa using hi),az]at e
   have e':l[i]?=some d:=by
    rw[ag hi]at e ⊢
    exact aA e
   obtain⟨v,e1,e2⟩:=r.get e'
   refine⟨ap3 b e',v,?_,e2⟩
   unfold an3
   rw[aL (by rw[aq,hl];exact hi),az,e1];rfl
  ·rw[aM (by simpa using kt hi)]at e
   rw[gR]at e
   split at e<;>cases e
theorem bF9 {a4:List (Addr×Addr)}{P:mK}{prog:aO}{w:World}{mg:Str->Option Value}{Y:Heap}(hP:PrOk Γ a4 P mg)(hb:∀ y∈a4,dk Y y.1 y.2/\BM mg Y)(n:Nat)(a2:aP1 Γ prog w mg Y (mq P n) (n+31))
  {f:String} {d:nw} (e:P.df f=some d) {st:Stmt} {N ps:List Str} {a:Addr} {fd:cy} {lk:String->List Nat->Expr->Bool} (hD:DefAt Γ.K mg (f:Str) st ps a fd) (hS:FnScope N ps (defScope st)) (h1:ps.length=d.ps) (h2:N.length=d.ps+d.vs) (hm:mSs ⟨N,defScope st,lk⟩ d.body (zI st)=true) (hL:bU0 Γ a4 (f:Str) (defScope st) N fd lk) :
  FnOk prog w Γ.K mg Y CX0 (n+1+31) a fd ps (spV Γ ((mq P (n+1)).call f)):=by
 have a1:∀ vs H Q E,spV Γ ((mq P (n+1)).call f) vs H Q E->vs.length=ps.length:=λ vs H Q E q=>by
  obtain⟨φ,s,l,d',s',R,r,b,hc,k⟩:=q
  simp only[mq,e]at hc
  split at hc
  ·rw[r.length,h1];assumption
  ·exact fb hc
 have body:∀(Z:Value),(∀ id C E,lk id C E=true->fd.code=Z)->∀(A:a0) (outer:List Env) (sh:ai) (H:Hp) (vs:List V) (Q:VK) (E:XK),Room (n+31) (A.deeper (gE (f:Str) (defScope st) sh.heap.objs.size a Z))->spV Γ ((mq P (n+1)).call f) vs H Q E ->
   ∃ t,PSs (bf2 CX0 prog w Γ.K mg Y N (f:Str) (defScope st) a Z A outer sh H E).nox (zI st) t/\t { nx:=λ _ H'=>Q .non H',rt:=Q } (an3 N vs) H:=by
  intro Z a5 A outer sh H vs Q E hr q
  have G:CG Γ (mq P n) (n+31) (bf2 CX0 prog w Γ.K mg Y N (f:Str) (defScope st) a Z A outer sh H E).nox ⟨N,defScope st,lk⟩:=by
   refine⟨rfl,rfl,hS.nd,rfl,rfl,?_,hr,λ x k e=>.inl e,λ _ _=>rfl,hP.bi,a2.1,?_,λ id C E' a3=>?_,a2.2,hP.fa,DV.ap2 P n⟩
   ·show mw+1<=n+31
    unfold mw;omega
   ·have:(mq P n).con=P.con:=by cases n<;>rfl
    rw[this];exact hP.con
   ·obtain⟨c,Pa,params,body,scope,pos,J,eE,L⟩:=hL id C E' a3
    obtain⟨a8,a6⟩:=hb _ L.cd
    refine⟨c,Pa,params,body,scope,pos,J,eE,⟨?_,a8,a6,L.ck,L.df _,L.lg,L.q,L.p,L.b,L.s,L.len,L.at_,L.fr,λ x hx=>?_,L.tab,hP.nd,λ _=>rfl,λ x c hx=>?_⟩⟩
    ·show Z=.ref c
     rw[<-a5 id C E' a3];exact L.code
    ·exact zV (L.fre x hx)
    ·rcases zw (aK hx)with z|z
     ·exact .inl (L.cel (x,.cell) z rfl)
     ·exact absurd z (by simp)
  refine⟨_,sSs d.body (zI st) _ ⟨N,defScope st,lk⟩ G hm,?_⟩
  obtain⟨φ,s,l,d',s',R,r,b,hc,k⟩:=q
  simp only[mq,e]at hc
  split at hc
  case isFalse=>exact fb hc
  rename_i a1
  obtain⟨c,s1,e1,hc⟩:=aa0 hc
  refine⟨φ,l.map some++aG d.vs none,s,c,s1,bk9 r b (by rw[h2,a1]),R,e1,λ φ1 H1 g1 l1 R1=>?_⟩
  cases c with
  | ret v0 =>
   intro v hb rv
   obtain⟨φ',g',l',b',r',R'⟩:=az2 R g1 R1 hb rv hc
   exact k v φ' H1 g' l' b' r' R'
  | next ρ =>
   intro σ' _
   obtain⟨φ',g',l',b',r',R'⟩:=az2 (v0:=.non) R g1 R1 rfl RV.nonI hc
   exact k .non φ' H1 g' l' b' r' R'
  | cont ρ=>exact fb hc
  | brk ρ=>exact fb hc
 by_cases hl:∃ id C E,lk id C E=true
 ·obtain⟨id,C,E,a3⟩:=hl
  obtain⟨c,Pa,params,a7,scope,pos,J,eE,L⟩:=hL id C E a3
  exact hD.fn.okC L.code hS a1 (body _ λ _ _ _ _=>L.code)
 ·exact hD.fn.ok hS a1 (λ Z=>body Z λ id C E h=>absurd ⟨id,C,E,h⟩ hl)
theorem bu5 {b0:List (Addr×Addr)}{P:mK}{prog:aO}{w:World}{mg:Str->Option Value}{Y:Heap}(hP:PrOk Γ b0 P mg)(n:Nat)(a1:aP1 Γ prog w mg Y (mq P n) (n+31))
  (id:String) (J:LamI) (f:Addr) (cap:List V) (C:List (Str×Addr)) (b2:Γ.lg id J) (a2:cap.length=J.fr.length) :
  ClOk prog w Γ.K mg Y (n+1+31) (λ H=>CloAt H f J cap C) f (spL Γ ((mq P (n+1)).lam id) cap):=by
 obtain⟨L,eL,LG⟩:=hP.lg id J b2
 have a4:∀ vs H Q E,spL Γ ((mq P (n+1)).lam id) cap vs H Q E->vs.length=J.ps.length:=λ vs H Q E q=>by
  obtain⟨φ,s,cs,l,d,s',R,r,rc,b,bc,hc,k⟩:=q
  simp only[mq,eL]at hc
  split at hc
  ·rename_i hh;rw[r.length,LG.ps];exact hh.1
  ·exact fb hc
 have main:∀(A:a0) (outer:List Env) (sh:ai) (H:Hp) (cd:Value) (vs:List V) (Q:VK),Room (n+31) (A.deeper (dw J.qual J.scope sh.heap.objs.size f cd (aW (sh.heap.objs.size+1) J.scope.names C)))->Cells C H->(∀ b o,Γ.K.lookup b=some o->H b=none)->spL Γ ((mq P (n+1)).lam id) cap vs H Q E0 ->
   ∃ t,PE (aH3 prog w Γ.K mg Y (J.ps++J.fr) J.qual J.scope f cd C A outer sh H) J.body t/\t (vs.map some++cap.map some) (ah4 C H) λ v H'=>(∀ b,isC C b=true->H' b=none)->Q v (Put C H H'):=by
  intro A outer sh H cd vs Q hr z hK q
  have G:CG Γ (mq P n) (n+31) (aH3 prog w Γ.K mg Y (J.ps++J.fr) J.qual J.scope f cd C A outer sh H) (ck0 (J.ps++J.fr) J.scope):=by
   refine⟨rfl,rfl,LG.sc.nd,rfl,rfl,?_,hr,λ x k e=>.inl e,λ x e=>?_,hP.bi,a1.1,?_,λ _ _ _ h=>(by cases h),a1.2,hP.fa,DV.ap2 P n⟩
   ·show mw+1<=n+31
    unfold mw;omega
   ·show(J.scope.names.lookup x==some .cell)=true
    rw[show J.scope.names.lookup x=some .cell from e];rfl
   ·have:(mq P n).con=P.con:=by cases n<;>rfl
    rw[this];exact hP.con
  refine⟨_,(sE L.body J.body _ (ck0 (J.ps++J.fr) J.scope) G LG.m).1,?_⟩
  obtain⟨φ,s,cs,l,d,s',R,r,rc,b,bc,hc,k⟩:=q
  simp only[mq,eL]at hc
  split at hc
  case isFalse=>exact fb hc
  rename_i hh
  obtain⟨h1,h2,h3⟩:=hh
  rw[ak,ak]at h3
  obtain⟨⟨a9,b3⟩,b4⟩:=h3
  obtain⟨v0,s1,e1,hc⟩:=aa0 hc
  have RD:Rp Γ φ (ah4 C H) s:=R.dropC z b4
  have a7:RVL Γ φ (ah4 C H) (l++cs) (vs++cap):=(RVL.dropC z l vs a9 r).append (RVL.dropC z cs cap b3 rc)
  refine⟨φ,l.map some++cs.map some,s,v0,s1,⟨by simp[r.length,rc.length],λ i x ei=>?_⟩,RD,e1,λ v φ1 H1 g1 l1 b1 r1 R1 a3=>?_⟩
  ·rw[<-et,az]at ei
   have a8:(l++cs)[i]?=some x:=by
    cases q:(l++cs)[i]? with
    | none=>rw[q]at ei;cases ei
    | some y=>rw[q]at ei;cases ei;rfl
   obtain⟨u,e3,e4⟩:=a7.get a8
   refine⟨ap3 (zv b bc) a8,u,?_,e4⟩
   rw[<-et,az,e3];rfl
  ·obtain⟨φ',g',l',b',r',R'⟩:=az2 RD g1 R1 b1 r1 hc
   have gp:=Gr.put z a3 hK R' g'
   obtain⟨gs,Rs⟩:=R'.same (bd9 (H:=H) a3)
   exact k v φ' _ gp l' b' (RV.mono gs d v b' r') Rs
 unfold CloAt
 cases q:J.nm with
 | none=>exact bv9 LG.sc a4 a2 (λ pm c' Z us a5=>(LG.bind C .none pm c' Z us a5).1) (λ A outer sh H cd vs Q hr hat hK q=>by
   obtain⟨pm,c',Z,_,_,z,_⟩:=hat
   exact main A outer sh H cd vs Q hr z hK q)
 | some p=>exact bB3 LG.sc a4 a2 (λ a6 pm c' Z us a5=>(LG.bind C a6 pm c' Z us a5).2 _ _) (λ A outer sh H cd vs Q hr hat hK q=>by
   obtain⟨a6,pm,c',Z,_,_,z,_⟩:=hat
   obtain⟨t,h1,h2⟩:=main A outer sh H cd vs Q hr z hK q
   exact⟨_,aM2 (bo5 h1) aT9,h2⟩)
theorem aY7 {C:List (Addr×Addr)}{P:mK}{prog:aO}{w:World}{mg:Str->Option Value}{h:Heap}(G:PrOk Γ C P mg)(hb:∀ y∈C,dk h y.1 y.2/\BM mg h):∀ n:Nat,aP1 Γ prog w mg h (mq P n) (n+31)
 | 0=>⟨λ f=>.inl λ l s=>rfl,λ id J f cap z _ _=>⟨λ A outer s H us vs Q _ _ _ _ q=>by
   obtain⟨φ,s,cs,l,d,s',R,r,rc,b,bc,hc,k⟩:=q
   cases hc⟩⟩
 | n+1=>by
  have ih:aP1 Γ prog w mg h (mq P n) (n+31):=aY7 G hb n
  refine⟨λ f=>?_,λ id J f cap z Y Z=>bu5 G n ih id J f cap z Y Z⟩
  cases e:P.df f with
  | none=>exact .inl λ l s=>by simp only[mq,e]
  | some d =>
   obtain⟨st,N,ps,a,fd,lk,hD,hS,Y,Z,hm,hL⟩:=G.df f d e
   exact .inr ⟨a,fd,ps,bF9 G hb n ih e hD hS Y Z hm hL,hD.mg,hD.fn.kp,hD.bi⟩
def spT (Γ:Gm):Sp:=λ vs H Q _=>∃(a:Addr) (ns:List Int),vs=[.ref a]/\SqF Γ.K H a (ns.map V.int)/\ns.length<=63/\TabsH Γ.T H/\∀ H',Q (.bl true) H'
theorem aL1 {φ:Nat->Addr}{H:Hp}:∀ ns:List Int,RVL Γ φ H (ns.map DV.D.int) (ns.map V.int)
 | []=>.nil
 | n::ns=>.cons RV.intI (aL1 ns)
theorem aB1 {m:Nat}:∀ ns:List Int,lW m (ns.map DV.D.int)=true
 | []=>rfl
 | n::ns=>by rw[aJ];unfold lW;rw[aB1 ns];rfl
theorem bF8 {P:mK}{k:Nat}(h:∀ ns:List Int,ns.length<=63->∃ s',(mq P k).call "law" [.ref 0] [.ro (ns.map DV.D.int)]=.ok (.bl true) s')(vs:List V)(H:Hp)(Q:VK)(E:XK)(q:spT Γ vs H Q E):spV Γ ((mq P k).call "law") vs H Q E:=by
 obtain⟨a,ns,rfl,y,hl,hT,z⟩:=q
 obtain⟨s',hs⟩:=h ns hl
 refine⟨λ _=>a,[.ro (ns.map DV.D.int)],[.ref 0],.bl true,s',⟨λ i j o C e e' m m' _=>?_,λ i o e=>?_,λ i o e=>?_,hT⟩,.cons RV.refI .nil,?_,hs,λ v φ' H' g l b r R=>?_⟩
 ·cases i with
  | zero=>cases e;cases m
  | succ i=>cases e
 ·cases i with
  | zero=>cases e;exact⟨_,y,aL1 ns⟩
  | succ i=>cases e
 ·cases i with
  | zero=>cases e;unfold l6;exact aB1 ns
  | succ i=>cases e
 ·unfold lW lZ lW;rfl
 ·rw[r.blE];exact z H'
theorem aO6 {y:List (Addr×Addr)}{z:Str->Option Value}:∀ {tbl:List (String×nw)},(∀ p∈tbl,Good Γ y z p.1 p.2)->∀ f d,tbl.lookup f=some d->Good Γ y z f d
 | [],_,f,d,h=>by cases h
 | (g,e)::tbl,H,f,d,h=>by
  rw[bw]at h
  cases q:f==g with
  | true =>
   rw[q]at h
   cases h
   rw[eq_of_beq q]
   exact H (g,_) (aN ..)
  | false =>
   rw[q]at h
   exact aO6 (λ p hp=>H p (aF _ hp)) f d h
def bl0 (Γ:Gm)(mg:Str->Option Value)(x:String)(d:lV):Prop:=∃ v u,mg (x:Str)=some u/\RelV v u/\(∀ m,d.bnd m=true)/\∀ φ H,RV Γ φ H d v
theorem aX0 {y:Str->Option Value}:∀ {tbl:List (String×lV)},(∀ p∈tbl,bl0 Γ y p.1 p.2)->∀ f d,tbl.lookup f=some d->bl0 Γ y f d
 | [],_,f,d,h=>by cases h
 | (g,e)::tbl,H,f,d,h=>by
  rw[bw]at h
  cases q:f==g with
  | true =>
   rw[q]at h
   cases h
   rw[eq_of_beq q]
   exact H (g,_) (aN ..)
  | false =>
   rw[q]at h
   exact aX0 (λ p hp=>H p (aF _ hp)) f d h
theorem bB1 {y:Str->Option Value}{x:String}{i:Int}{t:Tok}(h:y (x:Str)=some (.int i t)):bl0 Γ y x (.int i):=⟨.int i,_,h,⟨t,rfl⟩,λ _=>rfl,λ _ _=>RV.intI⟩
inductive ConV (Γ:Gm):lV->Value->Prop where
 | int (i:Int) (t:Tok):ConV Γ (.int i) (.int i t)
 | str (x:List Nat) (t:Tok) (h:x.length<=1000):ConV Γ (.str x) (.str ⟨x.toArray⟩ t)
inductive ConL (Γ:Gm):List lV->List Value->Prop where
 | nil:ConL Γ [] []
 | cons {d v l vs} (a:ConV Γ d v) (b:ConL Γ l vs):ConL Γ (d::l) (v::vs)
theorem bw1 {J:Str->Option Value}{x:String}{a:Addr}{o:Obj}{its:List Value}{n:Nat}{l:List lV}(h:J (x:Str)=some (.ref a))(hk:Γ.K.lookup a=some o)(hc:o.cls=.type "tuple")(hd:o.data=.seq its.toArray n)(hz:its.length<=1000)
  (hl:ConL Γ l its) (hi:mf l=false:=by rfl):bl0 Γ J x (.tup l):=by
 have key:∃ y,Vals y its/\(∀ m,lW m l=true)/\∀ φ H,RVL Γ φ H l y:=by
  clear hd hz hi
  induction hl with
  | nil=>exact⟨[],.nil,λ _=>rfl,λ _ _=>.nil⟩
  | cons a b ih =>
   obtain⟨y,G,C,h3⟩:=ih
   cases a with
   | int i t=>exact⟨.int i::y,.cons ⟨t,rfl⟩ G,λ m=>by unfold lW;rw[C];rfl,λ φ H=>.cons RV.intI (h3 φ H)⟩
   | str x t h=>exact⟨.str ⟨x.toArray⟩::y,.cons ⟨t,rfl⟩ G,λ m=>by unfold lW;rw[C];rfl,λ φ H=>.cons (RV.strI (by unfold l8;omega)) (h3 φ H)⟩
 obtain⟨y,G,C,h3⟩:=key
 refine⟨.ref a,_,h,rfl,λ m=>by unfold lZ;exact C m,λ φ H=>RV.tupC (.inr ⟨o,its.toArray,n,hk,hc,hd,?_,G⟩) (λ z=>by rw[hi]at z;cases z) (h3 φ H)⟩
 rw[ar];exact aM7 hz
end
theorem aQ0 {P:aO}{w:World}{K:ae}{mg mb:Str->Option Value}{k:Nat}{fa a:Addr}{fd:cy}{x:Str}{sp:Sp}{C:ai}{vs:List Value}{ns:List Int}{tabs:List (Addr×Addr)}
  (KX:K.In C.heap) (a8:C.heap.Ns cf mg) (hb:C.heap.Ns hG mb) (c2:∀ x:Str,x ≠ "__name__"->mb x=bA x) (a7:C.heap.NoLimit) (hg:C.gens=#[]) (c4:BM mg C.heap) (hT:kY tabs C.heap) (c1:kZ K=true)
  (ha:C.heap.get? a=some { cls:=.type "list",data:=.seq vs.toArray }) (hi:kP vs ns) (hl:ns.length<=aI) (hr:Room k jj)
  (F:∀ Y:Heap,K.In Y->Y.Ns cf mg->BM mg Y->(∀ q∈tabs,dk Y q.1 q.2)->FnOk P w K mg Y CX0 k fa fd [x] sp) (a4:∀(s:ai) (u:Value),kO s fd ⟨[u],[]⟩ [(x,u)])
  (d1:∀ H:Hp,(∀ q∈tabs,H q.2=some (.tbl #[]))->SqL K H a (ns.map V.int)->(∀ u,H a=some u->(∃ o xs,u=.frz o (.lst xs))\/∃ ps,u=.tbl ps)->sp [.ref a] H (λ v _=>v=.bl true) E0) :
  gi (model P w) jj (.call (.ref fa) ⟨[.ref a],[]⟩) (λ r s'=>r=.ok (.ret (.bool true))/\OldK C.heap s'.heap/\s'.os=C.os/\gh s'.gens) C:=by
 have rv:=aD6 hi
 have a9:=hi.length
 have G:∀ b,b∈tabs.map (·.2)->C.heap.get? b=some (je #[]):=λ b h=>by
  obtain⟨q,hq,rfl⟩:=aH.mp h
  exact(hT q hq).2
 have a2:∀ H:Hp,(∀ b u,H b=some u->(b=a/\∃ o xs,u=.frz o (.lst xs))\/(b∈tabs.map (·.2)/\u=.tbl #[]))->(∀ q∈tabs,H q.2=some (.tbl #[]))->SqL K H a (ns.map V.int)->HOk P w H C.heap->(H a≠none->K.lookup a=none) ->
   gi (model P w) jj (.call (.ref fa) ⟨[.ref a],[]⟩) (λ r s'=>r=.ok (.ret (.bool true))/\OldK C.heap s'.heap/\s'.os=C.os/\gh s'.gens) C:=by
  intro H hO b8 hS hok hK
  have un:∀ b o,C.heap.get? b=some o->o.cls≠.type "list"->(∀ vs,o.data≠.fields vs)->H b=none:=λ b o e n1 n2=>by
   cases q:H b with
   | none=>rfl
   | some u =>
    rcases hO b u q with⟨z,_⟩|⟨z,_⟩
    ·rw[z,ha]at e;cases e;exact absurd rfl n1
    ·rw[G b z]at e;cases e;exact absurd rfl (n2 #[])
  have Z:∀ {b:Addr} {m:Str->Option Value},C.heap.Ns b m->(be1 C.heap H).Ns b m:=λ {b m} ⟨o,es,ep,e,d,r⟩=>by
   refine⟨o,es,ep,ao7 e ?_,d,r⟩
   cases q:H b with
   | none=>rfl
   | some u =>
    rcases hO b u q with⟨z,_⟩|⟨z,_⟩
    ·rw[z,ha]at e;cases e;cases d
    ·rw[G b z]at e;cases e;cases d
  have b7:K.In (be1 C.heap H):=λ b o e=>ao7 (KX b o e) (by
   cases q:H b with
   | none=>rfl
   | some u =>
    rcases hO b u q with⟨z,_⟩|⟨z,_⟩
    ·subst z
     rw[hK (by rw[q];simp)]at e;cases e
    ·have e2:=KX b o e
     rw[G b z]at e2
     have h2:=bq.mp c1 (b,o) (PySem.W.mem_of_lookupK e)
     have e3:o=je #[]:=(aA e2).symm
     subst e3
     exact absurd (show false=true from h2) aS)
  have hM:Mod K mg (be1 C.heap H):=⟨b7,Z a8,⟨mb,Z hb,c2⟩,let⟨mc,h1,h2⟩:=a7;⟨mc,Z h1,h2⟩⟩
  have d2:BM mg (be1 C.heap H):=by
   obtain⟨bm,ob,b1,b2,b3,b4,b5,b6⟩:=c4
   exact⟨bm,ob,b1,b2,ao7 b3 (un bm ob b3 (by rw[b4];nofun) (by rw[b6];nofun)),b4,b5,b6⟩
  have d0:∀ q∈tabs,dk (be1 C.heap H) q.1 q.2:=λ q hq=>by
   obtain⟨o,c3,b0,tf,a6,tg,d3,text,tt,e1,r1,r2⟩:=(hT q hq).1
   refine⟨o,c3,b0,tf,a6,tg,d3,text,tt,ao7 e1 ?_,r1,r2⟩
   cases q2:H q.1 with
   | none=>rfl
   | some u =>
    rcases hO _ u q2 with⟨z,_⟩|⟨z,_⟩
    ·rw[z,ha]at e1;cases e1;exact absurd r1 (by simp)
    ·rw[G _ z]at e1;cases e1;exact absurd r1 (by simp)
  have e0:Env0 P w K mg (be1 C.heap H) jj [] C H:=⟨rfl,hM,λ b o e=>by4 e,Nat.le_of_eq (aV6 _ _),trivial,λ b hb=>absurd (show b∈([]:List Addr)from hb) (by simp),hok,.of_eq hg⟩
  refine j0 ((F _ b7 (Z a8) d2 d0).run jj [] C H ⟨[.ref a],[]⟩ [.ref a] [.ref a] _ _ hr e0 (a4 C (.ref a)) (.cons rfl .nil) (d1 H b8 hS (λ u e=>(hO a u e).elim (λ z=>.inl z.2) (λ z=>.inr ⟨_,z.2⟩)))) λ r s' h=>?_
  cases r with
  | error e=>exact cN h
  | ok fl =>
   cases fl with
   | next=>exact cN h
   | brk=>exact cN h
   | cont=>exact cN h
   | ret u =>
    obtain⟨v,H',os,bare,a5,a3,r',q⟩:=h
    have q':v=.bl true:=q
    subst q'
    obtain rfl:u=Value.bool true:=r'
    have key:∀ b o,C.heap.get? b=some o->asItWas C.heap s'.heap b o/\∃ o',s'.heap.get? b=some o':=λ b o e=>by
     cases q:H b with
     | none =>
      have z:=a5.keep b o e q (by intro z;exact absurd (show b∈([]:List Addr)from z) (by simp)) (by simp)
      exact⟨.inl z,o,z⟩
     | some u =>
      rcases hO b u q with⟨_,ob,xs,z⟩|⟨z,z2⟩
      ·subst z
       have z2:=a5.frzs b ob _ q
       obtain⟨e1,_⟩:=hok b _ q
       obtain⟨e2,_⟩:=a3 b _ z2
       rw[e]at e1;cases e1
       exact⟨.inl e2,_,e2⟩
      ·subst z2
       obtain⟨a1,z3⟩:=a5.tbls b _ q
       have g:s'.heap.get? b=some { cls:=.none,data:=.fields (#[]++a1) }:=a3 b _ z3
       have e1:=G b z
       rw[e]at e1;cases e1
       obtain⟨p,hp,ep⟩:=aH.mp z
       refine⟨.inr (.inl ⟨?_,rfl,#[],a1,rfl,g⟩),_,g⟩
       have t:=((hT p hp).1.tab (hT p hp).2).isCodeTable
       rw[ep]at t
       exact t
    exact⟨rfl,⟨λ b o e=>(key b o e).1,λ b o e=>(key b o e).2⟩,os,bare⟩
 have tbl:∀ b,b∈tabs.map (·.2)->b≠a:=λ b h z=>by
  have e:=G b h
  rw[z,ha]at e;cases e
 cases hk:K.lookup a with
 | some o =>
  have e:=KX a o hk
  rw[ha]at e
  cases e
  refine a2 (λ b=>if b∈tabs.map (·.2)then some (.tbl #[])else none) (λ b u z=>?_) (λ q hq=>if_pos (be hq)) (.inr ⟨_,vs.toArray,_,hk,rfl,rfl,rfl,by rw[ar,a9];exact hl,by simpa using rv⟩) (λ b u z=>?_) λ z=>?_
  ·by_cases hb:b∈tabs.map (·.2)
   ·have J:=(if_pos hb).symm.trans z
    cases J
    exact .inr ⟨hb,rfl⟩
   ·have J:=(if_neg hb).symm.trans z
    cases J
  ·by_cases hb:b∈tabs.map (·.2)
   ·have J:=(if_pos hb).symm.trans z
    cases J
    exact G b hb
   ·have J:=(if_neg hb).symm.trans z
    cases J
  ·exact absurd (if_neg λ y=>tbl a y rfl) z
 | none =>
  refine a2 (λ b=>if b=a then some (.frz { cls:=.type "list",data:=.seq vs.toArray } (.lst (ns.map V.int)))else if b∈tabs.map (·.2)then some (.tbl #[])else none) (λ b u z=>?_) (λ q hq=>?_) (.inl (.inr ⟨{ cls:=.type "list",data:=.seq vs.toArray },if_pos rfl⟩)) (λ b u z=>?_) λ _=>hk
  ·by_cases hb:b=a
   ·have J:=(if_pos hb).symm.trans z
    cases J
    exact .inl ⟨hb,_,_,rfl⟩
   ·have J:=(if_neg hb).symm.trans z
    by_cases hc:b∈tabs.map (·.2)
    ·rw[if_pos hc]at J;cases J;exact .inr ⟨hc,rfl⟩
    ·rw[if_neg hc]at J;cases J
  ·have hm:q.2∈tabs.map (·.2):=be hq
   show(if _ then _ else if _ then _ else _)=_
   rw[if_neg (tbl _ hm),if_pos hm]
  ·by_cases hb:b=a
   ·have J:=(if_pos hb).symm.trans z
    cases J
    subst hb
    exact⟨ha,by rw[aq];exact hl,vs,_,rv,ha⟩
   ·have J:=(if_neg hb).symm.trans z
    by_cases hc:b∈tabs.map (·.2)
    ·rw[if_pos hc]at J;cases J;exact G b hc
    ·rw[if_neg hc]at J;cases J
theorem aW4 {ts:List Addr}{l:dC}{n k:Nat}{q:aO}{loose:List Str}{XP:(Str->Option Value)->Heap->Prop}{YP:World->Heap->Prop}{d:DefRec}{K:Params->ae}{sp:ae->Sp}{x:Str}(names:List Str)
  (hn:l.most=some n) (a6:n<=aI) (a8:d.params.defaults=[]) (hr:Room k jj)
  (hY:∀(w:World) (h:Heap),YP w h->(K w.params).In h/\∀ P∈ts,h.get? P=some (je #[])) (a2:∀ w:World,bL2 (K w.params) names ts=true) (a4:∀ w:World,kZ (K w.params)=true)
  (F:∀(w:World) (Z:Str->Option Value) (fa:Addr) (h:Heap),(K w.params).In h->h.Ns cf Z->Z d.name=some (.ref fa) ->
   ∃ fd:cy,(∀(s:ai) (u:Value),kO s fd ⟨[u],[]⟩ [(x,u)]) /\
    ∀ C:Heap,(K w.params).In C->C.Ns cf Z->BM Z C->bs6 (K w.params) names C->FnOk l.prog w (K w.params) Z C CX0 k fa fd [x] (sp (K w.params)))
  (a7:∀(K:ae) (H:Hp) (a:Addr) (ns:List Int),ns.length<=n->bz9 K names H->SqL K H a (ns.map V.int)->(∀ u,H a=some u->(∃ o xs,u=.frz o (.lst xs))\/∃ ps,u=.tbl ps)->sp K [.ref a] H (λ v _=>v=.bl true) E0) :
  lc q loose XP YP l.row.toRowW d [] (λ f vs=>kQ f vs):=by
 refine Att.attach_call hn a8 λ w s₀ s₁ Z mb fa o pm cd b1 a vs ns G Y ho hd b0 a9 a3 a1 J hg=>?_
 obtain⟨KX,a5⟩:=hY w _ Y
 obtain⟨fd,hb,hF⟩:=F w Z fa _ KX G.T.g a9
 have hT:kY ((aF3 (K w.params) names).map (·.2)) s₁.heap:=λ p hp=>by
  obtain⟨y,hy,rfl⟩:=aH.mp hp
  obtain⟨h1,h2⟩:=av0.mp hy
  have z:=bq.mp (a2 w) y.1 h1
  rw[h2]at z
  have z':(ku (K w.params) y.2.1 y.2.2&&ts.contains y.2.2)=true:=z
  rw[ak]at z'
  exact⟨PySem.W.codeHd_of_K KX z'.1,a5 _ (by simpa using z'.2)⟩
 have hm:∀ x∈names,∀ c P,bD (K w.params) x=some (c,P)->(c,P)∈(aF3 (K w.params) names).map (·.2):=λ x hx c P e=>aH.mpr ⟨(x,c,P),av0.mpr ⟨hx,e⟩,rfl⟩
 refine aQ0 (tabs:=(aF3 (K w.params) names).map (·.2)) KX G.T.g G.T.b G.T.builtins G.T.nolimit hg ?_ hT (a4 w) a3 a1 (ao J a6) hr (λ C k1 k2 k3 k4=>hF C k1 k2 k3 λ x hx c P e=>k4 _ (hm x hx c P e)) hb λ H hO hS hF=>a7 (K w.params) H a ns J (λ x hx c P e=>hO _ (hm x hx c P e)) hS hF
 obtain⟨bm,ob,h1,h2,h3,h4,h5,h6⟩:=G.T.bmain
 exact⟨bm,ob,h1,h2,h3,h4,h5,h6⟩
def spB (names:List Str)(K:ae):Sp:=λ vs H Q _=>∃(a:Addr) (ns:List Int),vs=[.ref a]/\SqF K H a (ns.map V.int)/\ns.length<=63/\bz9 K names H/\∀ H',Q (.bl true) H'
theorem bK0 {names:List Str}{K:ae}{H:Hp}{a:Addr}{ns:List Int}(hl:ns.length<=63)(hB:bz9 K names H)(y:SqL K H a (ns.map V.int))(C:∀ u,H a=some u->(∃ o G,u=.frz o (.lst G))\/∃ ps,u=.tbl ps):spB names K [.ref a] H (λ v _=>v=.bl true) E0:=by
 refine⟨a,ns,rfl,⟨y,λ H' k=>?_⟩,hl,hB,λ _=>rfl⟩
 rcases y with(h|⟨o,h⟩)|h
 ·rcases C _ h with⟨_,_,z⟩|⟨_,z⟩<;>cases z
 ·exact .inl (.inr ⟨o,k _ _ h rfl⟩)
 ·exact .inr h
def ce9 (P:mK):String->LamI->Prop:=λ id J=>∃ L,P.lm id=some L/\LamGood J L
noncomputable def sfx (x:Str):Str:=if x = "letter_table" then "least_fee" else "<lambda>"
noncomputable def bA6 (names:List Str)(K:ae):List (Addr×Str):=names.map λ x=>(((bD K x).getD (0,0)).2,x ++ ".<locals>."++sfx x)
noncomputable def bE6 (names:List Str)(K:ae):List (Addr×Addr):=names.map λ x=>(bD K x).getD (0,0)
noncomputable def bV9 (K:ae)(f:String):Option Addr:=match eX K cf (f:Str)with
 | some (some (.ref a))=>(match K.lookup a with
  | some ⟨_,_,.func _,_⟩=>some a
  | _=>none)
 | _=>none
theorem aN4 {K:ae}{f:String}{a:Addr}(h:bV9 K f=some a):eX K cf (f:Str)=some (some (.ref a))/\∃ oc od y sl,K.lookup a=some ⟨oc,od,.func y,sl⟩:=by
 unfold bV9 at h
 split at h
 ·rename_i z e
  split at h
  ·rename_i oc od y sl e2
   cases h
   exact⟨e,_,_,_,_,e2⟩
  ·cases h
 ·cases h
noncomputable abbrev bi8 (names:List Str)(P:mK)(K:ae):Gm:=⟨K,bV9 K,ce9 P,bA6 names K⟩
theorem cb2 {names:List Str}{P:mK}{K:ae}{h:Heap}{y:Str->Option Value}(X:K.In h)(G:h.Ns cf y):∀(f:String) (a:Addr),(bi8 names P K).fa f=some a->y (f:Str)=some (.ref a)/\∃ oc od z sl,(bi8 names P K).K.lookup a=some ⟨oc,od,.func z,sl⟩:=λ f a e=>⟨dH X G (aN4 e).1,(aN4 e).2⟩
theorem bk5 {names:List Str}{P:mK}{K:ae}(z:∀ x∈names,(bD K x).isSome=true){vs:List V}{H:Hp}{Q:VK}{E:XK}(q:spB names K vs H Q E):spT (bi8 names P K) vs H Q E:=by
 obtain⟨a,ns,e,h,hl,hB,y⟩:=q
 refine⟨a,ns,e,h,hl,TabsH.init λ p hp=>?_,y⟩
 simp only[bA6,cO]at hp
 obtain⟨x,hx,rfl⟩:=aH.mp hp
 exact hB x hx _ _ (ax1 (z x hx))
theorem br1 {names:List Str}{K:ae}{z:Str->Option Value}{h:Heap}(C:∀ x∈names,(bD K x).isSome=true)(bm:BM z h)(hc:bs6 K names h):∀ y∈bE6 names K,dk h y.1 y.2/\BM z h:=λ y hy=>by
 obtain⟨x,hx,rfl⟩:=aH.mp hy
 exact⟨hc x hx _ _ (ax1 (C x hx)),bm⟩
noncomputable def az1:cD->Option (List Str)
 | ⟨[],args,none,[],[],none,[]⟩=>some (args.map (·.arg))
 | _=>none
theorem aG5 {p:cD}{ps:List Str}(h:az1 p=some ps):∃ args,p=⟨[],args,none,[],[],none,[]⟩/\args.map (·.arg)=ps:=by
 unfold az1 at h
 split at h
 ·exact⟨_,rfl,aA h⟩
 ·cases h
def bg6 (ps:List Str):Prop:=∀ params,az1 params=some ps->∀(qual:Str) (body:Expr) (scope:Scope) (clos:List (Str×Addr)) (doc pm:Value) (c':Addr) (ctv:Value) (us:List Value),us.length=ps.length->fi (eQ "<lambda>" qual params body scope clos pm (.ref c') ctv) ⟨us,[]⟩=pure (ps.zip us) /\
 ∀(nm:Str) (rp:Pos),fi (gv nm qual params [.Return (some body) rp] scope clos .none .none doc pm none (.ref c') ctv) ⟨us,[]⟩=pure (ps.zip us)
noncomputable def aX6 (ps fr:List Str)(sc:Scope):Bool:=decide (sc.kind=.function)&&!sc.isCoroutine&&!sc.isGenerator&&decide ((ps++fr).Nodup)&&(ps.all λ x=>decide (sc.names.lookup x=some .local)||decide (sc.names.lookup x=some .cell))&&(fr.all λ x=>decide (sc.names.lookup x=some .free))&&(sc.names.all λ y=>!decide (y.2=.cell)||decide (sc.names.lookup y.1=some .cell))
theorem aU1 {ps fr:List Str}{sc:Scope}(h:aX6 ps fr sc=true):LamScope (ps++fr) ps fr sc:=by
 unfold aX6 at h
 simp only[ak,decide_eq_true_eq,eW,bq,cx]at h
 obtain⟨⟨⟨⟨⟨⟨Z,Y⟩,h3⟩,C⟩,J⟩,G⟩,h7⟩:=h
 exact⟨Z,Y,h3,C,rfl,J,G,λ y hy e=>by
  rcases h7 y hy with z|z
  ·rw[e]at z;simp at z
  ·exact z⟩
noncomputable def bP9 (scope sc:Scope):Bool:=scope.names.all λ y=>!decide (scope.names.lookup y.1=some .free)||decide (sc.names.lookup y.1=some .cell)
theorem bi6 {scope sc:Scope}(h:bP9 scope sc=true):∀ x,scope.names.lookup x=some .free->sc.names.lookup x=some .cell:=λ x hx=>by
 have:=bq.mp h (x,.free) (aK hx)
 simp only[cx,eW,decide_eq_false_iff_not,decide_eq_true_eq]at this
 rcases this with z|z
 ·exact absurd hx z
 ·exact z
noncomputable def lkB (sc:Scope)(N:List Str)(caps:List Nat)(params:cD)(body:Expr)(scope:Scope)(t:nv×List Str×List Str):Bool :=
 decide (az1 params=some t.2.1)&&decide (caps.map (λ j=>N[j]?)=t.2.2.map some)&&lamCheck scope sc&&bP9 scope sc&&aX6 t.2.1 t.2.2 scope&&decide (t.2.1.length=t.1.ps)&&decide (t.2.2.length=t.1.cs)&&mE (ck0 (t.2.1++t.2.2) scope) t.1.body body
noncomputable def lkG (f:Str)(sc:Scope)(N:List Str)(tab:List (String×nv×List Str×List Str))(id:String)(caps:List Nat)(E:Expr):Bool:=match tab.lookup id,E with
 | some t,.Lambda params body scope _=>decide (sfx f = "<lambda>")&&lkB sc N caps params body scope t
 | some t,.NamedExpr (.Name nm _) (.Lambda params body scope p1) p2=>decide (sfx f=nm)&&decide (p1=p2)&&lkB sc N caps params body scope t
 | _,_=>false
theorem bx2 {names:List Str}{P:mK}{K:ae}{f:Str}{sc:Scope}{N:List Str}{fd:cy}{tab:List (String×nv×List Str×List Str)}(hf:f∈names)(G:fd.code=.ref ((bD K f).getD (0,0)).1)(a1:∀ y∈sc.names,y.2=.cell->sc.names.lookup y.1=some .cell)
  (Y:∀ id t,tab.lookup id=some t->P.lm id=some t.1/\bg6 t.2.1):bU0 (bi8 names P K) (bE6 names K) f sc N fd (lkG f sc N tab):=by
 intro id z E h
 have C:∀(t:nv×List Str×List Str) (params:cD) (body:Expr) (scope:Scope) (Z:Option (Str×Pos)),tab.lookup id=some t->lkB sc N z params body scope t=true->(match Z with|none => "<lambda>" | some p=>p.1)=sfx f ->
   LkAt (bi8 names P K) (bE6 names K) f sc N fd id z params body scope ((bD K f).getD (0,0)).1 ((bD K f).getD (0,0)).2 ⟨f ++ ".<locals>."++sfx f,params,body,scope,t.2.1,t.2.2,Z⟩:=λ t params body scope Z e h hs=>by
  obtain⟨L,ps,fr⟩:=t
  unfold lkB at h
  simp only[ak,decide_eq_true_eq]at h
  obtain⟨⟨⟨⟨⟨⟨⟨h1,h2⟩,h3⟩,h4⟩,h5⟩,h6⟩,h7⟩,h8⟩:=h
  obtain⟨hL,hB⟩:=Y id _ e
  obtain⟨args,rfl,a3⟩:=aG5 h1
  have J:fr.length=z.length:=by have:=congrArg iZ h2;simpa using this.symm
  have S:=aU1 h5
  refine⟨G,aH.mpr ⟨f,hf,rfl⟩,h3,bi6 h4,a1,λ env=>rfl,⟨L,hL,⟨S,h6,h7,h8,λ a4 a5 pm c' a6 us a2=>hB _ h1 _ _ _ _ _ _ _ _ _ a2⟩⟩,?_,rfl,rfl,rfl,J,λ i j x e1 e2=>?_,S.frs,aH.mpr ⟨f,hf,rfl⟩⟩
  ·show f ++ ".<locals>."++sfx f=f ++ ".<locals>."++LamI.own _
   unfold LamI.own
   rw[<-hs]<;>rfl
  ·have e3:(z.map (λ j=>N[j]?))[i]?=some (N[j]?):=by rw[az,e1];rfl
   rw[h2,az,e2]at e3
   exact(aA e3).symm
 unfold lkG at h
 split at h
 case h_3=>cases h
 ·rename_i t params body scope pos e
  rw[ak]at h
  exact⟨_,_,params,body,scope,pos,_,rfl,C t params body scope none e h.2 (of_decide_eq_true h.1).symm⟩
 ·rename_i t Z rp params body scope p1 p2 e
  rw[ak,ak]at h
  have ep:=of_decide_eq_true h.1.2
  subst ep
  exact⟨_,_,params,body,scope,p1,_,rfl,C t params body scope (some (Z,rp)) e h.2 (of_decide_eq_true h.1.1).symm⟩
theorem aU3 {names:List Str}{P:mK}{K:ae}{f:Str}{sc:Scope}{N:List Str}{y:cy}:bU0 (bi8 names P K) (bE6 names K) f sc N y (λ _ _ _=>false):=λ _ _ _ h=>by cases h
theorem bY7 {names:List Str}{P:mK}{K:ae}:∀ id J,(bi8 names P K).lg id J->∃ L,P.lm id=some L/\LamGood J L:=λ _ _ h=>h
theorem bX5 {P:mK}{tab:List (String×nv×List Str×List Str)}(h:∀ p∈tab,P.lm p.1=some p.2.1/\bg6 p.2.2.1):∀ id t,tab.lookup id=some t->P.lm id=some t.1/\bg6 t.2.1:=by
 induction tab with
 | nil=>intro id t e;cases e
 | cons y l ih =>
  intro id t e
  rw[bw]at e
  cases q:id==y.1 with
  | true =>
   rw[q]at e
   cases e
   rw[eq_of_beq q]
   exact h y (aN ..)
  | false =>
   rw[q]at e
   exact ih (λ p hp=>h p (aF _ hp)) id t e
def cb4 (K:ae)(n:Str)(st:Stmt):Prop:=∃(f:Addr) (od an:Option Addr) (sl:Array (Option Value)) (oc kV dc pm cd ct:Value),eX K cf n=some (some (.ref f)) /\
 K.lookup f=some ⟨oc,od,.func (dv n n (defArgs st) (zI st) (defScope st) .none kV dc pm an cd ct),sl⟩/\fV K cd n=true/\cT K (.ref f)=true
def cc4 (n:Str)(st:Stmt)(ps:List Str):Prop:=∀(kV doc pm:Value) (an:Option Addr) (cdv ct:Value) (us:List Value),us.length=ps.length->fi (dv n n (defArgs st) (zI st) (defScope st) .none kV doc pm an cdv ct) ⟨us,[]⟩=pure (ps.zip us)
theorem bd0 {Q:List Value->Prop}(h:Q [])(us:List Value)(hl:us.length=0):Q us:=by
 cases us with
 | nil=>exact h
 | cons _ _=>cases hl
theorem bdS {k:Nat}{Q:List Value->Prop}(h:∀ a us,us.length=k->Q (a::us))(us:List Value)(hl:us.length=k+1):Q us:=by
 cases us with
 | nil=>cases hl
 | cons a us=>exact h a us (Nat.succ.inj hl)
theorem bd1 {Q:List Value->Prop}(h:∀ a,Q [a]):∀ us:List Value,us.length=1->Q us:=bdS λ a=>bd0 (h a)
theorem bd2 {Q:List Value->Prop}(h:∀ a b,Q [a,b]):∀ us:List Value,us.length=2->Q us:=bdS λ a=>bd1 (h a)
theorem bd3 {Q:List Value->Prop}(h:∀ a b c,Q [a,b,c]):∀ us:List Value,us.length=3->Q us:=bdS λ a=>bd2 (h a)
theorem bd4 {Q:List Value->Prop}(h:∀ a b c d,Q [a,b,c,d]):∀ us:List Value,us.length=4->Q us:=bdS λ a=>bd3 (h a)
theorem bd5 {Q:List Value->Prop}(h:∀ a b c d e,Q [a,b,c,d,e]):∀ us:List Value,us.length=5->Q us:=bdS λ a=>bd4 (h a)
def DT (names:List Str)(P:mK)(n:String)(d:nw)(st:Stmt):Prop:=∃ N ps,FnScope N ps (defScope st)/\ps.length=d.ps/\N.length=d.ps+d.vs/\cc4 n st ps/\(mSs ⟨N,defScope st,λ _ _ _=>false⟩ d.body (zI st)=true \/
 ((n:Str)∈names/\∃ tab,mSs ⟨N,defScope st,lkG n (defScope st) N tab⟩ d.body (zI st)=true/\(∀ y∈(defScope st).names,y.2=.cell->(defScope st).names.lookup y.1=some .cell)/\∀ p∈tab,P.lm p.1=some p.2.1/\bg6 p.2.2.1))
theorem good_of {names:List Str}{P:mK}{K:ae}{h:Heap}{z:Str->Option Value}{n:String}{d:nw}{st:Stmt}(X:K.In h)(G:h.Ns cf z)(hT:∀ x∈names,(bD K x).isSome=true)(hD:cb4 K n st)(hd:DT names P n d st):Good (bi8 names P K) (bE6 names K) z n d:=by
 obtain⟨f,od,an,sl,oc,kV,dc,pm,cd,ct,a,l,c,k⟩:=hD
 obtain⟨N,ps,C,J,h3,Y,y⟩:=hd
 have F:=bp8 (st:=st) l c k
 have D:DefAt K z n st ps f _:=⟨F,dH X G a,F.binds Y⟩
 rcases y with y|⟨hn,tab,y,Z,h7⟩
 ·exact⟨_,_,_,_,_,_,D,C,J,h3,y,aU3⟩
 ·exact⟨_,_,_,_,_,_,D,C,J,h3,y,bx2 hn (PySem.W.law_code X G (ax1 (hT _ hn)) (dH X G a) (X _ _ l) rfl) Z (bX5 h7)⟩
end L2
end
noncomputable section
namespace DV
noncomputable def aA7:Df:=⟨"_law_bag",2,3,(.cons (.asg (.one 2) (.cst (.int 0))) (.cons (.ite (.cmp .lt (.var 1) (.bi .len (.cons (.var 0) .nil))) (.cons (.asg (.one 2) (.bi .abs (.cons (.ix (.var 0) (.var 1)) .nil))) .nil) .nil) (.cons (.asg (.one 3) (.bin .add (.bin .mul (.cst (.int 7919)) (.var 1)) (.cst (.int 17)))) (.cons (.for_ (.one 4) (.rng1 (.bi .min2 (.cons (.bi .len (.cons (.var 0) .nil)) (.cons (.cst (.int 60)) .nil)))) (.cons (.asg (.one 3) (.bin .mod (.bin .add (.bin .add (.bin .mul (.var 3) (.cst (.int 48271))) (.bin .mod (.ix (.var 0) (.var 4)) (.cst (.int 2147483647)))) (.var 4)) (.cst (.int 2147483629)))) .nil)) (.cons (.ite (.cmp .lt (.var 2) (.bin .pow (.cst (.int 10)) (.cst (.int 18)))) (.cons (.asg (.one 2) (.cst (.int 0))) .nil) .nil) (.cons (.ret (.lst (.cons (.var 2) (.cons (.var 3) .nil)))) .nil))))))⟩
noncomputable def ai1:Df:=⟨"_law_take",2,3,(.cons (.ite (.cmp .gt (.ix (.var 0) (.cst (.int 0))) (.cst (.int 0))) (.cons (.asg (.one 2) (.bin .mod (.ix (.var 0) (.cst (.int 0))) (.var 1))) (.cons (.setIx (.var 0) (.cst (.int 0)) (.bin .fdiv (.ix (.var 0) (.cst (.int 0))) (.var 1))) (.cons (.ret (.var 2)) .nil))) .nil) (.cons (.asg (.one 3) (.cst (.int 0))) (.cons (.asg (.one 4) (.cst (.int 1))) (.cons (.whl (.cmp .lt (.var 4) (.var 1)) (.cons (.setIx (.var 0) (.cst (.int 1)) (.bin .mod (.bin .add (.bin .mul (.ix (.var 0) (.cst (.int 1))) (.cst (.int 48271))) (.cst (.int 7919))) (.cst (.int 2147483647)))) (.cons (.asg (.one 3) (.bin .add (.bin .mul (.var 3) (.cst (.int 1073741789))) (.bin .mod (.bin .mul (.bin .fdiv (.ix (.var 0) (.cst (.int 1))) (.cst (.int 8))) (.cst (.int 69621))) (.cst (.int 1073741789))))) (.cons (.asg (.one 4) (.bin .mul (.var 4) (.cst (.int 1073741789)))) .nil)))) (.cons (.ret (.bin .mod (.var 3) (.var 1))) .nil)))))⟩
noncomputable def aj5:Df:=⟨"_law_rooms",2,1,(.cons (.asg (.one 2) (.call "_law_take" (.ex (.var 0) (.ex (.bin .shl (.cst (.int 1)) (.var 1)) .nil)))) (.cons (.ret (.mk .tuple (.compIf (.one 0) (.rng1 (.var 1)) (.cmp .eq (.bin .mod (.bin .fdiv (.var 1) (.bin .shl (.cst (.int 1)) (.var 0))) (.cst (.int 2))) (.cst (.int 1))) (.var 0) [none,some 2]))) .nil))⟩
noncomputable def ad7:Df:=⟨"letters_of",1,0,(.cons (.ret (.slU (.glob "LETTERS") (.ix (.var 0) (.cst (.int 0))))) .nil)⟩
noncomputable def ao2:Df:=⟨"_law_word",3,2,(.cons (.asg (.one 3) (.cst (.str []))) (.cons (.for_ (.one 4) (.rng1 (.call "_law_take" (.ex (.var 0) (.ex (.bin .add (.var 2) (.cst (.int 1))) .nil)))) (.cons (.asg (.one 3) (.bin .add (.var 3) (.ix (.cst (.str [97,98,99])) (.call "_law_take" (.ex (.var 0) (.ex (.var 1) .nil)))))) .nil)) (.cons (.ret (.var 3)) .nil)))⟩
noncomputable def ag6:Df:=⟨"rooms_of",1,0,(.cons (.ret (.ix (.var 0) (.cst (.int 1)))) .nil)⟩
noncomputable def ag0:Df:=⟨"begins_of",1,0,(.cons (.ret (.ix (.var 0) (.cst (.int 2)))) .nil)⟩
noncomputable def ah1:Df:=⟨"ends_of",1,0,(.cons (.ret (.ix (.var 0) (.cst (.int 3)))) .nil)⟩
noncomputable def ag5:Df:=⟨"doors_of",1,0,(.cons (.ret (.ix (.var 0) (.cst (.int 4)))) .nil)⟩
noncomputable def ag8:Df:=⟨"_law_whole",3,0,(.cons (.ret (.and (.bi .isInt (.cons (.var 0) .nil)) (.and (.not (.bi .isBool (.cons (.var 0) .nil))) (.chain .le .le (.var 1) (.var 0) (.var 2))))) .nil)⟩
noncomputable def ag1:Df:=⟨"check_pair",2,0,(.cons (.ite (.cmp .ne (.call "letters_of" (.ex (.var 0) .nil)) (.call "letters_of" (.ex (.var 1) .nil))) (.cons .raise .nil) .nil) .nil)⟩
noncomputable def af5:Df:=⟨"check_rooms",1,0,(.cons (.ite (.cmp .gt (.var 0) (.glob "MOST_ROOMS")) (.cons .raise .nil) .nil) .nil)⟩
noncomputable def ai0:Df:=⟨"brought",5,6,(.cons (.asg (.one 5) .dicT) (.cons (.for_ (.tup [6,7,8,9]) (.seq (.var 4)) (.cons (.asg (.one 10) (.tup (.cons (.var 6) (.cons (.var 7) (.cons (.var 8) .nil))))) (.cons (.setIx (.var 5) (.var 10) (.bi .min2 (.cons (.var 9) (.cons (.get2 (.var 5) (.var 10) (.var 9)) .nil)))) .nil))) (.cons (.ret (.tup (.cons (.bi .len (.cons (.call "letters_of" (.ex (.var 0) .nil)) .nil)) (.cons (.var 1) (.cons (.var 2) (.cons (.var 3) (.cons (.mk .tuple (.itm (.var 5))) .nil))))))) .nil)))⟩
noncomputable def ak4:Df:=⟨"_law_sized",4,5,(.cons (.asg (.one 4) (.call "_law_take" (.ex (.var 0) (.ex (.cst (.int 13)) .nil)))) (.cons (.ite (.cmp .eq (.call "_law_take" (.ex (.var 0) (.ex (.cst (.int 8)) .nil))) (.cst (.int 7))) (.cons (.asg (.one 4) (.call "_law_take" (.ex (.var 0) (.ex (.cst (.int 76)) .nil)))) .nil) .nil) (.cons (.asg (.one 5) (.lst .nil)) (.cons (.for_ (.one 6) (.rng1 (.var 4)) (.cons (.asg (.one 7) (.call "_law_take" (.ex (.var 0) (.ex (.var 2) .nil)))) (.cons (.asg (.one 8) (.ix (.cst (.str [97,98,99])) (.call "_law_take" (.ex (.var 0) (.ex (.var 1) .nil))))) (.cons (.ex (.meth .append (.var 5) (.cons (.tup (.cons (.var 7) (.cons (.var 8) (.cons (.call "_law_take" (.ex (.var 0) (.ex (.var 2) .nil))) (.cons (.call "_law_take" (.ex (.var 0) (.ex (.bin .add (.var 3) (.cst (.int 1))) .nil))) .nil))))) .nil))) .nil)))) (.cons (.ret (.tup (.cons (.var 1) (.cons (.var 2) (.cons (.call "_law_rooms" (.ex (.var 0) (.ex (.var 2) .nil))) (.cons (.call "_law_rooms" (.ex (.var 0) (.ex (.var 2) .nil))) (.cons (.mk .tuple (.seq (.var 5))) .nil))))))) .nil)))))⟩
noncomputable def ai4:Df:=⟨"_law_words",2,6,(.cons (.asg (.one 2) (.lst (.cons (.cst (.str [])) .nil))) (.cons (.asg (.one 3) (.lst (.cons (.cst (.str [])) .nil))) (.cons (.for_ (.one 4) (.rng1 (.cst (.int 3))) (.cons (.asg (.one 5) (.lst .nil)) (.cons (.for_ (.one 6) (.seq (.var 3)) (.cons (.ex (.ext (.var 5) (.comp (.one 0) (.seq (.slU (.cst (.str [97,98,99])) (.var 1))) (.bin .add (.var 1) (.var 0)) [none,some 6]))) .nil)) (.cons (.ex (.extS (.var 2) (.var 5))) (.cons (.asg (.one 3) (.var 5)) .nil))))) (.cons (.for_ (.one 7) (.seq (.lst (.cons (.cst (.int 12)) (.cons (.cst (.int 12)) (.cons (.cst (.int 200)) .nil))))) (.cons (.ex (.meth .append (.var 2) (.cons (.call "_law_word" (.ex (.var 0) (.ex (.var 1) (.ex (.var 7) .nil)))) .nil))) .nil)) (.cons (.ret (.var 2)) .nil)))))⟩
noncomputable def ah9:Df:=⟨"_law_price",2,7,(.cons (.asg (.one 2) (.mk .list (.comp (.one 0) (.rng1 (.ix (.var 0) (.cst (.int 1)))) (.ix (.lst (.cons (.cst .non) (.cons (.cst (.int 0)) .nil))) (.bi .int (.cons (.cmp .isin (.var 0) (.ix (.var 1) (.cst (.int 2)))) .nil))) [none,some 0]))) (.cons (.for_ (.one 3) (.seq (.var 1)) (.cons (.asg (.one 4) (.mk .list (.comp (.one 0) (.seq (.var 2)) (.cst .non) [none]))) (.cons (.for_ (.tup [5,6,7,8]) (.seq (.ix (.var 0) (.cst (.int 4)))) (.cons (.ite (.and (.cmp .eq (.var 6) (.var 3)) (.notN (.ix (.var 2) (.var 5)))) (.cons (.ite (.or (.isN (.ix (.var 4) (.var 7))) (.cmp .lt (.bin .add (.ix (.var 2) (.var 5)) (.var 8)) (.ix (.var 4) (.var 7)))) (.cons (.setIx (.var 4) (.var 7) (.bin .add (.ix (.var 2) (.var 5)) (.var 8))) .nil) .nil) .nil) .nil) .nil)) (.cons (.asg (.one 2) (.var 4)) .nil)))) (.cons (.ret (.mkD .min (.compIf (.one 0) (.seq (.ix (.var 0) (.cst (.int 3)))) (.notN (.ix (.var 1) (.var 0))) (.ix (.var 1) (.var 0)) [none,some 2]) (.cst .non))) .nil)))⟩
noncomputable def ag3:Df:=⟨"_law_are_rooms",2,2,(.cons (.ite (.not (.bi .isTup (.cons (.var 0) .nil))) (.cons (.ret (.cst (.bl false))) .nil) .nil) (.cons (.asg (.one 2) (.neg (.cst (.int 1)))) (.cons (.for_ (.one 3) (.seq (.var 0)) (.cons (.ite (.not (.call "_law_whole" (.ex (.var 3) (.ex (.bin .add (.var 2) (.cst (.int 1))) (.ex (.bin .sub (.var 1) (.cst (.int 1))) .nil))))) (.cons (.ret (.cst (.bl false))) .nil) .nil) (.cons (.asg (.one 2) (.var 3)) .nil))) (.cons (.ret (.cst (.bl true))) .nil))))⟩
noncomputable def ag4:Df:=⟨"_law_is_door",3,0,(.cons (.ite (.or (.not (.bi .isTup (.cons (.var 0) .nil))) (.or (.cmp .ne (.bi .len (.cons (.var 0) .nil)) (.cst (.int 4))) (.or (.not (.bi .isStr (.cons (.ix (.var 0) (.cst (.int 1))) .nil))) (.cmp .ne (.bi .len (.cons (.ix (.var 0) (.cst (.int 1))) .nil)) (.cst (.int 1)))))) (.cons (.ret (.cst (.bl false))) .nil) .nil) (.cons (.ite (.or (.not (.call "_law_whole" (.ex (.ix (.var 0) (.cst (.int 0))) (.ex (.cst (.int 0)) (.ex (.bin .sub (.var 2) (.cst (.int 1))) .nil))))) (.not (.call "_law_whole" (.ex (.ix (.var 0) (.cst (.int 2))) (.ex (.cst (.int 0)) (.ex (.bin .sub (.var 2) (.cst (.int 1))) .nil)))))) (.cons (.ret (.cst (.bl false))) .nil) .nil) (.cons (.ret (.and (.cmp .isin (.ix (.var 0) (.cst (.int 1))) (.slU (.cst (.str [97,98,99])) (.var 1))) (.call "_law_whole" (.ex (.ix (.var 0) (.cst (.int 3))) (.ex (.cst (.int 0)) (.ex (.cst (.int 3)) .nil)))))) .nil)))⟩
noncomputable def ad5:Df:=⟨"_law_is_machine",2,0,(.cons (.ite (.or (.not (.bi .isTup (.cons (.var 0) .nil))) (.or (.cmp .ne (.bi .len (.cons (.var 0) .nil)) (.cst (.int 5))) (.not (.call "_law_whole" (.ex (.ix (.var 0) (.cst (.int 0))) (.ex (.var 1) (.ex (.var 1) .nil))))))) (.cons (.ret (.cst (.bl false))) .nil) .nil) (.cons (.ite (.or (.not (.call "_law_whole" (.ex (.ix (.var 0) (.cst (.int 1))) (.ex (.cst (.int 1)) (.ex (.cst (.int 5)) .nil))))) (.or (.not (.bi .isTup (.cons (.ix (.var 0) (.cst (.int 4))) .nil))) (.cmp .gt (.bi .len (.cons (.ix (.var 0) (.cst (.int 4))) .nil)) (.cst (.int 75))))) (.cons (.ret (.cst (.bl false))) .nil) .nil) (.cons (.ite (.or (.not (.call "_law_are_rooms" (.ex (.ix (.var 0) (.cst (.int 2))) (.ex (.ix (.var 0) (.cst (.int 1))) .nil)))) (.not (.call "_law_are_rooms" (.ex (.ix (.var 0) (.cst (.int 3))) (.ex (.ix (.var 0) (.cst (.int 1))) .nil))))) (.cons (.ret (.cst (.bl false))) .nil) .nil) (.cons (.ret (.mk .all (.comp (.one 0) (.seq (.ix (.var 0) (.cst (.int 4)))) (.call "_law_is_door" (.ex (.var 0) (.ex (.var 1) (.ex (.ix (.var 2) (.cst (.int 1))) .nil)))) [none,some 1,some 0]))) .nil))))⟩
noncomputable def aj9:Df:=⟨"moved",2,0,(.cons (.ret (.mk .tuple (.comp (.one 0) (.seq (.var 0)) (.bin .add (.var 0) (.var 1)) [none,some 1]))) .nil)⟩
noncomputable def ae1:Df:=⟨"doors_beside",2,2,(.cons (.asg (.one 2) (.call "rooms_of" (.ex (.var 0) .nil))) (.cons (.asg (.one 3) (.mk .list (.comp (.tup [0,1,2,3]) (.seq (.call "doors_of" (.ex (.var 1) .nil))) (.tup (.cons (.bin .add (.var 0) (.var 4)) (.cons (.var 1) (.cons (.bin .add (.var 2) (.var 4)) (.cons (.var 3) .nil))))) [none,none,none,none,some 2]))) (.cons (.ret (.bin .add (.mk .list (.seq (.call "doors_of" (.ex (.var 0) .nil)))) (.var 3))) .nil)))⟩
noncomputable def ai6:Df:=⟨"behind",2,3,(.cons (.ex (.call "check_pair" (.ex (.var 0) (.ex (.var 1) .nil)))) (.cons (.asg (.one 2) (.call "rooms_of" (.ex (.var 0) .nil))) (.cons (.ex (.call "check_rooms" (.ex (.bin .add (.var 2) (.call "rooms_of" (.ex (.var 1) .nil))) .nil))) (.cons (.asg (.one 3) (.call "moved" (.ex (.call "ends_of" (.ex (.var 1) .nil)) (.ex (.var 2) .nil)))) (.cons (.ite (.call "lets_the_empty_word_by" (.ex (.var 1) .nil)) (.cons (.asg (.one 3) (.bin .add (.call "ends_of" (.ex (.var 0) .nil)) (.var 3))) .nil) .nil) (.cons (.asg (.one 4) (.bin .add (.call "doors_beside" (.ex (.var 0) (.ex (.var 1) .nil))) (.call "doors_across" (.ex (.var 0) (.ex (.var 1) .nil))))) (.cons (.ret (.call "brought" (.ex (.var 0) (.ex (.bin .add (.var 2) (.call "rooms_of" (.ex (.var 1) .nil))) (.ex (.call "begins_of" (.ex (.var 0) .nil)) (.ex (.var 3) (.ex (.var 4) .nil))))))) .nil)))))))⟩
noncomputable def aa4:Df:=⟨"lets_the_empty_word_by",1,0,(.cons (.ret (.mk .any (.comp (.one 0) (.seq (.call "begins_of" (.ex (.var 0) .nil))) (.cmp .isin (.var 0) (.call "ends_of" (.ex (.var 1) .nil))) [none,some 0]))) .nil)⟩
noncomputable def ae0:Df:=⟨"doors_across",2,6,(.cons (.asg (.one 2) (.call "rooms_of" (.ex (.var 0) .nil))) (.cons (.asg (.one 3) (.lst .nil)) (.cons (.for_ (.tup [4,5,6,7]) (.seq (.call "doors_of" (.ex (.var 1) .nil))) (.cons (.ite (.cmp .isin (.var 4) (.call "begins_of" (.ex (.var 1) .nil))) (.cons (.ex (.ext (.var 3) (.comp (.one 0) (.seq (.call "ends_of" (.ex (.var 0) .nil))) (.tup (.cons (.var 0) (.cons (.var 1) (.cons (.bin .add (.var 2) (.var 3)) (.cons (.var 4) .nil))))) [none,some 5,some 6,some 2,some 7]))) .nil) .nil) .nil)) (.cons (.ret (.var 3)) .nil))))⟩
noncomputable def ad6:Df:=⟨"_law_beginnings",2,8,(.cons (.asg (.one 2) (.mk .list (.comp (.one 0) (.rng1 (.ix (.var 0) (.cst (.int 1)))) (.ix (.lst (.cons (.cst .non) (.cons (.cst (.int 0)) .nil))) (.bi .int (.cons (.cmp .isin (.var 0) (.ix (.var 1) (.cst (.int 2)))) .nil))) [none,some 0]))) (.cons (.asg (.one 3) (.lst (.cons (.mkD .min (.compIf (.one 0) (.seq (.ix (.var 0) (.cst (.int 3)))) (.notN (.ix (.var 1) (.var 0))) (.ix (.var 1) (.var 0)) [none,some 2]) (.cst .non)) .nil))) (.cons (.for_ (.one 4) (.seq (.var 1)) (.cons (.asg (.one 5) (.mk .list (.comp (.one 0) (.seq (.var 2)) (.cst .non) [none]))) (.cons (.for_ (.tup [6,7,8,9]) (.seq (.ix (.var 0) (.cst (.int 4)))) (.cons (.ite (.and (.cmp .eq (.var 7) (.var 4)) (.notN (.ix (.var 2) (.var 6)))) (.cons (.ite (.or (.isN (.ix (.var 5) (.var 8))) (.cmp .lt (.bin .add (.ix (.var 2) (.var 6)) (.var 9)) (.ix (.var 5) (.var 8)))) (.cons (.setIx (.var 5) (.var 8) (.bin .add (.ix (.var 2) (.var 6)) (.var 9))) .nil) .nil) .nil) .nil) .nil)) (.cons (.asg (.one 2) (.var 5)) (.cons (.ex (.meth .append (.var 3) (.cons (.mkD .min (.compIf (.one 0) (.seq (.ix (.var 0) (.cst (.int 3)))) (.notN (.ix (.var 1) (.var 0))) (.ix (.var 1) (.var 0)) [none,some 2]) (.cst .non)) .nil))) .nil))))) (.cons (.ret (.var 3)) .nil))))⟩
noncomputable def ai9:Df:=⟨"_law_rests",2,8,(.cons (.asg (.one 2) (.mk .list (.comp (.one 0) (.rng1 (.ix (.var 0) (.cst (.int 1)))) (.ix (.lst (.cons (.cst .non) (.cons (.cst (.int 0)) .nil))) (.bi .int (.cons (.cmp .isin (.var 0) (.ix (.var 1) (.cst (.int 3)))) .nil))) [none,some 0]))) (.cons (.asg (.one 3) (.lst (.cons (.mkD .min (.compIf (.one 0) (.seq (.ix (.var 0) (.cst (.int 2)))) (.notN (.ix (.var 1) (.var 0))) (.ix (.var 1) (.var 0)) [none,some 2]) (.cst .non)) .nil))) (.cons (.for_ (.one 4) (.seq (.rev (.var 1))) (.cons (.asg (.one 5) (.mk .list (.comp (.one 0) (.seq (.var 2)) (.cst .non) [none]))) (.cons (.for_ (.tup [6,7,8,9]) (.seq (.ix (.var 0) (.cst (.int 4)))) (.cons (.ite (.and (.cmp .eq (.var 7) (.var 4)) (.notN (.ix (.var 2) (.var 8)))) (.cons (.ite (.or (.isN (.ix (.var 5) (.var 6))) (.cmp .lt (.bin .add (.ix (.var 2) (.var 8)) (.var 9)) (.ix (.var 5) (.var 6)))) (.cons (.setIx (.var 5) (.var 6) (.bin .add (.ix (.var 2) (.var 8)) (.var 9))) .nil) .nil) .nil) .nil) .nil)) (.cons (.asg (.one 2) (.var 5)) (.cons (.ex (.meth .append (.var 3) (.cons (.mkD .min (.compIf (.one 0) (.seq (.ix (.var 0) (.cst (.int 2)))) (.notN (.ix (.var 1) (.var 0))) (.ix (.var 1) (.var 0)) [none,some 2]) (.cst .non)) .nil))) .nil))))) (.cons (.ret (.rev (.var 3))) .nil))))⟩
noncomputable def ai7:Df:=⟨"_law_due",3,3,(.cons (.asg (.one 3) (.lst .nil)) (.cons (.for_ (.tup [4,5]) (.zip (.seq (.call "_law_beginnings" (.ex (.var 0) (.ex (.var 2) .nil)))) (.seq (.call "_law_rests" (.ex (.var 1) (.ex (.var 2) .nil))))) (.cons (.ite (.and (.notN (.var 4)) (.notN (.var 5))) (.cons (.ex (.meth .append (.var 3) (.cons (.bin .add (.var 4) (.var 5)) .nil))) .nil) .nil) .nil)) (.cons (.ret (.mkDs .min (.var 3) (.cst .non))) .nil)))⟩
noncomputable def ai3:Df:=⟨"_law_right",4,0,(.cons (.ite (.not (.call "_law_is_machine" (.ex (.var 0) (.ex (.ix (.var 1) (.cst (.int 0))) .nil)))) (.cons (.ret (.cst (.bl false))) .nil) .nil) (.cons (.ret (.mk .all (.comp (.one 0) (.seq (.var 3)) (.cmp .eq (.call "_law_price" (.ex (.var 1) (.ex (.var 0) .nil))) (.call "_law_due" (.ex (.var 2) (.ex (.var 3) (.ex (.var 0) .nil))))) [none,some 0,some 1,some 2]))) .nil))⟩
noncomputable def ah6:Df:=⟨"law",1,6,(.cons (.asg (.one 1) (.call "_law_bag" (.ex (.var 0) (.ex (.cst (.int 0)) .nil)))) (.cons (.asg (.one 2) (.bin .add (.cst (.int 1)) (.call "_law_take" (.ex (.var 1) (.ex (.cst (.int 3)) .nil))))) (.cons (.asg (.one 3) (.bin .add (.cst (.int 1)) (.call "_law_take" (.ex (.var 1) (.ex (.cst (.int 4)) .nil))))) (.cons (.asg (.one 4) (.call "_law_sized" (.ex (.var 1) (.ex (.var 2) (.ex (.var 3) (.ex (.cst (.int 3)) .nil)))))) (.cons (.asg (.one 1) (.call "_law_bag" (.ex (.var 0) (.ex (.cst (.int 1)) .nil)))) (.cons (.asg (.one 5) (.call "_law_sized" (.ex (.var 1) (.ex (.var 2) (.ex (.bin .add (.cst (.int 1)) (.call "_law_take" (.ex (.var 1) (.ex (.bin .sub (.cst (.int 5)) (.var 3)) .nil)))) (.ex (.cst (.int 3)) .nil)))))) (.cons (.asg (.one 6) (.call "_law_words" (.ex (.call "_law_bag" (.ex (.var 0) (.ex (.cst (.int 2)) .nil))) (.ex (.var 2) .nil)))) (.cons (.ite (.not (.call "_law_right" (.ex (.call "behind" (.ex (.var 4) (.ex (.var 5) .nil))) (.ex (.var 4) (.ex (.var 5) (.ex (.var 6) .nil)))))) (.cons (.ret (.cst (.bl false))) .nil) .nil) (.cons (.ite (.and (.cmp .lt (.var 3) (.cst (.int 3))) (.not (.call "_law_right" (.ex (.call "behind" (.ex (.var 4) (.ex (.var 4) .nil))) (.ex (.var 4) (.ex (.var 4) (.ex (.slL (.var 6) (.neg (.cst (.int 3)))) .nil))))))) (.cons (.ret (.cst (.bl false))) .nil) .nil) (.cons (.ret (.call "_law_right" (.ex (.call "behind" (.ex (.var 5) (.ex (.var 4) .nil))) (.ex (.var 5) (.ex (.var 4) (.ex (.slL (.var 6) (.neg (.cst (.int 3)))) .nil)))))) .nil))))))))))⟩
noncomputable def ce4:Df:=⟨"_law_on",3,5,(.cons (.asg (.one 3) (.mk .list (.comp (.one 0) (.seq (.var 2)) (.cst .non) [none]))) (.cons (.for_ (.tup [4,5,6,7]) (.seq (.ix (.var 0) (.cst (.int 4)))) (.cons (.ite (.and (.cmp .eq (.var 5) (.var 1)) (.notN (.ix (.var 2) (.var 4)))) (.cons (.ite (.or (.isN (.ix (.var 3) (.var 6))) (.cmp .lt (.bin .add (.ix (.var 2) (.var 4)) (.var 7)) (.ix (.var 3) (.var 6)))) (.cons (.setIx (.var 3) (.var 6) (.bin .add (.ix (.var 2) (.var 4)) (.var 7))) .nil) .nil) .nil) .nil) .nil)) (.cons (.ret (.var 3)) .nil)))⟩
class Has (P:Pr)(d:Df):Prop where
 eq:P.df d.name=some d
class HasC (P:Pr)(x:String)(v:D):Prop where
 eq:P.con x=some v
noncomputable def fin (s:Sto)(c:Ct)(s':Sto):R D:=match c with
 | .ret v=>zH s v s'
 | .next _=>zH s .non s'
 | _=>.bad
@[simp] theorem ab9 (s:Sto) (v:D) (s':Sto):fin s (.ret v) s'=zH s v s':=rfl
@[simp] theorem ab0 (s:Sto) (ρ:Env) (s':Sto):fin s (.next ρ) s'=zH s .non s':=rfl
theorem zb {P:Pr}(d:Df)[h:Has P d]{n:Nat}{l:List D}{s:Sto}(hl:l.length=d.ps) :
  (aa1 P (n+1)).call d.name l s=(exs (aa1 P n) d.body (l.map some++aG d.vs none) s).bind (fin s):=by
 simp only[aa1,h.eq,hl,if_true]
 rfl
theorem aW9 {P:Pr}{x:String}{v:D}[h:HasC P x v]{n:Nat}:(aa1 P n).con x=some v:=by
 cases n<;>exact h.eq
theorem ar8 (s t:Sto):ay4 s (s++t)=true:=by
 unfold ay4
 rw[bq]
 intro i hi
 rw[bN]at hi
 rw[aL hi]
 simp
theorem aA2 (s t:Sto)(r:Nat)(o:O)(h:o.bnd s.length=true):ay4 s (s.set r o++t)=true:=by
 unfold ay4
 rw[bq]
 intro i hi
 rw[bN]at hi
 rw[aL (by rw[bz];exact hi)]
 by_cases e:r=i
 ·subst e;rw[bn hi];simp[h]
 ·rw[aY e];simp
theorem qF {s t:Sto}{d:D}(h:∀ n,d.bnd n=true)(hr:∀ r,d≠.ref r):zH s d (s++t)=.ok d s:=by
 unfold zH
 rw[ar8,if_pos rfl]
 cases d with
 | ref r=>exact absurd rfl (hr r)
 | _=>simp[h]
theorem zp {s:Sto}{d:D}(h:∀ n,d.bnd n=true)(hr:∀ r,d≠.ref r):zH s d s=.ok d s:=by
 have:=qF (s:=s) (t:=[]) h hr
 rwa [bK]at this
theorem aA3 {s t:Sto}{d:D}{r:Nat}{o:O}(h:∀ n,d.bnd n=true)(hr:∀ r,d≠.ref r)(ho:o.bnd s.length=true):zH s d (s.set r o++t)=.ok d (s.set r o):=by
 unfold zH
 rw[aA2 s t r o ho,if_pos rfl]
 have e:(s.set r o++t).take s.length=s.set r o:=by rw[dt (by simp),dA (by simp)]
 cases d with
 | ref r=>exact absurd rfl (hr r)
 | _=>simp only[h,if_true,e]
theorem qH {s:Sto}{d:D}{r:Nat}{o:O}(h:∀ n,d.bnd n=true)(hr:∀ r,d≠.ref r)(ho:o.bnd s.length=true):zH s d (s.set r o)=.ok d (s.set r o):=by
 have:=aA3 (s:=s) (t:=[]) (r:=r) h hr ho
 rwa [bK]at this
theorem ap7 {s t u:Sto}{o:O}(ho:o.bnd s.length=true):zH s (.ref (s.length+t.length)) (s++(t++o::u))=.ok (.ref s.length) (s++[o]):=by
 unfold zH
 rw[ar8,if_pos rfl]
 simp[ho,aM]
@[simp] theorem bS6 {s:Sto} {i:Int}:zH s (.int i) s=.ok (.int i) s:=zp (λ _=>rfl) (by nofun)
@[simp] theorem ay0 {s:Sto} {i:Bool}:zH s (.bl i) s=.ok (.bl i) s:=zp (λ _=>rfl) (by nofun)
@[simp] theorem aD3 {s:Sto}:zH s .non s=.ok .non s:=zp (λ _=>rfl) (by nofun)
@[simp] theorem bO2 {s:Sto} {x:List Nat}:zH s (.str x) s=.ok (.str x) s:=zp (λ _=>rfl) (by nofun)
theorem qA {c:Env->Sto->R D}{g:Env->Sto->R Ct}:∀ {n:Nat} {ρ:Env} {s:Sto},qW c g n ρ s≠.bad->qW c g (n+1) ρ s=qW c g n ρ s
 | 0,_,_,h=>absurd rfl h
 | n+1,ρ,s,h=>by
  rw[show qW c g (n+1+1) ρ s=tru (c ρ s) (λ b s=>if b then(g ρ s).bind λ y s=>match y with
   | .next ρ=>qW c g (n+1) ρ s|.cont ρ=>qW c g (n+1) ρ s|.brk ρ=>.ok (.next ρ) s|.ret d=>.ok (.ret d) s else .ok (.next ρ) s)from rfl]
  have e:qW c g (n+1) ρ s=tru (c ρ s) (λ b s=>if b then(g ρ s).bind λ y s=>match y with
   | .next ρ=>qW c g n ρ s|.cont ρ=>qW c g n ρ s|.brk ρ=>.ok (.next ρ) s|.ret d=>.ok (.ret d) s else .ok (.next ρ) s):=rfl
  rw[e]at h ⊢
  unfold tru at h ⊢
  cases hc:c ρ s with
  | exc _ _=>rfl
  | bad=>rfl
  | ok d s1 =>
   rw[hc]at h
   cases d with
   | bl b =>
    cases b with
    | false=>rfl
    | true =>
     simp only[R.bind_ok,if_true]at h ⊢
     cases hg:g ρ s1 with
     | exc _ _=>rfl
     | bad=>rfl
     | ok y s2 =>
      rw[hg]at h
      simp only[R.bind_ok]at h ⊢
      cases y with
      | next ρ'=>exact qA h
      | cont ρ'=>exact qA h
      | _=>rfl
   | _=>rfl
theorem qi {c:Env->Sto->R D}{g:Env->Sto->R Ct}{n:Nat}{ρ:Env}{s:Sto}(h:qW c g n ρ s≠.bad):∀ k,qW c g (n+k) ρ s=qW c g n ρ s
 | 0=>rfl
 | k+1=>by
  have e:=qi h k
  rw[<-Nat.add_assoc,qA (by rw[e];exact h),e]
theorem bJ9 {c:Env->Sto->R D}{g:Env->Sto->R Ct}{n:Nat}{ρ:Env}{s:Sto}{r:Ct}{t:Sto}(h:qW c g n ρ s=.ok r t):whl c g ρ s=.ok r t:=by
 have hb:qW c g n ρ s≠.bad:=by rw[h];nofun
 have hx:∃ n,qW c g n ρ s≠.bad:=⟨n,hb⟩
 unfold whl
 rw[dif_pos hx]
 have z:=qi hx.choose_spec n
 have y:=qi hb hx.choose
 rw[<-z,ig,y,h]
theorem bh3 {c:Env->Sto->R D}{g:Env->Sto->R Ct}{ρ ρ':Env}{s s1 s':Sto}(hc:c ρ s=.ok (.bl true) s1)(hg:g ρ s1=.ok (.next ρ') s'):whl c g ρ s=whl c g ρ' s':=by
 have key:∀ n,qW c g (n+1) ρ s=qW c g n ρ' s':=λ n=>by
  show tru (c ρ s) _=_
  rw[hc,ad0,if_pos rfl,hg];rfl
 unfold whl
 by_cases hx:∃ n,qW c g n ρ' s'≠.bad
 ·have hy:∃ n,qW c g n ρ s≠.bad:=⟨hx.choose+1,by rw[key];exact hx.choose_spec⟩
  rw[dif_pos hx,dif_pos hy]
  have y:=qi hy.choose_spec (hx.choose+1)
  have h:=qi (n:=hx.choose+1) (ρ:=ρ) (s:=s) (by rw[key];exact hx.choose_spec) hy.choose
  rw[<-y,ig,h,key]
 ·have hy:¬ ∃ n,qW c g n ρ s≠.bad:=λ⟨n,hn⟩=>by
   cases n with
   | zero=>exact hn rfl
   | succ n=>exact hx ⟨n,by rw[<-key];exact hn⟩
  rw[dif_neg hx,dif_neg hy]
theorem by2 {c:Env->Sto->R D}{g:Env->Sto->R Ct}{ρ:Env}{s s1:Sto}(hc:c ρ s=.ok (.bl false) s1):whl c g ρ s=.ok (.next ρ) s1 :=
 bJ9 (n:=1) (by show tru (c ρ s) _=_;rw[hc,ad0];rfl)
theorem aY1 {ok:Sto->Bool}{g:D->Env->Sto->R Ct}(P:Nat->Env->Sto->Prop):∀(l:List D) (k:Nat) (ρ:Env) (s:Sto),
  P k ρ s->(∀(j:Nat) (ρ:Env) (s:Sto),j<=l.length->P (k+j) ρ s->ok s=true)->(∀(j:Nat) (d:D) (ρ:Env) (s:Sto),l[j]?=some d->P (k+j) ρ s->∃ ρ' s',(g d ρ s=.ok (.next ρ') s'\/g d ρ s=.ok (.cont ρ') s')/\P (k+j+1) ρ' s') ->
  ∃ ρ' s',aS7 ok g l ρ s=.ok (.next ρ') s'/\P (k+l.length) ρ' s'
 | [],k,ρ,s,h,o,_=>⟨ρ,s,by show(if ok s then _ else _)=_;rw[if_pos (o 0 ρ s (aj _) h)],h⟩
 | d::l,k,ρ,s,h,o,t=>by
  have ho:=o 0 ρ s (cz _) h
  obtain⟨ρ1,s1,hg,y⟩:=t 0 d ρ s rfl h
  obtain⟨ρ2,s2,e,z⟩:=aY1 P l (k+1) ρ1 s1 y (λ j ρ' s' hj hp=>o (j+1) ρ' s' (by simpa using hj) (by rwa [show k+(j+1)=k+1+j by omega])) λ j d' ρ' s' hj hp=>by
   have:=t (j+1) d' ρ' s' (by simpa using hj) (by rwa [show k+(j+1)=k+1+j by omega])
   rwa [show k+(j+1)+1=k+1+j+1 by omega]at this
  refine⟨ρ2,s2,?_,by rwa [bh,show k+(l.length+1)=k+1+l.length by omega]⟩
  show(if ok s then _ else _)=_
  rw[if_pos ho]
  rcases hg with hg|hg<;>(rw[hg];exact e)
noncomputable def Nx (Q:Env->Sto->Prop):R Ct->Prop
 | .ok (.next ρ) s=>Q ρ s
 | .ok (.cont ρ) s=>Q ρ s
 | _=>False
@[simp] theorem bY3 (Q:Env->Sto->Prop) (ρ:Env) (s:Sto):Nx Q (.ok (.next ρ) s)=Q ρ s:=rfl
@[simp] theorem bZ4 (Q:Env->Sto->Prop) (ρ:Env) (s:Sto):Nx Q (.ok (.cont ρ) s)=Q ρ s:=rfl
theorem zX {Q:Env->Sto->Prop}{r:R Ct}{ρ:Env}{s:Sto}(e:r=.ok (.next ρ) s)(h:Q ρ s):Nx Q r:=by rw[e];exact h
theorem Nx.out {Q:Env->Sto->Prop}:∀ {r:R Ct},Nx Q r->∃ ρ s,(r=.ok (.next ρ) s\/r=.ok (.cont ρ) s)/\Q ρ s
 | .ok (.next ρ) s,h=>⟨ρ,s,.inl rfl,h⟩
 | .ok (.cont ρ) s,h=>⟨ρ,s,.inr rfl,h⟩
 | .ok (.ret _) _,h=>h.elim
 | .ok (.brk _) _,h=>h.elim
 | .exc _ _,h=>h.elim
 | .bad,h=>h.elim
noncomputable def Tst (A B:Sto->Prop):R D->Prop
 | .ok (.bl false) s=>A s
 | .ok (.bl true) s=>B s
 | _=>False
@[simp] theorem br4 (A B:Sto->Prop) (b:Bool) (s:Sto):Tst A B (.ok (.bl b) s)=if b then B s else A s:=by cases b<;>rfl
theorem Tst.out {A B:Sto->Prop}:∀ {r:R D},Tst A B r->(∃ s,r=.ok (.bl false) s/\A s)\/∃ s,r=.ok (.bl true) s/\B s
 | .ok (.bl false) s,h=>.inl ⟨s,rfl,h⟩
 | .ok (.bl true) s,h=>.inr ⟨s,rfl,h⟩
 | .ok .non _,h=>h.elim
 | .ok (.int _) _,h=>h.elim
 | .ok (.str _) _,h=>h.elim
 | .ok (.tup _) _,h=>h.elim
 | .ok (.ref _) _,h=>h.elim
 | .ok (.fn _) _,h=>h.elim
 | .ok (.clo _ _) _,h=>h.elim
 | .exc _ _,h=>h.elim
 | .bad,h=>h.elim
theorem bj9 {c:Env->Sto->R D}{g:Env->Sto->R Ct}{ρ ρ':Env}{s s1 s':Sto}(hc:c ρ s=.ok (.bl true) s1)(hg:g ρ s1=.ok (.cont ρ') s'):whl c g ρ s=whl c g ρ' s':=by
 have key:∀ n,qW c g (n+1) ρ s=qW c g n ρ' s':=λ n=>by
  show tru (c ρ s) _=_
  rw[hc,ad0,if_pos rfl,hg];rfl
 unfold whl
 by_cases hx:∃ n,qW c g n ρ' s'≠.bad
 ·have hy:∃ n,qW c g n ρ s≠.bad:=⟨hx.choose+1,by rw[key];exact hx.choose_spec⟩
  rw[dif_pos hx,dif_pos hy]
  have y:=qi hy.choose_spec (hx.choose+1)
  have h:=qi (n:=hx.choose+1) (ρ:=ρ) (s:=s) (by rw[key];exact hx.choose_spec) hy.choose
  rw[<-y,ig,h,key]
 ·have hy:¬ ∃ n,qW c g n ρ s≠.bad:=λ⟨n,hn⟩=>by
   cases n with
   | zero=>exact hn rfl
   | succ n=>exact hx ⟨n,by rw[<-key];exact hn⟩
  rw[dif_neg hx,dif_neg hy]
theorem bN5 {c:Env->Sto->R D}{g:Env->Sto->R Ct}(P:Nat->Env->Sto->Prop)(Q:Env->Sto->Prop)
  (step:∀ k ρ s,P k ρ s->Tst (λ s1=>Q ρ s1) (λ s1=>Nx (λ ρ' s'=>∃ y,y<k/\P y ρ' s') (g ρ s1)) (c ρ s)) :
  ∀(k:Nat) (ρ:Env) (s:Sto),P k ρ s->∃ ρ' s',whl c g ρ s=.ok (.next ρ') s'/\Q ρ' s':=by
 intro k
 induction k using Nat.strongRecOn with
 | _ k ih =>
  intro ρ s h
  rcases(step k ρ s h).out with⟨s1,hc,hq⟩|⟨s1,hc,hn⟩
  ·exact⟨ρ,s1,by2 hc,hq⟩
  ·obtain⟨ρ',s',hg,y,hk,hp⟩:=hn.out
   rcases hg with hg|hg
   ·rw[bh3 hc hg];exact ih y hk ρ' s' hp
   ·rw[bj9 hc hg];exact ih y hk ρ' s' hp
theorem bl4 {c:Env->Sto->R D}{g:Env->Sto->R Ct}{ρ:Env}{s:Sto}{α:Type}{f:Ct->Sto->R α}{W:R α->Prop}(P:Nat->Env->Sto->Prop)(Q:Env->Sto->Prop)(k:Nat)(h:P k ρ s)
  (step:∀ k ρ s,P k ρ s->Tst (λ s1=>Q ρ s1) (λ s1=>Nx (λ ρ' s'=>∃ y,y<k/\P y ρ' s') (g ρ s1)) (c ρ s))
  (z:∀ ρ' s',Q ρ' s'->W (f (.next ρ') s')):W ((whl c g ρ s).bind f):=by
 obtain⟨ρ',s',e,q⟩:=bN5 P Q step k ρ s h
 rw[e]
 exact z ρ' s' q
theorem bi4 {c:Env->Sto->R D}{g:Env->Sto->R Ct}{ρ:Env}{s:Sto}{α:Type}{f:Ct->Sto->R α}{x:R α}(P:Nat->Env->Sto->Prop)(Q:Env->Sto->Prop)(k:Nat)(h:P k ρ s)
  (step:∀ k ρ s,P k ρ s->Tst (λ s1=>Q ρ s1) (λ s1=>Nx (λ ρ' s'=>∃ y,y<k/\P y ρ' s') (g ρ s1)) (c ρ s))
  (z:∀ ρ' s',Q ρ' s'->f (.next ρ') s'=x):(whl c g ρ s).bind f=x:=bl4 (W:=(·=x)) P Q k h step z
theorem zA {ok:Sto->Bool}{g:D->Env->Sto->R Ct}{l:List D}{ρ:Env}{s:Sto}{α:Type}{f:Ct->Sto->R α}{W:R α->Prop}(P:Nat->Env->Sto->Prop)(h:P 0 ρ s)
  (o:∀(j:Nat) (ρ:Env) (s:Sto),j<=l.length->P j ρ s->ok s=true) (step:∀(j:Nat) (d:D) (ρ:Env) (s:Sto),l[j]?=some d->P j ρ s->Nx (P (j+1)) (g d ρ s))
  (y:∀ ρ' s',P l.length ρ' s'->W (f (.next ρ') s')):W ((aS7 ok g l ρ s).bind f):=by
 obtain⟨ρ',s',e,q⟩:=aY1 P l 0 ρ s h (λ j ρ s hj hp=>o j ρ s hj (by rwa [iq]at hp)) (λ j d ρ s hj hp=>by
  rw[iq]at hp ⊢
  exact(step j d ρ s hj hp).out)
 rw[e]
 rw[iq]at q
 exact y ρ' s' q
theorem aL5 {ok:Sto->Bool}{g:D->Env->Sto->R Ct}{l:List D}{ρ:Env}{s:Sto}{α:Type}{f:Ct->Sto->R α}{x:R α}(P:Nat->Env->Sto->Prop)(h:P 0 ρ s)
  (o:∀(j:Nat) (ρ:Env) (s:Sto),j<=l.length->P j ρ s->ok s=true) (step:∀(j:Nat) (d:D) (ρ:Env) (s:Sto),l[j]?=some d->P j ρ s->Nx (P (j+1)) (g d ρ s))
  (y:∀ ρ' s',P l.length ρ' s'->f (.next ρ') s'=x):(aS7 ok g l ρ s).bind f=x:=zA (W:=(·=x)) P h o step y
section
variable {F:Fns} {ρ:Env} {s:Sto}
@[simp] theorem qh (i:Nat):ev F (.var i) ρ s=aT2 ρ i s:=rfl
@[simp] theorem ac8 (c:Cn):ev F (.cst c) ρ s=.ok c.d s:=rfl
@[simp] theorem ad8 (op:BOp) (a b:E):ev F (.bin op a b) ρ s=(ev F a ρ s).bind λ x s=>(ev F b ρ s).bind λ y s=>qB op x y s:=rfl
@[simp] theorem ae6 (a:E):ev F (.not a) ρ s=tru (ev F a ρ s) λ b s=>.ok (.bl (!b)) s:=rfl
@[simp] theorem ac7 (op:COp) (a b:E):ev F (.cmp op a b) ρ s=(ev F a ρ s).bind λ x s=>(ev F b ρ s).bind λ y s=>qx op x y s:=rfl
@[simp] theorem bU1 (o p:COp) (a b c:E):ev F (.chain o p a b c) ρ s=(ev F a ρ s).bind λ x s=>(ev F b ρ s).bind λ y s=>tru (qx o x y s) λ k s=>if k then(ev F c ρ s).bind λ z s=>qx p y z s else .ok (.bl false) s:=rfl
@[simp] theorem af4 (a:E):ev F (.isN a) ρ s=(ev F a ρ s).bind λ x s=>.ok (.bl (decide (x=.non))) s:=rfl
@[simp] theorem ac2 (a:E):ev F (.notN a) ρ s=(ev F a ρ s).bind λ x s=>.ok (.bl (!decide (x=.non))) s:=rfl
@[simp] theorem ae7 (a b:E):ev F (.and a b) ρ s=tru (ev F a ρ s) λ c s=>if c then tru (ev F b ρ s) λ c s=>.ok (.bl c) s else .ok (.bl false) s:=rfl
@[simp] theorem ah5 (a b:E):ev F (.or a b) ρ s=tru (ev F a ρ s) λ c s=>if c then .ok (.bl true) s else tru (ev F b ρ s) λ c s=>.ok (.bl c) s:=rfl
@[simp] theorem af9 (c a b:E):ev F (.ite c a b) ρ s=tru (ev F c ρ s) λ k s=>if k then ev F a ρ s else ev F b ρ s:=rfl
@[simp] theorem af6 (es:Es):ev F (.tup es) ρ s=(evs F es ρ s).bind λ l s=>.ok (.tup l) s:=rfl
@[simp] theorem ad4 (es:Es):ev F (.lst es) ρ s=(evs F es ρ s).bind λ l s=>ai2 (.lst l) s:=rfl
@[simp] theorem ag9 (a b:E):ev F (.ix a b) ρ s=(ev F a ρ s).bind λ x s=>(ev F b ρ s).bind λ y s=>ixM x y s:=rfl
@[simp] theorem ab7 (f:String) (h:As):ev F (.call f h) ρ s=(ay3 F h ρ s).bind λ l s=>F.call f l s:=rfl
@[simp] theorem bT2 (f:String) (h:As):ev F (.callC f h) ρ s=(ay3 F h ρ s).bind λ l s=>(F.call f l s).bind λ d s'=>if(d.ncl&&s'.all O.ncl)=true then .ok d s' else .bad:=rfl
@[simp] theorem ah0 (b:Bi) (es:Es):ev F (.bi b es) ρ s=(evs F es ρ s).bind λ l s=>bi b l s:=rfl
@[simp] theorem ah3 (k:Mk) (it:L):ev F (.mk k it) ρ s=(evL F it ρ s).bind λ q s=>mk k q s:=rfl
@[simp] theorem af8 (k:Mk) (it:L) (d:E):ev F (.mkD k it d) ρ s=(evL F it ρ s).bind λ q s=>(ev F d ρ s).bind λ d s=>mkD k q d s:=rfl
@[simp] theorem cb5 (k:Mk) (e:E):ev F (.mks k e) ρ s=(ev F e ρ s).bind λ x s=>(aY8 x s).bind λ q s=>mk k q s:=rfl
@[simp] theorem ac6 (k:Mk) (e d:E):ev F (.mkDs k e d) ρ s=(ev F e ρ s).bind λ x s=>(ev F d ρ s).bind λ z s=>(aY8 x s).bind λ q s=>mkD k q z s:=rfl
@[simp] theorem ac3 (m:Mt) (o:E) (es:Es):ev F (.meth m o es) ρ s=(ev F o ρ s).bind λ x s=>(evs F es ρ s).bind λ l s=>meth m x l s:=rfl
@[simp] theorem bw5 (o e:E):ev F (.extS o e) ρ s=(ev F o ρ s).bind λ x s=>(ev F e ρ s).bind λ y s=>extS x y s:=rfl
@[simp] theorem bI2 (a:E):ev F (.rev a) ρ s=(ev F a ρ s).bind λ x s=>bz7 x s:=rfl
@[simp] theorem bn2 (o:E) (it:L):ev F (.ext o it) ρ s=(ev F o ρ s).bind λ x s=>(evL F it ρ s).bind λ q s=>bm6 x q s:=rfl
@[simp] theorem ab5:evs F .nil ρ s=.ok [] s:=rfl
@[simp] theorem qK (e:E) (es:Es):evs F (.cons e es) ρ s=(ev F e ρ s).bind λ d s=>(evs F es ρ s).bind λ l s=>.ok (d::l) s:=rfl
@[simp] theorem aa7:ay3 F .nil ρ s=.ok [] s:=rfl
@[simp] theorem ab6 (e:E) (h:As):ay3 F (.ex e h) ρ s=(ev F e ρ s).bind λ d s=>(ay3 F h ρ s).bind λ l s=>.ok (d::l) s:=rfl
@[simp] theorem bY1 (f:String) (h:As):ay3 F (.fn f h) ρ s=(ay3 F h ρ s).bind λ l s=>.ok (.fn f::l) s:=rfl
@[simp] theorem ab8 (e:E):evI F (.seq e) ρ s=(ev F e ρ s).bind λ d s=>qV d s:=rfl
@[simp] theorem bV0 (es:Es):evL F (.disp es) ρ s=evs F es ρ s:=rfl
@[simp] theorem ac4 (e:E):evL F (.seq e) ρ s=(ev F e ρ s).bind λ d s=>bC8 d s:=rfl
noncomputable def bm0 (x:D):M Sq:=λ s=>match x with|.int i=>if -W62<=i/\i<W62 then .ok ⟨qO 0 i,[]⟩ s else .bad|_=>.bad
@[simp] theorem aa9 (a:E):evI F (.rng1 a) ρ s=(ev F a ρ s).bind λ x s=>bm0 x s:=rfl
theorem qT {i:Int}(h0:-W62<=i)(h:i<W62):bm0 (.int i) s=.ok ⟨qO 0 i,[]⟩ s:=by unfold bm0;simp only[h0,h,and_self,if_true]
noncomputable def nxt (F:Fns)(ss:Ss)(c:Ct)(s:Sto):R Ct:=match c with|.next ρ=>exs F ss ρ s|c=>.ok c s
@[simp] theorem zN (h:Ss) (ρ:Env) (s:Sto):nxt F h (.next ρ) s=exs F h ρ s:=rfl
@[simp] theorem ac0 (h:Ss) (d:D) (s:Sto):nxt F h (.ret d) s=.ok (.ret d) s:=rfl
@[simp] theorem bV1 (h:Ss) (ρ:Env) (s:Sto):nxt F h (.cont ρ) s=.ok (.cont ρ) s:=rfl
@[simp] theorem ab4:exs F .nil ρ s=.ok (.next ρ) s:=rfl
@[simp] theorem qw (st:S) (h:Ss):exs F (.cons st h) ρ s=(ex F st ρ s).bind (nxt F h):=rfl
noncomputable def cb1 (ρ:Option Env)(s:Sto):R Ct:=match ρ with|some ρ=>.ok (.next ρ) s|none=>.bad
@[simp] theorem aa3 (ρ:Env) (s:Sto):cb1 (some ρ) s=.ok (.next ρ) s:=rfl
@[simp] theorem ae3 (tg:Tg) (e:E):ex F (.asg tg e) ρ s=(ev F e ρ s).bind λ d s=>cb1 (ai5 ρ tg d) s:=rfl
@[simp] theorem ab1 (o i e:E):ex F (.setIx o i e) ρ s=(ev F e ρ s).bind λ d s=>(ev F o ρ s).bind λ x s=>(ev F i ρ s).bind λ y s=>(setIx x y d s).bind λ _ s=>.ok (.next ρ) s:=rfl
@[simp] theorem ah2 (e:E):ex F (.ex e) ρ s=(ev F e ρ s).bind λ _ s=>.ok (.next ρ) s:=rfl
@[simp] theorem ae4 (e:E):ex F (.ret e) ρ s=(ev F e ρ s).bind λ d s=>.ok (.ret d) s:=rfl
@[simp] theorem bY2:ex F .retN ρ s=.ok (.ret .non) s:=rfl
@[simp] theorem ae2 (c:E) (a b:Ss):ex F (.ite c a b) ρ s=tru (ev F c ρ s) λ k s=>if k then exs F a ρ s else exs F b ρ s:=rfl
@[simp] theorem cc6 (c:E) (b:Ss):ex F (.whl c b) ρ s=whl (ev F c) (exs F b) ρ s:=rfl
noncomputable def turn (F:Fns)(tg:Tg)(b:Ss)(d:D)(ρ:Env)(s:Sto):R Ct:=match ai5 ρ tg d with
 | some ρ=>exs F b ρ s
 | none=>.bad
@[simp] theorem af7 (tg:Tg) (it:I) (b:Ss):ex F (.for_ tg it b) ρ s=(evI F it ρ s).bind λ q s0=>aS7 (λ s=>chk s0 s q.src) (turn F tg b) q.its ρ s0:=rfl
@[simp] theorem bZ1:ex F .cont ρ s=.ok (.cont ρ) s:=rfl
@[simp] theorem af3 (i:Nat):ex F (.und i) ρ s=cb1 (aq7 ρ i) s:=rfl
@[simp] theorem bY5:ex F .pass ρ s=.ok (.next ρ) s:=rfl
@[simp] theorem zG (i:Nat) (d:D):ai5 ρ (.one i) d=aI9 ρ i d:=rfl
@[simp] theorem aa5 (is:List Nat) (l:List D):ai5 ρ (.tup is) (.tup l)=ap5 ρ is l:=rfl
@[simp] theorem aa6:ap5 ρ [] []=some ρ:=rfl
@[simp] theorem aa2 (i:Nat) (is:List Nat) (d:D) (l:List D):ap5 ρ (i::is) (d::l)=(aI9 ρ i d).bind λ ρ=>ap5 ρ is l:=rfl
@[simp] theorem qf (d:D) (ρ:Env):aT2 (some d::ρ) 0 s=.ok d s:=rfl
@[simp] theorem qg (x:Option D) (ρ:Env) (i:Nat):aT2 (x::ρ) (i+1) s=aT2 ρ i s:=by unfold aT2;rw[eG]
@[simp] theorem qy (d:D) (x:Option D) (ρ:Env):aI9 (x::ρ) 0 d=some (some d::ρ):=rfl
@[simp] theorem ad1 (d:D) (x:Option D) (ρ:Env) (i:Nat):aI9 (x::ρ) (i+1) d=(aI9 ρ i d).map (x::·):=by
 unfold aI9
 by_cases h:i < ρ.length
 ·rw[if_pos (by simpa using h),if_pos h];rfl
 ·rw[if_neg (by simpa using h),if_neg h];rfl
@[simp] theorem ab2 (x:Option D) (ρ:Env):aq7 (x::ρ) 0=some (none::ρ):=rfl
@[simp] theorem ab3 (x:Option D) (ρ:Env) (i:Nat):aq7 (x::ρ) (i+1)=(aq7 ρ i).map (x::·):=by
 unfold aq7
 by_cases h:i < ρ.length
 ·rw[if_pos (by simpa using h),if_pos h];rfl
 ·rw[if_neg (by simpa using h),if_neg h];rfl
@[simp] theorem ac9 (i:Int):(Cn.int i).d=.int i:=rfl
@[simp] theorem ah7 (i:Bool):(Cn.bl i).d=.bl i:=rfl
@[simp] theorem ae8 (i:List Nat):(Cn.str i).d=.str i:=rfl
@[simp] theorem ad3:Cn.non.d=.non:=rfl
@[simp] theorem ac1 (a b:Int):qB .add (.int a) (.int b) s=.ok (.int (a+b)) s:=rfl
@[simp] theorem ac5 (a b:Int):qB .sub (.int a) (.int b) s=.ok (.int (a - b)) s:=rfl
theorem an1 {a b:Int}(h:mulOk a b=true):qB .mul (.int a) (.int b) s=.ok (.int (a*b)) s:=by show(if mulOk a b then _ else _:M D) s=_;rw[if_pos h];rfl
theorem bB9 {a b:Int}(h:a.natAbs<2^64):mulOk a b=true:=by unfold mulOk;simp[h]
theorem aw4 {a b:Int}(h:b.natAbs<2^64):mulOk a b=true:=by unfold mulOk;simp[h]
theorem ar2 {a b:Int}(h:0<b):qB .mod (.int a) (.int b) s=.ok (.int (a % b)) s:=by show(if 0<b then _ else _:M D) s=_;rw[if_pos h];rfl
theorem bD5:(10:Int)^200<=(DIVL:Int):=by unfold DIVL;decide +kernel
theorem ax9 {a b:Int}(h:0<b)(y:b<10^200):qB .fdiv (.int a) (.int b) s=.ok (.int (a / b)) s:=by show(if 0<b/\b<(DIVL:Int)then _ else _:M D) s=_;rw[if_pos ⟨h,Int.lt_of_lt_of_le y bD5⟩];rfl
theorem aZ4 {a b:Int}(h:0<=b/\b<=1000000/\a.natAbs<2^64):qB .pow (.int a) (.int b) s=.ok (.int (a^b.toNat)) s:=by show(if _ then _ else _:M D) s=_;rw[if_pos h];rfl
@[simp] theorem ad9 (a b:Int):qx .lt (.int a) (.int b) s=.ok (.bl (decide (a<b))) s:=rfl
@[simp] theorem af0 (a b:Int):qx .le (.int a) (.int b) s=.ok (.bl (decide (a<=b))) s:=rfl
@[simp] theorem ae5 (a b:Int):qx .gt (.int a) (.int b) s=.ok (.bl (decide (b<a))) s:=rfl
@[simp] theorem af1 (a b:Int):qx .ge (.int a) (.int b) s=.ok (.bl (decide (b<=a))) s:=rfl
@[simp] theorem ae9 (a b:Int):qx .eq (.int a) (.int b) s=.ok (.bl (decide (a=b))) s:=rfl
@[simp] theorem af2 (a b:Int):qx .ne (.int a) (.int b) s=.ok (.bl (!decide (a=b))) s:=rfl
@[simp] theorem qk (o:O):ai2 o s=.ok (.ref s.length) (s++[o]):=rfl
@[simp] theorem aX5 (l:List D):bi .len [.tup l] s=.ok (.int l.length) s:=rfl
@[simp] theorem bx0 (l:List Nat):bi .len [.str l] s=.ok (.int l.length) s:=rfl
theorem bS0 {r:Nat}{l:List D}(h:s[r]?=some (.ro l)):bi .len [.ref r] s=.ok (.int l.length) s:=by simp only[bi,bi1,bE7,h]
@[simp] theorem bX1 (i:Int):bi .abs [.int i] s=.ok (.int (if i<0 then -i else i)) s:=rfl
@[simp] theorem bT8 (a b:Int):bi .min2 [.int a,.int b] s=.ok (.int (if b<a then b else a)) s:=rfl
@[simp] theorem bU9 (a b:Int):bi .max2 [.int a,.int b] s=.ok (.int (if b > a then b else a)) s:=rfl
@[simp] theorem bS9 (a:Int):bi .isInt [.int a] s=.ok (.bl true) s:=rfl
@[simp] theorem bE4 (a:Int):bi .isBool [.int a] s=.ok (.bl false) s:=rfl
@[simp] theorem bO5 (l:List D):bi .isTup [.tup l] s=.ok (.bl true) s:=rfl
theorem bN1 {r:Nat}{l:List D}{j:Nat}{d:D}(h:s[r]?=some (.ro l))(hj:l[j]?=some d):ixM (.ref r) (.int (j:Int)) s=.ok d s:=by
 have hl:j<l.length:=(ac.mp hj).1
 have e:l[j]=d:=(ac.mp hj).2
 simp[ixM,h,ixn,hl,e]
theorem qP {r:Nat}{l:List D}{j:Nat}{d:D}(h:s[r]?=some (.lst l))(hj:l[j]?=some d):ixM (.ref r) (.int (j:Int)) s=.ok d s:=by
 have hl:j<l.length:=(ac.mp hj).1
 have e:l[j]=d:=(ac.mp hj).2
 simp[ixM,h,ixn,hl,e]
theorem ix_tup {l:List D}{j:Nat}{d:D}(hj:l[j]?=some d):ixM (.tup l) (.int (j:Int)) s=.ok d s:=by
 have hl:j<l.length:=(ac.mp hj).1
 have e:l[j]=d:=(ac.mp hj).2
 simp[ixM,ixn,hl,e]
theorem aY3 {r:Nat}{l:List D}{j:Nat}{v:D}(h:s[r]?=some (.lst l))(hl:j<l.length):setIx (.ref r) (.int (j:Int)) v s=.ok () (s.set r (.lst (l.set j v))):=by
 simp[setIx,h,ixn,hl]
theorem qJ {r:Nat}{l:List D}{v:D}(h:s[r]?=some (.lst l))(hl:l.length<LIM):meth .append (.ref r) [v] s=.ok .non (s.set r (.lst (l++[v]))):=by
 simp[meth,h,hl]
end
theorem aK1 (s t:Sto)(b:Bool):∃ s',zH s (.bl b) t=.ok (.bl b) s':=by
 unfold zH
 by_cases h:ay4 s t=true
 ·rw[if_pos h];exact⟨_,rfl⟩
 ·rw[if_neg h];exact⟨_,rfl⟩
def Yes (r:R D):Prop:=∃ s',r=.ok (.bl true) s'
theorem aD0 (s t:Sto):Yes (zH s (.bl true) t):=aK1 s t true
theorem qI {a b:Int}{j:Nat}{d:D}(h:(qO a b)[j]?=some d):(j:Int)<b - a/\d=.int (a+j):=by
 have hj:=(ac.mp h).1
 simp only[qO,aq,eU]at hj
 unfold qO at h
 rw[az,di hj]at h
 exact⟨by omega,(aA h).symm⟩
def bX7 (P:Pr)(k:Nat):Prop:=∀ ns:List Int,ns.length<=63->Yes ((aa1 P k).call "law" [.ref 0] [.ro (ns.map D.int)])
noncomputable def zn:Option Int->D
 | none=>.non
 | some i=>.int i
@[simp] theorem zF:zn none=.non:=rfl
@[simp] theorem qd (i:Int):zn (some i)=.int i:=rfl
@[simp] theorem aw1 (p:Option Int) (n:Nat):(zn p).bnd n=true:=by cases p<;>rfl
theorem az5 (p:Option Int)(r:Nat):zn p≠.ref r:=by cases p<;>nofun
@[simp] theorem bE5 {s:Sto} {p:Option Int}:zH s (zn p) s=.ok (zn p) s:=zp (aw1 p) (az5 p)
noncomputable def zo (b:Nat×Nat):O:=.lst [.int b.1,.int b.2]
@[simp] theorem bT7 (b:Nat×Nat) (n:Nat):(zo b).bnd n=true:=rfl
noncomputable def tkW (many:Nat):Nat->Nat->Nat->Nat->Nat×Nat
 | 0,mix,num,_=>(num,mix)
 | n+1,mix,num,room=>if room<many then tkW many n ((mix*48271+7919) % 2147483647) (num*1073741789+(mix*48271+7919) % 2147483647 / 8*69621 % 1073741789) (room*1073741789)else(num,mix)
noncomputable def tk (b:Nat×Nat)(many:Nat):Nat×(Nat×Nat) :=
 if 0<b.1 then(b.1 % many,(b.1 / many,b.2))else let r:=tkW many 12 b.2 0 1;(r.1 % many,(b.1,r.2))
theorem bZ2 (b:Nat×Nat){many:Nat}(h:0<many):(tk b many).1<many:=by
 unfold tk
 split
 ·exact Nat.mod_lt _ h
 ·exact Nat.mod_lt _ h
theorem ba0 {many:Nat}{k y z room:Nat}(h:many<=room):tkW many k y z room=(z,y):=by
 cases k with
 | zero=>rfl
 | succ k=>unfold tkW;rw[if_neg (by omega)]
theorem bf9 {many:Nat}{k y z room:Nat}(h:room<many):tkW many (k+1) y z room=tkW many k ((y*48271+7919) % 2147483647) (z*1073741789+(y*48271+7919) % 2147483647 / 8*69621 % 1073741789) (room*1073741789):=by
 conv=>lhs;unfold tkW
 rw[if_pos h]
theorem bt7 {P:Pr}[Has P ai1](n:Nat)(b:Nat×Nat)(many:Nat)(h0:0<many)(h:many<=10^90)(s:Sto)(r:Nat)(hs:s[r]?=some (zo b)) :
  (aa1 P (n+1)).call "_law_take" [.ref r,.int many] s=.ok (.int (tk b many).1) (s.set r (zo (tk b many).2)):=by
 refine(zb ai1 rfl).trans ?_
 obtain⟨c,m⟩:=b
 have hr:r<s.length:=(ac.mp hs).1
 have J:(0:Int)<(many:Int):=by omega
 have a1:(many:Int)<10^200:=by
  have:(10:Int)^90<10^200:=by decide +kernel
  have:((many:Nat):Int)<=((10^90:Nat):Int):=by exact_mod_cast h
  omega
 by_cases hc:0<c
 ·have C:s[r]?=some (.lst [.int c,.int m]):=hs
  simp[ai1,ixM,C,ixn,hc,ar2 J,ax9 J a1,setIx,tk]
  exact qH (λ _=>rfl) (by nofun) rfl
 ·have Z:c=0:=by omega
  subst Z
  have C:s[r]?=some (.lst [.int 0,.int m]):=hs
  simp[ai1,ixM,C,ixn]
  refine bi4 (λ k ρ t=>∃ y z room:Nat,ρ=[some (.ref r),some (.int many),none,some (.int z),some (.int room)]/\t=s.set r (zo (0,y))/\many<=room*1073741789^k/\tkW many k y z room=tkW many 12 m 0 1)
   (λ ρ t=>∃ room:Nat,ρ=[some (.ref r),some (.int many),none,some (.int (tkW many 12 m 0 1).1),some (.int room)]/\t=s.set r (zo (0,(tkW many 12 m 0 1).2))) 12 ⟨m,0,1,by simp,?_,?_,rfl⟩ ?_ ?_
  ·have e:s[r]=zo (0,m):=(ac.mp hs).2
   rw[<-e,dJ]
  ·refine ao h ?_
   decide +kernel
  ·rintro k ρ t ⟨y,z,room,rfl,rfl,G,Y⟩
   by_cases hlt:room<many
   ·simp only[ac7,qh,qf,qg,R.bind_ok,ad9,br4,j6,hlt,decide_true,if_true]
    cases k with
    | zero=>simp at G;omega
    | succ k =>
     have h1:(s.set r (zo (0,y)))[r]?=some (.lst [.int 0,.int y]):=by rw[bn hr];rfl
     have m1:∀ a:Int,mulOk a 48271=true:=λ a=>aw4 (by decide)
     have m2:∀ a:Int,mulOk a 1073741789=true:=λ a=>aw4 (by decide)
     have m3:∀ a:Int,mulOk a 69621=true:=λ a=>aw4 (by decide)
     refine zX ?_ ⟨k,fe k,(y*48271+7919) % 2147483647,z*1073741789+(y*48271+7919) % 2147483647 / 8*69621 % 1073741789,room*1073741789,rfl,rfl,?_,?_⟩
     ·simp[ixM,h1,ixn,an1 (m1 _),ar2,setIx,hr,an1 (m2 _),an1 (m3 _),ax9,zo]
     ·rw[lI]at G
      rw[Nat.mul_assoc,lD 1073741789];exact G
     ·rw[<-Y,bf9 hlt]
   ·simp only[ac7,qh,qf,qg,R.bind_ok,ad9,br4,j6,hlt,decide_false,if_false,au]
    refine⟨room,?_,?_⟩
    ·rw[<-Y,ba0 (by omega)]
    ·rw[<-Y,ba0 (by omega)]
  ·rintro ρ t ⟨room,rfl,rfl⟩
   simp[ar2 J,tk]
   exact qH (λ _=>rfl) (by nofun) rfl
noncomputable def bq7 (at_:Int)(ns:List Int):Nat->Int
 | 0=>7919*at_+17
 | k+1=>(bq7 at_ ns k*48271+(ns.getD k 0) % 2147483647+k) % 2147483629
theorem bx9 (at_:Int)(h:0<=at_)(ns:List Int):∀ k,0<=bq7 at_ ns k
 | 0=>by unfold bq7;omega
 | k+1=>by unfold bq7;exact Int.emod_nonneg _ (by decide)
noncomputable def cellF (ns:List Int)(at_:Nat):Nat:=if 10^18<=(ns.getD at_ 0).natAbs then(ns.getD at_ 0).natAbs else 0
noncomputable def bq8 (ns:List Int)(at_:Nat):Nat×Nat:=(cellF ns at_,(bq7 at_ ns (min ns.length 60)).toNat)
theorem aY0 {P:Pr}[Has P aA7](n:Nat)(ns:List Int)(at_:Nat)(s:Sto)(r:Nat)(hs:s[r]?=some (.ro (ns.map D.int)))(hl:ns.length<=63) :
  (aa1 P (n+1)).call "_law_bag" [.ref r,.int at_] s=.ok (.ref s.length) (s++[zo (bq8 ns at_)]):=by
 refine(zb aA7 rfl).trans ?_
 have m1:∀ a:Int,mulOk 7919 a=true:=λ a=>bB9 (by decide)
 have m2:∀ a:Int,mulOk a 48271=true:=λ a=>aw4 (by decide)
 have y:bi .len [.ref r] s=.ok (.int ns.length) s:=by rw[bS0 hs,aq]
 have z:∀(c:Int),(c<10^18->cellF ns at_=0)->(10^18<=c->(cellF ns at_:Int)=c) ->
   (exs (aa1 P n) (.cons (.asg (.one 3) (.bin .add (.bin .mul (.cst (.int 7919)) (.var 1)) (.cst (.int 17)))) (.cons (.for_ (.one 4) (.rng1 (.bi .min2 (.cons (.bi .len (.cons (.var 0) .nil)) (.cons (.cst (.int 60)) .nil)))) (.cons (.asg (.one 3) (.bin .mod (.bin .add (.bin .add (.bin .mul (.var 3) (.cst (.int 48271))) (.bin .mod (.ix (.var 0) (.var 4)) (.cst (.int 2147483647)))) (.var 4)) (.cst (.int 2147483629)))) .nil)) (.cons (.ite (.cmp .lt (.var 2) (.bin .pow (.cst (.int 10)) (.cst (.int 18)))) (.cons (.asg (.one 2) (.cst (.int 0))) .nil) .nil) (.cons (.ret (.lst (.cons (.var 2) (.cons (.var 3) .nil)))) .nil)))) [some (.ref r),some (.int at_),some (.int c),none,none] s).bind (fin s)=.ok (.ref s.length) (s++[zo (bq8 ns at_)]):=by
  intro c h1 h2
  simp[an1 (m1 _),y]
  have hk:(if(60:Int)<(ns.length:Int)then 60 else(ns.length:Int))=((min ns.length 60:Nat):Int):=by omega
  rw[hk,qT (by unfold W62;omega) (by unfold W62;omega)]
  simp only[R.bind_ok]
  refine aL5 (λ j ρ t=>t=s/\∃ x,ρ=[some (.ref r),some (.int at_),some (.int c),some (.int (bq7 at_ ns j)),x]) ⟨rfl,none,rfl⟩ (λ _ _ _ _ _=>rfl) ?_ ?_
  ·rintro j d ρ t hj ⟨rfl,x,rfl⟩
   have Y:j<min ns.length 60:=by have:=(ac.mp hj).1;simpa [qO]using this
   have hd:d=.int (j:Int):=by simpa [qO,Y]using hj.symm
   subst hd
   refine zX ?_ ⟨rfl,some (.int (j:Int)),rfl⟩
   have hx:ixM (.ref r) (.int (j:Int)) t=.ok (.int (ns.getD j 0)) t:=bN1 hs (by simp[show j<ns.length by omega])
   simp[turn,an1 (m2 _),hx,ar2,bq7]
  ·rintro ρ t ⟨rfl,x,rfl⟩
   have J:(qO 0 ((min ns.length 60:Nat):Int)).length=min ns.length 60:=by simp[qO]
   rw[J]
   have a1:=bx9 at_ (by omega) ns (min ns.length 60)
   have C:∀ Z,(Z:Int)=cellF ns at_->zH t (.ref t.length) (t++[.lst [.int Z,.int (bq7 at_ ns (min ns.length 60))]])=.ok (.ref t.length) (t++[zo (bq8 ns at_)]):=by
    intro Z G
    have:=ap7 (s:=t) (t:=[]) (u:=[]) (o:=zo (bq8 ns at_)) rfl
    simp only[em,lH,bM]at this
    rw[<-this]
    simp[zo,bq8,G,fK a1]
   by_cases h:c<10^18
   ·have h':c<1000000000000000000:=h
    simp[aZ4,h']
    exact C 0 (by rw[h1 h];rfl)
   ·have h':¬ c<1000000000000000000:=h
    simp[aZ4,h']
    exact C c (h2 (by omega)).symm
 by_cases hat:at_<ns.length
 ·have hx:ixM (.ref r) (.int at_) s=.ok (.int (ns.getD at_ 0)) s:=bN1 hs (by simp[hat])
  have e:=z (if ns.getD at_ 0<0 then -ns.getD at_ 0 else ns.getD at_ 0) (by unfold cellF;intro h;rw[if_neg (by omega)]) (by unfold cellF;intro h;rw[if_pos (by omega)];omega)
  rw[<-e]
  simp[aA7,y,hat,hx]
 ·have e:=z 0 (by unfold cellF;intro h;rw[if_neg];rw[aR,bT (by omega)];decide) (by intro h;exact absurd h (by decide))
  rw[<-e]
  simp[aA7,y,hat]
theorem ar5 {s t:Sto}{r:Nat}{o:O}(h:r<s.length):(s++t).set r o=s.set r o++t:=by rw[iJ,if_pos h]
theorem zD {s t:Sto}{r:Nat}{o:O}(h:s[r]?=some o):(s++t)[r]?=some o:=by
 rw[aL (ac.mp h).1];exact h
theorem z0 {s:Sto}{r:Nat}{o:O}(h:r<s.length):(s.set r o)[r]?=some o:=bn h
theorem bl1 {P:Pr}[Has P ai1](n:Nat)(b:Nat×Nat)(many:Int)(h0:0<many)(h:many<=10^90)(s:Sto)(r:Nat)(hs:s[r]?=some (zo b)) :
  (aa1 P (n+1)).call "_law_take" [.ref r,.int many] s=.ok (.int (tk b many.toNat).1) (s.set r (zo (tk b many.toNat).2)):=by
 have:=bt7 n b many.toNat (P:=P) (by omega) (by have:many<=((10^90:Nat):Int):=(by simpa using h);omega) s r hs
 rwa [show((many.toNat:Nat):Int)=many by omega]at this
noncomputable def bd (b:Nat×Nat):Nat×(Nat×Nat) :=
 let x0:=tk b 3
 let x1:=tk x0.2 13
 let x2:=tk x1.2 1000000000
 let x3:=tk x2.2 1000000000000000000000000000000
 let i:=tk x3.2 4
 ([x0.1,x1.1,x2.1,x3.1].getD i.1 0,i.2)
section
variable {F:Fns} {ρ:Env} {s:Sto}
noncomputable def zY (F:Fns)(tg:Tg)(e:E)(d:D)(ρ:Env)(s:Sto):R (Option D×Env):=match ai5 ρ tg d with
 | some ρ=>(ev F e ρ s).bind λ v s=>.ok (some v,ρ) s
 | none=>.bad
noncomputable def aI4 (F:Fns)(tg:Tg)(c e:E)(d:D)(ρ:Env)(s:Sto):R (Option D×Env):=match ai5 ρ tg d with
 | some ρ=>tru (ev F c ρ s) λ k s=>if k then(ev F e ρ s).bind λ v s=>.ok (some v,ρ) s else .ok (none,ρ) s
 | none=>.bad
@[simp] theorem qj (tg:Tg) (it:I) (e:E) (h:List (Option Nat)):evL F (.comp tg it e h) ρ s=(evI F it ρ s).bind λ q s0=>if q.its.length<=LIM then ak0 (λ s=>chk s0 s q.src) (zY F tg e) q.its (zS ρ h) s0 else .bad:=rfl
@[simp] theorem av2 (tg:Tg) (it:I) (c e:E) (h:List (Option Nat)):evL F (.compIf tg it c e h) ρ s=(evI F it ρ s).bind λ q s0=>if q.its.length<=LIM then ak0 (λ s=>chk s0 s q.src) (aI4 F tg c e) q.its (zS ρ h) s0 else .bad:=rfl
@[simp] theorem bN6 (a hi:E):ev F (.slU a hi) ρ s=(ev F a ρ s).bind λ x s=>(ev F hi ρ s).bind λ y s=>match y with|.int i=>slM x none (some i) s|_=>.bad:=rfl
@[simp] theorem cc7 (a hi:E):ev F (.slL a hi) ρ s=(ev F a ρ s).bind λ x s=>(ev F hi ρ s).bind λ y s=>match y with|.int i=>slM x (some i) none s|_=>.bad:=rfl
end
theorem zu {ok:Sto->Bool}{g:D->Env->Sto->R (Option D×Env)}(P:Env->Sto->Prop)(f:D->Option D):∀(l:List D) (ρ:Env) (s:Sto),P ρ s ->
  (∀ ρ s,P ρ s->ok s=true)->(∀ d∈l,∀ ρ s,P ρ s->∃ ρ' s',g d ρ s=.ok (f d,ρ') s'/\P ρ' s')->∃ ρ' s',ak0 ok g l ρ s=.ok (l.filterMap f) s'/\P ρ' s'
 | [],ρ,s,h,o,_=>⟨ρ,s,by unfold ak0;rw[if_pos (o ρ s h)];rfl,h⟩
 | d::l,ρ,s,h,o,st=>by
  obtain⟨ρ1,s1,e1,z⟩:=st d (aN ..) ρ s h
  obtain⟨ρ2,s2,e2,y⟩:=zu P f l ρ1 s1 z o λ x hx=>st x (aF _ hx)
  refine⟨ρ2,s2,?_,y⟩
  unfold ak0
  rw[if_pos (o ρ s h),e1]
  simp only[R.bind_ok]
  rw[e2,bJ]
  cases f d<;>rfl
theorem qp {P:Pr}[Has P ai1](n:Nat){s:Sto}{r:Nat}(hs:∃ b,s[r]?=some (zo b))(many:Int)(h0:0<many)(h:many<=10^90) :
  ∃(k:Nat) (b:Nat×Nat),(k:Int)<many/\(aa1 P (n+1)).call "_law_take" [.ref r,.int many] s=.ok (.int k) (s.set r (zo b)):=by
 obtain⟨b,hb⟩:=hs
 have:=bZ2 b (many:=many.toNat) (by omega)
 exact⟨(tk b many.toNat).1,(tk b many.toNat).2,by omega,bl1 n b many h0 h s r hb⟩
theorem am4 {k:Int}(h:k<=1000):k<=10^90:=Int.le_trans h (by decide)
theorem aG0 {s:Sto}{r:Nat}{b:Nat×Nat}(h:r<s.length):∃ y,(s.set r (zo b))[r]?=some (zo y):=⟨b,z0 h⟩
theorem aM4 {s:Sto}{r:Nat}(h:∃ b,s[r]?=some (zo b)):r<s.length:=by obtain⟨b,hb⟩:=h;exact(ac.mp hb).1
theorem aU4 {k:Int}{s:Sto}(h:0<=k/\k<=1000000):qB .shl (.int 1) (.int k) s=.ok (.int (1*2^k.toNat)) s:=by
 show(if 0<=k/\k<=1000000/\(1:Int).natAbs<2^64 then _ else _:M D) s=_
 rw[if_pos ⟨h.1,h.2,by decide⟩];rfl
theorem zr {l:List D}(h:∀ d∈l,∀ n,d.bnd n=true)(n:Nat):D.bndL n l=true:=by
 induction l with
 | nil=>rfl
 | cons d l ih=>unfold D.bndL;rw[h d (aN ..),ih λ x hx=>h x (aF _ hx)];rfl
noncomputable def aD5 (bits:Nat):D->Option D
 | .int i=>if(bits:Int) / (1*2^i.toNat) % 2=1 then some (.int i)else none
 | _=>none
theorem aW1 {h:Nat}{l:List D}:∀ d∈l.filterMap (aD5 h),∀ n,d.bnd n=true:=λ d hd n=>by
 obtain⟨x,hx,e⟩:=cF.mp hd
 cases x with
 | int i =>
  simp only[aD5]at e
  split at e
  ·cases e;rfl
  ·cases e
 | _=>cases e
theorem aS6 {P:Pr}[Has P ai1][Has P aj5](n:Nat){s:Sto}{r:Nat}(hs:∃ b,s[r]?=some (zo b))(k:Int)(h0:0<=k)(h:k<=5) :
  ∃(y:Nat) (b:Nat×Nat),(aa1 P (n+2)).call "_law_rooms" [.ref r,.int k] s=.ok (.tup ((qO 0 k).filterMap (aD5 y))) (s.set r (zo b)):=by
 have e0:(aa1 P (n+2)).call "_law_rooms" [.ref r,.int k] s=_:=zb aj5 (n:=n+1) rfl
 have hr:=aM4 hs
 have hp:(1:Int)*2^k.toNat<=32:=by
  have:k.toNat<=5:=by omega
  have C:(2:Nat)^k.toNat<=2^5:=jf (by decide) this
  have h3:((2^k.toNat:Nat):Int)<=32:=by exact_mod_cast C
  rw[gA];simpa using h3
 have J:(0:Int)<1*2^k.toNat:=by rw[gA];exact Int.pow_pos (by decide)
 obtain⟨y,b,hb,eb⟩:=qp (P:=P) n hs (1*2^k.toNat) J (am4 (by omega))
 rw[e0]
 simp only[aj5,qw,ae3,ab7,ab6,aa7,qh,ad8,ac8,ac9,aJ,bP,bV,bM,qf,qg,R.bind_ok,aU4 ⟨h0,by omega⟩,eb,zG]
 simp only[aG,ad1,qy,aB,aa3,R.bind_ok,zN,qw,ab4,ae4,ah3,av2,aa9,qh,qf,qg]
 rw[qT (by unfold W62;omega) (by unfold W62;omega)]
 simp only[R.bind_ok]
 rw[if_pos (by simp[qO];unfold LIM;omega)]
 have key:∃(ρ':Env) (s':Sto),ak0 (λ G=>chk (s.set r (zo b)) G []) (aI4 (aa1 P (n+1)) (.one 0) (.cmp .eq (.bin .mod (.bin .fdiv (.var 1) (.bin .shl (.cst (.int 1)) (.var 0))) (.cst (.int 2))) (.cst (.int 1))) (.var 0)) (qO 0 k) (zS [some (.ref r),some (.int k),some (.int y)] [none,some 2]) (s.set r (zo b))=.ok ((qO 0 k).filterMap (aD5 y)) s'/\(s'=s.set r (zo b)/\∃ x,ρ'=[x,some (D.int y)]):=by
  refine zu (λ ρ u=>u=s.set r (zo b)/\∃ x,ρ=[x,some (.int y)]) (aD5 y) (qO 0 k) _ _ ⟨rfl,none,rfl⟩ (λ _ _ _=>rfl) ?_
  rintro d hd ρ u ⟨rfl,x,rfl⟩
  obtain⟨j,hj⟩:=c7 hd
  obtain⟨C,rfl⟩:=qI hj
  refine⟨[some (.int (0+j)),some (.int y)],_,?_,rfl,_,rfl⟩
  have Z:j<5:=by omega
  have a1:(1:Int)*2^((0:Int)+j).toNat<=32:=by
   have:((0:Int)+j).toNat<=5:=by omega
   have C:(2:Nat)^((0:Int)+j).toNat<=2^5:=jf (by decide) this
   have h3:((2^((0:Int)+j).toNat:Nat):Int)<=32:=by exact_mod_cast C
   rw[gA];simpa using h3
  have z:(0:Int)<1*2^((0:Int)+j).toNat:=by rw[gA];exact Int.pow_pos (by decide)
  unfold aI4
  simp only[zG,qy,ac7,ad8,qh,ac8,ac9,qf,qg,R.bind_ok]
  rw[aU4 ⟨by omega,by omega⟩]
  simp only[R.bind_ok]
  rw[ax9 z (by omega)]
  simp only[R.bind_ok]
  rw[ar2 (by decide)]
  simp only[R.bind_ok,ae9,ad0]
  simp[aD5]
  split<;>rfl
 obtain⟨ρ',s',e,Y⟩:=key
 rw[e]
 obtain⟨rfl,_⟩:=Y
 refine⟨y,b,?_⟩
 simp only[R.bind_ok,mk,ac0,ab9]
 exact qH (λ m=>by unfold D.bnd;exact zr aW1 m) (by nofun) rfl
theorem bo9 {k:Nat}(h:k<3)(s:Sto):ixM (.str [97,98,99]) (.int (k:Int)) s=.ok (.str [97+k]) s:=by
 match k,h with
 | 0,_=>rfl
 | 1,_=>rfl
 | 2,_=>rfl
theorem aw8 {P:Pr}[Has P ai1](n:Nat){s t:Sto}{r:Nat}(hr:r<s.length)(b:Nat×Nat)(many:Int)(h0:0<many)(h:many<=10^90) :
  ∃(k:Nat) (y:Nat×Nat),(k:Int)<many/\(aa1 P (n+1)).call "_law_take" [.ref r,.int many] (s.set r (zo b)++t)=.ok (.int k) (s.set r (zo y)++t):=by
 obtain⟨k,y,C,z⟩:=qp (P:=P) n (s:=s.set r (zo b)++t) (r:=r) ⟨b,zD (z0 hr)⟩ many h0 h
 refine⟨k,y,C,?_⟩
 rw[z,ar5 (by rw[bz];exact hr),dB]
theorem bL3 {s t:Sto}{r:Nat}{b:Nat×Nat}{l:List D}{v:D}(h:l.length<LIM):meth .append (.ref s.length) [v] (s.set r (zo b)++(.lst l::t))=.ok .non (s.set r (zo b)++(.lst (l++[v])::t)):=by
 rw[qJ (l:=l) (by rw[aM (by simp)];simp) h]
 congr 1
 rw[iJ,if_neg (by simp)]
 simp
theorem aK5 {a b:List Nat}{s:Sto}(h:a.length+b.length<=LIM):qB .add (.str a) (.str b) s=.ok (.str (a++b)) s:=by
 show(if a.length+b.length<=LIM then _ else _:M D) s=_;rw[if_pos h];rfl
def Lts (L:Nat)(w:List Nat):Prop:=∀ c∈w,97<=c/\c<97+L
theorem rep_len (l:List Nat):∀ n,(rep n l).length=l.length*n
 | 0=>by simp[rep]
 | n+1=>by simp[rep,rep_len l n,kI];omega
noncomputable def bF3 (L:Nat)(d:D):Bool:=match d with
 | .str w=>decide (w.length<=200)&&w.all λ c=>decide (97<=c/\c<97+L)
 | _=>false
theorem bz3 {P:Pr}{x:String}{v:D}[HasC P x v]{n:Nat}{ρ:Env}{s:Sto}:ev (aa1 P n) (.glob x) ρ s=.ok v s:=by
 show(match(aa1 P n).con x with|some d=>R.ok d s|none=>.bad)=_
 rw[aW9 (v:=v)]
noncomputable abbrev aJ8:List D:=[.str [97],.str [98],.str [99]]
theorem bC2 {L:Nat}(h:L<=3)(s:Sto):slM (.tup aJ8) none (some (L:Int)) s=.ok (.tup (aJ8.take L)) s:=by
 match L,h with
 | 0,_=>rfl
 | 1,_=>rfl
 | 2,_=>rfl
 | 3,_=>rfl
theorem an0 {P:Pr}[Has P ad7][HasC P "LETTERS" (.tup aJ8)](n:Nat){L:Nat}(h:L<=3)(l:List D)(s:Sto):(aa1 P (n+1)).call "letters_of" [.tup (.int L::l)] s=.ok (.tup (aJ8.take L)) s:=by
 refine(zb ad7 rfl).trans ?_
 have y:ixM (.tup (.int L::l)) (.int ((0:Nat):Int)) s=.ok (.int L) s:=ix_tup rfl
 simp -implicitDefEqProofs [ad7,bz3 (v:=.tup aJ8)]
 rw[show(0:Int)=((0:Nat):Int)from rfl,y]
 simp only[R.bind_ok]
 rw[bC2 h]
 simp -implicitDefEqProofs
 match L,h with
 | 0,_=>exact zp (λ _=>rfl) (by nofun)
 | 1,_=>exact zp (λ _=>rfl) (by nofun)
 | 2,_=>exact zp (λ _=>rfl) (by nofun)
 | 3,_=>exact zp (λ _=>rfl) (by nofun)
theorem qE {a b:D}{s:Sto}:qx .isin a b s=(inM a b s).bind λ r s=>.ok (.bl r) s:=rfl
@[simp] theorem cb6 {F:Fns} {ρ:Env} {s:Sto} (a:E):ev F (.neg a) ρ s=(ev F a ρ s).bind λ x s=>match x with|.int i=>.ok (.int (-i)) s|_=>.bad:=rfl
structure Dr where
 a:Nat
 l:Nat
 b:Nat
 t:Nat
noncomputable def Dr.d (x:Dr):D:=.tup [.int x.a,.str [x.l],.int x.b,.int x.t]
structure Mc where
 L:Nat
 R:Nat
 bg:List Nat
 en:List Nat
 ds:List Dr
noncomputable def zq (l:List Nat):List D:=l.map λ(k:Nat)=>D.int (k:Int)
noncomputable def Mc.ps (m:Mc):List D:=[.int m.L,.int m.R,.tup (zq m.bg),.tup (zq m.en),.tup (m.ds.map Dr.d)]
noncomputable def Mc.d (m:Mc):D:=.tup m.ps
structure Dr.Ok (m:Mc)(x:Dr):Prop where
 a:x.a<m.R
 l:97<=x.l/\x.l<97+m.L
 b:x.b<m.R
 t:x.t<4
structure Mc.Ok (m:Mc):Prop where
 L1:1<=m.L
 L3:m.L<=3
 R1:1<=m.R
 R5:m.R<=5
 bg:(∀ k∈m.bg,k<m.R)/\m.bg.Pairwise (· < ·)
 en:(∀ k∈m.en,k<m.R)/\m.en.Pairwise (· < ·)
 ds:(∀ x∈m.ds,x.Ok m)/\m.ds.length<=75
theorem qu {l:List Nat}:∀ d∈zq l,∀ n,d.bnd n=true:=λ d hd n=>by
 obtain⟨c,_,rfl⟩:=aH.mp hd;rfl
theorem aq1 {l:List Dr}:∀ d∈l.map Dr.d,∀ n,d.bnd n=true:=λ d hd n=>by
 obtain⟨c,_,rfl⟩:=aH.mp hd;rfl
theorem bv0 {m:Mc}:∀ d∈m.ps,∀ n,d.bnd n=true:=λ d hd n=>by
 simp only[Mc.ps,aP,bC,or_false]at hd
 rcases hd with rfl|rfl|rfl|rfl|rfl
 ·rfl
 ·rfl
 ·unfold D.bnd;exact zr qu n
 ·unfold D.bnd;exact zr qu n
 ·unfold D.bnd;exact zr aq1 n
theorem bn1 (m:Mc)(n:Nat):m.d.bnd n=true:=by unfold Mc.d D.bnd;exact zr bv0 n
noncomputable def aP0 (bits k:Nat):List Nat:=(bj k).filter λ i=>decide (bits / 2^i % 2=1)
theorem ba4 (h k:Nat):(∀ i∈aP0 h k,i<k)/\(aP0 h k).Pairwise (· < ·) :=
 ⟨λ i hi=>bN.mp (iB.mp hi).1,lP _ List.pairwise_lt_range⟩
theorem bf7 (y:Nat)(k:Nat):(qO 0 (k:Int)).filterMap (aD5 y)=zq (aP0 y k):=by
 unfold qO aP0 zq
 simp only[iy,bp]
 rw[bo]
 induction (bj k)with
 | nil=>rfl
 | cons i l ih =>
  rw[bJ,List.filter_cons]
  have e:((y:Int) / (1*2^((0:Int)+(i:Int)).toNat) % 2=1)↔(y / 2^i % 2=1):=by
   rw[gA,show((0:Int)+(i:Int)).toNat=i by omega]
   have:((y:Int) / 2^i % 2)=((y / 2^i % 2:Nat):Int):=by simp
   rw[this];omega
  simp only[cA,aD5]
  by_cases h:y / 2^i % 2=1
  ·rw[if_pos (e.mpr h)]
   simp only[h,decide_true,if_true,aJ]
   rw[<-ih,fO]
  ·rw[if_neg λ z=>h (e.mp z)]
   simp only[h,decide_false]
   exact ih
theorem aK7 {P:Pr}[Has P ai1][Has P aj5](n:Nat){s:Sto}{r:Nat}(hs:∃ b,s[r]?=some (zo b))(k:Nat)(h:k<=5) :
  ∃(l:List Nat) (b:Nat×Nat),((∀ i∈l,i<k)/\l.Pairwise (· < ·))/\(aa1 P (n+2)).call "_law_rooms" [.ref r,.int k] s=.ok (.tup (zq l)) (s.set r (zo b)):=by
 obtain⟨y,b,e⟩:=aS6 (P:=P) n hs k (by omega) (by omega)
 rw[bf7]at e
 exact⟨_,b,ba4 y k,e⟩
section
variable {P:Pr}
theorem ay8 {l:List D}{s:Sto}(j:Nat){d:D}(h:l[j]?=some d):ixM (.tup l) (.int (j:Int)) s=.ok d s:=ix_tup h
theorem ixL (m:Mc)(s:Sto):ixM m.d (.int 0) s=.ok (.int m.L) s:=ay8 0 rfl
theorem ixR (m:Mc)(s:Sto):ixM m.d (.int 1) s=.ok (.int m.R) s:=ay8 1 rfl
theorem ixB (m:Mc)(s:Sto):ixM m.d (.int 2) s=.ok (.tup (zq m.bg)) s:=ay8 2 rfl
theorem ixE (m:Mc)(s:Sto):ixM m.d (.int 3) s=.ok (.tup (zq m.en)) s:=ay8 3 rfl
theorem ixD (m:Mc)(s:Sto):ixM m.d (.int 4) s=.ok (.tup (m.ds.map Dr.d)) s:=ay8 4 rfl
theorem qv [Has P ag6](n:Nat)(m:Mc)(s:Sto):(aa1 P (n+1)).call "rooms_of" [m.d] s=.ok (.int m.R) s:=by
 refine(zb ag6 rfl).trans ?_
 simp -implicitDefEqProofs [ag6,ixR]
theorem ap6 {s:Sto}{l:List D}(h:∀ d∈l,∀ n,d.bnd n=true):zH s (.tup l) s=.ok (.tup l) s:=zp (λ n=>by unfold D.bnd;exact zr h n) (by nofun)
theorem qo [Has P ag0](n:Nat)(m:Mc)(s:Sto):(aa1 P (n+1)).call "begins_of" [m.d] s=.ok (.tup (zq m.bg)) s:=by
 refine(zb ag0 rfl).trans ?_
 simp -implicitDefEqProofs [ag0,ixB,ap6 qu]
theorem qL [Has P ah1](n:Nat)(m:Mc)(s:Sto):(aa1 P (n+1)).call "ends_of" [m.d] s=.ok (.tup (zq m.en)) s:=by
 refine(zb ah1 rfl).trans ?_
 simp -implicitDefEqProofs [ah1,ixE,ap6 qu]
theorem qR [Has P ag5](n:Nat)(m:Mc)(s:Sto):(aa1 P (n+1)).call "doors_of" [m.d] s=.ok (.tup (m.ds.map Dr.d)) s:=by
 refine(zb ag5 rfl).trans ?_
 simp -implicitDefEqProofs [ag5,ixD,ap6 aq1]
@[simp] theorem ca0 (a b:Nat) (s:Sto):qx .ne (.str [a]) (.str [b]) s=.ok (.bl (!decide (a=b))) s:=by
 show(match eqv s DEEP (.str [a]) (.str [b])with|some r=>R.ok (D.bl (!r)) s|none=>.bad)=_
 have:eqv s DEEP (.str [a]) (.str [b])=some ([a]==[b]):=rfl
 rw[this]
 have e:([a]==[b])=decide (a=b):=by rw[eA];simp
 rw[e]
@[simp] theorem am6 (a b:Nat) (s:Sto):qx .eq (.str [a]) (.str [b]) s=.ok (.bl (decide (a=b))) s:=by
 show(match eqv s DEEP (.str [a]) (.str [b])with|some r=>R.ok (D.bl r) s|none=>.bad)=_
 have:eqv s DEEP (.str [a]) (.str [b])=some ([a]==[b]):=rfl
 rw[this]
 have e:([a]==[b])=decide (a=b):=by rw[eA];simp
 rw[e]
theorem bX9 (x:Dr)(s:Sto):ixM x.d (.int 0) s=.ok (.int x.a) s:=ay8 0 rfl
theorem bZ8 (x:Dr)(s:Sto):ixM x.d (.int 1) s=.ok (.str [x.l]) s:=ay8 1 rfl
theorem bV4 (x:Dr)(s:Sto):ixM x.d (.int 2) s=.ok (.int x.b) s:=ay8 2 rfl
theorem bX8 (x:Dr)(s:Sto):ixM x.d (.int 3) s=.ok (.int x.t) s:=ay8 3 rfl
end
noncomputable def ag2 (S:Int->Prop):Option Int->Prop
 | none=>∀ c,¬ S c
 | some c=>S c/\∀ c',S c'->c<=c'
theorem ag2.eq {S S':Int->Prop}{o y:Option Int}(h:ag2 S o)(h':ag2 S' y)(e:∀ c,S c↔S' c):o=y:=by
 cases o with
 | none =>
  cases y with
  | none=>rfl
  | some c=>exact absurd ((e c).mpr h'.1) (h c)
 | some c =>
  cases y with
  | none=>exact absurd ((e c).mp h.1) (h' c)
  | some c' =>
   have C:=h.2 c' ((e c').mpr h'.1)
   have z:=h'.2 c ((e c).mp h.1)
   rw[show c=c' by omega]
theorem ag2.congr {S S':Int->Prop}{o:Option Int}(h:ag2 S o)(e:∀ c,S c↔S' c):ag2 S' o:=by
 cases o with
 | none=>exact λ c hc=>h c ((e c).mpr hc)
 | some c=>exact⟨(e c).mp h.1,λ y hc=>h.2 y ((e y).mpr hc)⟩
noncomputable def minO:Option Int->Option Int->Option Int
 | none,x=>x
 | some a,none=>some a
 | some a,some b=>if b<a then some b else some a
theorem ag2.or {S S':Int->Prop}{o y:Option Int}(h:ag2 S o)(h':ag2 S' y):ag2 (λ c=>S c\/S' c) (minO o y):=by
 cases o with
 | none =>
  cases y with
  | none=>exact λ c hc=>hc.elim (h c) (h' c)
  | some b=>exact⟨.inr h'.1,λ c hc=>hc.elim (λ z=>absurd z (h c)) (h'.2 c)⟩
 | some a =>
  cases y with
  | none=>exact⟨.inl h.1,λ c hc=>hc.elim (h.2 c) (λ z=>absurd z (h' c))⟩
  | some b =>
   show ag2 _ (if b<a then some b else some a)
   by_cases hlt:b<a
   ·rw[if_pos hlt]
    exact⟨.inr h'.1,λ c hc=>hc.elim (λ z=>by have:=h.2 c z;omega) (h'.2 c)⟩
   ·rw[if_neg hlt]
    exact⟨.inl h.1,λ c hc=>hc.elim (h.2 c) (λ z=>by have:=h'.2 c z;omega)⟩
theorem ag2.add {S:Int->Prop}{o:Option Int}(h:ag2 S o)(k:Int):ag2 (λ c=>∃ y,S y/\c=y+k) (o.map (·+k)):=by
 cases o with
 | none=>rintro c ⟨y,h',_⟩;exact h y h'
 | some a=>exact⟨⟨a,h.1,rfl⟩,by rintro c ⟨y,h',rfl⟩;have:=h.2 y h';show a+k<=y+k;omega⟩
noncomputable def Wk (ds:List Dr):List Nat->Nat->Nat->Int->Prop
 | [],p,q,c=>p=q/\c=0
 | x::w,p,q,c=>∃ d∈ds,d.a=p/\d.l=x/\∃ c':Int,Wk ds w d.b q c'/\c=(d.t:Int)+c'
theorem ar1 {ds:List Dr}{x:Nat}:∀ {w:List Nat} {p q:Nat} {c:Int},Wk ds (w++[x]) p q c↔∃ d∈ds,d.l=x/\d.b=q/\∃ z:Int,Wk ds w p d.a z/\c=z+(d.t:Int)
 | [],p,q,c=>by
  constructor
  ·rintro⟨d,hd,rfl,hx,z,⟨Y,G⟩,rfl⟩
   exact⟨d,hd,hx,Y,0,⟨rfl,rfl⟩,by omega⟩
  ·rintro⟨d,hd,hx,hb,z,⟨Y,G⟩,rfl⟩
   exact⟨d,hd,Y.symm,hx,0,⟨hb,rfl⟩,by omega⟩
 | y::w,p,q,c=>by
  constructor
  ·rintro⟨d,hd,ha,hy,z,h,rfl⟩
   obtain⟨e,J,hx,hb,C,G,rfl⟩:=ar1.mp h
   exact⟨e,J,hx,hb,d.t+C,⟨d,hd,ha,hy,C,G,rfl⟩,by omega⟩
  ·rintro⟨e,J,hx,hb,z,⟨d,hd,ha,hy,C,G,rfl⟩,rfl⟩
   exact⟨d,hd,ha,hy,C+e.t,ar1.mpr ⟨e,J,hx,hb,C,G,rfl⟩,by omega⟩
noncomputable def Dr.turn (x:Dr):Dr:=⟨x.b,x.l,x.a,x.t⟩
theorem aw5 {ds:List Dr}:∀ {w:List Nat} {p q:Nat} {c:Int},Wk (ds.map Dr.turn) w.reverse q p c↔Wk ds w p q c
 | [],p,q,c=>by
  constructor
  ·rintro⟨G,C⟩;exact⟨G.symm,C⟩
  ·rintro⟨G,C⟩;exact⟨G.symm,C⟩
 | x::w,p,q,c=>by
  rw[dN,ar1]
  constructor
  ·rintro⟨d,hd,hl,hb,y,h,rfl⟩
   obtain⟨e,z,rfl⟩:=aH.mp hd
   exact⟨e,z,hb,hl,y,aw5.mp h,by show y+(e.t:Int)=_;omega⟩
  ·rintro⟨e,z,ha,hl,y,h,rfl⟩
   exact⟨e.turn,aH.mpr ⟨e,z,rfl⟩,hl,ha,y,aw5.mpr h,by show _=y+(e.t:Int);omega⟩
def Mc.Wk (m:Mc)(w:List Nat)(c:Int):Prop:=∃ p∈m.bg,∃ q∈m.en,DV.Wk m.ds w p q c
noncomputable def Mc.turn (m:Mc):Mc:=⟨m.L,m.R,m.en,m.bg,m.ds.map Dr.turn⟩
theorem Mc.turn_ok {m:Mc}(h:m.Ok):m.turn.Ok:=⟨h.L1,h.L3,h.R1,h.R5,h.en,h.bg,λ x hx=>by
 obtain⟨e,y,rfl⟩:=aH.mp hx
 have:=h.ds.1 e y
 exact⟨this.b,this.l,this.a,this.t⟩,by rw[show m.turn.ds=m.ds.map Dr.turn from rfl,aq];exact h.ds.2⟩
theorem Mc.turn_wk {m:Mc}{w:List Nat}{c:Int}:m.turn.Wk w.reverse c↔m.Wk w c:=by
 constructor
 ·rintro⟨p,hp,q,hq,h⟩;exact⟨q,hq,p,hp,aw5.mp h⟩
 ·rintro⟨p,hp,q,hq,h⟩;exact⟨q,hq,p,hp,aw5.mpr h⟩
noncomputable def zL (row:List (Option Int)):List D:=row.map zn
theorem ao9 (h:List (Option Int)):(zL h).length=h.length:=aq ..
theorem am7 {y:List (Option Int)}{k:Nat}{o:Option Int}(h:y[k]?=some o):(zL y)[k]?=some (zn o):=by unfold zL;rw[az,h];rfl
theorem au6 {s T:Sto}{k:Nat}{o:O}(h:s.length<=k):(s++T).set k o=s++T.set (k - s.length) o:=by rw[iJ,if_neg (by omega)]
def qC (S:Nat->Int->Prop)(row:List (Option Int)):Prop:=∀ k o,row[k]?=some o->ag2 (S k) o
theorem aE4 {s:Sto}{k:Nat}:∀ {l:List Nat},inL s (.int k) (zq l)=some (decide (k∈l))
 | []=>rfl
 | a::l=>by
  have y:=aE4 (s:=s) (k:=k) (l:=l)
  have e:eqv s DEEP (.int (a:Int)) (.int (k:Int))=some ((a:Int)==(k:Int)):=rfl
  show(match eqv s DEEP (.int (a:Int)) (.int (k:Int)),inL s (.int k) (zq l)with|some a,some b=>some (a||b)|_,_=>none)=_
  rw[e,y]
  show some (((a:Int)==(k:Int))||decide (k∈l))=some _
  congr 1
  rw[eA]
  simp
  constructor
  ·rintro(h|h)
   ·exact .inl (by omega)
   ·exact .inr h
  ·rintro(h|h)
   ·exact .inl (by omega)
   ·exact .inr h
theorem al8 {s:Sto}{k:Nat}{l:List Nat}:inM (.int k) (.tup (zq l)) s=.ok (decide (k∈l)) s:=by unfold inM;simp only[aE4]
theorem aw3 (b:Bool)(s:Sto):bi .int [.bl b] s=.ok (.int (if b then 1 else 0)) s:=by cases b<;>rfl
theorem au9:∀ l:List Int,qq (l.map D.int)=some l
 | []=>rfl
 | a::l=>by rw[aJ];unfold qq;rw[au9 l];rfl
theorem aE0:∀(l:List Int) (a:Int),(l.foldl min a=a\/l.foldl min a∈l)/\l.foldl min a<=a/\∀ y∈l,l.foldl min a<=y
 | [],a=>⟨.inl rfl,fm _,λ y hy=>by cases hy⟩
 | b::l,a=>by
  obtain⟨C,G,h3⟩:=aE0 l (min a b)
  rw[dD]
  refine⟨?_,by omega,λ y hy=>?_⟩
  ·rcases C with h|h
   ·rw[h]
    rcases lG a b with z|z
    ·left;omega
    ·right;rw[show min a b=b by omega];exact aN ..
   ·exact .inr (aF _ h)
  ·rcases aP.mp hy with z|z
   ·rw[z];omega
   ·exact h3 y z
theorem at6 (l:List Int):ag2 (λ c=>c∈l) (minI l):=by
 cases l with
 | nil=>exact λ c hc=>by cases hc
 | cons a l =>
  obtain⟨G,C,h3⟩:=aE0 l a
  refine⟨?_,λ y hy=>?_⟩
  ·rcases G with h|h
   ·rw[h];exact aN ..
   ·exact aF _ h
  ·rcases aP.mp hy with z|z
   ·rw[z];exact C
   ·exact h3 y z
theorem aI5 (l:List Int)(s:Sto):mkD .min (l.map D.int) .non s=.ok (zn (minI l)) s:=by
 unfold mkD
 simp only[au9]
 cases minI l<;>rfl
def bn9 (m:Mc)(w:List Nat)(s:Sto)(x:R D):Prop:=∃ o,ag2 (m.Wk w) o/\x=.ok (zn o) s
def am5 (S:Nat->Int->Prop)(x:Nat)(ds:List Dr)(k:Nat)(c:Int):Prop:=∃ d∈ds,d.l=x/\d.b=k/\∃ c':Int,S d.a c'/\c=c'+(d.t:Int)
theorem al3 {S:Nat->Int->Prop}{x:Nat}{ds:List Dr}{d:Dr}{G:List (Option Int)}(h:qC (am5 S x ds) G)(hn:∀ y,¬(d.l=x/\S d.a y)):qC (am5 S x (ds++[d])) G:=λ k o hk=>by
 refine(h k o hk).congr λ c=>?_
 constructor
 ·rintro⟨e,C,r⟩;exact⟨e,aX.mpr (.inl C),r⟩
 ·rintro⟨e,C,hl,hb,y,hs,r⟩
  rcases aX.mp C with z|z
  ·exact⟨e,z,hl,hb,y,hs,r⟩
  ·rw[bf.mp z]at hl hs;exact absurd ⟨hl,hs⟩ (hn y)
theorem aD9 {S:Nat->Int->Prop}{x:Nat}{ds:List Dr}{d:Dr}{C:List (Option Int)}{i:Int}(h:qC (am5 S x ds) C)(hx:d.l=x)(hi:ag2 (S d.a) (some i)){o:Option Int}(ho:C[d.b]?=some o) :
  qC (am5 S x (ds++[d])) (C.set d.b (minO o (some (i+d.t)))):=λ k G hk=>by
 have hlt:d.b<C.length:=(ac.mp ho).1
 by_cases e:d.b=k
 ·subst e
  rw[bn hlt]at hk
  cases hk
  refine((h _ o ho).or (hi.add d.t)).congr λ c=>?_
  constructor
  ·rintro(⟨e,y,r⟩|r)
   ·exact⟨e,aX.mpr (.inl y),r⟩
   ·exact⟨d,aX.mpr (.inr (bf.mpr rfl)),hx,rfl,r⟩
  ·rintro⟨e,y,hl,hb,r⟩
   rcases aX.mp y with z|z
   ·exact .inl ⟨e,z,hl,hb,r⟩
   ·rw[bf.mp z]at r;exact .inr r
 ·rw[aY e]at hk
  refine(h k G hk).congr λ c=>?_
  constructor
  ·rintro⟨e,y,r⟩;exact⟨e,aX.mpr (.inl y),r⟩
  ·rintro⟨e',y,hl,hb,r⟩
   rcases aX.mp y with z|z
   ·exact⟨e',z,hl,hb,r⟩
   ·rw[bf.mp z]at hb;exact absurd hb e
def qN (m:Mc)(w:List Nat)(k:Nat)(c:Int):Prop:=∃ p∈m.bg,Wk m.ds w p k c
theorem aB5 {m:Mc}{w:List Nat}{x k:Nat}{c:Int}:am5 (qN m w) x m.ds k c↔qN m (w++[x]) k c:=by
 constructor
 ·rintro⟨d,hd,hl,hb,y,⟨p,hp,h⟩,rfl⟩
  exact⟨p,hp,ar1.mpr ⟨d,hd,hl,hb,y,h,rfl⟩⟩
 ·rintro⟨p,hp,h⟩
  obtain⟨d,hd,hl,hb,y,z,rfl⟩:=ar1.mp h
  exact⟨d,hd,hl,hb,y,⟨p,hp,z⟩,rfl⟩
theorem qz {m:Mc}{w:List Nat}{C:List (Option Int)}(J:C.length=m.R)(Z:∀ k∈m.en,k<m.R)(h:qC (qN m w) C):ag2 (m.Wk w) (minI (m.en.filterMap λ q=>C.getD q none)):=by
 have at_:∀ q∈m.en,∃ o,C[q]?=some o/\C.getD q none=o/\ag2 (qN m w q) o:=λ q hq=>by
  have hlt:q<C.length:=by rw[J];exact Z q hq
  exact⟨C[q],ag hlt,by simp[lv,hlt],h q _ (ag hlt)⟩
 have G:∀ c,c∈(m.en.filterMap λ q=>C.getD q none)↔∃ q∈m.en,C.getD q none=some c:=λ c=>cF
 have hl:=at6 (m.en.filterMap λ q=>C.getD q none)
 cases e:minI (m.en.filterMap λ q=>C.getD q none)with
 | none =>
  rw[e]at hl
  rintro c ⟨p,hp,q,hq,hw⟩
  obtain⟨o,h1,Y,h3⟩:=at_ q hq
  cases o with
  | none=>exact h3 c ⟨p,hp,hw⟩
  | some y=>exact hl y ((G y).mpr ⟨q,hq,Y⟩)
 | some z =>
  rw[e]at hl
  obtain⟨q,hq,hz⟩:=(G z).mp hl.1
  refine⟨?_,λ c hc=>?_⟩
  ·obtain⟨o,h1,Y,h3⟩:=at_ q hq
   rw[Y]at hz;subst hz
   obtain⟨p,hp,hw⟩:=h3.1
   exact⟨p,hp,q,hq,hw⟩
  ·obtain⟨p,hp,q,hq,hw⟩:=hc
   obtain⟨o,h1,Y,h3⟩:=at_ q hq
   cases o with
   | none=>exact absurd ⟨p,hp,hw⟩ (h3 c)
   | some y =>
    have h4:=h3.2 c ⟨p,hp,hw⟩
    have h5:=hl.2 y ((G y).mpr ⟨q,hq,Y⟩)
    omega
theorem zl {α β:Type}{f g:α->Option β}:∀ {l:List α},(∀ x∈l,f x=g x)->l.filterMap f=l.filterMap g
 | [],_=>rfl
 | a::l,h=>by rw[bJ,bJ,h a (aN ..),zl λ x hx=>h x (aF _ hx)]
theorem bf3 {P:Pr}[Has P ah9](n:Nat){m:Mc}(hm:m.Ok)(w:List Nat)(hw:w.length<=1000)(s:Sto):bn9 m w s ((aa1 P (n+1)).call "_law_price" [m.d,.str w] s):=by
 have e0:(aa1 P (n+1)).call "_law_price" [m.d,.str w] s=_:=zb ah9 (n:=n) rfl
 rw[e0]
 have h5:=hm.R5
 simp -implicitDefEqProofs [ah9,ixR]
 rw[qT (by unfold W62;omega) (by unfold W62;omega)]
 simp only[R.bind_ok]
 rw[if_pos (by simp[qO];unfold LIM;omega)]
 obtain⟨ρ1,s1,e1,T1,d0⟩:=zu (ok:=λ a5=>chk s a5 []) (g:=zY (aa1 P n) (.one 0) (.ix (.lst (.cons (.cst .non) (.cons (.cst (.int 0)) .nil))) (.bi .int (.cons (.cmp .isin (.var 0) (.ix (.var 1) (.cst (.int 2)))) .nil)))) (λ ρ u=>∃ T,u=s++T/\∃ x,ρ=[x,some m.d])
  (λ d=>match d with|.int i=>some (zn (if i.toNat∈m.bg then some 0 else none))|_=>none) (qO 0 m.R) (zS [some m.d,some (.str w),none,none,none,none,none,none,none] [none,some 0]) s ⟨[],by simp,none,rfl⟩ (λ _ _ _=>rfl) (by
   rintro d hd ρ u ⟨T,rfl,x,rfl⟩
   obtain⟨j,hj⟩:=c7 hd
   obtain⟨f0,rfl⟩:=qI hj
   rw[fO]
   have b5:=al8 (s:=s++T++[.lst [.non,.int 0]]) (k:=j) (l:=m.bg)
   have hl:(s++T++[O.lst [.non,.int 0]])[(s++T).length]?=some (.lst [.non,.int 0]):=by simp
   by_cases hb:j∈m.bg
   ·have b2:ixM (.ref (s++T).length) (.int 1) (s++T++[O.lst [.non,.int 0]])=.ok (.int 0) _:=qP (j:=1) hl rfl
    refine⟨[some (.int j),some m.d],s++T++[.lst [.non,.int 0]],?_,T++[.lst [.non,.int 0]],by simp,_,rfl⟩
    unfold zY
    simp -implicitDefEqProofs only[zG,qy,ag9,ad4,qK,ab5,ac8,ad3,ac9,R.bind_ok,qk,ah0,ac7,qh,qf,qg,ixB,qE,b5,hb,decide_true,aw3,if_true,b2,bp,qd]
   ·have b2:ixM (.ref (s++T).length) (.int 0) (s++T++[O.lst [.non,.int 0]])=.ok .non _:=qP (j:=0) hl rfl
    refine⟨[some (.int j),some m.d],s++T++[.lst [.non,.int 0]],?_,T++[.lst [.non,.int 0]],by simp,_,rfl⟩
    unfold zY
    simp -implicitDefEqProofs only[zG,qy,ag9,ad4,qK,ab5,ac8,ad3,ac9,R.bind_ok,qk,ah0,ac7,qh,qf,qg,ixB,qE,b5,hb,decide_false,aw3,if_false,au,b2,bp,zF])
 obtain⟨rfl,x1,rfl⟩:=d0
 have b4:(qO 0 (m.R:Int)).filterMap (λ d=>match d with|.int i=>some (zn (if i.toNat∈m.bg then some 0 else none))|_=>none)=zL ((bj m.R).map λ k=>if k∈m.bg then some 0 else none):=by
  unfold qO zL
  rw[bo,cO,<-bH]
  simp only[iy,bp]
  refine zl λ k _=>?_
  simp only[cA,fO,bp]
 rw[b4]at e1
 rw[e1]
 simp -implicitDefEqProofs [mk]
 have sW:qV (.str w) (s++(T1++[O.lst (zL (lQ (λ k=>if k∈m.bg then some 0 else none) (bj m.R)))]))=.ok ⟨w.map λ c=>.str [c],[]⟩ _:=rfl
 rw[sW]
 simp only[R.bind_ok]
 refine zA (W:=bn9 m w s) (λ j ρ u=>∃(T:Sto) (k2:Nat) (C:List (Option Int)) (x3 x4 x5 x6 x7 x8:Option D),u=s++T/\s.length<=k2/\u[k2]?=some (.lst (zL C))/\C.length=m.R/\qC (qN m (w.take j)) C/\ρ=[some m.d,some (.str w),some (.ref k2),x3,x4,x5,x6,x7,x8])
  ⟨_,s.length+T1.length,(bj m.R).map (λ k=>if k∈m.bg then some 0 else none),_,_,_,_,_,_,rfl,by omega,by rw[<-bX,<-aw];simp,by simp,?_,rfl⟩ (λ _ _ _ _ _=>rfl) ?_ ?_
 ·intro k o hk
  rw[az]at hk
  by_cases hkR:k<m.R
  ·rw[di hkR]at hk
   cases hk
   show ag2 _ (if k∈m.bg then some 0 else none)
   by_cases hb:k∈m.bg
   ·rw[if_pos hb]
    exact⟨⟨k,hb,rfl,rfl⟩,by rintro c ⟨p,_,_,rfl⟩;omega⟩
   ·rw[if_neg hb]
    rintro c ⟨p,hp,rfl,_⟩;exact hb hp
  ·rw[bT (by simp;omega)]at hk;cases hk
 ·rintro j d ρ u hj ⟨T,k2,C,x3,x4,x5,x6,x7,x8,rfl,d3,g2,a1,a3,rfl⟩
  obtain⟨c,hc,rfl⟩:∃ c,w[j]?=some c/\d=.str [c]:=by
   rw[az]at hj
   cases e:w[j]? with
   | none=>rw[e]at hj;cases hj
   | some c=>rw[e]at hj;cases hj;exact⟨c,rfl,rfl⟩
  have e5:k2<(s++T).length:=(ac.mp g2).1
  have sq:qV (.ref k2) (s++T)=.ok ⟨zL C,[k2]⟩ (s++T):=by simp only[qV,g2]
  obtain⟨ρ2,s2,e2,b7,_⟩:=zu (ok:=λ a5=>chk (s++T) a5 [k2]) (g:=zY (aa1 P n) (.one 0) (.cst .non)) (λ ρ u=>u=s++T/\∃ x,ρ=[x]) (λ _=>some .non) (zL C) (zS [some m.d,some (.str w),some (.ref k2),some (.str [c]),x4,x5,x6,x7,x8] [none]) (s++T) ⟨rfl,none,rfl⟩ (λ _ _ h=>by rw[h.1];simp[chk]) (by
   rintro d _ ρ u ⟨rfl,x,rfl⟩
   exact⟨[some d],s++T,by unfold zY;simp -implicitDefEqProofs,rfl,_,rfl⟩)
  subst b7
  have d1:(zL C).filterMap (λ _=>some D.non)=zL (C.map λ _=>none):=by
   unfold zL
   rw[cO,bo,<-bH]
   exact zl λ _ _=>rfl
  rw[d1]at e2
  have b8:(zL C).length<=LIM:=by rw[ao9,a1];unfold LIM;omega
  have sD:∀ S,qV (.tup (m.ds.map Dr.d)) S=.ok ⟨m.ds.map Dr.d,[]⟩ S:=λ _=>rfl
  conv=>arg 2;simp -implicitDefEqProofs [turn,sq,b8,e2,mk,ixD,sD]
  rw[<-bX,<-aw]
  have c3:(s++T++[O.lst (zL (C.map λ _=>none))])[(s++T).length]?=some (.lst (zL (C.map λ _=>none))):=by simp
  have b6:s.length<=(s++T).length:=by simp
  generalize e6:(s++T).length=k4 at *
  have e4:w.take j++[c]=w.take (j+1):=by
   have hlt:j<w.length:=(ac.mp hc).1
   have e:w[j]=c:=(ac.mp hc).2
   rw[<-e,cc]
  refine zA (W:=Nx _) (λ i ρ v=>∃(G:Sto) (J:List (Option Int)) (y5 y6 y7 y8:Option D),v=s++G/\v[k2]?=some (.lst (zL C))/\v[k4]?=some (.lst (zL J))/\J.length=m.R/\qC (am5 (qN m (w.take j)) c (m.ds.take i)) J/\ρ=[some m.d,some (.str w),some (.ref k2),some (.str [c]),some (.ref k4),y5,y6,y7,y8])
   ⟨T++[.lst (zL (C.map λ _=>none))],C.map λ _=>none,_,_,_,_,by simp,zD g2,c3,by simp[a1],?_,rfl⟩ (λ _ _ _ _ _=>rfl) ?_ ?_
  ·intro k o hk
   rw[az]at hk
   cases e:C[k]? with
   | none=>rw[e]at hk;cases hk
   | some _ =>
    rw[e]at hk;cases hk
    rintro c' ⟨d,hd,_⟩
    rw[jg]at hd;cases hd
  ·rintro i d ρ v hi ⟨G,J,y5,y6,y7,y8,rfl,a6,g4,a2,Z,rfl⟩
   obtain⟨x,hx,rfl⟩:∃ x,m.ds[i]?=some x/\d=x.d:=by
    rw[az]at hi
    cases e:m.ds[i]? with
    | none=>rw[e]at hi;cases hi
    | some x=>rw[e]at hi;cases hi;exact⟨x,rfl,rfl⟩
   have hok:=hm.ds.1 x (aQ hx)
   have a7:m.ds.take (i+1)=m.ds.take i++[x]:=by
    have hlt:i<m.ds.length:=(ac.mp hx).1
    have e:m.ds[i]=x:=(ac.mp hx).2
    rw[<-e,cc]
   obtain⟨oa,ha⟩:∃ o,C[x.a]?=some o:=⟨C[x.a]'(by rw[a1];exact hok.a),ag _⟩
   obtain⟨ob,hb⟩:∃ o,J[x.b]?=some o:=⟨J[x.b]'(by rw[a2];exact hok.b),ag _⟩
   have ia:ixM (.ref k2) (.int x.a) (s++G)=.ok (zn oa) (s++G):=qP a6 (am7 ha)
   have ib:ixM (.ref k4) (.int x.b) (s++G)=.ok (zn ob) (s++G):=qP g4 (am7 hb)
   have d2:k2≠k4:=by omega
   have c2:k4<(s++G).length:=(ac.mp g4).1
   have a4:x.d=.tup [.int x.a,.str [x.l],.int x.b,.int x.t]:=rfl
   have stay:qC (am5 (qN m (w.take j)) c (m.ds.take (i+1))) J->∃(b3:Sto) (Y:List (Option Int)) (z5 z6 z7 z8:Option D),s++G=s++b3/\(s++G)[k2]?=some (.lst (zL C))/\(s++G)[k4]?=some (.lst (zL Y))/\Y.length=m.R/\qC (am5 (qN m (w.take j)) c (m.ds.take (i+1))) Y/\[some m.d,some (.str w),some (.ref k2),some (.str [c]),some (.ref k4),some (.int x.a),some (.str [x.l]),some (.int x.b),some (.int x.t)]=[some m.d,some (.str w),some (.ref k2),some (.str [c]),some (.ref k4),z5,z6,z7,z8]:=λ h=>⟨G,J,_,_,_,_,rfl,a6,g4,a2,h,rfl⟩
   by_cases hl:x.l=c
   ·cases oa with
    | none =>
     refine zX (ρ:=[some m.d,some (.str w),some (.ref k2),some (.str [c]),some (.ref k4),some (.int x.a),some (.str [x.l]),some (.int x.b),some (.int x.t)]) (s:=s++G) ?_ (stay ?_)
     ·simp -implicitDefEqProofs only[turn,a4,aa5,aa2,aa6,ad1,qy,aB,aC,qw,ab4,ae2,ae7,ac7,qh,qf,qg,R.bind_ok,am6,hl,decide_true,ad0,if_true,ac2,ag9,ia,zF,aU,if_false,au,zN]
     ·rw[a7]
      refine al3 Z λ c' b0=>?_
      exact a3 x.a none ha c' b0.2
    | some y =>
     have b1:=aD9 Z hl (a3 x.a (some y) ha) hb
     have a8:setIx (.ref k4) (.int x.b) (.int (y+x.t)) (s++G)=.ok () ((s++G).set k4 (.lst (zL (J.set x.b (some (y+x.t)))))):=by
      rw[aY3 g4 (by rw[ao9,a2];exact hok.b)]
      unfold zL
      rw[lJ];rfl
     have a9:minO ob (some (y+x.t))=some (y+x.t)->∃(b3:Sto) (Y:List (Option Int)) (z5 z6 z7 z8:Option D),(s++G).set k4 (.lst (zL (J.set x.b (some (y+x.t)))))=s++b3/\((s++G).set k4 (.lst (zL (J.set x.b (some (y+x.t))))))[k2]?=some (.lst (zL C))/\((s++G).set k4 (.lst (zL (J.set x.b (some (y+x.t))))))[k4]?=some (.lst (zL Y))/\Y.length=m.R/\qC (am5 (qN m (w.take j)) c (m.ds.take (i+1))) Y/\[some m.d,some (.str w),some (.ref k2),some (.str [c]),some (.ref k4),some (.int x.a),some (.str [x.l]),some (.int x.b),some (.int x.t)]=[some m.d,some (.str w),some (.ref k2),some (.str [c]),some (.ref k4),z5,z6,z7,z8]:=λ h =>
      ⟨_,J.set x.b (some (y+x.t)),_,_,_,_,au6 b6,by rw[aY (cV d2)];exact a6,z0 c2,by simp[a2],by rw[a7,<-h];exact b1,rfl⟩
     cases ob with
     | none =>
      refine zX (ρ:=[some m.d,some (.str w),some (.ref k2),some (.str [c]),some (.ref k4),some (.int x.a),some (.str [x.l]),some (.int x.b),some (.int x.t)]) (s:=(s++G).set k4 (.lst (zL (J.set x.b (some (y+x.t)))))) ?_ (a9 rfl)
      simp -implicitDefEqProofs [turn,a4,hl,ia,ib,a8]
     | some z =>
      by_cases hlt:y+x.t<z
      ·refine zX (ρ:=[some m.d,some (.str w),some (.ref k2),some (.str [c]),some (.ref k4),some (.int x.a),some (.str [x.l]),some (.int x.b),some (.int x.t)]) (s:=(s++G).set k4 (.lst (zL (J.set x.b (some (y+x.t)))))) ?_ (a9 (by show(if y+(x.t:Int)<z then _ else _)=_;rw[if_pos hlt]))
       simp -implicitDefEqProofs [turn,a4,hl,ia,ib,a8,hlt]
      ·refine zX (ρ:=[some m.d,some (.str w),some (.ref k2),some (.str [c]),some (.ref k4),some (.int x.a),some (.str [x.l]),some (.int x.b),some (.int x.t)]) (s:=s++G) ?_ (stay ?_)
       ·simp -implicitDefEqProofs [turn,a4,hl,ia,ib,hlt]
       ·rw[a7]
        have e:minO (some z) (some (y+(x.t:Int)))=some z:=by show(if y+(x.t:Int)<z then _ else _)=_;rw[if_neg hlt]
        rw[e]at b1
        have e2:J.set x.b (some z)=J:=by
         have e7:x.b<J.length:=(ac.mp hb).1
         have e3:J[x.b]=some z:=(ac.mp hb).2
         rw[<-e3,dJ]
        rwa [e2]at b1
   ·refine zX (ρ:=[some m.d,some (.str w),some (.ref k2),some (.str [c]),some (.ref k4),some (.int x.a),some (.str [x.l]),some (.int x.b),some (.int x.t)]) (s:=s++G) ?_ (stay ?_)
    ·simp -implicitDefEqProofs [turn,a4,hl]
    ·rw[a7]
     exact al3 Z λ c' b0=>hl b0.1
  ·rintro ρ v ⟨G,J,y5,y6,y7,y8,rfl,a6,g4,a2,Z,rfl⟩
   rw[aq,cQ]at Z
   refine zX (ρ:=[some m.d,some (.str w),some (.ref k4),some (.str [c]),some (.ref k4),y5,y6,y7,y8]) (s:=s++G) (by simp -implicitDefEqProofs) ⟨G,k4,J,_,_,_,_,_,_,rfl,b6,g4,a2,?_,rfl⟩
   intro k o hk
   rw[<-e4]
   exact(Z k o hk).congr λ c=>aB5
 ·rintro ρ u ⟨T,k2,C,x3,x4,x5,x6,x7,x8,rfl,d3,g2,a1,a3,rfl⟩
  rw[aq,cQ]at a3
  have sE:qV (.tup (zq m.en)) (s++T)=.ok ⟨zq m.en,[]⟩ (s++T):=rfl
  have f1:m.en.length<=5:=by
   have nd:m.en.Nodup:=hm.en.2.imp (λ h=>ax h)
   have:=cH (l₂:=bj m.R) nd (λ x hx=>bN.mpr (hm.en.1 x hx))
   simp at this;omega
  obtain⟨ρ3,s3,e3,d4,_⟩:=zu (ok:=λ a5=>chk (s++T) a5 []) (g:=aI4 (aa1 P n) (.one 0) (.notN (.ix (.var 1) (.var 0))) (.ix (.var 1) (.var 0))) (λ ρ u=>u=s++T/\∃ x,ρ=[x,some (.ref k2)]) (λ d=>match d with|.int i=>(C.getD i.toNat none).map D.int|_=>none) (zq m.en) (zS [some m.d,some (.str w),some (.ref k2),x3,x4,x5,x6,x7,x8] [none,some 2]) (s++T) ⟨rfl,none,rfl⟩ (λ _ _ h=>rfl) (by
   rintro d hd ρ u ⟨rfl,x,rfl⟩
   obtain⟨q,hq,rfl⟩:=aH.mp hd
   have hlt:q<C.length:=by rw[a1];exact hm.en.1 q hq
   have ix:=qP (s:=s++T) g2 (am7 (ag hlt))
   refine⟨[some (.int q),some (.ref k2)],s++T,?_,rfl,_,rfl⟩
   have hg:C.getD ((q:Int).toNat) none=C[q]:=by simp[lv,hlt]
   unfold aI4
   simp only[hg]
   cases e:C[q]with
   | none=>rw[e]at ix;simp -implicitDefEqProofs [ix]
   | some y=>rw[e]at ix;simp -implicitDefEqProofs [ix])
  subst d4
  have c1:(zq m.en).filterMap (λ d=>match d with|.int i=>(C.getD i.toNat none).map D.int|_=>none)=(m.en.filterMap λ q=>C.getD q none).map D.int:=by
   unfold zq
   rw[bo,jS]
   exact zl λ q _=>rfl
  rw[c1]at e3
  refine⟨_,qz a1 hm.en.1 a3,?_⟩
  have c4:(zq m.en).length<=LIM:=by unfold zq;rw[aq];unfold LIM;omega
  simp -implicitDefEqProofs [ixE,sE,c4,e3,aI5]
  exact qF (aw1 _) (az5 _)
theorem good_of {L:Nat}{w:List Nat}(h:w.length<=200)(hw:Lts L w):bF3 L (.str w)=true:=by
 unfold bF3
 simp only[h,decide_true,jA,bq,decide_eq_true_eq]
 exact hw
@[simp] theorem bY8 {F:Fns} {ρ:Env} {s:Sto} (a lo hi:E):ev F (.slLU a lo hi) ρ s=(ev F a ρ s).bind λ x s=>(ev F lo ρ s).bind λ y s=>match y with|.int i=>(ev F hi ρ s).bind (λ z s=>match z with|.int j=>slM x (some i) (some j) s|_=>.bad)|_=>.bad:=rfl
@[simp] theorem bT5 {F:Fns} {ρ:Env} {s:Sto} (e:E):evI F (.enum (.seq e)) ρ s=(ev F e ρ s).bind λ d s=>(bh0 d s).bind λ q s=>.ok ⟨bB0 0 q.its,q.src⟩ s:=rfl
def McL (L Rm:Nat)(s:Sto)(r:Nat)(x:R D):Prop:=∃(m:Mc) (b:Nat×Nat),m.Ok/\m.L=L/\m.R=Rm/\x=.ok m.d (s.set r (zo b))
theorem aM1 {P : Pr} [Has P ai1] [Has P aj5] [Has P ak4] (n : Nat) {s : Sto} {r L Rm : Nat} (hL1 : 1 <= L) (hL3 : L <= 3) (hR1 : 1 <= Rm) (hR5 : Rm <= 5) (hs : ∃ b, s[r]? = some (zo b)) : McL L Rm s r ((aa1 P (n + 3)).call "_law_sized" [.ref r, .int L, .int Rm, .int 3] s) := by
  have e0 : (aa1 P (n + 3)).call "_law_sized" [.ref r, .int L, .int Rm, .int 3] s = _ := zb ak4 (n := n + 2) rfl
  have hr := aM4 hs
  obtain⟨m1, b3, hm1, e3⟩ := qp (P := P) (n + 1) hs 13 (by decide) (by decide)
  obtain⟨m2, b4, hm2, e4⟩ := qp (P := P) (n + 1) (aG0 (b := b3) hr) 8 (by decide) (by decide)
  rw[dB]at e4
  obtain⟨m3, b5, hm3, e5⟩ := qp (P := P) (n + 1) (aG0 (b := b4) hr) 76 (by decide) (by decide)
  rw[dB]at e5
  rw[e0]
  simp -implicitDefEqProofs [ak4, e3, e4]
  obtain ⟨many, bb, hmany, hif⟩ : ∃ (many : Nat) (bb : Nat × Nat), many <= 75 /\ (if (m2 : Int) = 7 then
                      ((aa1 P (n + 2)).call "_law_take" [D.ref r, D.int 76] (List.set s r (zo b4))).bind λ d s =>
                        R.ok
                          (Ct.next [some (D.ref r), some (D.int L), some (D.int Rm), some (D.int 3), some d, none, none, none, none]) s
                    else
                      R.ok
                        (Ct.next
                          [some (D.ref r), some (D.int L), some (D.int Rm), some (D.int 3), some (D.int ↑m1), none, none, none, none])
                        (List.set s r (zo b4))) = .ok (.next [some (.ref r), some (.int L), some (.int Rm), some (.int 3), some (.int many), none, none, none, none]) (s.set r (zo bb)) := by
    by_cases h7 : (m2 : Int) = 7
    · exact⟨m3, b5, by omega, by rw[if_pos h7, e5]; rfl⟩
    · exact⟨m1, b4, by omega, by rw[if_neg h7]⟩
  rw[hif]
  simp -implicitDefEqProofs
  rw[qT (by unfold W62; omega) (by unfold W62; omega)]
  simp only[R.bind_ok]
  refine zA (W := McL L Rm s r) (λ j ρ u => ∃(b : Nat × Nat) (l : List Dr) (x y z : Option D), (∀ d ∈ l, d.Ok ⟨L, Rm, [], [], []⟩) /\ l.length = j /\ ρ = [some (.ref r), some (.int L), some (.int Rm), some (.int 3), some (.int many), some (.ref s.length), x, y, z] /\ u = s.set r (zo b) ++ [.lst (l.map Dr.d)]) ⟨bb, [], none, none, none, by simp, rfl, rfl, rfl⟩ (λ _ _ _ _ _ => rfl) ?_ ?_
  · rintro j d ρ u hj ⟨b, l, x, y, z, hl, hlen, rfl, rfl⟩
    obtain⟨hj2, rfl⟩ := qI hj
    obtain⟨k1, c1, hk1, f1⟩ := aw8 (P := P) (n + 1) (t := [.lst (l.map Dr.d)]) hr b Rm (by omega) (am4 (by omega))
    obtain⟨k2, c2, hk2, f2⟩ := aw8 (P := P) (n + 1) (t := [.lst (l.map Dr.d)]) hr c1 L (by omega) (am4 (by omega))
    obtain⟨k3, c3, hk3, f3⟩ := aw8 (P := P) (n + 1) (t := [.lst (l.map Dr.d)]) hr c2 Rm (by omega) (am4 (by omega))
    obtain⟨k4, c4, hk4, f4⟩ := aw8 (P := P) (n + 1) (t := [.lst (l.map Dr.d)]) hr c3 4 (by decide) (by decide)
    refine zX (ρ := [some (.ref r), some (.int L), some (.int Rm), some (.int 3), some (.int many), some (.ref s.length), some (.int j), some (.int k1), some (.str [97 + k2])]) (s := s.set r (zo c4) ++ [.lst ((l ++ [(⟨k1, 97 + k2, k3, k4⟩ : Dr)]).map Dr.d)]) ?_ ⟨c4, l ++ [(⟨k1, 97 + k2, k3, k4⟩ : Dr)], _, _, _, ?_, ?_, rfl, rfl⟩
    · simp -implicitDefEqProofs [turn, f1, f2, f3, f4, bo9 (show k2 < 3 by omega)]
      rw[bL3 (by unfold LIM; simp; omega)]
      rfl
    · intro d hd
      rcases aX.mp hd with h|h
      · exact hl d h
      · rw[bf.mp h]; constructor <;> simp only <;> omega
    · simp[hlen]
  · rintro ρ u ⟨b, l, x, y, z, hl, hlen, rfl, rfl⟩
    obtain⟨l1, c1, g1, f1⟩ := aK7 (P := P) n (s := s.set r (zo b) ++ [.lst (l.map Dr.d)]) (r := r) ⟨b, zD (z0 hr)⟩ Rm (by omega)
    rw[ar5 (by rw[bz]; exact hr), dB]at f1
    obtain⟨l2, c2, g2, f2⟩ := aK7 (P := P) n (s := s.set r (zo c1) ++ [.lst (l.map Dr.d)]) (r := r) ⟨c1, zD (z0 hr)⟩ Rm (by omega)
    rw[ar5 (by rw[bz]; exact hr), dB]at f2
    have hl3 : (s.set r (zo c2) ++ [O.lst (l.map Dr.d)])[s.length]? = some (.lst (l.map Dr.d)) := by rw[aM (by simp)]; simp
    have hll : l.length <= 75 := by
      rw[hlen]; simp[qO]; omega
    simp -implicitDefEqProofs [f1, f2, bC8, hl3, mk]
    refine⟨⟨L, Rm, l1, l2, l⟩, c2, ⟨hL1, hL3, hR1, hR5, g1, g2, λ x hx => ?_, hll⟩, rfl, rfl, ?_⟩
    · have := hl x hx
      exact⟨this.a, this.l, this.b, this.t⟩
    · exact aA3 (bn1 ⟨L, Rm, l1, l2, l⟩) (by nofun) rfl
theorem am9 {P:Pr}[Has P ag8](n:Nat)(i lo hi:Int)(s:Sto):(aa1 P (n+1)).call "_law_whole" [.int i,.int lo,.int hi] s=.ok (.bl (decide (lo<=i)&&decide (i<=hi))) s:=by
 refine(zb ag8 rfl).trans ?_
 by_cases h:lo<=i<;>simp -implicitDefEqProofs [ag8,h]
theorem ao0 {P:Pr}[Has P ag8][Has P ag3](n:Nat){l:List Nat}{k:Nat}(h:(∀ i∈l,i<k)/\l.Pairwise (· < ·))(s:Sto):(aa1 P (n+2)).call "_law_are_rooms" [.tup (zq l),.int k] s=.ok (.bl true) s:=by
 have z:(aa1 P (n+2)).call "_law_are_rooms" [.tup (zq l),.int k] s=_:=zb ag3 (n:=n+1) rfl
 rw[z]
 have J:qV (.tup (zq l)) s=.ok ⟨zq l,[]⟩ s:=rfl
 simp -implicitDefEqProofs [ag3,J]
 refine aL5 (λ j ρ t=>t=s/\∃(a:Int) (x:Option D),ρ=[some (.tup (zq l)),some (.int k),some (.int a),x]/\(∀ i∈l.drop j,a<(i:Int))) ⟨rfl,-1,none,rfl,λ i _=>by omega⟩ (λ _ _ _ _ _=>rfl) ?_ ?_
 ·rintro j d ρ t hj ⟨rfl,a,x,rfl,ha⟩
  obtain⟨i,hi,rfl⟩:∃ i,l[j]?=some i/\d=.int (i:Int):=by
   unfold zq at hj
   rw[az]at hj
   cases e:l[j]? with
   | none=>rw[e]at hj;cases hj
   | some i=>rw[e]at hj;cases hj;exact⟨i,rfl,rfl⟩
  have hlt:j<l.length:=(ac.mp hi).1
  have hij:l[j]=i:=(ac.mp hi).2
  have hd:l.drop j=i::l.drop (j+1):=by rw[<-hij,d7 hlt]
  have G:a+1<=(i:Int):=by have:=ha i (by rw[hd];exact aN ..);omega
  have C:(i:Int)<=(k:Int) - 1:=by have:=h.1 i (aQ hi);omega
  refine zX (ρ:=[some (.tup (zq l)),some (.int k),some (.int i),some (.int i)]) (s:=t) ?_ ⟨rfl,i,_,rfl,λ y hy=>?_⟩
  ·simp -implicitDefEqProofs [turn,am9 (P:=P) n,G,C]
  ·have hp:=h.2
   rw[<-iU j l,fA]at hp
   have:=hp.2.1
   rw[hd,jT]at this
   have:=this.1 y hy
   omega
 ·rintro ρ t ⟨rfl,a,x,rfl,_⟩
  simp -implicitDefEqProofs
theorem aJ5 {P:Pr}[Has P ag8][Has P ag4](n:Nat){m:Mc}(C:m.Ok){x:Dr}(hx:x.Ok m)(s:Sto):(aa1 P (n+2)).call "_law_is_door" [x.d,.int m.L,.int m.R] s=.ok (.bl true) s:=by
 have e0:(aa1 P (n+2)).call "_law_is_door" [x.d,.int m.L,.int m.R] s=_:=zb ag4 (n:=n+1) rfl
 rw[e0]
 have z:x.d=.tup [.int x.a,.str [x.l],.int x.b,.int x.t]:=rfl
 have G:=bX9 x
 have Z:=bZ8 x
 have Y:=bV4 x
 have J:=bX8 x
 rw[z]at G Z Y J ⊢
 have ha:=hx.a;have hb:=hx.b;have ht:=hx.t;have hl:=hx.l
 have iS:bi .isStr [.str [x.l]] s=.ok (.bl true) s:=rfl
 have y:slM (.str [97,98,99]) none (some (m.L:Int)) s=.ok (.str ([97,98,99].take m.L)) s:=by
  have h3:=C.L3
  show R.ok (D.str (am0 [97,98,99] none (some (m.L:Int)))) s=_
  unfold am0
  simp only[loB,hiB,sbd,eV,lK]
  rw[if_pos (by omega),bp]
  show R.ok (D.str (List.take (min m.L 3) [97,98,99])) s=_
  rw[kN h3]
 have h:inM (.str [x.l]) (.str ([97,98,99].take m.L)) s=.ok true s:=by
  show R.ok (decide (x.l∈[97,98,99].take m.L)) s=_
  have h1:=C.L1
  have h3:=C.L3
  have:x.l∈[97,98,99].take m.L:=by
   rcases(show m.L=1\/m.L=2\/m.L=3 by omega)with e|e|e<;>(rw[e]at hl ⊢;simp;omega)
  rw[decide_eq_true this]
 have q1:(x.a:Int)<=(m.R:Int) - 1:=by omega
 have q2:(x.b:Int)<=(m.R:Int) - 1:=by omega
 have q3:(x.t:Int)<=3:=by omega
 simp -implicitDefEqProofs [ag4,G,Z,Y,J,iS,am9 (P:=P) n,q1,q2,q3,y,qE,h]
theorem as5 {P:Pr}[Has P ag8][Has P ag3][Has P ag4][Has P ad5](n:Nat){m:Mc}(h:m.Ok)(s:Sto):(aa1 P (n+3)).call "_law_is_machine" [m.d,.int m.L] s=.ok (.bl true) s:=by
 have e0:(aa1 P (n+3)).call "_law_is_machine" [m.d,.int m.L] s=_:=zb ad5 (n:=n+2) rfl
 rw[e0]
 have iT:bi .isTup [m.d] s=.ok (.bl true) s:=rfl
 have lT:bi .len [m.d] s=.ok (.int 5) s:=rfl
 have J:bi .isTup [.tup (m.ds.map Dr.d)] s=.ok (.bl true) s:=rfl
 have Y:bi .len [.tup (m.ds.map Dr.d)] s=.ok (.int m.ds.length) s:=by rw[aX5,aq]
 have h1:=h.R1;have h5:=h.R5;have Z:=h.ds.2
 have q1:(1:Int)<=(m.R:Int):=by omega
 have q2:(m.R:Int)<=5:=by omega
 have q3:¬((75:Int)<(m.ds.length:Int)):=by omega
 have sD:qV (.tup (m.ds.map Dr.d)) s=.ok ⟨m.ds.map Dr.d,[]⟩ s:=rfl
 obtain⟨ρ1,s1,e1,rfl,_⟩:=zu (ok:=λ y=>chk s y []) (g:=zY (aa1 P (n+2)) (.one 0) (.call "_law_is_door" (.ex (.var 0) (.ex (.var 1) (.ex (.ix (.var 2) (.cst (.int 1))) .nil))))) (λ ρ u=>u=s/\∃ a,ρ=[a,some (.int m.L),some m.d]) (λ _=>some (.bl true)) (m.ds.map Dr.d) (zS [some m.d,some (.int m.L)] [none,some 1,some 0]) s ⟨rfl,none,rfl⟩ (λ _ _ _=>rfl) (by
  rintro d hd ρ u ⟨rfl,a,rfl⟩
  obtain⟨x,hx,rfl⟩:=aH.mp hd
  exact⟨[some x.d,some (.int m.L),some m.d],u,by unfold zY;simp -implicitDefEqProofs [ixR,aJ5 (P:=P) n h (h.ds.1 x hx)],rfl,_,rfl⟩)
 have C:(m.ds.map Dr.d).length<=LIM:=by rw[aq];unfold LIM;omega
 have z:aj0 ((m.ds.map Dr.d).filterMap λ _=>some (D.bl true))=some (m.ds.map λ _=>true):=by
  rw[bo]
  generalize m.ds=l
  induction l with
  | nil=>rfl
  | cons a l ih=>rw[bJ];simp only[cA];unfold aj0;rw[ih];rfl
 have G:(m.ds.map λ _=>true).all id=true:=by simp
 simp -implicitDefEqProofs only[ad5,qw,ab4,aJ,bP,bV,bM,aG,ae2,ah5,ae6,ah0,qK,ab5,qh,qf,qg,R.bind_ok,iT,ad0,aU,if_false,au,ac7,lT,ac8,ac9,af2,decide_true,ab7,ab6,aa7,ag9,ixL,am9 (P:=P) (n+1),fm,gP,ixR,q1,q2,ixD,J,Y,ae5,q3,decide_false,ixB,ixE,ao0 (P:=P) n h.bg,ao0 (P:=P) n h.en,zN,ae4,ah3,qj,ab8,sD,C,if_true,e1,mk,z,G,ac0,ab9,ay0]
def WL (B:Nat)(l:List D):Prop:=∀ d∈l,∃ w:List Nat,d=.str w/\w.length<=B
theorem WL.app {B:Nat}{l m:List D}(h:WL B l)(y:WL B m):WL B (l++m):=λ d hd=>(aX.mp hd).elim (h d) (y d)
theorem WL.mono {B C:Nat}{l:List D}(h:WL B l)(y:B<=C):WL C l:=λ d hd=>by obtain⟨w,e,hw⟩:=h d hd;exact⟨w,e,by omega⟩
theorem WL.bnd {B:Nat}{l:List D}(h:WL B l):∀ d∈l,∀ n,d.bnd n=true:=λ d hd n=>by obtain⟨w,rfl,_⟩:=h d hd;rfl
def bI1 (s:Sto)(r B:Nat)(x:R D):Prop:=∃(w:List Nat) (b:Nat×Nat),w.length<=B/\x=.ok (.str w) (s.set r (zo b))
theorem be5 {P:Pr}[Has P ai1][Has P ao2](n:Nat){s:Sto}{r L:Nat}(C:1<=L)(h:L<=3)(hs:∃ b,s[r]?=some (zo b))(B:Nat)(hB:B<=500):bI1 s r B ((aa1 P (n+2)).call "_law_word" [.ref r,.int L,.int B] s):=by
 have y:(aa1 P (n+2)).call "_law_word" [.ref r,.int L,.int B] s=_:=zb ao2 (n:=n+1) rfl
 have hr:=aM4 hs
 obtain⟨a,b1,ha,e1⟩:=qp (P:=P) n hs ((B:Int)+1) (by omega) (am4 (by omega))
 rw[y]
 simp -implicitDefEqProofs [ao2,e1]
 rw[qT (by unfold W62;omega) (by unfold W62;omega)]
 simp only[R.bind_ok]
 refine zA (W:=bI1 s r B) (λ j ρ u=>∃(b:Nat×Nat) (w:List Nat) (x:Option D),w.length=j/\ρ=[some (.ref r),some (.int L),some (.int B),some (.str w),x]/\u=s.set r (zo b)) ⟨b1,[],none,rfl,rfl,rfl⟩ (λ _ _ _ _ _=>rfl) ?_ ?_
 ·rintro j d ρ u hj ⟨b,w,x,hl,rfl,rfl⟩
  obtain⟨z,rfl⟩:=qI hj
  obtain⟨k,c,hk,f⟩:=qp (P:=P) n (aG0 (b:=b) hr) L (by omega) (am4 (by omega))
  rw[dB]at f
  refine zX (ρ:=[some (.ref r),some (.int L),some (.int B),some (.str (w++[97+k])),some (.int j)]) (s:=s.set r (zo c)) ?_ ⟨c,_,_,by simp[hl],rfl,rfl⟩
  simp -implicitDefEqProofs [turn,f,bo9 (show k<3 by omega)]
  rw[aK5 (by unfold LIM;simp;omega)]
  rfl
 ·rintro ρ u ⟨b,w,x,hl,rfl,rfl⟩
  simp -implicitDefEqProofs
  refine⟨w,b,?_,qH (λ _=>rfl) (by nofun) rfl⟩
  rw[hl];simp[qO];omega
theorem aI6 {S:Sto}{k:Nat}{l m:List D}(h:S[k]?=some (.lst l))(hl:l.length+m.length<=LIM):bm6 (.ref k) m S=.ok .non (S.set k (.lst (l++m))):=by
 simp only[bm6,h,hl,if_true]
theorem bh7 {S:Sto}{k q:Nat}{l m:List D}(h:S[k]?=some (.lst l))(hq:S[q]?=some (.lst m))(hl:l.length+m.length<=LIM):extS (.ref k) (.ref q) S=.ok .non (S.set k (.lst (l++m))):=by
 simp only[extS,hq];exact aI6 h hl
theorem bL0 {L:Nat}(h3:L<=3)(s:Sto):slM (.str [97,98,99]) none (some (L:Int)) s=.ok (.str ([97,98,99].take L)) s:=by
 show R.ok (D.str (am0 [97,98,99] none (some (L:Int)))) s=_
 unfold am0
 simp only[loB,hiB,sbd,eV,lK]
 rw[if_pos (by omega),bp]
 show R.ok (D.str (List.take (min L 3) [97,98,99])) s=_
 rw[kN h3]
def aW3 (s:Sto)(r:Nat)(x:R D):Prop:=∃(b:Nat×Nat) (ws:List D),WL 200 ws/\ws.length<=200/\x=.ok (.ref s.length) (s.set r (zo b)++[.lst ws])
theorem aS1 {s T:Sto}{r:Nat}{b:Nat×Nat}{ws:List D}(h:WL 200 ws)(hT:(s.set r (zo b)++T)[s.length]?=some (.lst ws)):zH s (.ref s.length) (s.set r (zo b)++T)=.ok (.ref s.length) (s.set r (zo b)++[.lst ws]):=by
 have y:(s.set r (zo b)++T).take s.length=s.set r (zo b):=by rw[dt (by simp),dA (by simp)]
 unfold zH
 rw[if_pos (aA2 s T r (zo b) rfl)]
 simp only
 rw[if_neg (by omega),hT]
 simp only
 rw[if_pos (show(O.lst ws).bnd s.length=true from zr h.bnd _),y]
theorem bb0 {P:Pr}[Has P ai1][Has P ao2][Has P ai4](n:Nat){s:Sto}{r L:Nat}(hL:1<=L)(b1:L<=3)(hs:∃ b,s[r]?=some (zo b)):aW3 s r ((aa1 P (n+3)).call "_law_words" [.ref r,.int L] s):=by
 have e0:(aa1 P (n+3)).call "_law_words" [.ref r,.int L] s=_:=zb ai4 (n:=n+2) rfl
 have hr:=aM4 hs
 rw[e0]
 simp -implicitDefEqProofs [ai4]
 rw[qT (by decide) (by decide)]
 simp only[R.bind_ok]
 refine zA (W:=aW3 s r) (λ j ρ u=>j<=3/\∃(T:Sto) (C:Nat) (ws J:List D) (x4 x5 x6 x7:Option D),u=s++T/\u[s.length]?=some (.lst ws)/\s.length<C/\u[C]?=some (.lst J)/\WL 200 ws/\ws.length<=1+27*j/\WL j J/\J.length<=3^j/\ρ=[some (.ref r),some (.int L),some (.ref s.length),some (.ref C),x4,x5,x6,x7])
  ⟨by omega,[.lst [.str []],.lst [.str []]],s.length+1,[.str []],[.str []],_,_,_,_,rfl,by simp,by omega,by rw[aM (by omega),show s.length+1 - s.length=1 by omega];rfl,λ d hd=>⟨[],by simpa using hd,by simp⟩,by simp,λ d hd=>⟨[],by simpa using hd,by simp⟩,by simp,rfl⟩ (λ _ _ _ _ _=>rfl) ?_ ?_
 ·rintro j d ρ u hj ⟨e7,T,C,ws,J,x4,x5,x6,x7,rfl,g2,c4,g3,a4,a3,a9,c1,rfl⟩
  obtain⟨f1,rfl⟩:=qI hj
  have e4:j<3:=by omega
  have f0:3^j<=9:=by
   rcases(show j=0\/j=1\/j=2 by omega)with e|e|e<;>rw[e]<;>decide
  have e6:C<(s++T).length:=(ac.mp g3).1
  have sq:∀ o,qV (.ref C) (s++(T++[o]))=.ok ⟨J,[C]⟩ (s++(T++[o])):=λ o=>by
   have:(s++(T++[o]))[C]?=some (.lst J):=by rw[<-bX];exact zD g3
   simp only[qV,this]
  conv=>arg 2;simp -implicitDefEqProofs [turn,sq]
  rw[<-bX,<-aw]
  have c2:(s++T++[O.lst []])[(s++T).length]?=some (.lst []):=by simp
  have g1:s.length<(s++T).length:=by omega
  have e2:(s++(T++[O.lst []]))[C]?=some (.lst J):=by rw[<-bX];exact zD g3
  generalize f4:(s++T).length=k5 at *
  refine zA (W:=Nx _) (λ i ρ v=>∃(h:Sto) (Z:List D) (y6:Option D),v=s++h/\v[s.length]?=some (.lst ws)/\v[C]?=some (.lst J)/\v[k5]?=some (.lst Z)/\WL (j+1) Z/\Z.length<=3*i/\i<=J.length/\ρ=[some (.ref r),some (.int L),some (.ref s.length),some (.ref C),some (.int (j:Int)),some (.ref k5),y6,x7])
   ⟨T++[.lst []],[],_,by simp,zD g2,zD g3,c2,λ d hd=>(by cases hd),by simp,by omega,rfl⟩ (λ i ρ v _ ⟨_,_,_,_,_,h3,_⟩=>by simp[chk,h3,e2]) ?_ ?_
  ·rintro i d ρ v hi ⟨h,Z,y6,rfl,z,b3,Y,a1,b6,a8,rfl⟩
   obtain⟨w,rfl,a3⟩:=a9 d (aQ hi)
   have e5:i<J.length:=(ac.mp hi).1
   have sS:qV (.str ([97,98,99].take L)) (s++h)=.ok ⟨([97,98,99].take L).map λ c=>.str [c],[]⟩ (s++h):=rfl
   obtain⟨ρ3,s3,e3,e1,_⟩:=zu (ok:=λ d3=>chk (s++h) d3 []) (g:=zY (aa1 P (n+2)) (.one 0) (.bin .add (.var 1) (.var 0))) (λ ρ u=>u=s++h/\∃ x,ρ=[x,some (.str w)]) (λ d=>match d with|.str c=>some (.str (w++c))|_=>none) (([97,98,99].take L).map λ c=>.str [c]) (zS [some (.ref r),some (.int L),some (.ref s.length),some (.ref C),some (.int (j:Int)),some (.ref k5),some (.str w),x7] [none,some 6]) (s++h) ⟨rfl,none,rfl⟩ (λ _ _ _=>rfl) (by
    rintro d hd ρ u ⟨rfl,x,rfl⟩
    obtain⟨c,_,rfl⟩:=aH.mp hd
    refine⟨[some (.str [c]),some (.str w)],s++h,?_,rfl,_,rfl⟩
    unfold zY
    simp -implicitDefEqProofs only[zG,qy,ad8,qh,qf,qg,R.bind_ok]
    rw[aK5 (by simp;unfold LIM;omega)]
    rfl)
   subst e1
   have b8:(([97,98,99].take L).map λ c=>D.str [c]).filterMap (λ d=>match d with|.str c=>some (D.str (w++c))|_=>none)=([97,98,99].take L).map λ c=>D.str (w++[c]):=by
    rw[bo,<-bH]
    exact zl λ _ _=>rfl
   rw[b8]at e3
   have a7:([97,98,99].take L).length=L:=by rw[bL];simp;omega
   have b5:(([97,98,99].take L).map λ c=>D.str [c]).length<=LIM:=by rw[aq,a7];unfold LIM;omega
   have a5:=aI6 (m:=([97,98,99].take L).map λ c=>D.str (w++[c])) Y (by rw[aq,a7];unfold LIM;omega)
   have b4:k5<(s++h).length:=(ac.mp Y).1
   refine zX (ρ:=[some (.ref r),some (.int L),some (.ref s.length),some (.ref C),some (.int (j:Int)),some (.ref k5),some (.str w),x7]) (s:=(s++h).set k5 (.lst (Z++([97,98,99].take L).map λ c=>D.str (w++[c])))) ?_ ⟨_,_,_,au6 (by omega),by rw[aY (by omega)];exact z,by rw[aY (by omega)];exact b3,z0 b4,a1.app λ d hd=>?_,?_,by omega,rfl⟩
   ·simp -implicitDefEqProofs only[turn,zG,ad1,qy,aB,qw,ab4,ah2,bn2,qh,qf,qg,R.bind_ok,qj,ab8,bN6,ac8,ae8,bL0 b1,sS,b5,if_true,e3,a5,zN]
   ·obtain⟨c,_,rfl⟩:=aH.mp hd
    exact⟨_,rfl,by simp;omega⟩
   ·rw[aw,aq,a7];omega
  ·rintro ρ v ⟨h,Z,y6,rfl,z,b3,Y,a1,b6,a8,rfl⟩
   have a5:=bh7 z Y (by unfold LIM;omega)
   have a6:s.length<(s++h).length:=(ac.mp z).1
   have g0:3^(j+1)=3^j*3:=lI ..
   have d4:WL 200 Z:=a1.mono (by omega)
   refine zX (ρ:=[some (.ref r),some (.int L),some (.ref s.length),some (.ref k5),some (.int (j:Int)),some (.ref k5),y6,x7]) (s:=(s++h).set s.length (.lst (ws++Z))) ?_ ⟨by omega,_,k5,ws++Z,Z,_,_,_,_,au6 (aj _),z0 a6,by omega,by rw[aY (by omega)];exact Y,a4.app d4,by rw[aw];omega,a1,?_,rfl⟩
   ·simp -implicitDefEqProofs only[zN,qw,ab4,ah2,bw5,qh,qf,qg,R.bind_ok,a5,ae3,zG,ad1,qy,aB,aa3]
   ·omega
 ·rintro ρ u ⟨_,T,C,ws,J,x4,x5,x6,x7,rfl,g2,c4,g3,a4,a3,a9,c1,rfl⟩
  have d0:(qO 0 (3:Int)).length=3:=by decide
  rw[d0]at a3
  simp -implicitDefEqProofs
  have g7:(s++(T++[O.lst [D.int 12,D.int 12,D.int 200]]))[s.length+T.length]?=some (.lst [D.int 12,D.int 12,D.int 200]):=by
   rw[<-bX,<-aw];simp
  have sq:qV (.ref (s.length+T.length)) (s++(T++[O.lst [D.int 12,D.int 12,D.int 200]]))=.ok ⟨[D.int 12,D.int 12,D.int 200],[s.length+T.length]⟩ (s++(T++[O.lst [D.int 12,D.int 12,D.int 200]])):=by simp only[qV,g7]
  rw[sq]
  simp only[R.bind_ok]
  have f2:s.length<s.length+T.length:=by
   have:=(ac.mp g2).1
   simpa using this
  have d1:(s++(T++[O.lst [D.int 12,D.int 12,D.int 200]]))[s.length]?=some (.lst ws):=by rw[<-bX];exact zD g2
  obtain⟨b0,d2⟩:=hs
  have b7:s.set r (zo b0)=s:=by
   have e:s[r]=zo b0:=(ac.mp d2).2
   rw[<-e,dJ]
  generalize s.length+T.length=k7 at *
  refine zA (W:=aW3 s r) (λ i ρ v=>∃(b:Nat×Nat) (h:Sto) (y:List D) (y7:Option D),v=s.set r (zo b)++h/\v[s.length]?=some (.lst y)/\v[k7]?=some (.lst [D.int 12,D.int 12,D.int 200])/\WL 200 y/\y.length<=100+i/\ρ=[some (.ref r),some (.int L),some (.ref s.length),some (.ref C),x4,x5,x6,y7])
   ⟨b0,_,ws,_,by rw[b7],d1,g7,a4,by omega,rfl⟩ (λ i ρ v _ ⟨_,_,_,_,_,_,h7,_⟩=>by simp[chk,h7,g7]) ?_ ?_
  ·rintro i d ρ v hi ⟨b,h,y,y7,rfl,z,b2,G,a2,rfl⟩
   obtain⟨B,hB,rfl⟩:∃ B:Nat,B<=200/\d=.int (B:Int):=by
    have hd:=aQ hi
    simp only[aP,bC,or_false]at hd
    rcases hd with rfl|rfl|rfl
    ·exact⟨12,by decide,rfl⟩
    ·exact⟨12,by decide,rfl⟩
    ·exact⟨200,by decide,rfl⟩
   have f5:i<3:=(ac.mp hi).1
   obtain⟨w,b',hw,ew⟩:=be5 (P:=P) n (s:=s.set r (zo b)++h) hL b1 ⟨b,zD (z0 hr)⟩ B (by omega)
   rw[ar5 (by rw[bz];exact hr),dB]at ew
   have hsr:s.length≠r:=by omega
   have gg:∀ k,k≠r->(s.set r (zo b')++h)[k]?=(s.set r (zo b)++h)[k]?:=λ k hk=>by
    have e:s.set r (zo b')++h=(s.set r (zo b)++h).set r (zo b'):=by rw[ar5 (by rw[bz];exact hr),dB]
    rw[e,aY (cV hk)]
   have c3:=qJ (v:=.str w) ((gg _ hsr).trans z) (by unfold LIM;omega)
   have a6:s.length<(s.set r (zo b')++h).length:=(ac.mp ((gg _ hsr).trans z)).1
   refine zX (ρ:=[some (.ref r),some (.int L),some (.ref s.length),some (.ref C),x4,x5,x6,some (.int B)]) (s:=(s.set r (zo b')++h).set s.length (.lst (y++[.str w]))) ?_ ⟨b',h.set (s.length - (s.set r (zo b')).length) (.lst (y++[.str w])),y++[.str w],_,au6 (by simp),z0 a6,by rw[aY (by omega),gg k7 (by omega)];exact b2,G.app λ d hd=>⟨w,bf.mp hd,by omega⟩,by simp;omega,rfl⟩
   simp -implicitDefEqProofs only[turn,zG,ad1,qy,aB,qw,ab4,ah2,ac3,qK,ab5,ab7,ab6,aa7,qh,qf,qg,R.bind_ok,ew,c3,zN]
  ·rintro ρ v ⟨b,h,y,y7,rfl,z,b2,G,a2,rfl⟩
   simp -implicitDefEqProofs
   have f3:y.length<=100+3:=a2
   exact⟨b,y,G,by omega,aS1 G z⟩
noncomputable def Dr.way (x:Dr):Nat×Nat×Nat:=(x.a,x.l,x.b)
noncomputable def Dr.wd (x:Dr):D:=.tup [.int x.a,.str [x.l],.int x.b]
noncomputable def Dr.en (x:Dr):D×D:=(x.wd,.int x.t)
theorem aM0 {x y:Dr}:y.wd=x.wd↔y.way=x.way:=by
 constructor
 ·intro h
  unfold Dr.wd at h
  simp only[D.tup.injEq,List.cons.injEq,D.int.injEq,D.str.injEq,and_true]at h
  unfold Dr.way
  rw[show y.a=x.a by omega,h.2.1,show y.b=x.b by omega]
 ·intro h
  unfold Dr.way at h
  simp only[jB]at h
  unfold Dr.wd
  rw[h.1,h.2.1,h.2.2]
theorem aK3 (x:Dr):∀ ds:List Dr,look x.wd (ds.map Dr.en)=(ds.find? λ y=>decide (y.way=x.way)).map λ y=>.int y.t
 | []=>rfl
 | y::ds=>by
  rw[aJ,c0]
  unfold look
  show(if y.wd=x.wd then some (D.int y.t)else look x.wd (ds.map Dr.en))=_
  by_cases h:y.way=x.way
  ·rw[if_pos (aM0.mpr h),decide_eq_true h];rfl
  ·rw[if_neg (λ z=>h (aM0.mp z)),decide_eq_false h,aK3 x ds]
noncomputable def ar4 (x:Dr)(ds:List Dr):Nat:=match ds.find? λ y=>decide (y.way=x.way)with
 | some y=>if y.t<x.t then y.t else x.t
 | none=>x.t
noncomputable def bp2 (x:Dr)(ds:List Dr):List Dr:=match ds.find? λ y=>decide (y.way=x.way)with
 | some _=>ds.map λ z=>if z.way=x.way then⟨z.a,z.l,z.b,ar4 x ds⟩else z
 | none=>ds++[x]
theorem bv1 (x:Dr)(ds:List Dr):av9 x.wd (.int (ar4 x ds)) (ds.map Dr.en)=(bp2 x ds).map Dr.en:=by
 unfold av9
 rw[aK3]
 unfold bp2
 generalize C:ar4 x ds=v
 unfold ar4 at C
 cases e:ds.find? λ y=>decide (y.way=x.way)with
 | none =>
  rw[e]at C
  subst C
  simp only[Option.map_none,jO,au,if_false,et]
  rfl
 | some y =>
  simp only[aB,fY,if_true,cO]
  refine jq λ z _=>?_
  show(if z.wd=x.wd then(z.wd,D.int v)else z.en)=_
  simp only[cA]
  by_cases h:z.way=x.way
  ·rw[if_pos (aM0.mpr h),if_pos h];rfl
  ·rw[if_neg (λ q=>h (aM0.mp q)),if_neg h]
structure Br (pre ds:List Dr):Prop where
 sub:∀ y∈ds,y∈pre
 dom:∀ x∈pre,∃ y∈ds,y.way=x.way/\y.t<=x.t
 nd:ds.Pairwise λ x y=>x.way≠y.way
theorem Br.nil:Br [] []:=⟨λ y h=>(by cases h),λ y h=>(by cases h),List.Pairwise.nil⟩
theorem Br.step {pre ds:List Dr}(h:Br pre ds)(x:Dr):Br (pre++[x]) (bp2 x ds):=by
 unfold bp2
 cases e:ds.find? λ y=>decide (y.way=x.way)with
 | none =>
  have hn:∀ y∈ds,y.way≠x.way:=λ y hy z=>by
   have:=List.find?_eq_none.mp e y hy
   simp[z]at this
  refine⟨λ y hy=>?_,λ d hd=>?_,?_⟩
  ·rcases aX.mp hy with z|z
   ·exact bB _ (h.sub y z)
   ·exact aZ _ z
  ·rcases aX.mp hd with z|z
   ·obtain⟨y,G,Z⟩:=h.dom d z
    exact⟨y,bB _ G,Z⟩
   ·rw[bf.mp z]
    exact⟨x,aZ _ (bf.mpr rfl),rfl,aj _⟩
  ·rw[fA]
   exact⟨h.nd,List.pairwise_singleton _ _,λ a ha b hb=>by rw[bf.mp hb];exact hn a ha⟩
 | some y =>
  have hy:y∈ds:=List.mem_of_find?_eq_some e
  have C:y.way=x.way:=by have:=List.find?_some e;simpa using this
  have hf:ar4 x ds=if y.t<x.t then y.t else x.t:=by unfold ar4;rw[e]
  have one:∀ z∈ds,z.way=x.way->z=y:=λ z hz q=>by
   have key:∀ l:List Dr,(l.Pairwise λ x y=>x.way≠y.way)->z∈l->y∈l->z=y:=by
    intro l
    induction l with
    | nil=>intro _ G;cases G
    | cons a l ih =>
     intro hp G Z
     rw[jT]at hp
     rcases aP.mp G with z1|z1<;>rcases aP.mp Z with z2|z2
     ·rw[z1,z2]
     ·exact absurd (by rw[<-z1,q,C]) (hp.1 y z2)
     ·exact absurd (by rw[<-z2,q,C]) (hp.1 z z1)
     ·exact ih hp.2 z1 z2
   exact key ds h.nd hz hy
  refine⟨λ d hd=>?_,λ d hd=>?_,?_⟩
  ·obtain⟨z,hz,rfl⟩:=aH.mp hd
   by_cases q:z.way=x.way
   ·rw[if_pos q,one z hz q,hf]
    by_cases hlt:y.t<x.t
    ·rw[if_pos hlt];exact bB _ (h.sub y hy)
    ·rw[if_neg hlt]
     have:(⟨y.a,y.l,y.b,x.t⟩:Dr)=x:=by
      unfold Dr.way at C
      simp only[jB]at C
      rw[C.1,C.2.1,C.2.2]
     rw[this];exact aZ _ (bf.mpr rfl)
   ·rw[if_neg q];exact bB _ (h.sub z hz)
  ·have Y:∀ z∈ds,∃ J∈ds.map (λ z=>if z.way=x.way then(⟨z.a,z.l,z.b,ar4 x ds⟩:Dr)else z),J.way=z.way/\J.t<=z.t/\(z.way=x.way->J.t<=x.t):=λ z hz=>by
    refine⟨_,be hz,?_⟩
    by_cases q:z.way=x.way
    ·rw[if_pos q,one z hz q,hf]
     refine⟨rfl,?_,λ _=>?_⟩<;>simp only<;>split<;>omega
    ·rw[if_neg q];exact⟨rfl,aj _,λ z=>absurd z q⟩
   rcases aX.mp hd with z|z
   ·obtain⟨y',G,Z,h3⟩:=h.dom d z
    obtain⟨J,g1,g2,g3,_⟩:=Y y' G
    exact⟨J,g1,g2.trans Z,ao g3 h3⟩
   ·rw[bf.mp z]
    obtain⟨J,g1,g2,_,g4⟩:=Y y hy
    exact⟨J,g1,g2.trans C,g4 C⟩
  ·rw[gC]
   refine h.nd.imp λ {a b} q=>?_
   have:∀ z:Dr,(if z.way=x.way then(⟨z.a,z.l,z.b,ar4 x ds⟩:Dr)else z).way=z.way:=λ z=>by split<;>rfl
   rw[this,this];exact q
theorem ag2.br {S S':Int->Prop}{o:Option Int}(C:∀ c,S' c->S c)(z:∀ c,S c->∃ y,S' y/\y<=c)(h:ag2 S' o):ag2 S o:=by
 cases o with
 | none=>exact λ c hc=>by obtain⟨y,h3,_⟩:=z c hc;exact h y h3
 | some a=>exact⟨C a h.1,λ c hc=>by obtain⟨y,h3,G⟩:=z c hc;have:=h.2 y h3;omega⟩
theorem Br.wk {pre ds:List Dr}(h:Br pre ds):∀ {w:List Nat} {p q:Nat} {c:Int},(Wk ds w p q c->Wk pre w p q c)/\(Wk pre w p q c->∃ G,Wk ds w p q G/\G<=c)
 | [],p,q,c=>⟨λ z=>z,λ z=>⟨c,z,fm _⟩⟩
 | x::w,p,q,c=>by
  refine⟨?_,?_⟩
  ·rintro⟨d,hd,ha,hl,G,hw,rfl⟩
   exact⟨d,h.sub d hd,ha,hl,G,h.wk.1 hw,rfl⟩
  ·rintro⟨d,hd,ha,hl,G,hw,rfl⟩
   obtain⟨y,hy,C,Z⟩:=h.dom d hd
   unfold Dr.way at C
   simp only[jB]at C
   obtain⟨J,h3,Y⟩:=h.wk.2 hw
   exact⟨y.t+J,⟨y,hy,C.1.trans ha,C.2.1.trans hl,J,by rw[C.2.2];exact h3,rfl⟩,by omega⟩
theorem Br.least {pre ds:List Dr}(h:Br pre ds){L R:Nat}{bg en w:List Nat}{o:Option Int}(hl:ag2 (Mc.Wk ⟨L,R,bg,en,ds⟩ w) o):ag2 (Mc.Wk ⟨L,R,bg,en,pre⟩ w) o :=
 hl.br (λ c ⟨p,hp,q,hq,k⟩=>⟨p,hp,q,hq,h.wk.1 k⟩) λ c ⟨p,hp,q,hq,k⟩=>by
  obtain⟨C,z,y⟩:=h.wk.2 k
  exact⟨C,⟨p,hp,q,hq,z⟩,y⟩
theorem Br.few {pre ds:List Dr}(h:Br pre ds){L R:Nat}(G:R<=5)(C:L<=3)(hp:∀ x∈pre,x.a<R/\(97<=x.l/\x.l<97+L)/\x.b<R):ds.length<=75:=by
 have nd:(ds.map λ x:Dr=>x.a*15+(x.l - 97)*5+x.b).Nodup:=by
  show List.Pairwise _ _
  rw[gC]
  refine lj (λ {a b} ha hb q z=>q ?_) h.nd
  have Y:=hp a (h.sub a ha)
  have J:=hp b (h.sub b hb)
  unfold Dr.way
  have e1:a.a=b.a:=by omega
  have e2:a.l=b.l:=by omega
  have y:a.b=b.b:=by omega
  rw[e1,e2,y]
 have:=cH (l₂:=bj 75) nd (λ c hc=>by
  obtain⟨x,hx,rfl⟩:=aH.mp hc
  have:=hp x (h.sub x hx)
  exact bN.mpr (by omega))
 simpa using this
@[simp] theorem bZ7 {F:Fns} {ρ:Env} {s:Sto}:ev F .dicT ρ s=.ok (.ref s.length) (s++[.dit []]):=rfl
@[simp] theorem bD3 {F:Fns} {ρ:Env} {s:Sto} (o k d:E):ev F (.get2 o k d) ρ s=(ev F o ρ s).bind λ x s=>(ev F k ρ s).bind λ y s=>(ev F d ρ s).bind λ z s=>br7 x y z s:=rfl
@[simp] theorem bw7 {F:Fns} {ρ:Env} {s:Sto} (e:E):evL F (.itm e) ρ s=(ev F e ρ s).bind λ d s=>bn0 d s:=rfl
theorem aU6 (x:Dr):x.wd.keyT=true:=rfl
theorem bJ7 (ds:List Dr):(ds.map Dr.en).map bW1=ds.map Dr.d:=by rw[cO];rfl
theorem bx7 {s:Sto}{l:List (D×D)}{k e:D}(hk:k.keyT=true):br7 (.ref s.length) k e (s++[.dit l])=.ok ((look k l).getD e) (s++[.dit l]):=by
 have h:(s++[O.dit l])[s.length]?=some (.dit l):=by simp
 simp only[br7,h,hk,if_true]
theorem bC0 {s:Sto}{l:List (D×D)}{k e:D}(hk:k.keyT=true)(hl:l.length<LIM):setIx (.ref s.length) k e (s++[.dit l])=.ok () (s++[.dit (av9 k e l)]):=by
 have h:(s++[O.dit l])[s.length]?=some (.dit l):=by simp
 simp only[setIx,h,hk,hl,decide_true,ln,if_true]
 congr 1
 simp
theorem bw4 {s:Sto}{ds:List Dr}(hl:ds.length<=LIM):bn0 (.ref s.length) (s++[.dit (ds.map Dr.en)])=.ok (ds.map Dr.d) (s++[.dit (ds.map Dr.en)]):=by
 have h:(s++[O.dit (ds.map Dr.en)])[s.length]?=some (.dit (ds.map Dr.en)):=by simp
 simp only[bn0,h,aq,hl,if_true,bJ7]
theorem bA4 (x:Dr)(ds:List Dr)(s:Sto):bi .min2 [.int x.t,(look x.wd (ds.map Dr.en)).getD (.int x.t)] s=.ok (.int (ar4 x ds)) s:=by
 rw[aK3]
 unfold ar4
 cases e:ds.find? λ y=>decide (y.way=x.way)with
 | none=>show R.ok (D.int (if(x.t:Int)<x.t then _ else _)) s=_;rw[if_neg (by omega)]
 | some y =>
  show R.ok (D.int (if(y.t:Int)<x.t then(y.t:Int)else x.t)) s=_
  by_cases h:y.t<x.t
  ·rw[if_pos (by omega)];simp only[h,if_true]
  ·rw[if_neg (by omega)];simp only[h,if_false]
theorem bh9 (x:Dr)(ds:List Dr):(bp2 x ds).length<=ds.length+1:=by
 unfold bp2
 split
 ·rw[aq];omega
 ·rw[aw];exact aj _
def BrR (m:Mc)(Rm:Int)(B E:List D)(ds:List Dr)(s:Sto)(x:R D):Prop:=∃ ds',Br ds ds'/\x=.ok (.tup [.int m.L,.int Rm,.tup B,.tup E,.tup (ds'.map Dr.d)]) s
theorem aR7 {P:Pr}[Has P ad7][HasC P "LETTERS" (.tup aJ8)][Has P ai0](n:Nat){m:Mc}(hm:m.Ok)(Rm:Int){B E:List D}(hB:∀ d∈B,∀ n,d.bnd n=true)(hE:∀ d∈E,∀ n,d.bnd n=true){ds:List Dr}(a4:ds.length<=10000){s:Sto}{k:Nat}(hk:s[k]?=some (.lst (ds.map Dr.d))) :
  BrR m Rm B E ds s ((aa1 P (n+2)).call "brought" [m.d,.int Rm,.tup B,.tup E,.ref k] s):=by
 have e0:(aa1 P (n+2)).call "brought" [m.d,.int Rm,.tup B,.tup E,.ref k] s=_:=zb ai0 (n:=n+1) rfl
 rw[e0]
 have sq:qV (.ref k) (s++[.dit []])=.ok ⟨ds.map Dr.d,[k]⟩ (s++[.dit []]):=by simp only[qV,zD hk]
 simp -implicitDefEqProofs [ai0,sq]
 refine zA (W:=BrR m Rm B E ds s) (λ j ρ t=>∃(h:List Dr) (J Z x8 x9 z:Option D),Br (ds.take j) h/\h.length<=j/\j<=ds.length/\ρ=[some m.d,some (.int Rm),some (.tup B),some (.tup E),some (.ref k),some (.ref s.length),J,Z,x8,x9,z]/\t=s++[.dit (h.map Dr.en)])
  ⟨[],_,_,_,_,_,by rw[jg];exact .nil,aj _,cz _,rfl,rfl⟩ (λ j ρ t _ ⟨_,_,_,_,_,_,_,_,_,_,ht⟩=>by rw[ht];simp[chk,zD hk]) ?_ ?_
 ·rintro j d ρ t hj ⟨h,J,Z,x8,x9,z,hb,y,Y,rfl,rfl⟩
  obtain⟨x,hx,rfl⟩:∃ x,ds[j]?=some x/\d=x.d:=by
   rw[az]at hj
   cases e:ds[j]? with
   | none=>rw[e]at hj;cases hj
   | some x=>rw[e]at hj;cases hj;exact⟨x,rfl,rfl⟩
  have hlt:j<ds.length:=(ac.mp hx).1
  have G:ds.take (j+1)=ds.take j++[x]:=by
   have e:ds[j]=x:=(ac.mp hx).2
   rw[<-e,cc]
  have g1:=bx7 (s:=s) (l:=h.map Dr.en) (e:=.int x.t) (aU6 x)
  have g2:=bA4 x h (s++[.dit (h.map Dr.en)])
  have g3:=bC0 (s:=s) (l:=h.map Dr.en) (e:=.int (ar4 x h)) (aU6 x) (by rw[aq];unfold LIM;omega)
  rw[bv1]at g3
  have il:=bh9 x h
  refine zX (ρ:=[some m.d,some (.int Rm),some (.tup B),some (.tup E),some (.ref k),some (.ref s.length),some (.int x.a),some (.str [x.l]),some (.int x.b),some (.int x.t),some x.wd]) (s:=s++[.dit ((bp2 x h).map Dr.en)]) ?_ ⟨bp2 x h,_,_,_,_,_,by rw[G];exact hb.step x,by omega,hlt,rfl,rfl⟩
  have a2:x.d=.tup [.int x.a,.str [x.l],.int x.b,.int x.t]:=rfl
  have C:x.wd=.tup [.int x.a,.str [x.l],.int x.b]:=rfl
  rw[C]at g1 g2 g3 ⊢
  simp -implicitDefEqProofs only[qw,ab4,ae3,ae2,ae4,ah2,af7,ab1,af3,qh,ac8,ad8,ae6,ac7,ae7,ah5,af9,af6,ad4,ag9,ab7,ah0,ah3,af8,ac6,ac3,af4,ac2,ab5,qK,aa7,ab6,ab8,aa9,ac4,ah7,ac9,ad3,ae8,R.bind_ok,zG,aa5,aa6,aa2,ad1,qy,ab3,ab2,qf,qg,aB,aC,aa3,zN,ac0,ab9,ab0,ac1,ac5,ad9,af0,ae5,af1,ae9,af2,qk,ad0,if_true,if_false,au,decide_true,decide_false,aU,aV,turn,a2,bD3,g1,g2,g3]
 ·rintro ρ t ⟨h,J,Z,x8,x9,z,hb,y,Y,rfl,rfl⟩
  rw[aq,cQ]at hb
  rw[aq]at y
  have hL:=an0 (P:=P) n (L:=m.L) hm.L3 [.int m.R,.tup (zq m.bg),.tup (zq m.en),.tup (m.ds.map Dr.d)] (s++[.dit (h.map Dr.en)])
  have a3:(aa1 P (n+1)).call "letters_of" [m.d] (s++[.dit (h.map Dr.en)])=.ok (.tup (aJ8.take m.L)) _:=hL
  have a1:((aJ8.take m.L).length:Int)=(m.L:Int):=by
   rw[bL]
   have:=hm.L3
   show((min m.L 3:Nat):Int)=_
   omega
  have g:=bw4 (s:=s) (ds:=h) (by unfold LIM;omega)
  refine⟨h,hb,?_⟩
  simp -implicitDefEqProofs only[qw,ab4,ae3,ae2,ae4,ah2,af7,ab1,af3,qh,ac8,ad8,ae6,ac7,ae7,ah5,af9,af6,ad4,ag9,ab7,ah0,ah3,af8,ac6,ac3,af4,ac2,ab5,qK,aa7,ab6,ab8,aa9,ac4,ah7,ac9,ad3,ae8,R.bind_ok,zG,aa5,aa6,aa2,ad1,qy,ab3,ab2,qf,qg,aB,aC,aa3,zN,ac0,ab9,ab0,ac1,ac5,ad9,af0,ae5,af1,ae9,af2,qk,ad0,if_true,if_false,au,decide_true,decide_false,aU,aV,zN,a3,aX5,a1,bw7,g,mk]
  refine qF (λ n=>?_) (by nofun)
  unfold D.bnd
  refine zr (λ d hd n=>?_) n
  simp only[aP,bC,or_false]at hd
  rcases hd with rfl|rfl|rfl|rfl|rfl
  ·rfl
  ·rfl
  ·unfold D.bnd;exact zr hB n
  ·unfold D.bnd;exact zr hE n
  ·unfold D.bnd;exact zr aq1 n
noncomputable def Dr.mv (k:Nat)(x:Dr):Dr:=⟨x.a+k,x.l,x.b+k,x.t⟩
noncomputable def zK (k:Nat)(ds es:List Dr):List Dr:=ds++es.map (Dr.mv k)
theorem br3 {k:Nat}{ds:List Dr}(h:∀ d∈ds,d.a<k/\d.b<k):∀ {w:List Nat} {p q:Nat} {c:Int},p<k->Wk ds w p q c->q<k
 | [],p,q,c,hp,⟨e,_⟩=>by omega
 | x::w,p,q,c,hp,⟨d,hd,_,_,c',hw,_⟩=>br3 h (h d hd).2 hw
noncomputable def mvN (k:Nat)(l:List Nat):List Nat:=l.map (·+k)
theorem Mc.Ok.low {m:Mc}(h:m.Ok):∀ d∈m.ds,d.a<m.R/\d.b<m.R:=λ d hd=>⟨(h.ds.1 d hd).a,(h.ds.1 d hd).b⟩
theorem aX7 {k r:Nat}{l y:List Nat}(h:(∀ i∈l,i<k)/\l.Pairwise (· < ·))(h':(∀ i∈y,i<r)/\y.Pairwise (· < ·)):(∀ i∈l++mvN k y,i<k+r)/\(l++mvN k y).Pairwise (· < ·):=by
 refine⟨λ i hi=>?_,?_⟩
 ·rcases aX.mp hi with z|z
  ·have:=h.1 i z;omega
  ·obtain⟨j,hj,rfl⟩:=aH.mp z
   have:=h'.1 j hj
   show j+k<_;omega
 ·rw[fA]
  refine⟨h.2,?_,λ a ha b hb=>?_⟩
  ·unfold mvN
   rw[gC]
   exact h'.2.imp λ q=>by omega
  ·obtain⟨j,hj,rfl⟩:=aH.mp hb
   have:=h.1 a ha
   show a<j+k;omega
theorem aQ5 {L k r:Nat}{m1 m2:Mc}(J:m1.Ok)(C:m2.Ok)(h:m1.L=m2.L):∀ x∈zK m1.R m1.ds m2.ds,x.a<m1.R+m2.R/\(97<=x.l/\x.l<97+m1.L)/\x.b<m1.R+m2.R/\x.t<4:=λ x hx=>by
 rcases aX.mp hx with z|z
 ·have q:=J.ds.1 x z
  have:=q.a;have:=q.b
  exact⟨by omega,q.l,by omega,q.t⟩
 ·obtain⟨y,hy,rfl⟩:=aH.mp z
  have q:=C.ds.1 y hy
  have Z:=q.a;have Y:=q.b;have G:=q.l
  exact⟨by show y.a+m1.R<_;omega,by rw[h];exact G,by show y.b+m1.R<_;omega,q.t⟩
theorem Br.okM {L R:Nat}{bg en:List Nat}{pre ds:List Dr}(hb:Br pre ds)(L1:1<=L)(L3:L<=3)(R1:1<=R)(R5:R<=5)(y:(∀ k∈bg,k<R)/\bg.Pairwise (· < ·))(h:(∀ k∈en,k<R)/\en.Pairwise (· < ·))
  (hp:∀ x∈pre,x.a<R/\(97<=x.l/\x.l<97+L)/\x.b<R/\x.t<4):(⟨L,R,bg,en,ds⟩:Mc).Ok :=
 ⟨L1,L3,R1,R5,y,h,λ x hx=>by
  have:=hp x (hb.sub x hx)
  exact⟨this.1,this.2.1,this.2.2.1,this.2.2.2⟩,hb.few R5 L3 λ x hx=>⟨(hp x hx).1,(hp x hx).2.1,(hp x hx).2.2.1⟩⟩
section
variable {P:Pr}
theorem bQ0 {L:Nat}(h3:L<=3)(s:Sto):qx .ne (.tup (aJ8.take L)) (.tup (aJ8.take L)) s=.ok (.bl false) s:=by
 rcases(show L=0\/L=1\/L=2\/L=3 by omega)with e|e|e|e<;>subst e<;>rfl
theorem aw2 [Has P ad7][HasC P "LETTERS" (.tup aJ8)][Has P ag1](n:Nat){m1 m2:Mc}(h:m1.Ok)(y:m1.L=m2.L)(s:Sto):(aa1 P (n+2)).call "check_pair" [m1.d,m2.d] s=.ok .non s:=by
 have z:(aa1 P (n+2)).call "check_pair" [m1.d,m2.d] s=_:=zb ag1 (n:=n+1) rfl
 rw[z]
 have a1:(aa1 P (n+1)).call "letters_of" [m1.d] s=.ok (.tup (aJ8.take m1.L)) s:=an0 (P:=P) n h.L3 [.int m1.R,.tup (zq m1.bg),.tup (zq m1.en),.tup (m1.ds.map Dr.d)] s
 have a2:(aa1 P (n+1)).call "letters_of" [m2.d] s=.ok (.tup (aJ8.take m1.L)) s:=by
  have:=an0 (P:=P) n (L:=m2.L) (by rw[<-y];exact h.L3) [.int m2.R,.tup (zq m2.bg),.tup (zq m2.en),.tup (m2.ds.map Dr.d)] s
  rw[y];exact this
 simp -implicitDefEqProofs only[qw,ab4,ae3,ae2,ae4,ah2,af7,ab1,af3,qh,ac8,ad8,ae6,ac7,ae7,ah5,af9,af6,ad4,ag9,ab7,ah0,ah3,af8,ac6,ac3,af4,ac2,ab5,qK,aa7,ab6,ab8,aa9,ac4,ah7,ac9,ad3,ae8,R.bind_ok,zG,aa5,aa6,aa2,ad1,qy,ab3,ab2,qf,qg,aB,aC,aa3,zN,ac0,ab9,ab0,ac1,ac5,ad9,af0,ae5,af1,ae9,af2,qk,ad0,if_true,if_false,au,decide_true,decide_false,aU,aV,ag1,aJ,bP,bV,bM,aG,a1,a2,bQ0 h.L3,aD3]
theorem as9 [HasC P "MOST_ROOMS" (.int 5)][Has P af5](n:Nat){r:Int}(h:r<=5)(s:Sto):(aa1 P (n+1)).call "check_rooms" [.int r] s=.ok .non s:=by
 have y:(aa1 P (n+1)).call "check_rooms" [.int r] s=_:=zb af5 (n:=n) rfl
 rw[y]
 have hg:ev (aa1 P n) (.glob "MOST_ROOMS") [some (.int r)] s=.ok (.int 5) s:=by
  show(match(aa1 P n).con "MOST_ROOMS" with|some d=>R.ok d s|none=>.bad)=_
  rw[aW9 (v:=.int 5)]
 have hn:¬((5:Int)<r):=by omega
 simp -implicitDefEqProofs only[qw,ab4,ae3,ae2,ae4,ah2,af7,ab1,af3,qh,ac8,ad8,ae6,ac7,ae7,ah5,af9,af6,ad4,ag9,ab7,ah0,ah3,af8,ac6,ac3,af4,ac2,ab5,qK,aa7,ab6,ab8,aa9,ac4,ah7,ac9,ad3,ae8,R.bind_ok,zG,aa5,aa6,aa2,ad1,qy,ab3,ab2,qf,qg,aB,aC,aa3,zN,ac0,ab9,ab0,ac1,ac5,ad9,af0,ae5,af1,ae9,af2,qk,ad0,if_true,if_false,au,decide_true,decide_false,aU,aV,af5,aJ,bP,bV,bM,aG,hg,hn,aD3]
theorem bj7 [Has P aj9](n:Nat)(l:List Nat)(hl:l.length<=1000)(k:Nat)(s:Sto):(aa1 P (n+1)).call "moved" [.tup (zq l),.int k] s=.ok (.tup (zq (mvN k l))) s:=by
 have G:(aa1 P (n+1)).call "moved" [.tup (zq l),.int k] s=_:=zb aj9 (n:=n) rfl
 rw[G]
 have C:qV (.tup (zq l)) s=.ok ⟨zq l,[]⟩ s:=rfl
 obtain⟨ρ1,s1,e1,rfl,_⟩:=zu (ok:=λ h=>chk s h []) (g:=zY (aa1 P n) (.one 0) (.bin .add (.var 0) (.var 1))) (λ ρ u=>u=s/\∃ a,ρ=[a,some (.int k)]) (λ d=>match d with|.int i=>some (.int (i+k))|_=>none) (zq l) (zS [some (.tup (zq l)),some (.int k)] [none,some 1]) s ⟨rfl,none,rfl⟩ (λ _ _ _=>rfl) (by
  rintro d hd ρ u ⟨rfl,a,rfl⟩
  obtain⟨i,_,rfl⟩:=aH.mp hd
  exact⟨[some (.int i),some (.int k)],u,by unfold zY;simp -implicitDefEqProofs,rfl,_,rfl⟩)
 have z:(zq l).filterMap (λ d=>match d with|.int i=>some (.int (i+k))|_=>none)=zq (mvN k l):=by
  unfold zq mvN
  rw[bo,cO,<-bH]
  exact zl λ i _=>by simp[cA]
 rw[z]at e1
 have y:(zq l).length<=LIM:=by unfold zq;rw[aq];unfold LIM;omega
 simp -implicitDefEqProofs only[qw,ab4,ae3,ae2,ae4,ah2,af7,ab1,af3,qh,ac8,ad8,ae6,ac7,ae7,ah5,af9,af6,ad4,ag9,ab7,ah0,ah3,af8,ac6,ac3,af4,ac2,ab5,qK,aa7,ab6,ab8,aa9,ac4,ah7,ac9,ad3,ae8,R.bind_ok,zG,aa5,aa6,aa2,ad1,qy,ab3,ab2,qf,qg,aB,aC,aa3,zN,ac0,ab9,ab0,ac1,ac5,ad9,af0,ae5,af1,ae9,af2,qk,ad0,if_true,if_false,au,decide_true,decide_false,aU,aV,aj9,aJ,bP,bV,bM,aG,qj,C,y,e1,mk]
 exact zp (λ n=>by unfold D.bnd;exact zr qu n) (by nofun)
theorem ap9 [Has P ag6][Has P ag5][Has P ae1](n:Nat){m1 m2:Mc}(h1:m1.Ok)(G:m2.Ok)(s:Sto):(aa1 P (n+2)).call "doors_beside" [m1.d,m2.d] s=.ok (.ref s.length) (s++[.lst ((zK m1.R m1.ds m2.ds).map Dr.d)]):=by
 have e0:(aa1 P (n+2)).call "doors_beside" [m1.d,m2.d] s=_:=zb ae1 (n:=n+1) rfl
 rw[e0]
 have sD:qV (.tup (m2.ds.map Dr.d)) s=.ok ⟨m2.ds.map Dr.d,[]⟩ s:=rfl
 obtain⟨ρ1,s1,e1,rfl,_⟩:=zu (ok:=λ y=>chk s y []) (g:=zY (aa1 P (n+1)) (.tup [0,1,2,3]) (.tup (.cons (.bin .add (.var 0) (.var 4)) (.cons (.var 1) (.cons (.bin .add (.var 2) (.var 4)) (.cons (.var 3) .nil)))))) (λ ρ u=>u=s/\∃ a b c d,ρ=[a,b,c,d,some (.int m1.R)]) (λ d=>match d with|.tup [.int a,b,.int c,d]=>some (.tup [.int (a+m1.R),b,.int (c+m1.R),d])|_=>none) (m2.ds.map Dr.d) (zS [some m1.d,some m2.d,some (.int m1.R),none] [none,none,none,none,some 2]) s ⟨rfl,none,none,none,none,rfl⟩ (λ _ _ _=>rfl) (by
  rintro d hd ρ u ⟨rfl,a,b,c,e,rfl⟩
  obtain⟨x,_,rfl⟩:=aH.mp hd
  exact⟨[some (.int x.a),some (.str [x.l]),some (.int x.b),some (.int x.t),some (.int m1.R)],u,by unfold zY;simp -implicitDefEqProofs [show x.d=.tup [.int x.a,.str [x.l],.int x.b,.int x.t]from rfl],rfl,_,_,_,_,rfl⟩)
 have C:(m2.ds.map Dr.d).filterMap (λ d=>match d with|.tup [.int a,b,.int c,d]=>some (.tup [.int (a+m1.R),b,.int (c+m1.R),d])|_=>none)=(m2.ds.map (Dr.mv m1.R)).map Dr.d:=by
  rw[bo,cO,<-bH]
  exact zl λ x _=>by simp[cA,Dr.d,Dr.mv]
 rw[C]at e1
 have z:(m2.ds.map Dr.d).length<=LIM:=by rw[aq];have:=G.ds.2;unfold LIM;omega
 have J:=qR (P:=P) n (m:=m2) (s:=s1)
 have d1:=λ u=>qR (P:=P) n (m:=m1) (s:=u)
 have r1:=qv (P:=P) n (m:=m1) (s:=s1)
 have ls:∀ u,bC8 (.tup (m1.ds.map Dr.d)) u=.ok (m1.ds.map Dr.d) u:=λ _=>rfl
 have Z:qB .add (.ref (s1.length+1)) (.ref s1.length) (s1++[O.lst ((m2.ds.map (Dr.mv m1.R)).map Dr.d)]++[O.lst (m1.ds.map Dr.d)])=.ok (.ref (s1.length+2)) (s1++([O.lst ((m2.ds.map (Dr.mv m1.R)).map Dr.d),O.lst (m1.ds.map Dr.d)]++[.lst ((zK m1.R m1.ds m2.ds).map Dr.d)])):=by
  have g1:(s1++[O.lst ((m2.ds.map (Dr.mv m1.R)).map Dr.d)]++[O.lst (m1.ds.map Dr.d)])[s1.length+1]?=some (.lst (m1.ds.map Dr.d)):=by
   rw[aM (by simp)];simp
  have Y:(s1++[O.lst ((m2.ds.map (Dr.mv m1.R)).map Dr.d)]++[O.lst (m1.ds.map Dr.d)])[s1.length]?=some (.lst ((m2.ds.map (Dr.mv m1.R)).map Dr.d)):=by
   rw[aL (by simp)];simp
  have hz:(m1.ds.map Dr.d).length+((m2.ds.map (Dr.mv m1.R)).map Dr.d).length<=LIM:=by
   simp only[aq]
   have:=h1.ds.2;have:=G.ds.2;unfold LIM;omega
  simp only[qB,g1,Y,hz,if_true,qk]
  congr 1
  ·simp
  ·simp[zK]
 have h:(s1++[O.lst ((m2.ds.map (Dr.mv m1.R)).map Dr.d)]).length=s1.length+1:=by simp
 simp -implicitDefEqProofs only[qw,ab4,ae3,ae2,ae4,ah2,af7,ab1,af3,qh,ac8,ad8,ae6,ac7,ae7,ah5,af9,af6,ad4,ag9,ab7,ah0,ah3,af8,ac6,ac3,af4,ac2,ab5,qK,aa7,ab6,ab8,aa9,ac4,ah7,ac9,ad3,ae8,R.bind_ok,zG,aa5,aa6,aa2,ad1,qy,ab3,ab2,qf,qg,aB,aC,aa3,zN,ac0,ab9,ab0,ac1,ac5,ad9,af0,ae5,af1,ae9,af2,qk,ad0,if_true,if_false,au,decide_true,decide_false,aU,aV,ae1,aJ,bP,bV,bM,aG,r1,J,qj,sD,z,e1,mk,ac4,d1,ls,h,Z]
 exact ap7 (t:=[O.lst ((m2.ds.map (Dr.mv m1.R)).map Dr.d),O.lst (m1.ds.map Dr.d)]) (u:=[]) (by show D.bndL _ _=true;exact zr aq1 _)
end
section
variable {P:Pr}
end
def Tru (s:Sto)(x:R D):Prop:=x=.ok (.bl true) s
section
variable {P:Pr}
end
noncomputable def zJ (m1 m2:Mc)(es:List Dr):List Dr:=es.flatMap λ y=>if y.a∈m2.bg then m1.en.map λ r=>(⟨r,y.l,y.b+m1.R,y.t⟩:Dr)else[]
theorem ak5 {m1 m2:Mc}{es:List Dr}{d:Dr}:d∈zJ m1 m2 es↔∃ y∈es,y.a∈m2.bg/\∃ r∈m1.en,d=⟨r,y.l,y.b+m1.R,y.t⟩:=by
 unfold zJ
 rw[List.mem_flatMap]
 constructor
 ·rintro⟨y,hy,h⟩
  by_cases hb:y.a∈m2.bg
  ·rw[if_pos hb]at h
   obtain⟨r,hr,rfl⟩:=aH.mp h
   exact⟨y,hy,hb,r,hr,rfl⟩
  ·rw[if_neg hb]at h;cases h
 ·rintro⟨y,hy,hb,r,hr,rfl⟩
  exact⟨y,hy,by rw[if_pos hb];exact be (f:=λ r=>(⟨r,y.l,y.b+m1.R,y.t⟩:Dr)) hr⟩
theorem av7 (m1 m2:Mc)(es:List Dr)(y:Dr):zJ m1 m2 (es++[y])=zJ m1 m2 es++if y.a∈m2.bg then m1.en.map λ r=>(⟨r,y.l,y.b+m1.R,y.t⟩:Dr)else[]:=by
 unfold zJ;rw[List.flatMap_append,kj,List.flatMap_nil,bK]
theorem ar9 {m1 m2:Mc}:∀ {es:List Dr},(zJ m1 m2 es).length<=es.length*m1.en.length
 | []=>cz _
 | y::es=>by
  have e:zJ m1 m2 (y::es)=(if y.a∈m2.bg then m1.en.map λ r=>(⟨r,y.l,y.b+m1.R,y.t⟩:Dr)else[])++zJ m1 m2 es:=by unfold zJ;rw[kj]
  have h:(if y.a∈m2.bg then m1.en.map λ r=>(⟨r,y.l,y.b+m1.R,y.t⟩:Dr)else[]).length<=m1.en.length:=by
   split
   ·rw[aq];exact aj _
   ·exact cz _
  have:=ar9 (m1:=m1) (m2:=m2) (es:=es)
  rw[e,aw,bh,lC]
  omega
noncomputable def be0 (m1 m2:Mc):List Dr:=zK m1.R m1.ds m2.ds++zJ m1 m2 m2.ds
noncomputable def az6 (m1 m2:Mc):List Nat:=if m2.bg.any (λ b=>decide (b∈m2.en))then m1.en else[]
noncomputable def cf7 (m1 m2:Mc):Mc:=⟨m1.L,m1.R+m2.R,m1.bg,az6 m1 m2++mvN m1.R m2.en,be0 m1 m2⟩
theorem ap1 {m1 m2:Mc}(C:m1.Ok):∀ {w:List Nat} {p q:Nat} {c:Int},(Wk (be0 m1 m2) w (p+m1.R) q c↔∃ h,q=h+m1.R/\Wk m2.ds w p h c)
 | [],p,q,c=>by
  constructor
  ·rintro⟨rfl,rfl⟩;exact⟨p,rfl,rfl,rfl⟩
  ·rintro⟨h,rfl,rfl,rfl⟩;exact⟨rfl,rfl⟩
 | x::w,p,q,c=>by
  constructor
  ·rintro⟨d,hd,ha,hl,J,hw,rfl⟩
   rcases aX.mp hd with z|z
   ·rcases aX.mp z with z|z
    ·have:=(C.low d z).1;omega
    ·obtain⟨e,G,rfl⟩:=aH.mp z
     obtain⟨h,e1,e2⟩:=(ap1 C (p:=e.b)).mp hw
     exact⟨h,e1,e,G,by have:e.a+m1.R=p+m1.R:=ha;omega,hl,J,e2,rfl⟩
   ·obtain⟨y,hy,hb,r,hr,rfl⟩:=ak5.mp z
    have:=C.en.1 r hr
    have:r=p+m1.R:=ha
    omega
  ·rintro⟨h,e1,e,G,ha,hl,J,e2,rfl⟩
   exact⟨e.mv m1.R,bB _ (aZ _ (be G)),by show e.a+m1.R=_;omega,hl,J,(ap1 C (p:=e.b)).mpr ⟨h,e1,e2⟩,rfl⟩
def Acr (m1 m2:Mc)(w:List Nat)(p q:Nat)(c:Int):Prop:=∃(u v:List Nat) (x:Nat),w=u++x::v/\∃ r∈m1.en,∃ c1:Int,Wk m1.ds u p r c1/\∃ y∈m2.ds,y.a∈m2.bg/\y.l=x/\∃(q':Nat) (c2:Int),q=q'+m1.R/\Wk m2.ds v y.b q' c2/\c=c1+((y.t:Int)+c2)
theorem am3 {m1 m2:Mc}(J:m1.Ok):∀ {w:List Nat} {p q:Nat} {c:Int},p<m1.R->(Wk (be0 m1 m2) w p q c↔Wk m1.ds w p q c\/Acr m1 m2 w p q c)
 | [],p,q,c,hp=>by
  constructor
  ·exact λ h=>.inl h
  ·rintro(h|⟨u,v,x,e,_⟩)
   ·exact h
   ·cases u<;>cases e
 | x::w,p,q,c,hp=>by
  constructor
  ·rintro⟨d,hd,ha,hl,Y,hw,rfl⟩
   rcases aX.mp hd with z|z
   ·rcases aX.mp z with z|z
    ·rcases(am3 J (J.low d z).2).mp hw with k|⟨u,v,y,e,r,hr,c1,w1,C,hy,hb,G,Z,c2,e2,w2,rfl⟩
     ·exact .inl ⟨d,z,ha,hl,Y,k,rfl⟩
     ·exact .inr ⟨x::u,v,y,by rw[e];rfl,r,hr,d.t+c1,⟨d,z,ha,hl,c1,w1,rfl⟩,C,hy,hb,G,Z,c2,e2,w2,by omega⟩
    ·obtain⟨e,he,rfl⟩:=aH.mp z
     have:e.a+m1.R=p:=ha
     omega
   ·obtain⟨y,hy,hb,r,hr,rfl⟩:=ak5.mp z
    obtain⟨Z,e1,e2⟩:=(ap1 J (p:=y.b)).mp hw
    have a1:r=p:=ha
    subst a1
    exact .inr ⟨[],w,x,rfl,r,hr,0,⟨rfl,rfl⟩,y,hy,hb,hl,Z,Y,e1,e2,by show(y.t:Int)+Y=_;omega⟩
  ·rintro(⟨d,hd,ha,hl,Y,hw,rfl⟩|⟨u,v,y,e,r,hr,c1,w1,C,hy,hb,G,Z,c2,e2,w2,rfl⟩)
   ·exact⟨d,bB _ (bB _ hd),ha,hl,Y,(am3 J (J.low d hd).2).mpr (.inl hw),rfl⟩
   ·cases u with
    | nil =>
     obtain⟨rfl,rfl⟩:=w1
     cases e
     exact⟨⟨p,C.l,C.b+m1.R,C.t⟩,aZ _ (ak5.mpr ⟨C,hy,hb,p,hr,rfl⟩),rfl,G,c2,(ap1 J (p:=C.b)).mpr ⟨Z,e2,w2⟩,by show _=(C.t:Int)+c2;omega⟩
    | cons z u =>
     cases e
     obtain⟨d,hd,ha,hl,Y,hw,rfl⟩:=w1
     exact⟨d,bB _ (bB _ hd),ha,hl,Y+(C.t+c2),(am3 J (J.low d hd).2).mpr (.inr ⟨u,v,y,rfl,r,hr,Y,hw,C,hy,hb,G,Z,c2,e2,w2,rfl⟩),by omega⟩
def bS7 (m1 m2:Mc)(w:List Nat)(c:Int):Prop:=∃ i:Nat,i<=w.length/\∃ c1 c2:Int,m1.Wk (w.take i) c1/\m2.Wk (w.drop i) c2/\c=c1+c2
theorem bH7 {m1 m2:Mc}(G:m1.Ok)(w:List Nat)(c:Int):(cf7 m1 m2).Wk w c↔bS7 m1 m2 w c:=by
 constructor
 ·rintro⟨p,hp,q,hq,hw⟩
  have C:=G.bg.1 p hp
  rcases(am3 G C).mp hw with k|⟨u,v,x,rfl,r,hr,J,Z,y,hy,hb,hl,Y,c2,rfl,w2,rfl⟩
  ·have a2:=br3 G.low C k
   have h:q∈az6 m1 m2:=by
    rcases aX.mp hq with z|z
    ·exact z
    ·obtain⟨Y,_,e⟩:=aH.mp z;omega
   unfold az6 at h
   by_cases hc:m2.bg.any (λ b=>decide (b∈m2.en))=true
   ·rw[if_pos hc]at h
    obtain⟨b,hb,hbe⟩:=dj.mp hc
    exact⟨w.length,aj _,c,0,by rw[cQ];exact⟨p,hp,q,h,k⟩,by rw[List.drop_length];exact⟨b,hb,b,of_decide_eq_true hbe,rfl,rfl⟩,by omega⟩
   ·rw[if_neg hc]at h;cases h
  ·have h:Y∈m2.en:=by
    rcases aX.mp hq with z|z
    ·have:Y+m1.R∈m1.en:=by
      unfold az6 at z
      split at z
      ·exact z
      ·cases z
     have:=G.en.1 _ this;omega
    ·obtain⟨q2,a1,e⟩:=aH.mp z
     have:q2=Y:=by simpa using e
     rw[<-this];exact a1
   exact⟨u.length,by rw[aw];omega,J,y.t+c2,by rw[List.take_left];exact⟨p,hp,r,hr,Z⟩,by rw[List.drop_left];exact⟨y.a,hb,Y,h,y,hy,rfl,hl,c2,w2,rfl⟩,rfl⟩
 ·rintro⟨i,hi,J,c2,⟨p,hp,r,hr,Z⟩,⟨a,ha,q,hq,w2⟩,rfl⟩
  have C:=G.bg.1 p hp
  have hw:w=w.take i++w.drop i:=(iU i w).symm
  generalize w.take i=u at Z hw
  generalize w.drop i=v at w2 hw
  subst hw
  cases v with
  | nil =>
   obtain⟨rfl,rfl⟩:=w2
   refine⟨p,hp,r,bB _ ?_,(am3 G C).mpr (.inl ?_)⟩
   ·unfold az6
    rw[if_pos (dj.mpr ⟨a,ha,decide_eq_true hq⟩)];exact hr
   ·rw[bK]
    have:J+0=J:=by omega
    rw[this];exact Z
  | cons x v =>
   obtain⟨y,hy,rfl,hl,c',w3,rfl⟩:=w2
   exact⟨p,hp,q+m1.R,aZ _ (be (f:=(·+m1.R)) hq),(am3 G C).mpr (.inr ⟨u,v,x,rfl,r,hr,J,Z,y,hy,ha,hl,q,c',rfl,w3,rfl⟩)⟩
theorem bh8 {m1 m2:Mc}(G:m1.Ok)(C:m2.Ok)(h:m1.L=m2.L):∀ x∈be0 m1 m2,x.a<m1.R+m2.R/\(97<=x.l/\x.l<97+m1.L)/\x.b<m1.R+m2.R/\x.t<4:=λ x hx=>by
 rcases aX.mp hx with z|z
 ·exact aQ5 (L:=0) (k:=0) (r:=0) G C h x z
 ·obtain⟨y,hy,hb,r,hr,rfl⟩:=ak5.mp z
  have q:=C.ds.1 y hy
  have:=G.en.1 r hr
  have Y:=q.b;have J:=q.l
  exact⟨by show r<_;omega,by rw[h];exact J,by show y.b+m1.R<_;omega,q.t⟩
theorem cd7 {f:Nat->Bool}:∀ l:List Nat,aj0 (l.map λ b=>D.bl (f b))=some (l.map f)
 | []=>rfl
 | b::l=>by rw[aJ];unfold aj0;rw[cd7 l];rfl
section
variable {P:Pr}
def cf6 (m:Mc)(s:Sto)(x:R D):Prop:=x=.ok (.bl (m.bg.any λ b=>decide (b∈m.en))) s
theorem bD0 [Has P ag0][Has P ah1][Has P aa4](n:Nat){m:Mc}(hm:m.Ok)(Y:m.bg.length<=5)(s:Sto):cf6 m s ((aa1 P (n+2)).call "lets_the_empty_word_by" [m.d] s):=by
 have C:(aa1 P (n+2)).call "lets_the_empty_word_by" [m.d] s=_:=zb aa4 (n:=n+1) rfl
 rw[C]
 have b1:=qo (P:=P) n m s
 have J:=qL (P:=P) n m s
 have Z:qV (.tup (zq m.bg)) s=.ok ⟨zq m.bg,[]⟩ s:=rfl
 obtain⟨ρ1,s1,e1,rfl,_⟩:=zu (ok:=λ h=>chk s h []) (g:=zY (aa1 P (n+1)) (.one 0) (.cmp .isin (.var 0) (.call "ends_of" (.ex (.var 1) .nil)))) (λ ρ u=>u=s/\∃ a,ρ=[a,some m.d]) (λ d=>match d with|.int i=>some (.bl (decide (i.toNat∈m.en)))|_=>none) (zq m.bg) [none,some m.d] s ⟨rfl,none,rfl⟩ (λ _ _ _=>rfl) (by
  rintro d hd ρ u ⟨rfl,a,rfl⟩
  obtain⟨i,_,rfl⟩:=aH.mp hd
  refine⟨[some (.int i),some m.d],u,?_,rfl,_,rfl⟩
  unfold zY
  simp -implicitDefEqProofs [J,qE,al8])
 have z:(zq m.bg).filterMap (λ d=>match d with|.int i=>some (.bl (decide (i.toNat∈m.en)))|_=>none)=m.bg.map λ b=>D.bl (decide (b∈m.en)):=by
  unfold zq
  rw[bo,<-bH]
  exact zl λ i _=>by simp[cA]
 rw[z]at e1
 have y:(zq m.bg).length<=LIM:=by unfold zq;rw[aq];unfold LIM;omega
 have G:mk .any (m.bg.map λ b=>D.bl (decide (b∈m.en))) s1=.ok (.bl (m.bg.any λ b=>decide (b∈m.en))) s1:=by
  show(match aj0 (m.bg.map λ b=>D.bl (decide (b∈m.en)))with|some bs=>R.ok (D.bl (bs.any id)) s1|none=>.bad)=_
  rw[cd7]
  simp[List.any_map,cA]
 simp -implicitDefEqProofs only[qw,ab4,ae3,ae2,ae4,ah2,af7,ab1,af3,qh,ac8,ad8,ae6,ac7,ae7,ah5,af9,af6,ad4,ag9,ab7,ah0,ah3,af8,ac6,ac3,af4,ac2,ab5,qK,aa7,ab6,ab8,aa9,ac4,ah7,ac9,ad3,ae8,R.bind_ok,zG,aa5,aa6,aa2,ad1,qy,ab3,ab2,qf,qg,aB,aC,aa3,zN,ac0,ab9,ab0,ac1,ac5,ad9,af0,ae5,af1,ae9,af2,qk,ad0,if_true,if_false,au,decide_true,decide_false,aU,aV,aa4,aJ,bP,bV,bM,aG,qj,b1,Z,y,zS,aC,eI,g9,e1,G]
 exact ay0
def AcR (ds:List Dr)(s:Sto)(x:R D):Prop:=x=.ok (.ref s.length) (s++[.lst (ds.map Dr.d)])
theorem as0 [Has P ag6][Has P ag0][Has P ah1][Has P ag5][Has P ae0](n:Nat){m1 m2:Mc}(h1:m1.Ok)(h2:m2.Ok)(a5:m1.en.length<=5)(s:Sto):AcR (zJ m1 m2 m2.ds) s ((aa1 P (n+2)).call "doors_across" [m1.d,m2.d] s):=by
 have e0:(aa1 P (n+2)).call "doors_across" [m1.d,m2.d] s=_:=zb ae0 (n:=n+1) rfl
 rw[e0]
 have r1:=qv (P:=P) n m1 s
 have sq:qV (.tup (m2.ds.map Dr.d)) (s++[.lst []])=.ok ⟨m2.ds.map Dr.d,[]⟩ (s++[.lst []]):=rfl
 have d1:=qR (P:=P) n (m:=m2) (s:=s++[.lst []])
 simp -implicitDefEqProofs [ae0,r1,d1,sq]
 refine zA (W:=AcR (zJ m1 m2 m2.ds) s) (λ j ρ t=>∃ Z x5 Y x7,j<=m2.ds.length/\ρ=[some m1.d,some m2.d,some (.int m1.R),some (.ref s.length),Z,x5,Y,x7]/\t=s++[.lst ((zJ m1 m2 (m2.ds.take j)).map Dr.d)])
  ⟨_,_,_,_,cz _,rfl,rfl⟩ (λ _ _ _ _ _=>rfl) ?_ ?_
 ·rintro j d ρ t hj ⟨Z,x5,Y,x7,a3,rfl,rfl⟩
  obtain⟨x,hx,rfl⟩:∃ x,m2.ds[j]?=some x/\d=x.d:=by
   rw[az]at hj
   cases e:m2.ds[j]? with
   | none=>rw[e]at hj;cases hj
   | some x=>rw[e]at hj;cases hj;exact⟨x,rfl,rfl⟩
  have hlt:j<m2.ds.length:=(ac.mp hx).1
  have z:m2.ds.take (j+1)=m2.ds.take j++[x]:=by
   have e:m2.ds[j]=x:=(ac.mp hx).2
   rw[<-e,cc]
  have G:x.d=.tup [.int x.a,.str [x.l],.int x.b,.int x.t]:=rfl
  by_cases hb:x.a∈m2.bg
  ·generalize hu:s++[O.lst ((zJ m1 m2 (m2.ds.take j)).map Dr.d)]=u
   have b2:=qo (P:=P) n m2 u
   have b3:=qL (P:=P) n m1 u
   have sD:qV (.tup (zq m1.en)) u=.ok ⟨zq m1.en,[]⟩ u:=rfl
   have h:=al8 (s:=u) (k:=x.a) (l:=m2.bg)
   rw[decide_eq_true hb]at h
   obtain⟨ρ1,s1,e1,rfl,_⟩:=zu (ok:=λ J=>chk u J []) (g:=zY (aa1 P (n+1)) (.one 0) (.tup (.cons (.var 0) (.cons (.var 1) (.cons (.bin .add (.var 2) (.var 3)) (.cons (.var 4) .nil)))))) (λ ρ v=>v=u/\∃ a,ρ=[a,some (.str [x.l]),some (.int x.b),some (.int m1.R),some (.int x.t)]) (λ d=>match d with|.int r=>some (.tup [.int r,.str [x.l],.int (x.b+m1.R),.int x.t])|_=>none) (zq m1.en) [none,some (.str [x.l]),some (.int x.b),some (.int m1.R),some (.int x.t)] u ⟨rfl,none,rfl⟩ (λ _ _ _=>rfl) (by
    rintro d hd ρ v ⟨rfl,a,rfl⟩
    obtain⟨r,_,rfl⟩:=aH.mp hd
    exact⟨[some (.int r),some (.str [x.l]),some (.int x.b),some (.int m1.R),some (.int x.t)],v,by unfold zY;simp -implicitDefEqProofs,rfl,_,rfl⟩)
   have a6:(zq m1.en).filterMap (λ d=>match d with|.int r=>some (.tup [.int r,.str [x.l],.int (x.b+m1.R),.int x.t])|_=>none)=(m1.en.map λ r=>(⟨r,x.l,x.b+m1.R,x.t⟩:Dr)).map Dr.d:=by
    unfold zq
    rw[bo,cO,<-bH]
    exact zl λ q _=>by simp[cA,Dr.d]
   rw[a6]at e1
   have a4:(zq m1.en).length<=LIM:=by unfold zq;rw[aq];unfold LIM;omega
   have C:=aI6 (S:=s1) (k:=s.length) (l:=(zJ m1 m2 (m2.ds.take j)).map Dr.d) (m:=(m1.en.map λ r=>(⟨r,x.l,x.b+m1.R,x.t⟩:Dr)).map Dr.d) (by rw[<-hu];simp) (by
    simp only[aq]
    have a1:=ar9 (m1:=m1) (m2:=m2) (es:=m2.ds.take j)
    have a2:(m2.ds.take j).length*m1.en.length<=75*5:=k6 (by rw[bL];have:=h2.ds.2;omega) a5
    unfold LIM;omega)
   have y:s1.set s.length (.lst ((zJ m1 m2 (m2.ds.take j)).map Dr.d++(m1.en.map λ r=>(⟨r,x.l,x.b+m1.R,x.t⟩:Dr)).map Dr.d))=s++[.lst ((zJ m1 m2 (m2.ds.take (j+1))).map Dr.d)]:=by
    rw[<-hu,z,av7,if_pos hb]
    simp
   rw[y]at C
   refine zX (ρ:=[some m1.d,some m2.d,some (.int m1.R),some (.ref s.length),some (.int x.a),some (.str [x.l]),some (.int x.b),some (.int x.t)]) (s:=s++[.lst ((zJ m1 m2 (m2.ds.take (j+1))).map Dr.d)]) ?_ ⟨_,_,_,_,hlt,rfl,rfl⟩
   simp -implicitDefEqProofs only[qw,ab4,ae3,ae2,ae4,ah2,af7,ab1,af3,qh,ac8,ad8,ae6,ac7,ae7,ah5,af9,af6,ad4,ag9,ab7,ah0,ah3,af8,ac6,ac3,af4,ac2,ab5,qK,aa7,ab6,ab8,aa9,ac4,ah7,ac9,ad3,ae8,R.bind_ok,zG,aa5,aa6,aa2,ad1,qy,ab3,ab2,qf,qg,aB,aC,aa3,zN,ac0,ab9,ab0,ac1,ac5,ad9,af0,ae5,af1,ae9,af2,qk,ad0,if_true,if_false,au,decide_true,decide_false,aU,aV,turn,bn2,G,b2,qE,h,qj,b3,sD,a4,zS,aJ,bP,eI,eG,aC,g9,e1,C]
  ·have b2:=qo (P:=P) n m2 (s++[O.lst ((zJ m1 m2 (m2.ds.take j)).map Dr.d)])
   have h:=al8 (s:=s++[O.lst ((zJ m1 m2 (m2.ds.take j)).map Dr.d)]) (k:=x.a) (l:=m2.bg)
   rw[decide_eq_false hb]at h
   refine zX (ρ:=[some m1.d,some m2.d,some (.int m1.R),some (.ref s.length),some (.int x.a),some (.str [x.l]),some (.int x.b),some (.int x.t)]) (s:=s++[.lst ((zJ m1 m2 (m2.ds.take j)).map Dr.d)]) ?_ ⟨_,_,_,_,hlt,rfl,by rw[z,av7,if_neg hb,bK]⟩
   simp -implicitDefEqProofs only[qw,ab4,ae3,ae2,ae4,ah2,af7,ab1,af3,qh,ac8,ad8,ae6,ac7,ae7,ah5,af9,af6,ad4,ag9,ab7,ah0,ah3,af8,ac6,ac3,af4,ac2,ab5,qK,aa7,ab6,ab8,aa9,ac4,ah7,ac9,ad3,ae8,R.bind_ok,zG,aa5,aa6,aa2,ad1,qy,ab3,ab2,qf,qg,aB,aC,aa3,zN,ac0,ab9,ab0,ac1,ac5,ad9,af0,ae5,af1,ae9,af2,qk,ad0,if_true,if_false,au,decide_true,decide_false,aU,aV,turn,G,b2,qE,h]
 ·rintro ρ t ⟨Z,x5,Y,x7,a3,rfl,rfl⟩
  rw[aq,cQ]
  simp -implicitDefEqProofs only[qw,ab4,ae3,ae2,ae4,ah2,af7,ab1,af3,qh,ac8,ad8,ae6,ac7,ae7,ah5,af9,af6,ad4,ag9,ab7,ah0,ah3,af8,ac6,ac3,af4,ac2,ab5,qK,aa7,ab6,ab8,aa9,ac4,ah7,ac9,ad3,ae8,R.bind_ok,zG,aa5,aa6,aa2,ad1,qy,ab3,ab2,qf,qg,aB,aC,aa3,zN,ac0,ab9,ab0,ac1,ac5,ad9,af0,ae5,af1,ae9,af2,qk,ad0,if_true,if_false,au,decide_true,decide_false,aU,aV,zN]
  exact ap7 (t:=[]) (u:=[]) (by show D.bndL _ _=true;exact zr aq1 _)
def BhR (m1 m2:Mc)(s:Sto)(x:R D):Prop:=∃ m:Mc,m.Ok/\m.L=m1.L/\(∀ w o,ag2 (m.Wk w) o->ag2 (bS7 m1 m2 w) o)/\x=.ok m.d s
theorem behind_ok [Has P ad7][HasC P "LETTERS" (.tup aJ8)][HasC P "MOST_ROOMS" (.int 5)][Has P ag1][Has P af5][Has P ag6][Has P ag0][Has P ah1][Has P ag5][Has P aj9][Has P ae1][Has P ae0][Has P aa4][Has P ai0][Has P ai6](n:Nat){m1 m2:Mc}(z:m1.Ok)(C:m2.Ok)(hL:m1.L=m2.L)(hR:m1.R+m2.R<=5)(s:Sto):BhR m1 m2 s ((aa1 P (n+3)).call "behind" [m1.d,m2.d] s):=by
 have e0:(aa1 P (n+3)).call "behind" [m1.d,m2.d] s=_:=zb ai6 (n:=n+2) rfl
 rw[e0]
 have a1:=aw2 (P:=P) n z hL s
 have a2:=qv (P:=P) (n+1) m1 s
 have a3:=qv (P:=P) (n+1) m2
 have a4:=as9 (P:=P) (n+1) (r:=(m1.R:Int)+m2.R) (by omega) s
 have a5:=qo (P:=P) (n+1) m1
 have a7:=qL (P:=P) (n+1) m1 s
 have a8:=qL (P:=P) (n+1) m2 s
 have lb:∀ {r:Nat} {l:List Nat},r<=5->(∀ i∈l,i<r)/\l.Pairwise (· < ·)->l.length<=5:=λ {r l} hr h=>by
  have:=cH (l₂:=bj r) (h.2.imp λ q=>ax q) λ i hi=>bN.mpr (h.1 i hi)
  rw[eU]at this;omega
 have l2:=lb C.R5 C.bg
 have l3:=lb z.R5 z.en
 have l4:=lb C.R5 C.en
 have b1:=bj7 (P:=P) (n+1) m2.en (by omega) m1.R s
 have b4:(aa1 P (n+2)).call "lets_the_empty_word_by" [m2.d] s=_:=bD0 (P:=P) n C l2 s
 have ad:∀(x y:List Nat),x.length<=5->y.length<=5->qB .add (.tup (zq x)) (.tup (zq (mvN m1.R y))) s=.ok (.tup (zq (x++mvN m1.R y))) s:=λ x y hx hy=>by
  have:(zq x).length+(zq (mvN m1.R y)).length<=LIM:=by
   unfold zq mvN;simp only[aq];unfold LIM;omega
  simp only[qB,this,if_true]
  congr 1
  simp[zq]
 have b2:=ap9 (P:=P) n z C s
 have Y:(aa1 P (n+2)).call "doors_across" [m1.d,m2.d] (s++[.lst ((zK m1.R m1.ds m2.ds).map Dr.d)])=.ok (.ref (s++[O.lst ((zK m1.R m1.ds m2.ds).map Dr.d)]).length) (s++[O.lst ((zK m1.R m1.ds m2.ds).map Dr.d)]++[.lst ((zJ m1 m2 m2.ds).map Dr.d)]):=as0 (P:=P) n z C l3 (s++[O.lst ((zK m1.R m1.ds m2.ds).map Dr.d)])
 have xl:(zJ m1 m2 m2.ds).length<=75*5:=ao ar9 (k6 C.ds.2 l3)
 have yl:(zK m1.R m1.ds m2.ds).length<=150:=by unfold zK;rw[aw,aq];have:=z.ds.2;have:=C.ds.2;omega
 have G:(s++[O.lst ((zK m1.R m1.ds m2.ds).map Dr.d)]).length=s.length+1:=by simp
 have b6:qB .add (.ref s.length) (.ref (s.length+1)) (s++[O.lst ((zK m1.R m1.ds m2.ds).map Dr.d)]++[O.lst ((zJ m1 m2 m2.ds).map Dr.d)])=.ok (.ref (s.length+2)) (s++([O.lst ((zK m1.R m1.ds m2.ds).map Dr.d),O.lst ((zJ m1 m2 m2.ds).map Dr.d),O.lst ((be0 m1 m2).map Dr.d)])):=by
  have g1:(s++[O.lst ((zK m1.R m1.ds m2.ds).map Dr.d)]++[O.lst ((zJ m1 m2 m2.ds).map Dr.d)])[s.length+1]?=some (.lst ((zJ m1 m2 m2.ds).map Dr.d)):=by
   rw[aM (by simp)];simp
  have g2:(s++[O.lst ((zK m1.R m1.ds m2.ds).map Dr.d)]++[O.lst ((zJ m1 m2 m2.ds).map Dr.d)])[s.length]?=some (.lst ((zK m1.R m1.ds m2.ds).map Dr.d)):=by
   rw[aL (by simp)];simp
  have hz:((zK m1.R m1.ds m2.ds).map Dr.d).length+((zJ m1 m2 m2.ds).map Dr.d).length<=LIM:=by
   simp only[aq]
   unfold LIM;omega
  simp only[qB,g1,g2,hz,if_true,qk]
  congr 1
  ·simp
  ·simp[be0]
 obtain⟨ds,hb,J⟩:=aR7 (P:=P) n z ((m1.R:Int)+m2.R) (B:=zq m1.bg) (E:=zq (az6 m1 m2++mvN m1.R m2.en)) qu qu (ds:=be0 m1 m2) (by
  unfold be0;rw[aw];omega) (s:=s++[O.lst ((zK m1.R m1.ds m2.ds).map Dr.d),O.lst ((zJ m1 m2 m2.ds).map Dr.d),O.lst ((be0 m1 m2).map Dr.d)]) (k:=s.length+2) (by
   rw[aM (by omega)]
   simp)
 have a6:(∀ i∈az6 m1 m2,i<m1.R)/\(az6 m1 m2).Pairwise (· < ·):=by
  unfold az6
  split
  ·exact z.en
  ·exact⟨λ i hi=>absurd hi bC,List.Pairwise.nil⟩
 refine⟨⟨m1.L,m1.R+m2.R,m1.bg,az6 m1 m2++mvN m1.R m2.en,ds⟩,hb.okM z.L1 z.L3 (by have:=z.R1;omega) hR ⟨λ i hi=>by have:=z.bg.1 i hi;omega,z.bg.2⟩ (aX7 a6 C.en) (bh8 z C hL),rfl,λ w o ho=>(hb.least ho).congr (bH7 z w),?_⟩
 have hM:(⟨m1.L,m1.R+m2.R,m1.bg,az6 m1 m2++mvN m1.R m2.en,ds⟩:Mc).d=.tup [.int m1.L,.int ((m1.R:Int)+m2.R),.tup (zq m1.bg),.tup (zq (az6 m1 m2++mvN m1.R m2.en)),.tup (ds.map Dr.d)]:=by
  show D.tup [.int m1.L,.int ((m1.R+m2.R:Nat):Int),_,_,_]=_
  rw[Int.natCast_add]
 have done:zH s (⟨m1.L,m1.R+m2.R,m1.bg,az6 m1 m2++mvN m1.R m2.en,ds⟩:Mc).d (s++[O.lst ((zK m1.R m1.ds m2.ds).map Dr.d),O.lst ((zJ m1 m2 m2.ds).map Dr.d),O.lst ((be0 m1 m2).map Dr.d)])=.ok (⟨m1.L,m1.R+m2.R,m1.bg,az6 m1 m2++mvN m1.R m2.en,ds⟩:Mc).d s:=qF (bn1 _) (by nofun)
 rw[hM]at done ⊢
 by_cases hc:m2.bg.any (λ b=>decide (b∈m2.en))=true
 ·have hl:az6 m1 m2=m1.en:=by unfold az6;rw[if_pos hc]
  rw[hc]at b4
  rw[hl]at J done ⊢
  rw[G]at Y
  simp -implicitDefEqProofs only[qw,ab4,ae3,ae2,ae4,ah2,af7,ab1,af3,qh,ac8,ad8,ae6,ac7,ae7,ah5,af9,af6,ad4,ag9,ab7,ah0,ah3,af8,ac6,ac3,af4,ac2,ab5,qK,aa7,ab6,ab8,aa9,ac4,ah7,ac9,ad3,ae8,R.bind_ok,zG,aa5,aa6,aa2,ad1,qy,ab3,ab2,qf,qg,aB,aC,aa3,zN,ac0,ab9,ab0,ac1,ac5,ad9,af0,ae5,af1,ae9,af2,qk,ad0,if_true,if_false,au,decide_true,decide_false,aU,aV,ai6,aJ,bP,bV,bM,aG,a1,a2,a3,a4,a5,a7,a8,b1,b4,ad _ _ l3 l4,b2,Y,b6,J,zN]
  exact done
 ·have hl:az6 m1 m2=[]:=by unfold az6;rw[if_neg hc]
  have Z:m2.bg.any (λ b=>decide (b∈m2.en))=false:=by simpa using hc
  rw[Z]at b4
  rw[hl,bM]at J done ⊢
  rw[G]at Y
  simp -implicitDefEqProofs only[qw,ab4,ae3,ae2,ae4,ah2,af7,ab1,af3,qh,ac8,ad8,ae6,ac7,ae7,ah5,af9,af6,ad4,ag9,ab7,ah0,ah3,af8,ac6,ac3,af4,ac2,ab5,qK,aa7,ab6,ab8,aa9,ac4,ah7,ac9,ad3,ae8,R.bind_ok,zG,aa5,aa6,aa2,ad1,qy,ab3,ab2,qf,qg,aB,aC,aa3,zN,ac0,ab9,ab0,ac1,ac5,ad9,af0,ae5,af1,ae9,af2,qk,ad0,if_true,if_false,au,decide_true,decide_false,aU,aV,ai6,aJ,bP,bV,bM,aG,a1,a2,a3,a4,a5,a7,a8,b1,b4,b2,Y,b6,J,zN]
  exact done
end
noncomputable def bs4 (ke:Int):E:=.mkD .min (.compIf (.one 0) (.seq (.ix (.var 0) (.cst (.int ke)))) (.notN (.ix (.var 1) (.var 0))) (.ix (.var 1) (.var 0)) [none,some 2]) (.cst .non)
noncomputable def inB (ia ib:Nat):Ss:=.cons (.ite (.and (.cmp .eq (.var 7) (.var 4)) (.notN (.ix (.var 2) (.var ia)))) (.cons (.ite (.or (.isN (.ix (.var 5) (.var ib))) (.cmp .lt (.bin .add (.ix (.var 2) (.var ia)) (.var 9)) (.ix (.var 5) (.var ib)))) (.cons (.setIx (.var 5) (.var ib) (.bin .add (.ix (.var 2) (.var ia)) (.var 9))) .nil) .nil) .nil) .nil) .nil
noncomputable def aG1 (it:E)(ia ib:Nat)(kb ke:Int)(rest:Ss):Ss:=.cons (.asg (.one 2) (.mk .list (.comp (.one 0) (.rng1 (.ix (.var 0) (.cst (.int 1)))) (.ix (.lst (.cons (.cst .non) (.cons (.cst (.int 0)) .nil))) (.bi .int (.cons (.cmp .isin (.var 0) (.ix (.var 1) (.cst (.int kb)))) .nil))) [none,some 0])))
 (.cons (.asg (.one 3) (.lst (.cons (bs4 ke) .nil)))
 (.cons (.for_ (.one 4) (.seq it) (.cons (.asg (.one 5) (.mk .list (.comp (.one 0) (.seq (.var 2)) (.cst .non) [none]))) (.cons (.for_ (.tup [6,7,8,9]) (.seq (.ix (.var 0) (.cst (.int 4)))) (inB ia ib)) (.cons (.asg (.one 2) (.var 5)) (.cons (.ex (.meth .append (.var 3) (.cons (bs4 ke) .nil))) .nil))))) rest))
theorem bk7:ad6.body=aG1 (.var 1) 6 8 2 3 (.cons (.ret (.var 3)) .nil):=rfl
theorem bl2:ai9.body=aG1 (.rev (.var 1)) 8 6 3 2 (.cons (.ret (.rev (.var 3))) .nil):=rfl
section
variable {F:Fns}
theorem bb7 {m M:Mc}{ke:Int}(a1:∀ u,ixM m.d (.int ke) u=.ok (.tup (zq M.en)) u){u:Sto}{k2:Nat}{z:List (Option Int)}(g2:u[k2]?=some (.lst (zL z)))(a2:z.length=M.R)(Z:∀ q∈M.en,q<M.R)(a4:M.en.length<=5)(ρ:Env):ev F (bs4 ke) (some m.d::ρ.headD none::some (.ref k2)::ρ.tail) u=.ok (zn (minI (M.en.filterMap λ q=>z.getD q none))) u:=by
 have sE:qV (.tup (zq M.en)) u=.ok ⟨zq M.en,[]⟩ u:=rfl
 obtain⟨ρ3,s3,e3,J,_⟩:=zu (ok:=λ G=>chk u G []) (g:=aI4 F (.one 0) (.notN (.ix (.var 1) (.var 0))) (.ix (.var 1) (.var 0))) (λ ρ v=>v=u/\∃ x,ρ=[x,some (.ref k2)]) (λ d=>match d with|.int i=>(z.getD i.toNat none).map D.int|_=>none) (zq M.en) [none,some (.ref k2)] u ⟨rfl,none,rfl⟩ (λ _ _ h=>rfl) (by
  rintro d hd ρ v ⟨rfl,x,rfl⟩
  obtain⟨q,hq,rfl⟩:=aH.mp hd
  have hlt:q<z.length:=by rw[a2];exact Z q hq
  have ix:=qP (s:=v) g2 (am7 (ag hlt))
  refine⟨[some (.int q),some (.ref k2)],v,?_,rfl,_,rfl⟩
  have hg:z.getD ((q:Int).toNat) none=z[q]:=by simp[lv,hlt]
  unfold aI4
  simp only[hg]
  cases e:z[q]with
  | none=>rw[e]at ix;simp -implicitDefEqProofs [ix]
  | some y=>rw[e]at ix;simp -implicitDefEqProofs [ix])
 subst J
 have a3:(zq M.en).filterMap (λ d=>match d with|.int i=>(z.getD i.toNat none).map D.int|_=>none)=(M.en.filterMap λ q=>z.getD q none).map D.int:=by
  unfold zq
  rw[bo,jS]
  exact zl λ q _=>rfl
 rw[a3]at e3
 have Y:(zq M.en).length<=LIM:=by unfold zq;rw[aq];unfold LIM;omega
 have C:zS (some m.d::ρ.headD none::some (.ref k2)::ρ.tail) [none,some 2]=[none,some (.ref k2)]:=rfl
 unfold bs4
 simp -implicitDefEqProofs only[qw,ab4,ae3,ae2,ae4,ah2,af7,ab1,af3,qh,ac8,ad8,ae6,ac7,ae7,ah5,af9,af6,ad4,ag9,ab7,ah0,ah3,af8,ac6,ac3,af4,ac2,ab5,qK,aa7,ab6,ab8,aa9,ac4,ah7,ac9,ad3,ae8,R.bind_ok,zG,aa5,aa6,aa2,ad1,qy,ab3,ab2,qf,qg,aB,aC,aa3,zN,ac0,ab9,ab0,ac1,ac5,ad9,af0,ae5,af1,ae9,af2,qk,ad0,if_true,if_false,au,decide_true,decide_false,aU,aV,av2,a1,sE,Y,C,e3,aI5]
def WkG (m M:Mc)(w v:List Nat)(s:Sto)(rest:Ss)(F:Fns)(x:R Ct):Prop:=∃(T:Sto) (kf:Nat) (os:List (Option Int)) (x2 x4 x5 x6 x7 x8 x9:Option D),s.length<=kf/\(s++T)[kf]?=some (.lst (os.map zn))/\os.length=v.length+1/\(∀ i o,os[i]?=some o->ag2 (M.Wk (v.take i)) o)/\x=exs F rest [some m.d,some (.str w),x2,some (.ref kf),x4,x5,x6,x7,x8,x9] (s++T)
theorem bM9 {m M:Mc}(hm:M.Ok){w v:List Nat}(hv:v.length<=1000){tf:Dr->Dr}(g1:∀ x,(tf x).l=x.l/\(tf x).t=x.t)(h3:M.R=m.R)(f4:M.ds=m.ds.map tf){ia ib:Nat}{kb ke:Int}{it:E}{rest:Ss}
  (f2:∀ u,ixM m.d (.int kb) u=.ok (.tup (zq M.bg)) u) (d3:∀ u,ixM m.d (.int ke) u=.ok (.tup (zq M.en)) u)
  (a9:∀(e0 e1 e2 e3 e4 e5 e7:Option D) (x:Dr) (u:Sto),aT2 [e0,e1,e2,e3,e4,e5,some (.int x.a),e7,some (.int x.b),some (.int x.t)] ia u=.ok (.int (tf x).a) u)
  (b5:∀(e0 e1 e2 e3 e4 e5 e7:Option D) (x:Dr) (u:Sto),aT2 [e0,e1,e2,e3,e4,e5,some (.int x.a),e7,some (.int x.b),some (.int x.t)] ib u=.ok (.int (tf x).b) u)
  (k1:∀(ρ:Env) (u:Sto),ev F it (some m.d::some (.str w)::ρ) u=.ok (.str v) u) (hF:∀ u,qV (.tup (m.ds.map Dr.d)) u=.ok ⟨m.ds.map Dr.d,[]⟩ u) (s:Sto):WkG m M w v s rest F (exs F (aG1 it ia ib kb ke rest) [some m.d,some (.str w),none,none,none,none,none,none,none,none] s):=by
 have h5:=hm.R5
 have h6:∀ u,ixM m.d (.int 1) u=.ok (.int m.R) u:=λ _=>rfl
 have i1:∀ u,ixM m.d (.int 4) u=.ok (.tup (m.ds.map Dr.d)) u:=λ _=>rfl
 have g0:M.en.length<=5:=by
  have:=cH (l₂:=bj M.R) (hm.en.2.imp λ q=>ax q) λ i hi=>bN.mpr (hm.en.1 i hi)
  rw[eU]at this;omega
 have h8:bm0 (.int m.R) s=.ok ⟨qO 0 m.R,[]⟩ s:=qT (by unfold W62;omega) (by unfold W62;omega)
 have f1:(qO 0 (m.R:Int)).length<=LIM:=by simp[qO];unfold LIM;omega
 obtain⟨ρ1,s1,e1,T1,b7⟩:=zu (ok:=λ c3=>chk s c3 []) (g:=zY F (.one 0) (.ix (.lst (.cons (.cst .non) (.cons (.cst (.int 0)) .nil))) (.bi .int (.cons (.cmp .isin (.var 0) (.ix (.var 1) (.cst (.int kb)))) .nil)))) (λ ρ u=>∃ T,u=s++T/\∃ x,ρ=[x,some m.d])
  (λ d=>match d with|.int i=>some (zn (if i.toNat∈M.bg then some 0 else none))|_=>none) (qO 0 m.R) [none,some m.d] s ⟨[],by simp,none,rfl⟩ (λ _ _ _=>rfl) (by
   rintro d hd ρ u ⟨T,rfl,x,rfl⟩
   obtain⟨j,hj⟩:=c7 hd
   obtain⟨m0,rfl⟩:=qI hj
   rw[fO]
   have f5:=al8 (s:=s++T++[.lst [.non,.int 0]]) (k:=j) (l:=M.bg)
   have hl:(s++T++[O.lst [.non,.int 0]])[(s++T).length]?=some (.lst [.non,.int 0]):=by simp
   by_cases hb:j∈M.bg
   ·have c2:ixM (.ref (s++T).length) (.int 1) (s++T++[O.lst [.non,.int 0]])=.ok (.int 0) _:=qP (j:=1) hl rfl
    refine⟨[some (.int j),some m.d],s++T++[.lst [.non,.int 0]],?_,T++[.lst [.non,.int 0]],by simp,_,rfl⟩
    unfold zY
    simp -implicitDefEqProofs only[zG,qy,ag9,ad4,qK,ab5,ac8,ad3,ac9,R.bind_ok,qk,ah0,ac7,qh,qf,qg,f2,qE,f5,hb,decide_true,aw3,if_true,c2,bp,qd]
   ·have c2:ixM (.ref (s++T).length) (.int 0) (s++T++[O.lst [.non,.int 0]])=.ok .non _:=qP (j:=0) hl rfl
    refine⟨[some (.int j),some m.d],s++T++[.lst [.non,.int 0]],?_,T++[.lst [.non,.int 0]],by simp,_,rfl⟩
    unfold zY
    simp -implicitDefEqProofs only[zG,qy,ag9,ad4,qK,ab5,ac8,ad3,ac9,R.bind_ok,qk,ah0,ac7,qh,qf,qg,f2,qE,f5,hb,decide_false,aw3,if_false,au,c2,bp,zF])
 obtain⟨rfl,x1,rfl⟩:=b7
 have d2:(qO 0 (m.R:Int)).filterMap (λ d=>match d with|.int i=>some (zn (if i.toNat∈M.bg then some 0 else none))|_=>none)=zL ((bj m.R).map λ k=>if k∈M.bg then some 0 else none):=by
  unfold qO zL
  rw[bo,cO,<-bH]
  simp only[iy,bp]
  refine zl λ k _=>?_
  simp only[cA,fO,bp]
 rw[d2]at e1
 have f3:zS [some m.d,some (.str w),none,none,none,none,none,none,none,none] [none,some 0]=[none,some m.d]:=rfl
 have b4:qC (qN M (v.take 0)) ((bj m.R).map λ k=>if k∈M.bg then some 0 else none):=by
  intro k o hk
  rw[az]at hk
  by_cases hkR:k<m.R
  ·rw[di hkR]at hk
   cases hk
   show ag2 _ (if k∈M.bg then some 0 else none)
   by_cases hb:k∈M.bg
   ·rw[if_pos hb]
    exact⟨⟨k,hb,rfl,rfl⟩,by rintro c ⟨p,_,_,rfl⟩;omega⟩
   ·rw[if_neg hb]
    rintro c ⟨p,hp,rfl,_⟩;exact hb hp
  ·rw[bT (by simp;omega)]at hk;cases hk
 generalize c1:((bj m.R).map λ k=>if k∈M.bg then some (0:Int)else none)=row0 at e1 b4
 have c4:row0.length=M.R:=by rw[<-c1,h3];simp
 have hA:(s++T1++[O.lst (zL row0)])[(s++T1).length]?=some (.lst (zL row0)):=by simp
 have g3:=bb7 (F:=F) d3 hA c4 hm.en.1 g0 (some (.str w)::[none,none,none,none,none,none,none])
 generalize hB:s++T1++[O.lst (zL row0)]=B at hA g3
 have m2:B.length=(s++T1).length+1:=by rw[<-hB,aw];rfl
 have sW:∀ u,qV (.str v) u=.ok ⟨v.map λ c=>.str [c],[]⟩ u:=λ _=>rfl
 have d4:ev F (bs4 ke) [some m.d,some (.str w),some (.ref (s++T1).length),none,none,none,none,none,none,none] B=_:=g3
 have st:exs F (aG1 it ia ib kb ke rest) [some m.d,some (.str w),none,none,none,none,none,none,none,none] s=(aS7 (λ u=>chk (B++[O.lst [zn (minI (M.en.filterMap λ q=>row0.getD q none))]]) u []) (turn F (.one 4) (.cons (.asg (.one 5) (.mk .list (.comp (.one 0) (.seq (.var 2)) (.cst .non) [none]))) (.cons (.for_ (.tup [6,7,8,9]) (.seq (.ix (.var 0) (.cst (.int 4)))) (inB ia ib)) (.cons (.asg (.one 2) (.var 5)) (.cons (.ex (.meth .append (.var 3) (.cons (bs4 ke) .nil))) .nil))))) (v.map λ c=>.str [c]) [some m.d,some (.str w),some (.ref (s++T1).length),some (.ref B.length),none,none,none,none,none,none] (B++[O.lst [zn (minI (M.en.filterMap λ q=>row0.getD q none))]])).bind (nxt F rest):=by
  unfold aG1
  simp -implicitDefEqProofs only[qw,ab4,ae3,ae2,ae4,ah2,af7,ab1,af3,qh,ac8,ad8,ae6,ac7,ae7,ah5,af9,af6,ad4,ag9,ab7,ah0,ah3,af8,ac6,ac3,af4,ac2,ab5,qK,aa7,ab6,ab8,aa9,ac4,ah7,ac9,ad3,ae8,R.bind_ok,zG,aa5,aa6,aa2,ad1,qy,ab3,ab2,qf,qg,aB,aC,aa3,zN,ac0,ab9,ab0,ac1,ac5,ad9,af0,ae5,af1,ae9,af2,qk,ad0,if_true,if_false,au,decide_true,decide_false,aU,aV,h6,h8,qj,f1,f3,e1,mk,hB,d4,k1,sW]
 rw[st]
 have b7:s.length<=(s++T1).length:=by simp
 have i3:B=s++(T1++[O.lst (zL row0)]):=by rw[<-hB];simp
 have gB:(B++[O.lst [zn (minI (M.en.filterMap λ q=>row0.getD q none))]])[B.length]?=some (.lst [zn (minI (M.en.filterMap λ q=>row0.getD q none))]):=by simp
 generalize l5:B.length=kf at *
 generalize m1:(s++T1).length=ka at *
 refine zA (W:=WkG m M w v s rest F) (λ j ρ u=>∃(T:Sto) (k2:Nat) (C os:List (Option Int)) (x4 x5 x6 x7 x8 x9:Option D),u=s++T/\s.length<=k2/\k2≠kf/\u[k2]?=some (.lst (zL C))/\C.length=M.R/\qC (qN M (v.take j)) C/\u[kf]?=some (.lst (os.map zn))/\os.length=j+1/\j<=v.length/\(∀ i o,os[i]?=some o->ag2 (M.Wk (v.take i)) o)/\ρ=[some m.d,some (.str w),some (.ref k2),some (.ref kf),x4,x5,x6,x7,x8,x9])
  ⟨T1++[O.lst (zL row0)]++[O.lst [zn (minI (M.en.filterMap λ q=>row0.getD q none))]],ka,row0,[minI (M.en.filterMap λ q=>row0.getD q none)],_,_,_,_,_,_,by rw[i3];simp,b7,by omega,zD hA,c4,b4,gB,rfl,cz _,λ i o hi=>?_,rfl⟩ (λ _ _ _ _ _=>rfl) ?_ ?_
 ·cases i with
  | zero=>cases hi;exact qz c4 hm.en.1 b4
  | succ i=>cases hi
 ·rintro j d ρ u hj ⟨T,k2,C,os,x4,x5,x6,x7,x8,x9,rfl,k7,k0,g2,a7,b6,gf,a2,h7,b8,rfl⟩
  obtain⟨c,hc,rfl⟩:∃ c,v[j]?=some c/\d=.str [c]:=by
   rw[az]at hj
   cases e:v[j]? with
   | none=>rw[e]at hj;cases hj
   | some c=>rw[e]at hj;cases hj;exact⟨c,rfl,rfl⟩
  have l1:k2<(s++T).length:=(ac.mp g2).1
  have l4:kf<(s++T).length:=(ac.mp gf).1
  have sq:qV (.ref k2) (s++T)=.ok ⟨zL C,[k2]⟩ (s++T):=by simp only[qV,g2]
  obtain⟨ρ2,s2,e2,g7,_⟩:=zu (ok:=λ c3=>chk (s++T) c3 [k2]) (g:=zY F (.one 0) (.cst .non)) (λ ρ u=>u=s++T/\∃ x,ρ=[x]) (λ _=>some .non) (zL C) [none] (s++T) ⟨rfl,none,rfl⟩ (λ _ _ h=>by rw[h.1];simp[chk]) (by
   rintro d _ ρ u ⟨rfl,x,rfl⟩
   exact⟨[some d],s++T,by unfold zY;simp -implicitDefEqProofs,rfl,_,rfl⟩)
  subst g7
  have i2:(zL C).filterMap (λ _=>some D.non)=zL (C.map λ _=>none):=by
   unfold zL
   rw[cO,bo,<-bH]
   exact zl λ _ _=>rfl
  rw[i2]at e2
  have h1:(zL C).length<=LIM:=by rw[ao9,a7];unfold LIM;omega
  have h0:∀ x:Env,zS x [none]=[none]:=λ _=>rfl
  conv=>arg 2;simp -implicitDefEqProofs [turn,sq,h1,h0,e2,mk,i1,hF]
  rw[<-bX,<-aw]
  have h9:(s++T++[O.lst (zL (C.map λ _=>none))])[(s++T).length]?=some (.lst (zL (C.map λ _=>none))):=by simp
  have g5:s.length<=(s++T).length:=by simp
  generalize l2:(s++T).length=k4 at *
  have hlt:j<v.length:=(ac.mp hc).1
  have l0:v.take j++[c]=v.take (j+1):=by
   have e:v[j]=c:=(ac.mp hc).2
   rw[<-e,cc]
  refine zA (W:=Nx _) (λ i ρ z=>∃(G:Sto) (J:List (Option Int)) (y6 y7 y8 y9:Option D),z=s++G/\z[k2]?=some (.lst (zL C))/\z[kf]?=some (.lst (os.map zn))/\z[k4]?=some (.lst (zL J))/\J.length=M.R/\qC (am5 (qN M (v.take j)) c ((m.ds.take i).map tf)) J/\ρ=[some m.d,some (.str w),some (.ref k2),some (.ref kf),some (.str [c]),some (.ref k4),y6,y7,y8,y9])
   ⟨T++[.lst (zL (C.map λ _=>none))],C.map λ _=>none,_,_,_,_,by simp,zD g2,zD gf,h9,by simp[a7],?_,rfl⟩ (λ _ _ _ _ _=>rfl) ?_ ?_
  ·intro k o hk
   rw[az]at hk
   cases e:C[k]? with
   | none=>rw[e]at hk;cases hk
   | some _ =>
    rw[e]at hk;cases hk
    rintro c' ⟨d,hd,_⟩
    rw[jg]at hd;cases hd
  ·rintro i d ρ z hi ⟨G,J,y6,y7,y8,y9,rfl,a5,a3,g4,Y,a1,rfl⟩
   obtain⟨x,hx,rfl⟩:∃ x,m.ds[i]?=some x/\d=x.d:=by
    rw[az]at hi
    cases e:m.ds[i]? with
    | none=>rw[e]at hi;cases hi
    | some x=>rw[e]at hi;cases hi;exact⟨x,rfl,rfl⟩
   have hok:=hm.ds.1 (tf x) (by rw[f4];exact be (aQ hx))
   have a8:(m.ds.take (i+1)).map tf=(m.ds.take i).map tf++[tf x]:=by
    have hlt:i<m.ds.length:=(ac.mp hx).1
    have e:m.ds[i]=x:=(ac.mp hx).2
    rw[<-e,<-cc hlt,et,aJ,bP]
   obtain⟨oa,ha⟩:∃ o,C[(tf x).a]?=some o:=⟨C[(tf x).a]'(by rw[a7];exact hok.a),ag _⟩
   obtain⟨ob,hb⟩:∃ o,J[(tf x).b]?=some o:=⟨J[(tf x).b]'(by rw[Y];exact hok.b),ag _⟩
   have ja:ixM (.ref k2) (.int (tf x).a) (s++G)=.ok (zn oa) (s++G):=qP a5 (am7 ha)
   have jb:ixM (.ref k4) (.int (tf x).b) (s++G)=.ok (zn ob) (s++G):=qP g4 (am7 hb)
   have k5:k2≠k4:=by omega
   have k3:kf≠k4:=by omega
   have h4:k4<(s++G).length:=(ac.mp g4).1
   have a4:x.d=.tup [.int x.a,.str [x.l],.int x.b,.int x.t]:=rfl
   have e6:=(g1 x).1
   have h2:=(g1 x).2
   have stay:qC (am5 (qN M (v.take j)) c ((m.ds.take (i+1)).map tf)) J->∃(d0:Sto) (Z:List (Option Int)) (z6 z7 z8 z9:Option D),s++G=s++d0/\(s++G)[k2]?=some (.lst (zL C))/\(s++G)[kf]?=some (.lst (os.map zn))/\(s++G)[k4]?=some (.lst (zL Z))/\Z.length=M.R/\qC (am5 (qN M (v.take j)) c ((m.ds.take (i+1)).map tf)) Z/\[some m.d,some (.str w),some (.ref k2),some (.ref kf),some (.str [c]),some (.ref k4),some (.int x.a),some (.str [x.l]),some (.int x.b),some (.int x.t)]=[some m.d,some (.str w),some (.ref k2),some (.ref kf),some (.str [c]),some (.ref k4),z6,z7,z8,z9]:=λ h=>⟨G,J,_,_,_,_,rfl,a5,a3,g4,Y,h,rfl⟩
   by_cases hl:x.l=c
   ·cases oa with
    | none =>
     refine zX (ρ:=[some m.d,some (.str w),some (.ref k2),some (.ref kf),some (.str [c]),some (.ref k4),some (.int x.a),some (.str [x.l]),some (.int x.b),some (.int x.t)]) (s:=s++G) ?_ (stay ?_)
     ·unfold inB
      simp -implicitDefEqProofs only[qw,ab4,ae3,ae2,ae4,ah2,af7,ab1,af3,qh,ac8,ad8,ae6,ac7,ae7,ah5,af9,af6,ad4,ag9,ab7,ah0,ah3,af8,ac6,ac3,af4,ac2,ab5,qK,aa7,ab6,ab8,aa9,ac4,ah7,ac9,ad3,ae8,R.bind_ok,zG,aa5,aa6,aa2,ad1,qy,ab3,ab2,qf,qg,aB,aC,aa3,zN,ac0,ab9,ab0,ac1,ac5,ad9,af0,ae5,af1,ae9,af2,qk,ad0,if_true,if_false,au,decide_true,decide_false,aU,aV,turn,a4,hl,am6,a9,ja,zF]
     ·rw[a8]
      refine al3 a1 λ c' b3=>?_
      exact b6 (tf x).a none ha c' b3.2
    | some y =>
     have a6:=aD9 a1 (e6.trans hl) (b6 (tf x).a (some y) ha) hb
     rw[h2]at a6
     have b0:setIx (.ref k4) (.int (tf x).b) (.int (y+x.t)) (s++G)=.ok () ((s++G).set k4 (.lst (zL (J.set (tf x).b (some (y+x.t)))))):=by
      rw[aY3 g4 (by rw[ao9,Y];exact hok.b)]
      unfold zL
      rw[lJ];rfl
     have b1:minO ob (some (y+x.t))=some (y+x.t)->∃(d0:Sto) (Z:List (Option Int)) (z6 z7 z8 z9:Option D),(s++G).set k4 (.lst (zL (J.set (tf x).b (some (y+x.t)))))=s++d0/\((s++G).set k4 (.lst (zL (J.set (tf x).b (some (y+x.t))))))[k2]?=some (.lst (zL C))/\((s++G).set k4 (.lst (zL (J.set (tf x).b (some (y+x.t))))))[kf]?=some (.lst (os.map zn))/\((s++G).set k4 (.lst (zL (J.set (tf x).b (some (y+x.t))))))[k4]?=some (.lst (zL Z))/\Z.length=M.R/\qC (am5 (qN M (v.take j)) c ((m.ds.take (i+1)).map tf)) Z/\[some m.d,some (.str w),some (.ref k2),some (.ref kf),some (.str [c]),some (.ref k4),some (.int x.a),some (.str [x.l]),some (.int x.b),some (.int x.t)]=[some m.d,some (.str w),some (.ref k2),some (.ref kf),some (.str [c]),some (.ref k4),z6,z7,z8,z9]:=λ h =>
      ⟨_,J.set (tf x).b (some (y+x.t)),_,_,_,_,au6 g5,by rw[aY (cV k5)];exact a5,by rw[aY (cV k3)];exact a3,z0 h4,by simp[Y],by rw[a8,<-h];exact a6,rfl⟩
     cases ob with
     | none =>
      refine zX (ρ:=[some m.d,some (.str w),some (.ref k2),some (.ref kf),some (.str [c]),some (.ref k4),some (.int x.a),some (.str [x.l]),some (.int x.b),some (.int x.t)]) (s:=(s++G).set k4 (.lst (zL (J.set (tf x).b (some (y+x.t)))))) ?_ (b1 rfl)
      unfold inB
      simp -implicitDefEqProofs only[qw,ab4,ae3,ae2,ae4,ah2,af7,ab1,af3,qh,ac8,ad8,ae6,ac7,ae7,ah5,af9,af6,ad4,ag9,ab7,ah0,ah3,af8,ac6,ac3,af4,ac2,ab5,qK,aa7,ab6,ab8,aa9,ac4,ah7,ac9,ad3,ae8,R.bind_ok,zG,aa5,aa6,aa2,ad1,qy,ab3,ab2,qf,qg,aB,aC,aa3,zN,ac0,ab9,ab0,ac1,ac5,ad9,af0,ae5,af1,ae9,af2,qk,ad0,if_true,if_false,au,decide_true,decide_false,aU,aV,turn,a4,hl,am6,a9,ja,b5,jb,zF,qd,reduceCtorEq,b0]
     | some z =>
      by_cases hlt:y+x.t<z
      ·refine zX (ρ:=[some m.d,some (.str w),some (.ref k2),some (.ref kf),some (.str [c]),some (.ref k4),some (.int x.a),some (.str [x.l]),some (.int x.b),some (.int x.t)]) (s:=(s++G).set k4 (.lst (zL (J.set (tf x).b (some (y+x.t)))))) ?_ (b1 (by show(if y+(x.t:Int)<z then _ else _)=_;rw[if_pos hlt]))
       unfold inB
       simp -implicitDefEqProofs only[qw,ab4,ae3,ae2,ae4,ah2,af7,ab1,af3,qh,ac8,ad8,ae6,ac7,ae7,ah5,af9,af6,ad4,ag9,ab7,ah0,ah3,af8,ac6,ac3,af4,ac2,ab5,qK,aa7,ab6,ab8,aa9,ac4,ah7,ac9,ad3,ae8,R.bind_ok,zG,aa5,aa6,aa2,ad1,qy,ab3,ab2,qf,qg,aB,aC,aa3,zN,ac0,ab9,ab0,ac1,ac5,ad9,af0,ae5,af1,ae9,af2,qk,ad0,if_true,if_false,au,decide_true,decide_false,aU,aV,turn,a4,hl,am6,a9,ja,b5,jb,zF,qd,reduceCtorEq,b0,hlt]
      ·refine zX (ρ:=[some m.d,some (.str w),some (.ref k2),some (.ref kf),some (.str [c]),some (.ref k4),some (.int x.a),some (.str [x.l]),some (.int x.b),some (.int x.t)]) (s:=s++G) ?_ (stay ?_)
       ·unfold inB
        simp -implicitDefEqProofs only[qw,ab4,ae3,ae2,ae4,ah2,af7,ab1,af3,qh,ac8,ad8,ae6,ac7,ae7,ah5,af9,af6,ad4,ag9,ab7,ah0,ah3,af8,ac6,ac3,af4,ac2,ab5,qK,aa7,ab6,ab8,aa9,ac4,ah7,ac9,ad3,ae8,R.bind_ok,zG,aa5,aa6,aa2,ad1,qy,ab3,ab2,qf,qg,aB,aC,aa3,zN,ac0,ab9,ab0,ac1,ac5,ad9,af0,ae5,af1,ae9,af2,qk,ad0,if_true,if_false,au,decide_true,decide_false,aU,aV,turn,a4,hl,am6,a9,ja,b5,jb,zF,qd,reduceCtorEq,hlt]
       ·rw[a8]
        have e:minO (some z) (some (y+(x.t:Int)))=some z:=by show(if y+(x.t:Int)<z then _ else _)=_;rw[if_neg hlt]
        rw[e]at a6
        have e2:J.set (tf x).b (some z)=J:=by
         have l3:(tf x).b<J.length:=(ac.mp hb).1
         have e3:J[(tf x).b]=some z:=(ac.mp hb).2
         rw[<-e3,dJ]
        rwa [e2]at a6
   ·refine zX (ρ:=[some m.d,some (.str w),some (.ref k2),some (.ref kf),some (.str [c]),some (.ref k4),some (.int x.a),some (.str [x.l]),some (.int x.b),some (.int x.t)]) (s:=s++G) ?_ (stay ?_)
    ·unfold inB
     simp -implicitDefEqProofs only[qw,ab4,ae3,ae2,ae4,ah2,af7,ab1,af3,qh,ac8,ad8,ae6,ac7,ae7,ah5,af9,af6,ad4,ag9,ab7,ah0,ah3,af8,ac6,ac3,af4,ac2,ab5,qK,aa7,ab6,ab8,aa9,ac4,ah7,ac9,ad3,ae8,R.bind_ok,zG,aa5,aa6,aa2,ad1,qy,ab3,ab2,qf,qg,aB,aC,aa3,zN,ac0,ab9,ab0,ac1,ac5,ad9,af0,ae5,af1,ae9,af2,qk,ad0,if_true,if_false,au,decide_true,decide_false,aU,aV,turn,a4,hl,am6]
    ·rw[a8]
     exact al3 a1 λ c' b3=>hl (e6.symm.trans b3.1)
  ·rintro ρ z ⟨G,J,y6,y7,y8,y9,rfl,a5,a3,g4,Y,a1,rfl⟩
   rw[aq,cQ,<-f4]at a1
   have b2:qC (qN M (v.take (j+1))) J:=λ k o hk=>by
    rw[<-l0]
    exact(a1 k o hk).congr λ c=>aB5
   have mn:ev F (bs4 ke) [some m.d,some (.str w),some (.ref k4),some (.ref kf),some (.str [c]),some (.ref k4),y6,y7,y8,y9] (s++G)=_:=bb7 (F:=F) d3 g4 Y hm.en.1 g0 (some (.str w)::[some (.ref kf),some (.str [c]),some (.ref k4),y6,y7,y8,y9])
   have i0:=qJ (v:=zn (minI (M.en.filterMap λ q=>J.getD q none))) a3 (by rw[aq,a2];unfold LIM;omega)
   have f0:kf<(s++G).length:=(ac.mp a3).1
   have d1:s.length<=kf:=by omega
   refine zX (ρ:=[some m.d,some (.str w),some (.ref k4),some (.ref kf),some (.str [c]),some (.ref k4),y6,y7,y8,y9]) (s:=(s++G).set kf (.lst (os.map zn++[zn (minI (M.en.filterMap λ q=>J.getD q none))]))) ?_ ⟨_,k4,J,os++[minI (M.en.filterMap λ q=>J.getD q none)],_,_,_,_,_,_,au6 d1,g5,by omega,by rw[aY (by omega)];exact g4,Y,b2,by rw[z0 f0];simp,by simp[a2],hlt,λ i o hi=>?_,rfl⟩
   ·simp -implicitDefEqProofs only[qw,ab4,ae3,ae2,ae4,ah2,af7,ab1,af3,qh,ac8,ad8,ae6,ac7,ae7,ah5,af9,af6,ad4,ag9,ab7,ah0,ah3,af8,ac6,ac3,af4,ac2,ab5,qK,aa7,ab6,ab8,aa9,ac4,ah7,ac9,ad3,ae8,R.bind_ok,zG,aa5,aa6,aa2,ad1,qy,ab3,ab2,qf,qg,aB,aC,aa3,zN,ac0,ab9,ab0,ac1,ac5,ad9,af0,ae5,af1,ae9,af2,qk,ad0,if_true,if_false,au,decide_true,decide_false,aU,aV,mn,i0]
   ·by_cases hil:i<os.length
    ·rw[aL hil]at hi;exact b8 i o hi
    ·by_cases hie:i=os.length
     ·subst hie
      rw[aM (aj _),ki]at hi
      cases hi
      rw[a2];exact qz Y hm.en.1 b2
     ·rw[bT (by rw[aw,cW];omega)]at hi;cases hi
 ·rintro ρ u ⟨T,k2,C,os,x4,x5,x6,x7,x8,x9,rfl,k7,k0,g2,a7,b6,gf,a2,h7,b8,rfl⟩
  rw[aq]at a2
  exact⟨T,kf,os,_,_,_,_,_,_,_,by omega,gf,a2,b8,rfl⟩
end
noncomputable def cg5 (w:Nat)(l l':List Nat):List Nat:=l.flatMap λ r=>l'.map λ q=>r*w+q
noncomputable def aA5:Option Int->Option Int->Option Int
 | some a,some b=>some (a+b)
 | _,_=>none
theorem aE1 {s T:Sto}{k:Nat}{o:O}(hk:s.length<=k)(hg:(s++T)[k]?=some o)(ho:o.bnd s.length=true):zH s (.ref k) (s++T)=.ok (.ref s.length) (s++[o]):=by
 have h:(s++T).take s.length=s:=by rw[dt (aj _),dA (aj _)]
 unfold zH
 rw[ar8,if_pos rfl]
 simp only
 rw[if_neg (by omega),hg]
 simp only
 rw[if_pos ho,h]
theorem aO2 (os:List (Option Int))(n:Nat):(O.lst (os.map zn)).bnd n=true:=by
 show D.bndL _ _=true
 refine zr (λ d hd n=>?_) n
 obtain⟨o,_,rfl⟩:=aH.mp hd
 cases o<;>rfl
theorem bf4 {F:Fns}{ρ:Env}{s:Sto}(a b:E):evI F (.zip (.seq a) (.seq b)) ρ s=(ev F a ρ s).bind λ x s=>(ev F b ρ s).bind λ y s=>(al7 x s).bind λ p s=>(al7 y s).bind λ q s=>.ok ⟨aE9 p.its q.its,p.src++q.src⟩ s:=rfl
section
variable {P:Pr}
def PtR (S:Nat->Int->Prop)(w:List Nat)(s:Sto)(x:R D):Prop:=∃ os:List (Option Int),os.length=w.length+1/\(∀ i o,os[i]?=some o->ag2 (S i) o)/\x=.ok (.ref s.length) (s++[.lst (os.map zn)])
theorem bH1 [Has P ad6](n:Nat){m:Mc}(y:m.Ok){w:List Nat}(hw:w.length<=1000)(s:Sto):PtR (λ i=>m.Wk (w.take i)) w s ((aa1 P (n+1)).call "_law_beginnings" [m.d,.str w] s):=by
 have h:(aa1 P (n+1)).call "_law_beginnings" [m.d,.str w] s=_:=zb ad6 (n:=n) rfl
 rw[h,bk7]
 obtain⟨T,Y,os,C,x4,z,x6,J,Z,G,hk,hg,hl,ho,e⟩:=bM9 (F:=aa1 P n) (m:=m) (M:=m) y (w:=w) (v:=w) hw (tf:=id) (λ _=>⟨rfl,rfl⟩) rfl (by simp) (ia:=6) (ib:=8) (kb:=2) (ke:=3) (it:=.var 1) (rest:=.cons (.ret (.var 3)) .nil) (λ _=>rfl) (λ _=>rfl) (λ _ _ _ _ _ _ _ _ _=>rfl) (λ _ _ _ _ _ _ _ _ _=>rfl) (λ _ _=>rfl) (λ _=>rfl) s
 have e':exs (aa1 P n) (aG1 (.var 1) 6 8 2 3 (.cons (.ret (.var 3)) .nil)) (lQ some [m.d,.str w]++aG ad6.vs none) s=_:=e
 rw[e']
 refine⟨os,hl,ho,?_⟩
 simp -implicitDefEqProofs only[qw,ab4,ae3,ae2,ae4,ah2,af7,ab1,af3,qh,ac8,ad8,ae6,ac7,ae7,ah5,af9,af6,ad4,ag9,ab7,ah0,ah3,af8,ac6,ac3,af4,ac2,ab5,qK,aa7,ab6,ab8,aa9,ac4,ah7,ac9,ad3,ae8,R.bind_ok,zG,aa5,aa6,aa2,ad1,qy,ab3,ab2,qf,qg,aB,aC,aa3,zN,ac0,ab9,ab0,ac1,ac5,ad9,af0,ae5,af1,ae9,af2,qk,ad0,if_true,if_false,au,decide_true,decide_false,aU,aV]
 exact aE1 hk hg (aO2 os _)
theorem bJ1 [Has P ai9](n:Nat){m:Mc}(y:m.Ok){w:List Nat}(hw:w.length<=1000)(s:Sto):PtR (λ i=>m.Wk (w.drop i)) w s ((aa1 P (n+1)).call "_law_rests" [m.d,.str w] s):=by
 have z:(aa1 P (n+1)).call "_law_rests" [m.d,.str w] s=_:=zb ai9 (n:=n) rfl
 rw[z,bl2]
 obtain⟨T,G,os,Z,Y,x5,J,x7,x8,x9,hk,hg,hl,ho,e⟩:=bM9 (F:=aa1 P n) (m:=m) (M:=m.turn) (Mc.turn_ok y) (w:=w) (v:=w.reverse) (by rw[cE];exact hw) (tf:=Dr.turn) (λ _=>⟨rfl,rfl⟩) rfl rfl (ia:=8) (ib:=6) (kb:=3) (ke:=2) (it:=.rev (.var 1)) (rest:=.cons (.ret (.rev (.var 3))) .nil) (λ _=>rfl) (λ _=>rfl) (λ _ _ _ _ _ _ _ _ _=>rfl) (λ _ _ _ _ _ _ _ _ _=>rfl) (λ _ _=>rfl) (λ _=>rfl) s
 have e':exs (aa1 P n) (aG1 (.rev (.var 1)) 8 6 3 2 (.cons (.ret (.rev (.var 3))) .nil)) (lQ some [m.d,.str w]++aG ai9.vs none) s=_:=e
 rw[e']
 rw[cE]at hl
 refine⟨os.reverse,by rw[cE];exact hl,λ i o hi=>?_,?_⟩
 ·have h:i<os.length:=by
   have:=(ac.mp hi).1
   rwa [cE]at this
  rw[iR h]at hi
  refine(ho _ o hi).congr λ c=>?_
  have:w.reverse.take (os.length - 1 - i)=(w.drop i).reverse:=by
   rw[hl,List.reverse_drop]
   congr 1
  rw[this]
  exact Mc.turn_wk
 ·have C:bz7 (.ref G) (s++T)=.ok (.ref (s++T).length) (s++T++[.lst (os.map zn).reverse]):=by
   simp only[bz7,hg,qk]
  simp -implicitDefEqProofs only[qw,ab4,ae3,ae2,ae4,ah2,af7,ab1,af3,qh,ac8,ad8,ae6,ac7,ae7,ah5,af9,af6,ad4,ag9,ab7,ah0,ah3,af8,ac6,ac3,af4,ac2,ab5,qK,aa7,ab6,ab8,aa9,ac4,ah7,ac9,ad3,ae8,R.bind_ok,zG,aa5,aa6,aa2,ad1,qy,ab3,ab2,qf,qg,aB,aC,aa3,zN,ac0,ab9,ab0,ac1,ac5,ad9,af0,ae5,af1,ae9,af2,qk,ad0,if_true,if_false,au,decide_true,decide_false,aU,aV,bI2,C]
  rw[bX,<-List.map_reverse]
  exact aE1 (by simp) (by rw[<-bX];simp) (aO2 _ _)
noncomputable def bK2 (A B:List (Option Int)):List Int:=(A.zip B).filterMap λ p=>aA5 p.1 p.2
theorem aP4:∀ A B:List (Option Int),aE9 (A.map zn) (B.map zn)=(A.zip B).map λ p=>.tup [zn p.1,zn p.2]
 | [],_=>rfl
 | _::_,[]=>rfl
 | a::A,b::B=>by
  rw[aJ,aJ,List.zip_cons_cons,aJ,<-aP4 A B];rfl
def cc3 (m1 m2:Mc)(w:List Nat)(s:Sto)(x:R D):Prop:=∃ o,ag2 (bS7 m1 m2 w) o/\x=.ok (zn o) s
theorem aQ3 {m1 m2:Mc}{w:List Nat}{A B:List (Option Int)}(Z:A.length=w.length+1)(Y:B.length=w.length+1)(J:∀ i o,A[i]?=some o->ag2 (m1.Wk (w.take i)) o)(hB:∀ i o,B[i]?=some o->ag2 (m2.Wk (w.drop i)) o):ag2 (bS7 m1 m2 w) (minI (bK2 A B)):=by
 refine ag2.br (S':=λ c=>c∈bK2 A B) (λ c hc=>?_) (λ c hc=>?_) (at6 _)
 ·obtain⟨⟨a,b⟩,hp,e⟩:=cF.mp hc
  obtain⟨i,hi⟩:=c7 hp
  rw[d6]at hi
  have hil:=(ac.mp hi.1).1
  have h:=J i a hi.1
  have y:=hB i b hi.2
  cases a with
  | none=>cases e
  | some a=>cases b with
   | none=>cases e
   | some b=>cases e;exact⟨i,by omega,a,b,h.1,y.1,rfl⟩
 ·obtain⟨i,hi,C,G,h,y,rfl⟩:=hc
  obtain⟨a,z⟩:∃ a,A[i]?=some a:=⟨A[i]'(by omega),ag _⟩
  obtain⟨b,eb⟩:∃ b,B[i]?=some b:=⟨B[i]'(by omega),ag _⟩
  have k1:=J i a z
  have k2:=hB i b eb
  cases a with
  | none=>exact absurd h (k1 C)
  | some a=>cases b with
   | none=>exact absurd y (k2 G)
   | some b =>
    refine⟨a+b,cF.mpr ⟨(some a,some b),?_,rfl⟩,by have:=k1.2 C h;have:=k2.2 G y;omega⟩
    exact aQ (i:=i) (d6.mpr ⟨z,eb⟩)
theorem bG4 [Has P ad6][Has P ai9][Has P ai7](n:Nat){m1 m2:Mc}(h1:m1.Ok)(h2:m2.Ok){w:List Nat}(hw:w.length<=1000)(s:Sto):cc3 m1 m2 w s ((aa1 P (n+2)).call "_law_due" [m1.d,m2.d,.str w] s):=by
 have e0:(aa1 P (n+2)).call "_law_due" [m1.d,m2.d,.str w] s=_:=zb ai7 (n:=n+1) rfl
 rw[e0]
 obtain⟨A,lA,hA,e1⟩:=bH1 (P:=P) n h1 hw (s++[.lst []])
 obtain⟨B,lB,hB,e2⟩:=bJ1 (P:=P) n h2 hw (s++[.lst []]++[.lst (A.map zn)])
 have l1:(s++[O.lst []]).length=s.length+1:=by simp
 have l2:(s++[O.lst []]++[O.lst (A.map zn)]).length=s.length+2:=by simp
 rw[l1]at e1
 rw[l2]at e2
 have Y:∀ l:List D,s++[O.lst l]++[O.lst (A.map zn)]++[O.lst (B.map zn)]=s++[O.lst l,O.lst (A.map zn),O.lst (B.map zn)]:=λ l=>by simp
 have gl:∀ l:List D,(s++[O.lst l,O.lst (A.map zn),O.lst (B.map zn)])[s.length]?=some (.lst l):=λ l=>by simp
 have Z:∀ l:List D,(s++[O.lst l,O.lst (A.map zn),O.lst (B.map zn)])[s.length+1]?=some (.lst (A.map zn)):=λ l=>by
  rw[aM (by omega)];simp
 have gb:∀ l:List D,(s++[O.lst l,O.lst (A.map zn),O.lst (B.map zn)])[s.length+2]?=some (.lst (B.map zn)):=λ l=>by
  rw[aM (by omega)];simp
 have d1:al7 (.ref (s.length+1)) (s++[O.lst [],O.lst (A.map zn),O.lst (B.map zn)])=.ok ⟨A.map zn,[s.length+1]⟩ (s++[O.lst [],O.lst (A.map zn),O.lst (B.map zn)]):=by simp only[al7,Z]
 have d2:al7 (.ref (s.length+2)) (s++[O.lst [],O.lst (A.map zn),O.lst (B.map zn)])=.ok ⟨B.map zn,[s.length+2]⟩ (s++[O.lst [],O.lst (A.map zn),O.lst (B.map zn)]):=by simp only[al7,gb]
 have a1:s++[O.lst []]=s++[O.lst ([]:List D)]:=rfl
 simp -implicitDefEqProofs only[qw,ab4,ae3,ae2,ae4,ah2,af7,ab1,af3,qh,ac8,ad8,ae6,ac7,ae7,ah5,af9,af6,ad4,ag9,ab7,ah0,ah3,af8,ac6,ac3,af4,ac2,ab5,qK,aa7,ab6,ab8,aa9,ac4,ah7,ac9,ad3,ae8,R.bind_ok,zG,aa5,aa6,aa2,ad1,qy,ab3,ab2,qf,qg,aB,aC,aa3,zN,ac0,ab9,ab0,ac1,ac5,ad9,af0,ae5,af1,ae9,af2,qk,ad0,if_true,if_false,au,decide_true,decide_false,aU,aV,ai7,aJ,bP,bV,bM,aG,bf4,e1,e2,Y,d1,d2,aP4]
 rw[R.bind_assoc]
 refine zA (W:=cc3 m1 m2 w s) (λ j ρ t=>∃ G J,ρ=[some m1.d,some m2.d,some (.str w),some (.ref s.length),G,J]/\t=s++[O.lst ((((A.zip B).take j).filterMap λ p=>aA5 p.1 p.2).map D.int),O.lst (A.map zn),O.lst (B.map zn)])
  ⟨_,_,rfl,rfl⟩ ?_ ?_ ?_
 ·rintro j ρ t _ ⟨_,_,_,rfl⟩
  show chk _ _ [s.length+1,s.length+2]=true
  unfold chk
  simp only[eg,lF,Z,gb,decide_true,ln,gP]
 ·rintro j d ρ t hj ⟨G,J,rfl,rfl⟩
  obtain⟨p,hp,rfl⟩:∃ p,(A.zip B)[j]?=some p/\d=.tup [zn p.1,zn p.2]:=by
   rw[az]at hj
   cases e:(A.zip B)[j]? with
   | none=>rw[e]at hj;cases hj
   | some x=>rw[e]at hj;cases hj;exact⟨x,rfl,rfl⟩
  have hlt:j<(A.zip B).length:=(ac.mp hp).1
  have z:(A.zip B).take (j+1)=(A.zip B).take j++[p]:=by
   have e:(A.zip B)[j]=p:=(ac.mp hp).2
   rw[<-e,cc]
  have a2:(A.zip B).length=w.length+1:=by rw[List.length_zip,lA,lB];omega
  obtain⟨a,b⟩:=p
  have stay:aA5 a b=none->s++[O.lst ((((A.zip B).take j).filterMap λ p=>aA5 p.1 p.2).map D.int),O.lst (A.map zn),O.lst (B.map zn)]=s++[O.lst ((((A.zip B).take (j+1)).filterMap λ p=>aA5 p.1 p.2).map D.int),O.lst (A.map zn),O.lst (B.map zn)]:=λ h=>by
   rw[z,e8]
   simp[h]
  cases a with
  | none =>
   refine zX (ρ:=[some m1.d,some m2.d,some (.str w),some (.ref s.length),some .non,some (zn b)]) (s:=s++[O.lst ((((A.zip B).take j).filterMap λ p=>aA5 p.1 p.2).map D.int),O.lst (A.map zn),O.lst (B.map zn)]) ?_ ⟨_,_,rfl,stay rfl⟩
   simp -implicitDefEqProofs only[qw,ab4,ae3,ae2,ae4,ah2,af7,ab1,af3,qh,ac8,ad8,ae6,ac7,ae7,ah5,af9,af6,ad4,ag9,ab7,ah0,ah3,af8,ac6,ac3,af4,ac2,ab5,qK,aa7,ab6,ab8,aa9,ac4,ah7,ac9,ad3,ae8,R.bind_ok,zG,aa5,aa6,aa2,ad1,qy,ab3,ab2,qf,qg,aB,aC,aa3,zN,ac0,ab9,ab0,ac1,ac5,ad9,af0,ae5,af1,ae9,af2,qk,ad0,if_true,if_false,au,decide_true,decide_false,aU,aV,turn,zF]
  | some a=>cases b with
   | none =>
    refine zX (ρ:=[some m1.d,some m2.d,some (.str w),some (.ref s.length),some (.int a),some .non]) (s:=s++[O.lst ((((A.zip B).take j).filterMap λ p=>aA5 p.1 p.2).map D.int),O.lst (A.map zn),O.lst (B.map zn)]) ?_ ⟨_,_,rfl,stay rfl⟩
    simp -implicitDefEqProofs only[qw,ab4,ae3,ae2,ae4,ah2,af7,ab1,af3,qh,ac8,ad8,ae6,ac7,ae7,ah5,af9,af6,ad4,ag9,ab7,ah0,ah3,af8,ac6,ac3,af4,ac2,ab5,qK,aa7,ab6,ab8,aa9,ac4,ah7,ac9,ad3,ae8,R.bind_ok,zG,aa5,aa6,aa2,ad1,qy,ab3,ab2,qf,qg,aB,aC,aa3,zN,ac0,ab9,ab0,ac1,ac5,ad9,af0,ae5,af1,ae9,af2,qk,ad0,if_true,if_false,au,decide_true,decide_false,aU,aV,turn,zF,qd,reduceCtorEq]
   | some b =>
    have C:=qJ (v:=.int (a+b)) (gl ((((A.zip B).take j).filterMap λ p=>aA5 p.1 p.2).map D.int)) (by
     rw[aq]
     have:=gL (λ p:Option Int×Option Int=>aA5 p.1 p.2) ((A.zip B).take j)
     rw[bL]at this
     unfold LIM;omega)
    have y:(s++[O.lst ((((A.zip B).take j).filterMap λ p=>aA5 p.1 p.2).map D.int),O.lst (A.map zn),O.lst (B.map zn)]).set s.length (.lst ((((A.zip B).take j).filterMap λ p=>aA5 p.1 p.2).map D.int++[.int (a+b)]))=s++[O.lst ((((A.zip B).take (j+1)).filterMap λ p=>aA5 p.1 p.2).map D.int),O.lst (A.map zn),O.lst (B.map zn)]:=by
     rw[z,e8]
     simp[aA5]
    rw[y]at C
    refine zX (ρ:=[some m1.d,some m2.d,some (.str w),some (.ref s.length),some (.int a),some (.int b)]) (s:=s++[O.lst ((((A.zip B).take (j+1)).filterMap λ p=>aA5 p.1 p.2).map D.int),O.lst (A.map zn),O.lst (B.map zn)]) ?_ ⟨_,_,rfl,rfl⟩
    simp -implicitDefEqProofs only[qw,ab4,ae3,ae2,ae4,ah2,af7,ab1,af3,qh,ac8,ad8,ae6,ac7,ae7,ah5,af9,af6,ad4,ag9,ab7,ah0,ah3,af8,ac6,ac3,af4,ac2,ab5,qK,aa7,ab6,ab8,aa9,ac4,ah7,ac9,ad3,ae8,R.bind_ok,zG,aa5,aa6,aa2,ad1,qy,ab3,ab2,qf,qg,aB,aC,aa3,zN,ac0,ab9,ab0,ac1,ac5,ad9,af0,ae5,af1,ae9,af2,qk,ad0,if_true,if_false,au,decide_true,decide_false,aU,aV,turn,zF,qd,reduceCtorEq,C]
 ·rintro ρ t ⟨G,J,rfl,rfl⟩
  rw[aq,cQ]
  have lr:aY8 (.ref s.length) (s++[O.lst (((A.zip B).filterMap λ p=>aA5 p.1 p.2).map D.int),O.lst (A.map zn),O.lst (B.map zn)])=.ok (((A.zip B).filterMap λ p=>aA5 p.1 p.2).map D.int) (s++[O.lst (((A.zip B).filterMap λ p=>aA5 p.1 p.2).map D.int),O.lst (A.map zn),O.lst (B.map zn)]):=by simp only[aY8,gl]
  refine⟨_,aQ3 lA lB hA hB,?_⟩
  simp -implicitDefEqProofs only[qw,ab4,ae3,ae2,ae4,ah2,af7,ab1,af3,qh,ac8,ad8,ae6,ac7,ae7,ah5,af9,af6,ad4,ag9,ab7,ah0,ah3,af8,ac6,ac3,af4,ac2,ab5,qK,aa7,ab6,ab8,aa9,ac4,ah7,ac9,ad3,ae8,R.bind_ok,zG,aa5,aa6,aa2,ad1,qy,ab3,ab2,qf,qg,aB,aC,aa3,zN,ac0,ab9,ab0,ac1,ac5,ad9,af0,ae5,af1,ae9,af2,qk,ad0,if_true,if_false,au,decide_true,decide_false,aU,aV,zN,lr,aI5]
  exact qF (aw1 _) (az5 _)
theorem bR1 (p:Option Int)(s:Sto):qx .eq (zn p) (zn p) s=.ok (.bl true) s:=by
 cases p with
 | none=>rfl
 | some i =>
  show(match eqv s DEEP (.int i) (.int i)with|some r=>R.ok (D.bl r) s|none=>.bad)=_
  have:eqv s DEEP (.int i) (.int i)=some (i==i):=rfl
  rw[this];simp
theorem aO5:∀ l:List D,aj0 (l.filterMap λ _=>some (D.bl true))=some (l.map λ _=>true)
 | []=>rfl
 | d::l=>by rw[bJ];show aj0 (D.bl true::_)=_;unfold aj0;rw[aO5 l];rfl
theorem aq2 [Has P ag8][Has P ag3][Has P ag4][Has P ad5][Has P ah9][Has P ad6][Has P ai9][Has P ai7][Has P ai3](n:Nat){m m1 m2:Mc}(G:m.Ok)(Z:m1.Ok)(h2:m2.Ok)(J:m.L=m1.L)(hw:∀ w o,ag2 (m.Wk w) o->ag2 (bS7 m1 m2 w) o){s:Sto}{k:Nat}{ws:List D}(C:WL 200 ws)(y:ws.length<=LIM)(hk:s[k]?=some (.lst ws)):Tru s ((aa1 P (n+4)).call "_law_right" [m.d,m1.d,m2.d,.ref k] s):=by
 have e0:(aa1 P (n+4)).call "_law_right" [m.d,m1.d,m2.d,.ref k] s=_:=zb ai3 (n:=n+3) rfl
 rw[e0]
 have a1:=as5 (P:=P) n G s
 rw[J]at a1
 have ix:ixM m1.d (.int 0) s=.ok (.int m1.L) s:=rfl
 have Y:qV (.ref k) s=.ok ⟨ws,[k]⟩ s:=by simp only[qV,hk]
 obtain⟨ρ1,s1,e1,rfl,_⟩:=zu (ok:=λ z=>chk s z [k]) (g:=zY (aa1 P (n+3)) (.one 0) (.cmp .eq (.call "_law_price" (.ex (.var 1) (.ex (.var 0) .nil))) (.call "_law_due" (.ex (.var 2) (.ex (.var 3) (.ex (.var 0) .nil)))))) (λ ρ u=>u=s/\∃ a,ρ=[a,some m.d,some m1.d,some m2.d]) (λ _=>some (.bl true)) ws [none,some m.d,some m1.d,some m2.d] s ⟨rfl,none,rfl⟩ (λ _ _ h=>by rw[h.1];simp[chk]) (by
  rintro d hd ρ u ⟨rfl,a,rfl⟩
  obtain⟨w,rfl,a2⟩:=C d hd
  obtain⟨o,l0,p0⟩:=bf3 (P:=P) (n+2) G w (by omega) u
  obtain⟨o1,l1,p1⟩:=bG4 (P:=P) (n+1) Z h2 (w:=w) (by omega) u
  have:o=o1:=(hw w o l0).eq l1 λ c=>Iff.rfl
  subst this
  have p4:=bR1 o u
  refine⟨[some (.str w),some m.d,some m1.d,some m2.d],u,?_,rfl,_,rfl⟩
  unfold zY
  simp -implicitDefEqProofs only[qw,ab4,ae3,ae2,ae4,ah2,af7,ab1,af3,qh,ac8,ad8,ae6,ac7,ae7,ah5,af9,af6,ad4,ag9,ab7,ah0,ah3,af8,ac6,ac3,af4,ac2,ab5,qK,aa7,ab6,ab8,aa9,ac4,ah7,ac9,ad3,ae8,R.bind_ok,zG,aa5,aa6,aa2,ad1,qy,ab3,ab2,qf,qg,aB,aC,aa3,zN,ac0,ab9,ab0,ac1,ac5,ad9,af0,ae5,af1,ae9,af2,qk,ad0,if_true,if_false,au,decide_true,decide_false,aU,aV,p0,p1,p4])
 have al:mk .all (ws.filterMap λ _=>some (D.bl true)) s1=.ok (.bl true) s1:=by
  show(match aj0 (ws.filterMap λ _=>some (D.bl true))with|some bs=>R.ok (D.bl (bs.all id)) s1|none=>.bad)=_
  rw[aO5]
  simp
 simp -implicitDefEqProofs only[qw,ab4,ae3,ae2,ae4,ah2,af7,ab1,af3,qh,ac8,ad8,ae6,ac7,ae7,ah5,af9,af6,ad4,ag9,ab7,ah0,ah3,af8,ac6,ac3,af4,ac2,ab5,qK,aa7,ab6,ab8,aa9,ac4,ah7,ac9,ad3,ae8,R.bind_ok,zG,aa5,aa6,aa2,ad1,qy,ab3,ab2,qf,qg,aB,aC,aa3,zN,ac0,ab9,ab0,ac1,ac5,ad9,af0,ae5,af1,ae9,af2,qk,ad0,if_true,if_false,au,decide_true,decide_false,aU,aV,ai3,aJ,bP,bV,bM,aG,ix,a1,qj,Y,y,zS,aC,eI,eG,g9,e1,al]
 exact ay0
end
section
variable {P:Pr}
theorem bW6 [Has P ah6][Has P aA7][Has P ai1][Has P aj5][Has P ak4][Has P ao2][Has P ai4][Has P ah9][Has P ag8][Has P ag3][Has P ag4][Has P ad5][Has P ad6][Has P ai9][Has P ai7][Has P ai3]
  [Has P ad7] [HasC P "LETTERS" (.tup aJ8)] [HasC P "MOST_ROOMS" (.int 5)] [Has P ag1] [Has P af5] [Has P ag6] [Has P ag0] [Has P ah1] [Has P ag5] [Has P aj9] [Has P ae1] [Has P ae0] [Has P aa4] [Has P ai0] [Has P ai6] (n:Nat):bX7 P (n+5):=by
 intro ns hl
 have e0:(aa1 P (n+5)).call "law" [.ref 0] [.ro (ns.map D.int)]=_:=zb ah6 (n:=n+4) rfl
 rw[e0]
 have c4:([.ro (ns.map D.int)]:Sto)[0]?=some (.ro (ns.map D.int)):=rfl
 have J:=aY0 (P:=P) (n+3) ns 0 [.ro (ns.map D.int)] 0 c4 hl
 generalize bq8 ns 0=b0 at J
 have c1:∃ b,([.ro (ns.map D.int),zo b0]:Sto)[1]?=some (zo b):=⟨b0,rfl⟩
 obtain⟨a,b1,ha,e1⟩:=qp (P:=P) (n+3) c1 3 (by decide) (by decide)
 obtain⟨c,b2,hc,e2⟩:=qp (P:=P) (n+3) (s:=[.ro (ns.map D.int),zo b1]) (r:=1) ⟨b1,rfl⟩ 4 (by decide) (by decide)
 obtain⟨m1,b3,h,a5,d2,e3⟩:=aM1 (P:=P) (n+1) (L:=a+1) (Rm:=c+1) (s:=[.ro (ns.map D.int),zo b2]) (r:=1) (by omega) (by omega) (by omega) (by omega) ⟨b2,rfl⟩
 rw[show((a+1:Nat):Int)=1+(a:Int)by omega,show((c+1:Nat):Int)=1+(c:Int)by omega]at e3
 have y:=aY0 (P:=P) (n+3) ns 1 [.ro (ns.map D.int),zo b3] 0 rfl hl
 generalize bq8 ns 1=b4 at y
 obtain⟨e,b5,he,e4⟩:=qp (P:=P) (n+3) (s:=[.ro (ns.map D.int),zo b3,zo b4]) (r:=2) ⟨b4,rfl⟩ (5 - (1+(c:Int))) (by omega) (by omega)
 obtain⟨m2,b6,Y,a2,d1,e5⟩:=aM1 (P:=P) (n+1) (L:=a+1) (Rm:=e+1) (s:=[.ro (ns.map D.int),zo b3,zo b5]) (r:=2) (by omega) (by omega) (by omega) (by omega) ⟨b5,rfl⟩
 rw[show((a+1:Nat):Int)=1+(a:Int)by omega,show((e+1:Nat):Int)=1+(e:Int)by omega]at e5
 have z:=aY0 (P:=P) (n+3) ns 2 [.ro (ns.map D.int),zo b3,zo b6] 0 rfl hl
 generalize bq8 ns 2=b7 at z
 obtain⟨b8,ws,a4,d0,e6⟩:=bb0 (P:=P) (n+1) (L:=a+1) (s:=[.ro (ns.map D.int),zo b3,zo b6,zo b7]) (r:=3) (by omega) (by omega) ⟨b7,rfl⟩
 rw[show((a+1:Nat):Int)=1+(a:Int)by omega]at e6
 simp -implicitDefEqProofs at J y z e1 e2 e3 e4 e5 e6
 generalize hS:([.ro (ns.map D.int),zo b3,zo b6,zo b8,.lst ws]:Sto)=S at e6
 have hg:S[4]?=some (.lst ws):=by rw[<-hS];rfl
 obtain⟨A,hA,a7,a8,f1⟩:=behind_ok (P:=P) (n+1) h Y (a5.trans a2.symm) (by omega) S
 have g1:=aq2 (P:=P) n hA h Y a7 a8 a4 (by unfold LIM;omega) hg
 unfold Tru at g1
 have a1:WL 200 (am0 ws (some (-3)) none):=λ d hd=>a4 d (by unfold am0 at hd;exact jc (jd hd))
 have a3:(am0 ws (some (-3)) none).length<=LIM:=by
  unfold am0
  rw[bL,dX]
  unfold LIM;omega
 have sl:∀ T,slM (.ref 4) (some (-3)) none (S++T)=.ok (.ref (S.length+T.length)) (S++T++[.lst (am0 ws (some (-3)) none)]):=λ T=>by
  simp only[slM,zD hg,qk,aw]
 have G:∀ T,∃ C:Mc,(aa1 P (n+4)).call "behind" [m2.d,m1.d] (S++T)=.ok C.d (S++T)/\(aa1 P (n+4)).call "_law_right" [C.d,m2.d,m1.d,.ref (S.length+T.length)] (S++T++[.lst (am0 ws (some (-3)) none)])=.ok (.bl true) (S++T++[.lst (am0 ws (some (-3)) none)]):=λ T=>by
  obtain⟨C,hC,a6,c2,Z⟩:=behind_ok (P:=P) (n+1) Y h (a2.trans a5.symm) (by omega) (S++T)
  exact⟨C,Z,aq2 (P:=P) n hC Y h a6 c2 a1 a3 (by rw[<-aw];simp)⟩
 simp -implicitDefEqProofs [ah6,J,e1,e2,e3,y,e4,e5,z,e6,hS,f1,g1]
 by_cases h3:1+(c:Int)<3
 ·obtain⟨B,hB,c3,a9,f2⟩:=behind_ok (P:=P) (n+1) h h rfl (by omega) S
  have g2:=aq2 (P:=P) n hB h h c3 a9 (s:=S++[.lst (am0 ws (some (-3)) none)]) (k:=S.length) a1 a3 (by simp)
  unfold Tru at g2
  have s2:=sl []
  obtain⟨C,Z,g3⟩:=G [.lst (am0 ws (some (-3)) none)]
  have s3:=sl [.lst (am0 ws (some (-3)) none)]
  rw[bK]at s2
  simp -implicitDefEqProofs at s2 s3 g3 Z
  simp -implicitDefEqProofs [h3,f2,s2,g2,Z,s3,g3]
  exact aD0 _ _
 ·obtain⟨C,Z,g3⟩:=G []
  have s3:=sl []
  rw[bK]at Z g3 s3
  simp -implicitDefEqProofs at s3 g3
  simp -implicitDefEqProofs [h3,Z,s3,g3]
  exact aD0 _ _
end
end DV
end
local macro_rules | `(tactic| walk_at "sc") => `(tactic| exact ⟨rfl, rfl, rfl, by decide +kernel, rfl, by decide +kernel, by decide +kernel⟩)
local macro_rules | `(tactic| walk_at "df") => `(tactic| (dsimp only; exact ⟨_, _, _, _, _, _, _, _, _, _, by k_is, by k_is, by k_is, by k_is⟩))
noncomputable section
namespace My
open PySem L2
noncomputable def top (i:Nat):Stmt:=PySem.Challenge.pw_leasttolls_k55_behind.main.body.getD i (.Pass ⟨0,0,0,0⟩)
noncomputable def aj6:List Str:=[]
noncomputable abbrev s_letters_of:Stmt:=top 7
noncomputable abbrev av5:Stmt:=top 8
noncomputable abbrev ap4:Stmt:=top 9
noncomputable abbrev aF5:Stmt:=top 10
noncomputable abbrev at7:Stmt:=top 11
noncomputable abbrev an9:Stmt:=top 13
noncomputable abbrev al2:Stmt:=top 14
noncomputable abbrev aB4:Stmt:=top 15
noncomputable abbrev aU9:Stmt:=top 16
noncomputable abbrev ak2:Stmt:=top 17
noncomputable abbrev aM3:Stmt:=top 18
noncomputable abbrev s_lets_the_empty_word_by:Stmt:=top 19
noncomputable abbrev ak3:Stmt:=top 20
noncomputable abbrev au3:Stmt:=top 22
noncomputable abbrev ap8:Stmt:=top 23
noncomputable abbrev an6:Stmt:=top 24
noncomputable abbrev an4:Stmt:=top 25
noncomputable abbrev aq5:Stmt:=top 26
noncomputable abbrev an7:Stmt:=top 27
noncomputable abbrev ao1:Stmt:=top 28
noncomputable abbrev ao3:Stmt:=top 29
noncomputable abbrev aj7:Stmt:=top 30
noncomputable abbrev ak1:Stmt:=top 31
noncomputable abbrev aj1:Stmt:=top 32
noncomputable abbrev aj2:Stmt:=top 33
noncomputable abbrev an5:Stmt:=top 34
noncomputable abbrev au0:Stmt:=top 35
noncomputable abbrev an8:Stmt:=top 36
noncomputable abbrev aB8:Stmt:=top 37
noncomputable def tb:List (String×nw×Stmt):=[("letters_of",DV.ad7,s_letters_of),("rooms_of",DV.ag6,av5),("begins_of",DV.ag0,ap4),("ends_of",DV.ah1,aF5),("doors_of",DV.ag5,at7),("check_pair",DV.ag1,an9),("check_rooms",DV.af5,al2),("brought",DV.ai0,aB4),("moved",DV.aj9,aU9),("doors_beside",DV.ae1,ak2),("behind",DV.ai6,aM3),("lets_the_empty_word_by",DV.aa4,s_lets_the_empty_word_by),("doors_across",DV.ae0,ak3),("_law_bag",DV.aA7,au3),("_law_take",DV.ai1,ap8),("_law_rooms",DV.aj5,an6),("_law_sized",DV.ak4,an4),("_law_word",DV.ao2,aq5),("_law_words",DV.ai4,an7),("_law_price",DV.ah9,ao1),("_law_whole",DV.ag8,ao3),("_law_are_rooms",DV.ag3,aj7),("_law_is_door",DV.ag4,ak1),("_law_is_machine",DV.ad5,aj1),("_law_beginnings",DV.ad6,aj2),("_law_rests",DV.ai9,an5),("_law_due",DV.ai7,au0),("_law_right",DV.ai3,an8),("law",DV.ah6,aB8)]
noncomputable def bX3:List (String×lV):=[("LETTERS",.tup [.str [97],.str [98],.str [99]]),("MOST_ROOMS",.int (5))]
noncomputable def cf8:List (String×nv):=[]
noncomputable def tbl:List (String×nw):=tb.map λ p=>(p.1,p.2.1)
noncomputable def P:mK:=⟨λ f=>tbl.lookup f,λ f=>cf8.lookup f,λ x=>bX3.lookup x⟩
instance:DV.HasC P "LETTERS" (.tup [.str [97],.str [98],.str [99]]):=⟨rfl⟩
instance:DV.HasC P "MOST_ROOMS" (.int (5)):=⟨rfl⟩
instance:DV.Has P DV.ad7:=⟨rfl⟩
instance:DV.Has P DV.ag6:=⟨rfl⟩
instance:DV.Has P DV.ag0:=⟨rfl⟩
instance:DV.Has P DV.ah1:=⟨rfl⟩
instance:DV.Has P DV.ag5:=⟨rfl⟩
instance:DV.Has P DV.ag1:=⟨rfl⟩
instance:DV.Has P DV.af5:=⟨rfl⟩
instance:DV.Has P DV.ai0:=⟨rfl⟩
instance:DV.Has P DV.aj9:=⟨rfl⟩
instance:DV.Has P DV.ae1:=⟨rfl⟩
instance:DV.Has P DV.ai6:=⟨rfl⟩
instance:DV.Has P DV.aa4:=⟨rfl⟩
instance:DV.Has P DV.ae0:=⟨rfl⟩
instance:DV.Has P DV.aA7:=⟨rfl⟩
instance:DV.Has P DV.ai1:=⟨rfl⟩
instance:DV.Has P DV.aj5:=⟨rfl⟩
instance:DV.Has P DV.ak4:=⟨rfl⟩
instance:DV.Has P DV.ao2:=⟨rfl⟩
instance:DV.Has P DV.ai4:=⟨rfl⟩
instance:DV.Has P DV.ah9:=⟨rfl⟩
instance:DV.Has P DV.ag8:=⟨rfl⟩
instance:DV.Has P DV.ag3:=⟨rfl⟩
instance:DV.Has P DV.ag4:=⟨rfl⟩
instance:DV.Has P DV.ad5:=⟨rfl⟩
instance:DV.Has P DV.ad6:=⟨rfl⟩
instance:DV.Has P DV.ai9:=⟨rfl⟩
instance:DV.Has P DV.ai7:=⟨rfl⟩
instance:DV.Has P DV.ai3:=⟨rfl⟩
instance:DV.Has P DV.ah6:=⟨rfl⟩
theorem aA8:DT aj6 P "letters_of" DV.ad7 s_letters_of:=⟨["machine"],["machine"],by walk_at "sc",rfl,rfl,λ _ _ _ _ _ _=>bd1 (λ _=>rfl),.inl (by decide +kernel)⟩
theorem aS9:DT aj6 P "rooms_of" DV.ag6 av5:=⟨["machine"],["machine"],by walk_at "sc",rfl,rfl,λ _ _ _ _ _ _=>bd1 (λ _=>rfl),.inl (by decide +kernel)⟩
theorem aG7:DT aj6 P "begins_of" DV.ag0 ap4:=⟨["machine"],["machine"],by walk_at "sc",rfl,rfl,λ _ _ _ _ _ _=>bd1 (λ _=>rfl),.inl (by decide +kernel)⟩
theorem bb1:DT aj6 P "ends_of" DV.ah1 aF5:=⟨["machine"],["machine"],by walk_at "sc",rfl,rfl,λ _ _ _ _ _ _=>bd1 (λ _=>rfl),.inl (by decide +kernel)⟩
theorem aR8:DT aj6 P "doors_of" DV.ag5 at7:=⟨["machine"],["machine"],by walk_at "sc",rfl,rfl,λ _ _ _ _ _ _=>bd1 (λ _=>rfl),.inl (by decide +kernel)⟩
theorem aD8:DT aj6 P "check_pair" DV.ag1 an9:=⟨["one", "other"],["one", "other"],by walk_at "sc",rfl,rfl,λ _ _ _ _ _ _=>bd2 (λ _ _=>rfl),.inl (by decide +kernel)⟩
theorem ax5:DT aj6 P "check_rooms" DV.af5 al2:=⟨["rooms"],["rooms"],by walk_at "sc",rfl,rfl,λ _ _ _ _ _ _=>bd1 (λ _=>rfl),.inl (by decide +kernel)⟩
theorem aZ5:DT aj6 P "brought" DV.ai0 aB4:=⟨["one", "rooms", "begins", "ends", "doors", "fees", "start", "letter", "goal", "fee", "way"],["one", "rooms", "begins", "ends", "doors"],by walk_at "sc",rfl,rfl,λ _ _ _ _ _ _=>bd5 (λ _ _ _ _ _=>rfl),.inl (by decide +kernel)⟩
theorem by9:DT aj6 P "moved" DV.aj9 aU9:=⟨["rooms", "by"],["rooms", "by"],by walk_at "sc",rfl,rfl,λ _ _ _ _ _ _=>bd2 (λ _ _=>rfl),.inl (by decide +kernel)⟩
theorem as6:DT aj6 P "doors_beside" DV.ae1 ak2:=⟨["one", "other", "by", "moved_doors"],["one", "other"],by walk_at "sc",rfl,rfl,λ _ _ _ _ _ _=>bd2 (λ _ _=>rfl),.inl (by decide +kernel)⟩
theorem bm3:DT aj6 P "behind" DV.ai6 aM3:=⟨["one", "other", "by", "ends", "doors"],["one", "other"],by walk_at "sc",rfl,rfl,λ _ _ _ _ _ _=>bd2 (λ _ _=>rfl),.inl (by decide +kernel)⟩
theorem qr:DT aj6 P "lets_the_empty_word_by" DV.aa4 s_lets_the_empty_word_by:=⟨["machine"],["machine"],by walk_at "sc",rfl,rfl,λ _ _ _ _ _ _=>bd1 (λ _=>rfl),.inl (by decide +kernel)⟩
theorem at3:DT aj6 P "doors_across" DV.ae0 ak3:=⟨["one", "other", "by", "found", "start", "letter", "goal", "fee"],["one", "other"],by walk_at "sc",rfl,rfl,λ _ _ _ _ _ _=>bd2 (λ _ _=>rfl),.inl (by decide +kernel)⟩
theorem aP7:DT aj6 P "_law_bag" DV.aA7 au3:=⟨["_law_script", "_law_at", "_law_cell", "_law_mix", "_law_k"],["_law_script", "_law_at"],by walk_at "sc",rfl,rfl,λ _ _ _ _ _ _=>bd2 (λ _ _=>rfl),.inl (by decide +kernel)⟩
theorem aK2:DT aj6 P "_law_take" DV.ai1 ap8:=⟨["_law_bag_here", "_law_many", "_law_digit", "_law_number", "_law_room"],["_law_bag_here", "_law_many"],by walk_at "sc",rfl,rfl,λ _ _ _ _ _ _=>bd2 (λ _ _=>rfl),.inl (by decide +kernel)⟩
theorem aB3:DT aj6 P "_law_rooms" DV.aj5 an6:=⟨["_law_bag_here", "_law_many", "_law_bits"],["_law_bag_here", "_law_many"],by walk_at "sc",rfl,rfl,λ _ _ _ _ _ _=>bd2 (λ _ _=>rfl),.inl (by decide +kernel)⟩
theorem aC9:DT aj6 P "_law_sized" DV.ak4 an4:=⟨["_law_bag_here", "_law_letters", "_law_rooms_here", "_law_most", "_law_many", "_law_doors", "_law_k", "_law_start", "_law_letter"],["_law_bag_here", "_law_letters", "_law_rooms_here", "_law_most"],by walk_at "sc",rfl,rfl,λ _ _ _ _ _ _=>bd4 (λ _ _ _ _=>rfl),.inl (by decide +kernel)⟩
theorem aH7:DT aj6 P "_law_word" DV.ao2 aq5:=⟨["_law_bag_here", "_law_letters", "_law_most", "_law_word_here", "_law_k"],["_law_bag_here", "_law_letters", "_law_most"],by walk_at "sc",rfl,rfl,λ _ _ _ _ _ _=>bd3 (λ _ _ _=>rfl),.inl (by decide +kernel)⟩
theorem aC0:DT aj6 P "_law_words" DV.ai4 an7:=⟨["_law_bag_here", "_law_letters", "_law_words_here", "_law_ahead", "_law_size", "_law_further", "_law_word_here", "_law_most"],["_law_bag_here", "_law_letters"],by walk_at "sc",rfl,rfl,λ _ _ _ _ _ _=>bd2 (λ _ _=>rfl),.inl (by decide +kernel)⟩
theorem aE8:DT aj6 P "_law_price" DV.ah9 ao1:=⟨["_law_machine", "_law_word_here", "_law_here", "_law_letter", "_law_there", "_law_start", "_law_sign", "_law_goal", "_law_cost"],["_law_machine", "_law_word_here"],by walk_at "sc",rfl,rfl,λ _ _ _ _ _ _=>bd2 (λ _ _=>rfl),.inl (by decide +kernel)⟩
theorem aF7:DT aj6 P "_law_whole" DV.ag8 ao3:=⟨["_law_thing", "_law_low", "_law_high"],["_law_thing", "_law_low", "_law_high"],by walk_at "sc",rfl,rfl,λ _ _ _ _ _ _=>bd3 (λ _ _ _=>rfl),.inl (by decide +kernel)⟩
theorem ao4:DT aj6 P "_law_are_rooms" DV.ag3 aj7:=⟨["_law_thing", "_law_rooms_here", "_law_ahead", "_law_room"],["_law_thing", "_law_rooms_here"],by walk_at "sc",rfl,rfl,λ _ _ _ _ _ _=>bd2 (λ _ _=>rfl),.inl (by decide +kernel)⟩
theorem at2:DT aj6 P "_law_is_door" DV.ag4 ak1:=⟨["_law_thing", "_law_letters", "_law_rooms_here"],["_law_thing", "_law_letters", "_law_rooms_here"],by walk_at "sc",rfl,rfl,λ _ _ _ _ _ _=>bd3 (λ _ _ _=>rfl),.inl (by decide +kernel)⟩
theorem am2:DT aj6 P "_law_is_machine" DV.ad5 aj1:=⟨["_law_thing", "_law_letters"],["_law_thing", "_law_letters"],by walk_at "sc",rfl,rfl,λ _ _ _ _ _ _=>bd2 (λ _ _=>rfl),.inl (by decide +kernel)⟩
theorem an2:DT aj6 P "_law_beginnings" DV.ad6 aj2:=⟨["_law_machine", "_law_word_here", "_law_here", "_law_found", "_law_letter", "_law_there", "_law_start", "_law_sign", "_law_goal", "_law_cost"],["_law_machine", "_law_word_here"],by walk_at "sc",rfl,rfl,λ _ _ _ _ _ _=>bd2 (λ _ _=>rfl),.inl (by decide +kernel)⟩
theorem aF8:DT aj6 P "_law_rests" DV.ai9 an5:=⟨["_law_machine", "_law_word_here", "_law_here", "_law_found", "_law_letter", "_law_there", "_law_start", "_law_sign", "_law_goal", "_law_cost"],["_law_machine", "_law_word_here"],by walk_at "sc",rfl,rfl,λ _ _ _ _ _ _=>bd2 (λ _ _=>rfl),.inl (by decide +kernel)⟩
theorem aQ4:DT aj6 P "_law_due" DV.ai7 au0:=⟨["_law_one", "_law_other", "_law_word_here", "_law_sums", "_law_first", "_law_rest"],["_law_one", "_law_other", "_law_word_here"],by walk_at "sc",rfl,rfl,λ _ _ _ _ _ _=>bd3 (λ _ _ _=>rfl),.inl (by decide +kernel)⟩
theorem aC1:DT aj6 P "_law_right" DV.ai3 an8:=⟨["_law_found", "_law_one", "_law_other", "_law_words_here"],["_law_found", "_law_one", "_law_other", "_law_words_here"],by walk_at "sc",rfl,rfl,λ _ _ _ _ _ _=>bd4 (λ _ _ _ _=>rfl),.inl (by decide +kernel)⟩
theorem bp9:FnScope ["_law_script", "_law_bag_here", "_law_letters", "_law_rooms_here", "_law_one", "_law_other", "_law_words_here"] ["_law_script"] (defScope aB8):=by walk_at "sc"
theorem bQ5:mSs ⟨["_law_script", "_law_bag_here", "_law_letters", "_law_rooms_here", "_law_one", "_law_other", "_law_words_here"],defScope aB8,λ _ _ _=>false⟩ DV.ah6.body (zI aB8)=true:=by decide +kernel
theorem bR7:cc4 "law" aB8 ["_law_script"]:=λ _ _ _ _ _ _=>bd1 λ _=>rfl
theorem bZ0:DT aj6 P "law" DV.ah6 aB8:=⟨_,_,bp9,rfl,rfl,bR7,.inl bQ5⟩
theorem bV3:∀ p∈tb,DT aj6 P p.1 p.2.1 p.2.2:=by
 intro p hp
 unfold tb at hp
 simp only[aP,bC,or_false]at hp
 rcases hp with rfl|rfl|rfl|rfl|rfl|rfl|rfl|rfl|rfl|rfl|rfl|rfl|rfl|rfl|rfl|rfl|rfl|rfl|rfl|rfl|rfl|rfl|rfl|rfl|rfl|rfl|rfl|rfl|rfl
 ·exact aA8
 ·exact aS9
 ·exact aG7
 ·exact bb1
 ·exact aR8
 ·exact aD8
 ·exact ax5
 ·exact aZ5
 ·exact by9
 ·exact as6
 ·exact bm3
 ·exact qr
 ·exact at3
 ·exact aP7
 ·exact aK2
 ·exact aB3
 ·exact aC9
 ·exact aH7
 ·exact aC0
 ·exact aE8
 ·exact aF7
 ·exact ao4
 ·exact at2
 ·exact am2
 ·exact an2
 ·exact aF8
 ·exact aQ4
 ·exact aC1
 ·exact bZ0
theorem bM0 {l:dC}{w:World}{K:ae}{h:Heap}{mg:Str->Option Value}{fa:Addr}(X:K.In h)(G:h.Ns cf mg)(a4:mg "law"=some (.ref fa))(hD:∀ p∈tb,cb4 K p.1 p.2.2)(hz:∀ x∈bNames,eX K cf x=some none)
  {y:Addr} {a2:Option Addr} {a3:Nat} {a1:Array (Option Value)} {J Z Y:Tok} (gc_LETTERS:eX K cf "LETTERS"=some (some (.ref y))) (gl_LETTERS:K.lookup y=some ⟨.type "tuple",a2,.seq #[.str ⟨#[97]⟩ J,.str ⟨#[98]⟩ Z,.str ⟨#[99]⟩ Y] a3,a1⟩)
  {z:Tok} (gc_MOST_ROOMS:eX K cf "MOST_ROOMS"=some (some (.int (5) z)))
  (hT:∀ x∈aj6,(bD K x).isSome=true) (tnd:decide (((bA6 aj6 K).map (·.1)).Nodup)=true)
  : ∃ fd:cy,(∀(s:ai) (v:Value),kO s fd ⟨[v],[]⟩ [("_law_script",v)])/\∀ C:Heap,K.In C->C.Ns cf mg->BM mg C->bs6 K aj6 C->FnOk l.prog w K mg C CX0 43 fa fd ["_law_script"] (spB aj6 K):=by
 have hP:PrOk (bi8 aj6 P K) (bE6 aj6 K) P mg:=by
  refine⟨λ f d h=>aO6 (tbl:=tbl) (λ p hp=>?_) f d h,λ x d h=>aX0 (tbl:=bX3) ?_ x d h,λ x hx=>PySem.W.mg_none_of X G (hz x hx),cb2 X G,bY7,of_decide_eq_true tnd⟩
  ·obtain⟨r,hr,rfl⟩:=aH.mp hp
   exact good_of X G hT (hD r hr) (bV3 r hr)
  ·intro p hp
   unfold bX3 at hp
   simp only[aP,bC,or_false]at hp
   rcases hp with rfl|rfl
   ·exact bw1 (dH X G gc_LETTERS) gl_LETTERS rfl rfl (show 3<=1000 by decide) (.cons (.str _ _ (by decide)) (.cons (.str _ _ (by decide)) (.cons (.str _ _ (by decide)) (.nil))))
   ·exact bB1 (dH X G gc_MOST_ROOMS)
 obtain⟨f,od,an,sl,oc,kV,dc,pm,cd,ct,a,l0,c,k⟩:=hD ("law",DV.ah6,aB8) (by unfold tb;simp)
 have e:=a4.symm.trans (dH X G a)
 cases e
 have F:=bp8 (st:=aB8) l0 c k
 refine⟨_,λ s v=>.of_eq rfl,λ C _ _ bm hk=>(bF9 hP (br1 hT bm hk) 11 (aY7 hP (br1 hT bm hk) 11) (d:=DV.ah6) (f := "law") rfl ⟨F,dH X G a,F.binds bR7⟩ bp9 rfl rfl bQ5 aU3).imp (λ vs H Q E q=>bF8 (λ ns h=>DV.bW6 (P:=P) 7 ns h) vs H Q E (bk5 hT q))⟩
end My
end
open PySem PySem.W PyProof.Rows
set_option maxRecDepth 100000 in
set_option maxHeartbeats 0 in
theorem PySem.Challenge.cw_leasttolls_k55_behind_holds : PySem.Challenge.rw_leasttolls_k55_behind.Holds := by
 refine My.GT.2 ?_
 delta My.GT
 dsimp only
 k_fill
 refine L2.aW4 (l:=PySem.Challenge.rw_leasttolls_k55_behind) (n:=63) (k:=43) (x := "_law_script") (sp:=L2.spB My.aj6) My.aj6 rfl (by decide) rfl ⟨rfl,by decide,by decide⟩ (ts:=[]) (λ w h Y=>⟨PySem.W.kIn_of Y,λ _ hP=>absurd hP (bC)⟩) (λ w=>?R) (λ w=>?NT) ?F (λ K H a ns hl hB hS hF=>L2.bK0 hl hB hS hF)
 case R=>kernel_rfl
 case NT=>kernel_rfl
 case F =>
  intro w mg fa h KX G hmg
  refine' My.bM0 KX G hmg ?hD ?hz ?gc_LETTERS ?gl_LETTERS ?gc_MOST_ROOMS ?hT ?tnd
  case hD =>
   intro p hp
   unfold My.tb at hp
   simp only[aP,bC,or_false]at hp
   rcases hp with rfl|rfl|rfl|rfl|rfl|rfl|rfl|rfl|rfl|rfl|rfl|rfl|rfl|rfl|rfl|rfl|rfl|rfl|rfl|rfl|rfl|rfl|rfl|rfl|rfl|rfl|rfl|rfl|rfl
   all_goals walk_at "df"
  case hz =>
   intro x hx
   unfold L2.bNames at hx
   simp only[aP,bC,or_false]at hx
   rcases hx with rfl|rfl|rfl|rfl|rfl|rfl|rfl|rfl|rfl|rfl|rfl|rfl|rfl|rfl|rfl|rfl|rfl|rfl<;>k_is
  (case gc_LETTERS=>k_is)
  (case gl_LETTERS=>k_is)
  (case gc_MOST_ROOMS=>k_is)
  case hT =>
   intro x hx;cases hx
  (case tnd=>kernel_rfl)
