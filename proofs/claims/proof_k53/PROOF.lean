import PyProof.Rows.All
import Wide.All
import OpenK.AllK
import Wide.FinOn
import PyProof.EqAt
import PyProof.EqKinds
import PyProof.TupleCall
import PyProof.MinMaxWalk
import PyProof.WalkInts
import PyProof.NeKinds
import PyProof.SliceStr2
import PyProof.StrBlockI
import PyProof.MaxThree
import PyProof.ZipIter
import PyProof.Draws
import PyProof.EnumMake
import PyProof.ListMulRoad
import PyProof.Rows.StrRev
import PyProof.DictItems
import KE.IntBitsLaws
import PySem.Challenge.RW_leasttolls_k53_summed
set_option Elab.async false
set_option linter.all false
set_option maxRecDepth 100000
set_option maxHeartbeats 4000000
open PySem renaming wpAny_bind->ab,Shared->ag,wpAny_pure->ao,mem_of_lookup->aA,sizeLine->aG,Program->aJ,cellsFrom->aM,Around->aX,wpAny_newObj_type->bf,starEach->bn,Arguments->bp,bootBuiltins->bq,mainGlobals->bw,wpAny_truthy_bool->bC,FuncData->bQ,NameKind->bR,argBest->cb,wpAny_Call_Name_kw->cc,wpAny_callSpecial?_slot->cf,wpAny_call_entry->cg,wpAny_tryCatch->cr,binaryOp->cw,wpAny_typeNameOfWhole_itemiter->cy,wpAny_holding->cz,compareOp->cG,sysModules->cH,wpAny_mono->cI,wpAny_field->cL,assignEach->cQ,rawInt->cR,wpAny_seqItems->cT,wpAny_typeNameOf_itemiter->cY,wpAny_passesOwn->cZ,wpAny_pyIter_list->c7,behindInMarks->db,attributeBase->dh,plainId_quiet->dj,codeAmong->dq,sizeLine_eq->dv,wpAny_letGo->dw,tupleKind_room_in1->dE,wpAny_setField_rec->dF,pushCells_keeps->dJ,codeAny_builtin->dL,wpAny_updateSeq->dM,backTo->dS,foldedSetIterable->dW,relabel->dY,IsItemIter->d6,isTrue->eF,sliceBounds->eJ,wpAny_isOneOf_itemiter->eU,pyNext->fg,pushCells->fj,seqItems?->fm,codeAny->fw,bindArgs->fy,letOwnedTupleGo->fG,codeAny_mono->fR,tupleKind->fT,swapsWith->fU,Paired->fV,newFunctionEnv->f7,firstArgMember->f9,wpAny_binaryOp_repeat_ref->gd,Keyword->gj,InCallC->gk,wpAny_dictEntries->gu,IsPart->gB,wpAny_comprehension_free->gC,storeName->gH,noFill_tuple_add->gK,DictEntry->gP,builtinsNs->gW,assign->gX,name_of_addr->gZ,getItem->g6,wpAny_typeOf->g8,typeIs_int->hJ,call_meets->hU,codeAny_compStart_list->hW,wpAny_rule->hX,wpAny_execs_nil->ip,wpAny_dictEpoch->iq,wpAny_storeName_local->iy,wpAny_isTrue_Compare1->iz,codeAny_call_function->iA,wpAny_storeName_cell->iH,keywordEach->iM,wpAny_of_eq->iR,wpAny_setField->iW,strIterType->iX,holding->i6,callerA->i7,TriplesOk->i8,valueAt->i9,wpAny_standAt->jg,swappedStores->jh,seq_tuple_add->ji,IsItemIterOut->jl,annotationsOf->jm,wpAny_pyIter_tuple->jr,wpAny_assign_Name->jD,concat_meets->jH,wpAny_sequenceKey->jI,seqIndex_neg->jJ,slot_list_getitem->jK,notedBy->jL,call_meetsIn->jN,wpAny_pyIter_slot->jO,updateSeq->jY,seqSlot_of->j2,wpAny_Dict_empty->j3,seqIndex_of->ka,BindsTo->km,Builtin->ko,call->kq,wpAny_Name->kr,pyIter->kt,wpAny_call->ku,typeIs_str->kz,PlainAttrs->kA,backToKw->kB,defaultsOf->kD,qualnameIn->kE,lastMarks->kT,Within->kX,Result->kY
open List renaming getElem?_eq_some_iff->ac,getElem?_eq_getElem->ai,size_toArray->ar,length_map->au,mem_cons_of_mem->av,mem_cons_self->aB,length_append->aC,getElem?_map->aE,mem_cons->aF,map_cons->aH,replicate->aI,mem_of_getElem?->aK,getElem?_append_left->aN,mem_map->aO,getD_eq_getElem?_getD->aP,length_cons->aQ,getElem?_set_ne->aR,mem_map_of_mem->aS,mem_singleton->aU,getElem?_set_self->aV,all_eq_true->aW,mem_append_right->aY,append_nil->aZ,length_set->a0,getElem?_append_right->be,mem_append->bj,lookup_cons->bo,range->bB,length_take->bF,length_eq_zero_iff->bG,filterMap_map->bK,filterMap_cons->bO,replicate_succ->bP,map_nil->bS,not_mem_nil->bT,getElem?_toArray->bV,nil_append->b9,cons_append->ci,mem_range->cj,append_assoc->cq,take_append_getElem->cA,mem_append_left->cB,mem_iff_getElem->cE,foldl_cons->cJ,getElem?_eq_none->cV,filterMap_eq_map->cW,find?_cons->c5,mem_filterMap->dA,set_set->dG,nodup_cons->dI,length_nil->dN,length_singleton->dU,flatten_cons->dX,flatMap_cons->dZ,map_map->d9,take_length->ed,drop_eq_getElem_cons->ef,mem_filter->eC,of_mem_zip->eD,getElem?_cons_succ->eK,reverse_cons->eO,drop_zero->eW,take_of_length_le->eX,set_getElem_self->fe,length_drop->fi,all_cons->fx,take_append_of_le_length->fD,pairwise_append->fF,map_append->fK,getElem?_range->fO,pairwise_cons->gb,pairwise_map->gx,any_cons->gD,getElem?_replicate->gJ,getElem?_cons_zero->gU,drop_eq_nil_of_le->ik,set_append->iw,length_filter_le->iE,length->iK,forIn_nil->iQ,filterMap->iV,mem_of_mem_drop->iY,mem_of_mem_take->iZ,getElem?_of_mem->i5,length_pos_iff->jd,flatMap_append->je,getElem?_take->jA,length_range->jS,any_eq_true->j0,getElem_mem->j5,filter_cons->j6,mem_flatMap->j7,flatMap_nil->j8,forIn_cons->kh,foldl->kC,take_zero->kI,lookup->lh
open PySem.W renaming Frag->ae,tabIn->bv,kia_one->bM,kla_fn->bX,CodeHd->bZ,keepIn->cC,fnX->cM,kitOne->cS,mg_of->dk,fnOf->dB,envX->dD,OpenLaw->dH,nsIn->d8,tabObj->eR,codeIn->fZ,methodObj->gh,cellsFrom_some->gY,instObj->io,lookIn->iI,findIn->iJ,kitx_tuple->js,callWith_K->jt,kitx_list->jE,kitx_dict->jF,plainGet->jU,codeHdIn->j1,TabsAt->kG,noTabs->kH,WalkO->kM
open PySem.Heap renaming get?_push_of_some->af,lt_size->ax,get?_push_size->az,get?_update_other->bh,size_push->bW,SameBut->cn,get?_update_self->cx,ExtBut->iU
open Bool renaming and_eq_true->aj,false_ne_true->aL,false_eq_true->bz,or_eq_true->bN,not_eq_true'->eZ,or_eq_false_iff->fA,eq_iff_iff->fL,and_true->gE,true_and->gF,and_eq_true_iff->iG,not_true->jk,false_or->kO
open Nat renaming le_refl->ak,le_trans->am,lt_of_lt_of_le->aq,ne_of_lt->aw,lt_irrefl->bu,zero_le->cu,mul_le_mul_right->cF,ne_of_gt->c6,le_succ->c8,succ_le_of_lt->c9,succ_mul->dC,le_of_lt->d7,lt_trans->eQ,lt_trichotomy->eY,mul_le_mul->e8,lt_succ_self->fq,le_of_succ_le->gm,lt_succ_of_lt->gq,add_comm->hV,zero_add->ic,pow_le_pow_right->i4,eq_zero_or_pos->jw,lt_or_ge->jP,le_of_not_lt->jX,succ_ne_self->jZ,mul_add->ke,min_eq_left->kj,mul_comm->kZ,sub_self->k6,add_zero->k9,pow_succ->la,sub_zero->lc
open Option.some renaming inj->ay
open PyProof.Rows renaming slot_tuple_getitem->bA,kindOf->fh,callWith_type1->fQ,AllBare->gi,envOfC->gz,subscriptTail_builtinR->g9,entry_tuple_getitem->ja,Constant_none->jf,tupleItemsOf_->jj,args_tuple_getitem->ju,IntsAre->kn,tail_any->kx
open PySem.Builtin.Str renaming strSliceIndices->bD,tooLong->kL
open False renaming elim->bE
open Int renaming toNat_natCast->bH,le_refl->dz,mul_le_mul_of_nonneg_left->fC,natCast_mul->fJ,toNat_of_nonneg->fN,fdiv_eq_ediv_of_nonneg->fX,one_mul->gv,le_antisymm->iu,ofNat_lt->jM,sub_zero->jQ,le_total->jR,zero_add->jT
open PySem.F renaming slot_dict_itemiterator_next->bI,plain_min_loop->cN,plain_max_loop->cO,slot_tuple_iterator_next->cU,plainAttrs_list->dt,args_tuple_add_2->et,slot_int_rmul->eG,entry_tuple_add->eI,slot_tuple_add->eM,slot_list_extend->eP,slot_tuple_mul->eT,args_dict_itemiterator_next_1->e9,slot_dict_get->fc,entry_dict_itemiterator_next->ft,slot_dict_itemiterator_iter->fB,args_tuple_iterator_next_1->fI,entry_tuple_iterator_next->fS,slot_dict_getitem->gf,type_list_extend->gG,entry_min_loop->gL,slot_tuple_rmul->gM,args_dict_get_3->gN,plainAttrs_dict->gO,slot_dict_items->gQ,entry_max_loop->gR,entry_dict_get->ie,slot_dict_items_iter->ig,slot_list_append->iB,args_int_rmul_2->iP,slot_int_index->jb,entry_int_rmul->jc,fills_int_mul->jv
open Ne renaming symm->bJ
open PySem.Str renaming ofString->bL
open PySem.Builtin.SmallTypes renaming nextOf->bU
open PySem.Around renaming under_plainId->cD,frames_deeper->iL
open PySem.Builtin.Builtins renaming bindParams->cK
open PySem.Builtin.Slice renaming slicePlaces->cX,sliceAdjust->ee,sliceApplied->f6,slicePartIndex->kg,sliceFields->kJ
open PySem.Builtin.Tuple renaming tupleExact->dg,tupleItemsOf->d5,tupleTooMany->ga,tupleIsExact->kF
open PySem.Builtin.List renaming listTooLong->di
open Array renaming length_toList->dm,toList_append->eh,getElem?_toList->iD,append_assoc->jq,toList->jC
open List.Nodup renaming length_le_of_subset->du
open PySem.Builtin.Dict_items renaming ownsTuple->dP,ownedTupleFields->eA,ownedTupleIsFree->eB,pairFromOwner->eV,newIterator->j4,dictOf->kK
open Option renaming map_some->dQ,isSome_some->f8,isSome_map->gr,isSome_iff_exists->gA,bind_some->gT,map_eq_some_iff->hZ,isSome_none->jy,getD_none->jW,join_some->j9
open Function renaming comp->dR
open PySem.Paired renaming length->em,snoc->lj
open PySem.Calls renaming callWith_builtin->eN,Name_function_global->fW,spliced_cons->fY,evalArgs_plain->iO,spliced_nil->jG
open PySem.Txt renaming slice->fH
open PySem.Heap.SameBut renaming update->fM
open PySem.W.OpenLaw renaming wellSaid->gy
open Classical renaming propDecidable->gS
open PySem.Obj renaming mapSeq->hG,data_mapFields->jz
open PySem.SeqAt renaming EqAt->ii,RcNeAt->k8,RcAt->lq
open PySem.SeqAt.EqAt renaming same->ir,int_str->jo,str_int->jp,of_refs->jB
open PySem.Builtin.Dict renaming showsAll->iC
open Prod.mk renaming injEq->jn
open PySem.Walks renaming list->jx
open PyProof.Rows.IsTup renaming new->jV
open PySem.PassesOwn renaming never->ki
open PySem.Value renaming isStrOf->kN,isInt->lf
open PySem.CmpOf renaming ints_lt->kP
open PySem.Shared renaming TypeIs->kQ
open List.Pairwise renaming imp_of_mem->kR,filter->ln
open PySem.Builtin.Range renaming rangeSize->kS
open PySem.StrLaws renaming found_one->kU
open PySem.W.OpenRow renaming toRowW->kW
open PySem.Heap.Ns renaming new->li
open PySem.Heap.IsSliceOf renaming new->lp
noncomputable section
namespace L2
open PySem PySem.Spec PyProof.Rows
theorem head_of {l:dH}{q:aJ}{loose:List Str}{H:PySem.W.Hook}{N:Nat}{d:DefRec}{h:List (Str×Expr)}
  (left:PySem.W.LeftO l.row.prog q loose (λ s=>PySem.W.xlAt q [] s&&PySem.W.recOk (PySem.W.RowW.records (kW l.row)) s) H.obs H.val N)
  (y:PySem.W.defOf q l.row.name=some (d,h)) (C:l.row.prog.theDef l.row.name=some (d.params,d.body,d.scope)) (hk:PySem.W.kwWritten? d.params.kwonlyargs d.params.kw_defaults=some h) (z:(!l.row.writes||l.row.records.isEmpty)=true)
  (k1:l.row.wellSaid=true) (ok:(PySem.W.chainsOk q&&PySem.W.opensWell l.row.prog&&(PySem.W.frees l.row.toRowW&&l.row.within.isEmpty))=true) (hb:l.row.prog.bare) (hw:l.row.toRowW.promised)
  (call:kM q loose (PySem.W.XL q []) H.says l.row.toRowW d h λ f vs=>kq f vs):l.row.Holds :=
 PySem.W.holds_open left H.of H.keeps (λ s e=>PySem.W.xl_of s (iG.mp e).1) PySem.W.XL.keeps y C hk (λ s e=>PySem.W.recFacts_of (iG.mp e).2) z k1 ok hb hw call
end L2
end
noncomputable section
namespace My
open PySem L2
noncomputable def nmS:Stmt->Bool
 | .Assign [.Name x _] _ _=>decide (x=("__name__":Str))
 | _=>false
noncomputable def vq:aJ:={ PySem.Challenge.pw_leasttolls_k53_summed with main:={ (PySem.Challenge.pw_leasttolls_k53_summed).main with body:=(PySem.Challenge.pw_leasttolls_k53_summed).main.body.filter λ s=>!nmS s } }
inductive IsL:dH->Prop|mk:IsL PySem.Challenge.rw_leasttolls_k53_summed
theorem bI4 {l:dH}(h:IsL l):PySem.Challenge.rw_leasttolls_k53_summed=l:=by cases h;rfl
noncomputable def lwp:{ l:dH // IsL l }:=by
 refine⟨?p,?h⟩
 case h =>
  have e:PySem.Challenge.rw_leasttolls_k53_summed=?p:=by
   conv=>lhs;reduce
  exact e▸IsL.mk
theorem ws1:gy lwp.1=true:=by k_qdec
theorem ws:gy PySem.Challenge.rw_leasttolls_k53_summed=true:=by
 rw[bI4 lwp.2];exact ws1
end My
end
section
open PySem PySem.W PyProof.Rows
local macro_rules | `(tactic| o_head $H) => `(tactic| refine L2.head_of (q := My.vq) (loose := []) (H := $H) (N := 4000) (λ w => by kernel_rfl) (by rfl) (by rfl) (by rfl) rfl (by assumption) (by decide +kernel) ⟨rfl, rfl, rfl, rfl, rfl, by decide +kernel⟩ ?_ ?_)
set_option maxRecDepth 100000 in
set_option maxHeartbeats 0 in
noncomputable def My.GT:{ G:Prop // G->PySem.Challenge.rw_leasttolls_k53_summed.Holds }:=by
 refine⟨?G,?h⟩
 case h =>
  intro g
  w_on;refine holds_law My.ws λ said=>?_;k_head;(focus w_witness2)
  exact g
end
noncomputable section
namespace L2
open PySem PySem.Spec PyProof.Rows
noncomputable abbrev Key:=Sum Int Str
noncomputable def aN2:Key->Value->Bool
 | .inl k,v=>lf k v
 | .inr x,v=>kN x v
noncomputable def cc1 (w:World):Key->Int
 | .inl k=>hashInt k
 | .inr x=>hashStr w x
theorem zv:∀ {k:Key} {v:Value},aN2 k v=true->(∃ i t,k=Sum.inl i/\v=Value.int i t)\/(∃ x t,k=Sum.inr x/\v=Value.str x t)
 | .inl i,v,h=>by
  obtain⟨t,e⟩:=Value.isInt_shape (k:=i) (v:=v) h
  exact .inl ⟨i,t,rfl,e⟩
 | .inr x,v,h=>by
  obtain⟨t,e⟩:=Value.isStrOf_shape (x:=x) (v:=v) h
  exact .inr ⟨x,t,rfl,e⟩
theorem aV1 (i:Int)(t:Tok):aN2 (.inl i) (.int i t)=true:=by simp[aN2,lf]
theorem aT2 (x:Str)(t:Tok):aN2 (.inr x) (.str x t)=true:=by simp[aN2,kN]
theorem bP3 (a b:Int):decide ((Sum.inl a:Key)=Sum.inl b)=(a==b):=by
 by_cases e:a=b
 ·subst e;simp
 ·have h:¬(Sum.inl a:Key)=Sum.inl b:=λ q=>e (Sum.inl.inj q)
  rw[decide_eq_false h]
  exact(beq_eq_false_iff_ne.mpr e).symm
theorem bI7 (a b:Str):decide ((Sum.inr a:Key)=Sum.inr b)=decide (a=b):=by
 by_cases e:a=b
 ·subst e;simp
 ·have h:¬(Sum.inr a:Key)=Sum.inr b:=λ q=>e (Sum.inr.inj q)
  rw[decide_eq_false h,decide_eq_false e]
theorem bF9 (a:Int)(b:Str):decide ((Sum.inl a:Key)=Sum.inr b)=false:=decide_eq_false (λ q=>nomatch q)
theorem bC3 (a:Str)(b:Int):decide ((Sum.inr a:Key)=Sum.inl b)=false:=decide_eq_false (λ q=>nomatch q)
noncomputable def zy (prog:aJ)(w:World):PySem.KeyKind prog w Key where
 is:=aN2
 hash:=cc1 w
 inj:=λ v a b ha hb=>by
  rcases zv ha with⟨i,t,rfl,rfl⟩|⟨x,t,rfl,rfl⟩
  ·rcases zv hb with⟨j,u,rfl,e⟩|⟨y,u,rfl,e⟩
   ·injection e with e1 _;rw[e1]
   ·exact nomatch e
  ·rcases zv hb with⟨j,u,rfl,e⟩|⟨y,u,rfl,e⟩
   ·exact nomatch e
   ·injection e with e1 _;rw[e1]
 byValue:=λ k v h=>by
  rcases zv h with⟨i,t,rfl,rfl⟩|⟨x,t,rfl,rfl⟩<;>rfl
 pyHash:=λ hv h=>by
  rcases zv hv with⟨i,t,rfl,rfl⟩|⟨x,t,rfl,rfl⟩
  ·exact wpAny_pyHash_int h
  ·exact wpAny_pyHash_str h
 eqBool:=λ hu hv h=>by
  rcases zv hu with⟨i,t,rfl,rfl⟩|⟨x,t,rfl,rfl⟩
  ·rcases zv hv with⟨j,u,rfl,rfl⟩|⟨y,u,rfl,rfl⟩
   ·rw[bP3]at h;exact wpAny_eqBool_int h
   ·rw[bF9]at h;exact jo i t y u _ _ _ _ h
  ·rcases zv hv with⟨j,u,rfl,rfl⟩|⟨y,u,rfl,rfl⟩
   ·rw[bC3]at h;exact jp x t j u _ _ _ _ h
   ·rw[bI7]at h;exact wpAny_eqBool_str h
 «strs»:=λ k x t v h=>by
  rcases zv h with⟨i,u,rfl,e⟩|⟨y,u,rfl,e⟩
  ·exact nomatch e
  ·injection e with e1 _
   subst e1
   cases v<;>rfl
theorem aF4 (prog:aJ)(w:World)(i:Int)(t:Tok):(zy prog w).is (.inl i) (.int i t)=true:=aV1 i t
theorem aC8 (prog:aJ)(w:World)(x:Str)(t:Tok):(zy prog w).is (.inr x) (.str x t)=true:=aT2 x t
inductive V where
 | non|bl (b:Bool)|int (i:Int)|str (x:Str)|byt (b:Array UInt8)|flt (b:UInt64)|ref (a:Addr)|ty (n:String)
 deriving DecidableEq
noncomputable def RelV:V->Value->Prop
 | .non,u=>u=Value.none
 | .bl b,u=>u=Value.bool b
 | .int i,u=>∃ t,u=Value.int i t
 | .str x,u=>∃ t,u=Value.str x t
 | .byt b,u=>∃ t,u=Value.bytes b t
 | .flt b,u=>∃ t,u=Value.float b t
 | .ref a,u=>u=Value.ref a
 | .ty n,u=>u=Value.type n
abbrev Vals:List V->List Value->Prop:=fV RelV
theorem Vals.length {h:List V}{us:List Value}(r:Vals h us):h.length=us.length:=em r
theorem Vals.get:∀ {h:List V} {us:List Value} {i:Nat} {x:V},Vals h us->h[i]?=some x->∃ u,us[i]?=some u/\RelV x u
 | _,_,_,_,.nil,e=>by simp at e
 | _,_,0,_,.cons r _,e=>by simp at e;subst e;exact⟨_,rfl,r⟩
 | _,_,i+1,x,.cons _ t,e=>by
  obtain⟨u,z,y⟩:=Vals.get (i:=i) (x:=x) t (by simpa using e)
  exact⟨u,by simpa using z,y⟩
theorem Vals.set {x:V}{u:Value}(r:RelV x u):∀ {h:List V} {us:List Value} (i:Nat),Vals h us->Vals (h.set i x) (us.set i u)
 | _,_,_,.nil=>.nil
 | _,_,0,.cons _ t=>.cons r t
 | _,_,i+1,.cons q t=>.cons q (Vals.set r i t)
theorem Vals.append:∀ {h ys:List V} {us ws:List Value},Vals h us->Vals ys ws->Vals (h++ys) (us++ws)
 | _,_,_,_,.nil,s=>s
 | _,_,_,_,.cons r t,s=>.cons r (Vals.append t s)
theorem Vals.take:∀ {h:List V} {us:List Value} (n:Nat),Vals h us->Vals (h.take n) (us.take n)
 | _,_,0,_=>.nil
 | _,_,_+1,.nil=>.nil
 | _,_,n+1,.cons r t=>.cons r (Vals.take n t)
theorem Vals.drop:∀ {h:List V} {us:List Value} (n:Nat),Vals h us->Vals (h.drop n) (us.drop n)
 | _,_,0,r=>r
 | _,_,_+1,.nil=>.nil
 | _,_,n+1,.cons _ t=>Vals.drop n t
noncomputable def aL8:Option V->Option Value->Prop
 | some v,some u=>RelV v u
 | none,none=>True
 | _,_=>False
def KV {κ:Type}:List (κ×V)->List (κ×Value)->Prop:=fV λ(p:κ×V) (q:κ×Value)=>p.1=q.1/\RelV p.2 q.2
noncomputable def kV:Key->V
 | .inl i=>.int i
 | .inr x=>.str x
inductive HO where
 | lst (xs:List V)
 | tup (xs:List V)
 | dK (kvs:List (Key×V))|dT (kvs:List (List Key×V))
 | set (S:Int->Bool) (n:Nat)
 | ins (C dx:Addr) (fs:List (Str×V))
 | own (x:Addr)
 | xd (fs:List (Str×V))
 | met (f x:Addr)
 | rng (lo hi:Int)
 | frz (o:Obj) (u:HO)
 | tbl (ps:Array Value)
 | ext (φ:Heap->Prop)
noncomputable abbrev Hp:=Addr->Option HO
noncomputable def upd (H:Hp)(a:Addr)(o:HO):Hp:=λ b=>if b=a then some o else H b
theorem zb {H:Hp}{a:Addr}{o:HO}:upd H a o a=some o:=by unfold upd;rw[if_pos rfl]
theorem za {H:Hp}{a b:Addr}{o:HO}(h:b≠a):upd H a o b=H b:=by unfold upd;rw[if_neg h]
theorem bq5 {H:Hp}{a b:Addr}{o u:HO}(h:H a=some o)(h':H b=some u)(d:o≠u):a≠b:=by
 intro e;subst e;rw[h]at h';exact d (ay h')
theorem zn {H:Hp}{a b:Addr}{o:HO}(h:H a=some o)(h':H b=none):a≠b:=by
 intro e;subst e;rw[h]at h';cases h'
section
variable (P:aJ) (w:World)
noncomputable def ab6 (H:Hp)(h:Heap)(a:Addr):HO->Prop
 | .lst xs=>xs.length<=aG/\∃(its:List Value) (n:Nat),Vals xs its/\h.get? a=some { cls:=.type "list",data:=.seq its.toArray n }
 | .tup xs=>xs.length<=aG/\∃ its:List Value,Vals xs its/\IsTup h a its.toArray
 | .dK kvs=>kvs.length<=aG/\(a==cH)=false/\∃ vs,KV kvs vs/\h.DictOf (zy P w) a vs
 | .dT kvs=>kvs.length<=aG/\(a==cH)=false/\∃ xs:List (List Key×Addr×Value),
   fV (λ(p:List Key×V) (q:List Key×Addr×Value)=>p.1=q.1/\H q.2.1=some (.tup (p.1.map kV))/\RelV p.2 q.2.2) kvs xs /\
   ∃ o es ep,h.get? a=some o/\o.ExactDict/\o.data=.dict es ep/\es.toList=xs.map (entryOfKey (fT (zy P w)))/\(xs.map (·.1)).Nodup
 | .set S n=>h.SetOf (intKind P w) a S n
 | .ins C dx fs=>H dx=some (.own a)/\fs.length<=1000/\dx≠a/\h.get? a=some (io C dx) /\
   ∃ mA,h.Ns1 dx mA/\(∀ f,aL8 (fs.lookup f) (mA f))/\kX mA (fs.map (·.1))
 | .own _=>∃ o,h.get? a=some o
 | .xd fs=>∃ mA,h.Ns1 a mA/\∀ f,aL8 (fs.lookup f) (mA f)
 | .rng lo hi=>∃ t u v,h.get? a=some { cls:=.type "range",data:=.fields #[.int lo t,.int hi u,.int 1 v] }
 | .frz o u=>h.get? a=some o/\ab6 H h a u
 | .tbl ps=>h.get? a=some { cls:=.none,data:=.fields ps }
 | .met f x=>h.get? a=some (gh (.ref f) (.ref x))
 | .ext φ=>φ h/\(∃ o,h.get? a=some o)/\∀ h1 h2:Heap,φ h1->(∀ o,h1.get? a=some o->h2.get? a=some o)->φ h2
def HOk (H:Hp)(h:Heap):Prop:=∀ a o,H a=some o->ab6 P w H h a o
end
section
variable {P:aJ} {w:World} {H H':Hp} {h h':Heap} {a:Addr} {o:HO}
theorem ab6.lt (x:ab6 P w H h a o):a<h.objs.size:=by
 cases o with
 | lst xs=>obtain⟨_,_,_,_,e⟩:=x;exact ax e
 | tup xs=>obtain⟨_,_,_,p⟩:=x;exact p.lt
 | dK kvs=>obtain⟨_,_,_,_,o,_,_,e,_⟩:=x;exact ax e
 | dT kvs=>obtain⟨_,_,_,_,o,_,_,e,_⟩:=x;exact ax e
 | set S n=>obtain⟨o,_,_,_,e,_⟩:=x;exact ax e
 | ins C dx fs=>obtain⟨_,_,_,e,_⟩:=x;exact ax e
 | own y=>obtain⟨_,e⟩:=x;exact ax e
 | xd fs=>obtain⟨_,⟨_,_,_,e,_⟩,_⟩:=x;exact ax e
 | rng lo hi=>obtain⟨_,_,_,e⟩:=x;exact ax e
 | frz ob u=>obtain⟨e,_⟩:=x;exact ax e
 | tbl ps=>exact ax (show h.get? a=some _ from x)
 | met f y=>exact ax (show h.get? a=some _ from x)
 | ext φ=>obtain⟨_,⟨_,e⟩,_⟩:=x;exact ax e
theorem fV.mapP {α β:Type}{F G:α->β->Prop}:∀ {h:List α} {l₂:List β},fV F h l₂->(∀ a b,F a b->G a b)->fV G h l₂
 | _,_,.nil,_=>.nil
 | _,_,.cons r t,f=>.cons (f _ _ r) (fV.mapP t f)
theorem ab6.stay (x:ab6 P w H h a o)(k:∀ b u,(b=a\/H b=some (.own a))->h.get? b=some u->h'.get? b=some u)
  (ho:∀ b,H b=some (.own a)->H' b=some (.own a)) (Y:∀ b G,H b=some (.tup G)->H' b=some (.tup G)):ab6 P w H' h' a o:=by
 induction o with
 | lst G=>obtain⟨z,its,n,r,e⟩:=x;exact⟨z,its,n,r,k _ _ (.inl rfl) e⟩
 | tup G=>obtain⟨z,its,r,ob,e,c⟩:=x;exact⟨z,its,r,ob,k _ _ (.inl rfl) e,c⟩
 | dK kvs=>obtain⟨z,y,vs,r,ob,es,F,e,c⟩:=x;exact⟨z,y,vs,r,ob,es,F,k _ _ (.inl rfl) e,c⟩
 | dT kvs =>
  obtain⟨z,y,G,r,ob,es,F,e,c⟩:=x
  exact⟨z,y,G,fV.mapP r λ p q z=>⟨z.1,Y _ _ z.2.1,z.2.2⟩,ob,es,F,k _ _ (.inl rfl) e,c⟩
 | set S n=>obtain⟨ob,es,F,t,e,c⟩:=x;exact⟨ob,es,F,t,k _ _ (.inl rfl) e,c⟩
 | ins C dx fs =>
  obtain⟨d,z,ne,e,J,⟨od,es,F,e2,c⟩,r⟩:=x
  exact⟨ho _ d,z,ne,k _ _ (.inl rfl) e,J,⟨od,es,F,k _ _ (.inr d) e2,c⟩,r⟩
 | own y=>obtain⟨ob,e⟩:=x;exact⟨ob,k _ _ (.inl rfl) e⟩
 | xd fs=>obtain⟨J,⟨od,es,F,e,c⟩,r⟩:=x;exact⟨J,⟨od,es,F,k _ _ (.inl rfl) e,c⟩,r⟩
 | rng lo hi=>obtain⟨t,u,v,e⟩:=x;exact⟨t,u,v,k _ _ (.inl rfl) e⟩
 | frz ob u ih=>obtain⟨e,q⟩:=x;exact⟨k _ _ (.inl rfl) e,ih q⟩
 | tbl ps =>
  have e:h.get? a=some { cls:=.none,data:=.fields ps }:=x
  show h'.get? a=some { cls:=.none,data:=.fields ps }
  exact k a _ (.inl rfl) e
 | met f y =>
  have e:h.get? a=some (gh (.ref f) (.ref y)):=x
  show h'.get? a=some (gh (.ref f) (.ref y))
  exact k a _ (.inl rfl) e
 | ext φ=>obtain⟨p,⟨o,e⟩,st⟩:=x;exact⟨st _ _ p λ o q=>k _ _ (.inl rfl) q,⟨o,k _ _ (.inl rfl) e⟩,st⟩
theorem HOk.lt (x:HOk P w H h)(e:H a=some o):a<h.objs.size:=(x a o e).lt
theorem HOk.fresh (x:HOk P w H h)(e:h.objs.size<=a):H a=none:=by
 cases q:H a with
 | none=>rfl
 | some u=>exact absurd (aq (x.lt q) e) (bu _)
theorem HOk.kept (x:HOk P w H h)(k:∀ b u,h.get? b=some u->h'.get? b=some u):HOk P w H h':=λ a o e =>
 (x a o e).stay (λ b u _ q=>k b u q) (λ _ q=>q) λ _ _ q=>q
theorem HOk.laid (x:HOk P w H h)(k:∀ b u,h.get? b=some u->h'.get? b=some u)(y:h.objs.size<=a)(new:ab6 P w (upd H a o) h' a o):HOk P w (upd H a o) h':=λ b u e=>by
 have hn:=x.fresh y
 by_cases hb:b=a
 ·subst hb;rw[zb]at e;cases e;exact new
 ·rw[za hb]at e
  exact(x b u e).stay (λ c v _ q=>k c v q) (λ c q=>by rw[za (zn q hn)];exact q) λ c z q=>by rw[za (zn q hn)];exact q
end
def Rd (H:Hp)(a:Addr)(u:HO):Prop:=H a=some u\/∃ o,H a=some (.frz o u)
theorem Rd.ok {P:aJ}{w:World}{H:Hp}{h:Heap}{a:Addr}{u:HO}(r:Rd H a u)(x:HOk P w H h):ab6 P w H h a u:=by
 rcases r with r|⟨o,r⟩
 ·exact x a u r
 ·obtain⟨_,q⟩:=x a _ r
  exact q
noncomputable def Mut:Option HO->Prop
 | some (.lst _)=>True
 | some (.dK _)=>True
 | some (.dT _)=>True
 | some (.set _ _)=>True
 | some (.ins _ _ _)=>True
 | some (.ext _)=>True
 | _=>False
section
variable {P:aJ} {w:World} {H:Hp} {h h':Heap} {x e:Addr} {o':HO}
theorem HOk.write (ok:HOk P w H h)(mu:Mut (H x))(Y:e=x\/H e=some (.own x))(k:∀ b u,b≠e->h.get? b=some u->h'.get? b=some u)(J:∃ u,h'.get? e=some u)
  (new:ab6 P w (upd H x o') h' x o'):HOk P w (upd H x o') h':=λ b u q=>by
 have C:∀ c y,H c=some (.own y)->c≠x:=λ c y r z=>by subst z;rw[r]at mu;exact mu
 have F:∀ c G,H c=some (.tup G)->c≠x:=λ c G r z=>by subst z;rw[r]at mu;exact mu
 by_cases hb:b=x
 ·subst hb;rw[zb]at q;cases q;exact new
 ·rw[za hb]at q
  by_cases hbe:b=e
  ·have Z:H b=some (.own x):=by
    rcases Y with z|z
    ·exact absurd (hbe.trans z) hb
    ·rw[hbe];exact z
   rw[q]at Z;cases Z
   obtain⟨v,hv⟩:=J
   exact⟨v,by rw[hbe];exact hv⟩
  ·refine(ok b u q).stay (λ c v hc r=>k c v ?_ r) (λ c r=>by rw[za (C c b r)];exact r) λ c G r=>by rw[za (F c G r)];exact r
   rcases hc with rfl|hc
   ·exact hbe
   ·rintro rfl
    rcases Y with z|z
    ·exact C c b hc z
    ·rw[hc]at z;cases z;exact hb rfl
end
structure Un (fs ex:List Addr)(H H':Hp)(h h':Heap):Prop where
 keep:∀ b o,h.get? b=some o->H b=none->b ∉ fs->b ∉ ex->h'.get? b=some o
 slot:∀ b o,h.get? b=some o->H b=none->b∈fs->b ∉ ex->∃ sl,h'.get? b=some { o with slots:=sl }
 free:∀ b o,h.get? b=some o->H b=none->b ∉ ex->H' b=none
 there:∀ b o,h.get? b=some o->b ∉ ex->∃ o',h'.get? b=some o'
 tups:∀ b xs,H b=some (.tup xs)->H' b=some (.tup xs)
 frzs:∀ b o u,H b=some (.frz o u)->H' b=some (.frz o u)
 tbls:∀ b ps,H b=some (.tbl ps)->∃ more,H' b=some (.tbl (ps++more))
section
variable {fs fs' ex ex':List Addr} {H H1 H2:Hp} {h h1 h2 h':Heap} {a x e:Addr} {o:HO}
theorem Un.any (u:Un fs ex H H1 h h1){b:Addr}{ob:Obj}(q:h.get? b=some ob)(n:H b=none)(hx:b ∉ ex):∃ sl,h1.get? b=some { ob with slots:=sl }:=by
 by_cases hb:b∈fs
 ·exact u.slot b ob q n hb hx
 ·exact⟨ob.slots,u.keep b ob q n hb hx⟩
theorem Un.kept (k:∀ b u,h.get? b=some u->h'.get? b=some u):Un fs ex H H h h' :=
 ⟨λ b ob q _ _ _=>k b ob q,λ b ob q _ _ _=>⟨ob.slots,k b ob q⟩,λ _ _ _ n _=>n,λ b ob q _=>⟨ob,k b ob q⟩,λ _ _ q=>q,λ _ _ _ q=>q,λ _ ps q=>⟨#[],by rw[q];simp⟩⟩
theorem Un.refl:Un fs ex H H h h:=Un.kept λ _ _ q=>q
theorem Un.laid (k:∀ b u,h.get? b=some u->h'.get? b=some u)(y:h.objs.size<=a)(hn:H a=none):Un fs ex H (upd H a o) h h' where
 keep:=λ b u q _ _ _=>k b u q
 slot:=λ b u q _ _ _=>⟨u.slots,k b u q⟩
 free:=λ b u q n _=>by rw[za (aw (aq (ax q) y))];exact n
 there:=λ b u q _=>⟨u,k b u q⟩
 tups:=λ b z q=>by rw[za (zn q hn)];exact q
 frzs:=λ b u z q=>by rw[za (zn q hn)];exact q
 tbls:=λ b ps q=>⟨#[],by rw[za (zn q hn),q];simp⟩
theorem Un.write (mu:Mut (H x))(F:e=x\/H e=some (.own x))(k:∀ b u,b≠e->h.get? b=some u->h'.get? b=some u)(y:∃ u,h'.get? e=some u):Un fs ex H (upd H x o) h h':=by
 have hx:∀ b,H b=none->b≠x:=λ b n z=>by subst z;rw[n]at mu;exact mu
 have hb:∀ b,H b=none->b≠e:=λ b n z=>by
  subst z
  rcases F with r|r
  ·exact hx b n r
  ·rw[n]at r;cases r
 have C:∀ b u,H b=some u->¬ Mut (some u)->b≠x:=λ b u q G z=>by subst z;rw[q]at mu;exact G mu
 refine⟨λ b u q n _ _=>k b u (hb b n) q,λ b u q n _ _=>⟨u.slots,k b u (hb b n) q⟩,λ b u q n _=>by rw[za (hx b n)];exact n,λ b u q _=>?_,
  λ b J q=>by rw[za (C b _ q λ z=>z)];exact q,λ b u J q=>by rw[za (C b _ q λ z=>z)];exact q,λ b ps q=>⟨#[],by rw[za (C b _ q λ z=>z),q];simp⟩⟩
 by_cases hbe:b=e
 ·subst hbe;exact y
 ·exact⟨u,k b u hbe q⟩
end
noncomputable def trk (h:Heap)(H:Hp):List Addr:=(bB h.objs.size).filter λ a=>(H a).isSome
noncomputable def aZ7 (h:Heap)(H:Hp):Heap:=PySem.W.hideAll h (trk h H)
theorem aY9 (h:Heap)(H:Hp):(aZ7 h H).objs.size=h.objs.size:=PySem.W.hideAll_size _ _
theorem aj5 {h:Heap}{H:Hp}{b:Addr}{o:Obj}(e:h.get? b=some o)(n:H b=none):(aZ7 h H).get? b=some o :=
 PySem.W.hideAll_get _ e λ y=>by
  have q:(H b).isSome=true:=(eC.mp y).2
  rw[n]at q;simp at q
theorem br9 {h:Heap}{H:Hp}{b:Addr}{o:Obj}(e:(aZ7 h H).get? b=some o):h.get? b=some o/\H b=none:=by
 have e':h.get? b=some o:=PySem.W.of_hideAll (trk h H) e
 refine⟨e',?_⟩
 cases q:H b with
 | none=>rfl
 | some x =>
  have y:b∈trk h H:=eC.mpr ⟨cj.mpr (ax e'),by simp[q]⟩
  have z:(aZ7 h H).get? b=none:=PySem.W.hideAll_none (trk h H) y
  rw[z]at e;cases e
noncomputable def by3 (g h:Heap)(L:Addr):List (Addr×Obj):=(bB h.objs.size).filterMap λ a=>if a=L\/(g.get? a).isSome=true then none else(h.get? a).map λ o=>(a,o)
noncomputable def rest (g h:Heap)(L d:Addr):List (Addr×Obj):=(by3 g h L).filter λ p=>decide (p.1≠d)
structure Mod (K:ae)(mg:Str->Option Value)(base:Heap):Prop where
 kin:K.In base
 glob:base.Ns bw mg
 blt:∃ mb,base.Ns gW mb/\∀ x:Str,x ≠ "__name__"->mb x=bq x
 nolimit:base.NoLimit
structure Cx where
 prog:aJ
 w:World
 K:ae
 mg:Str->Option Value
 base:Heap
 A:aX
 N:List Str
 s₀:ag
 H₀:Hp
 env:Env
 outer:List Env
 stack:List Env
 ex:List Addr
 fn:Str->Bool
 calm:Bool
 pn:List (Addr×Obj)
 xe:Value->ag->Prop
noncomputable def frs (l:List Env):List Addr:=l.filterMap (·.frame)
noncomputable abbrev Cx.fs (X:Cx):List Addr:=frs X.outer
def Vis (sc:Scope)(x:Str):Prop:=sc.names.lookup x=some .local\/sc.names.lookup x=some .cell\/sc.names.lookup x=some .free
def Loc (sc:Scope)(x:Str):Prop:=sc.names.lookup x=some .local\/sc.names.lookup x=some .cell
def Look (env:Env)(h:Heap)(m:Str->Option Value)(x:Str)(u:Value):Prop :=
 (env.kindOf x=some .local/\m x=some u)\/((env.kindOf x=some .cell\/env.kindOf x=some .free)/\∃ c,env.cells.lookup x=some c/\h.IsCell c (some u))
structure Cx.Ok (X:Cx):Prop where
 mod:Mod X.K X.mg X.base
 kind:X.env.scope.kind=.function
 glob:X.env.globals=bw
 blt:X.env.builtins=gW
 above:X.s₀.heap.objs.size<=X.env.locals
 inj:∀ x y c,X.env.cells.lookup x=some c->X.env.cells.lookup y=some c->x=y
 has:∀ x,(X.env.kindOf x=some .cell\/X.env.kindOf x=some .free)->∃ c,X.env.cells.lookup x=some c
 cab:∀ x c,X.fn x=true->X.env.cells.lookup x=some c->X.s₀.heap.objs.size<=c
 hd:X.calm=true->X.A.handled=none
 frames:X.A.frames=some X.stack
 stk:X.stack=X.outer\/(X.stack=X.env::X.outer/\X.env.frame=some X.env.locals)
 exf:∀ b∈X.ex,b≠X.env.locals/\∀ x c,X.env.cells.lookup x=some c->c≠b
 bs:∀ b o,X.base.get? b=some o->X.s₀.heap.get? b=some o/\X.H₀ b=none
 bsz:X.base.objs.size<=X.s₀.heap.objs.size
 noex:∀ b o,X.base.get? b=some o->b ∉ X.ex
 exfs:∀ b∈X.ex,b ∉ X.fs
 funs:X.s₀.heap.FunFrames X.base X.outer
 frf:∀ b∈X.fs,X.H₀ b=none
structure Inv (X:Cx)(pins:List (Addr×Obj))(σ:List (Option V))(H:Hp)(s:ag):Prop where
 ok:X.Ok
 os:s.os=X.s₀.os
 bare:gi s.gens
 base:Un X.fs X.ex X.H₀ H X.s₀.heap s.heap
 loc:∃ m,s.heap.Ns X.env.locals m/\∀(i:Nat) (x:Str) (v:V),X.N[i]?=some x->σ[i]?=some (some v)->Vis X.env.scope x->∃ u,RelV v u/\Look X.env s.heap m x u
 cell:∀ x c,X.env.cells.lookup x=some c->∃ v,s.heap.IsCell c v
 free:H X.env.locals=none
 freeC:∀ x c,X.env.cells.lookup x=some c->H c=none
 pin:∀ p∈X.pn++pins,s.heap.get? p.1=some p.2/\H p.1=none/\p.1≠X.env.locals/\p.1 ∉ X.fs/\∀ v,p.2.data≠.cell v
 hok:HOk X.prog X.w H s.heap
 len:σ.length=X.N.length
section
variable {X:Cx} {pins:List (Addr×Obj)} {σ:List (Option V)} {H H':Hp} {s:ag} {h':Heap}
theorem Cx.Ok.nofr (ok:X.Ok){b:Addr}{o:Obj}(e:X.base.get? b=some o):b ∉ X.fs:=λ hb=>by
 have:=(ok.funs.mem hb).1
 rw[e]at this;cases this
theorem Inv.bs (I:Inv X pins σ H s):∀ b o,X.base.get? b=some o->s.heap.get? b=some o/\H b=none:=λ b o e =>
 ⟨I.base.keep b o (I.ok.bs b o e).1 (I.ok.bs b o e).2 (I.ok.nofr e) (I.ok.noex b o e),I.base.free b o (I.ok.bs b o e).1 (I.ok.bs b o e).2 (I.ok.noex b o e)⟩
theorem Inv.bk (I:Inv X pins σ H s):∀ b o,X.base.get? b=some o->s.heap.get? b=some o:=λ b o e=>(I.bs b o e).1
theorem Inv.mod (I:Inv X pins σ H s):Mod X.K X.mg X.base:=I.ok.mod
theorem Inv.kIn (I:Inv X pins σ H s):X.K.In s.heap:=I.ok.mod.kin.keeps I.bk
theorem Inv.lt (I:Inv X pins σ H s):X.env.locals<s.heap.objs.size:=let⟨_,hn,_⟩:=I.loc;hn.lt
theorem Inv.sz (I:Inv X pins σ H s):X.s₀.heap.objs.size<=s.heap.objs.size:=am I.ok.above (d7 I.lt)
theorem Inv.nofs (I:Inv X pins σ H s){a:Addr}(h:s.heap.objs.size<=a):a ∉ X.fs:=λ hb=>by
 obtain⟨_,o,ho,_⟩:=I.ok.funs.mem hb
 exact absurd (aq (ax ho) (am I.sz h)) (bu _)
theorem Inv.cne (I:Inv X pins σ H s):∀ x c,X.env.cells.lookup x=some c->c≠X.env.locals:=λ x c e z=>by
 obtain⟨v,o,ho,hd⟩:=I.cell x c e
 obtain⟨m,⟨F,es,C,h,y,_⟩,_⟩:=I.loc
 rw[z,h]at ho;cases ho;rw[y]at hd;cases hd
theorem Inv.funs (I:Inv X pins σ H s):s.heap.FunFrames X.base X.outer:=by
 have all:∀(l:List Env),(∀ b∈frs l,b∈X.fs)->X.s₀.heap.FunFrames X.base l->s.heap.FunFrames X.base l:=by
  intro l
  induction l with
  | nil=>intro _ _;trivial
  | cons env r ih =>
   intro hs hl
   obtain⟨hk,⟨L,o,h,hn,ho,hd⟩,hr⟩:=hl
   have y:L∈X.fs:=hs L (by unfold frs;rw[bO,h];exact aB)
   obtain⟨sl,e⟩:=I.base.slot L o ho (I.ok.frf L y) y λ z=>I.ok.exfs L z y
   exact⟨hk,⟨L,_,h,hn,e,hd⟩,ih (λ b hb=>hs b (by unfold frs;rw[bO,h];exact av _ hb)) hr⟩
 exact all X.outer (λ _ hb=>hb) I.ok.funs
theorem Inv.stack (I:Inv X pins σ H s):s.heap.FunFrames X.base X.stack:=by
 rcases I.ok.stk with e|⟨e,h⟩
 ·rw[e];exact I.funs
 ·rw[e]
  obtain⟨m,hn,_⟩:=I.loc
  refine .cons (by rw[I.ok.kind];decide) h hn ?_ I.funs
  exact Heap.get?_none_of_le (am I.ok.bsz I.ok.above)
theorem Inv.stkSub (I:Inv X pins σ H s):∀ b∈frs X.stack,b∈X.env.locals::X.fs:=λ b hb=>by
 rcases I.ok.stk with e|⟨e,h⟩
 ·rw[e]at hb;exact av _ hb
 ·rw[e]at hb
  unfold frs at hb
  rw[bO,h]at hb
  exact hb
theorem Inv.stkFree (I:Inv X pins σ H s):∀ b∈frs X.stack,H b=none:=λ b hb=>by
 rcases aF.mp (I.stkSub b hb)with e|hb
 ·rw[e];exact I.free
 ·obtain⟨_,o,ho,_⟩:=I.ok.funs.mem hb
  exact I.base.free b o ho (I.ok.frf b hb) λ z=>I.ok.exfs b z hb
theorem Inv.step {g':Array GenState}{t':Nat}{d':Drawn}{ch:List Addr}(I:Inv X pins σ H s)
  (C:∀ b∈ch,(b∈X.ex\/X.s₀.heap.objs.size<=b)/\b≠X.env.locals/\(∀ x c,X.env.cells.lookup x=some c->c≠b)/\∀ p∈X.pn++pins,p.1≠b)
  (keep:∀ b o,b≠X.env.locals->b ∉ X.fs->b ∉ ch->s.heap.get? b=some o->H b=none->h'.get? b=some o)
  (slot:∀ b o,b≠X.env.locals->b∈X.fs->b ∉ ch->s.heap.get? b=some o->H b=none->∃ sl,h'.get? b=some { o with slots:=sl }) (free:∀ b o,b ∉ ch->s.heap.get? b=some o->H b=none->H' b=none)
  (there:∀ b o,b ∉ ch->s.heap.get? b=some o->∃ Y,h'.get? b=some Y)
  (tups:∀ b G,H b=some (.tup G)->H' b=some (.tup G)) (frzs:∀ b o u,H b=some (.frz o u)->H' b=some (.frz o u)) (tbls:∀ b ps,H b=some (.tbl ps)->∃ Z,H' b=some (.tbl (ps++Z)))
  (ns:∀ m,s.heap.Ns X.env.locals m->h'.Ns X.env.locals m) (hok:HOk X.prog X.w H' h') (hg:gi g') :
  Inv X pins σ H' { s with heap:=h',gens:=g',drawn:=d',toks:=t' }:=by
 have J:∀ b o,X.s₀.heap.get? b=some o->b≠X.env.locals:=λ b o e=>aw (aq (ax e) I.ok.above)
 have F:∀ b o,X.s₀.heap.get? b=some o->b ∉ X.ex->b ∉ ch:=λ b o e hx hb=>by
  rcases(C b hb).1 with z|z
  ·exact hx z
  ·exact absurd (aq (ax e) z) (bu _)
 have y:∀ x c,X.env.cells.lookup x=some c->∀ v,s.heap.IsCell c v->h'.IsCell c v:=λ x c e v ⟨o,ho,hd⟩=>by
  have h:c ∉ ch:=λ z=>(C c z).2.2.1 x c e rfl
  by_cases hc:c∈X.fs
  ·obtain⟨sl,q⟩:=slot c o (I.cne x c e) hc h ho (I.freeC x c e)
   exact⟨_,q,hd⟩
  ·exact⟨o,keep c o (I.cne x c e) hc h ho (I.freeC x c e),hd⟩
 refine⟨I.ok,I.os,hg,⟨λ b o e n hb hx=>?_,λ b o e n hb hx=>?_,λ b o e n hx=>?_,λ b o e hx=>?_,λ b G e=>tups b G (I.base.tups b G e),λ b o G e=>frzs b o G (I.base.frzs b o G e),λ b ps e=>?_⟩,?_,λ x c e=>?_,?_,λ x c e=>?_,λ p hp=>?_,hok,I.len⟩
 ·exact keep b o (J b o e) hb (F b o e hx) (I.base.keep b o e n hb hx) (I.base.free b o e n hx)
 ·obtain⟨sl,e1⟩:=I.base.slot b o e n hb hx
  obtain⟨a1,e2⟩:=slot b _ (J b o e) hb (F b o e hx) e1 (I.base.free b o e n hx)
  exact⟨a1,e2⟩
 ·obtain⟨Y,e1⟩:=I.base.there b o e hx
  exact free b Y (F b o e hx) e1 (I.base.free b o e n hx)
 ·obtain⟨Y,e1⟩:=I.base.there b o e hx
  exact there b Y (F b o e hx) e1
 ·obtain⟨m1,e1⟩:=I.base.tbls b ps e
  obtain⟨m2,e2⟩:=tbls b _ e1
  exact⟨m1++m2,by rw[e2,jq]⟩
 ·obtain⟨m,hn,hl⟩:=I.loc
  refine⟨m,ns m hn,λ i x v e1 e2 e3=>?_⟩
  obtain⟨u,r,l⟩:=hl i x v e1 e2 e3
  refine⟨u,r,?_⟩
  rcases l with l|⟨k,c,e,z⟩
  ·exact .inl l
  ·exact .inr ⟨k,c,e,y x c e _ z⟩
 ·obtain⟨v,z⟩:=I.cell x c e
  exact⟨v,y x c e v z⟩
 ·obtain⟨m,⟨o,_,_,ho,_⟩,_⟩:=I.loc
  exact free _ o (λ z=>(C _ z).2.1 rfl) ho I.free
 ·obtain⟨v,o,ho,hd⟩:=I.cell x c e
  exact free c o (λ z=>(C c z).2.2.1 x c e rfl) ho (I.freeC x c e)
 ·obtain⟨e,n,ne,nf,d⟩:=I.pin p hp
  have h:p.1 ∉ ch:=λ z=>(C p.1 z).2.2.2 p hp rfl
  exact⟨keep p.1 p.2 ne nf h e n,free p.1 p.2 h e n,ne,nf,d⟩
theorem Inv.un {t':Nat}(I:Inv X pins σ H s)(u:Un X.fs [] H H' s.heap h')(hok:HOk X.prog X.w H' h'):Inv X pins σ H' { s with heap:=h',toks:=t' }:=by
 obtain⟨m,⟨o,es,Y,ho,r⟩,_⟩:=id I.loc
 obtain⟨sl,J⟩:=u.any ho I.free (by simp)
 exact I.step (g':=s.gens) (d':=s.drawn) (ch:=[]) (λ _ z=>nomatch z) (λ b o _ hb _ e n=>u.keep b o e n hb (by simp)) (λ b o _ hb _ e n=>u.slot b o e n hb (by simp)) (λ b o _ e n=>u.free b o e n (by simp)) (λ b o _ e=>u.there b o e (by simp)) u.tups u.frzs u.tbls (λ m' G=>by
  obtain⟨Z,y,C,h,F⟩:=G
  rw[ho]at h;cases h
  exact⟨_,y,C,J,F⟩) hok I.bare
theorem Inv.call {g':Array GenState}{t':Nat}{d':Drawn}{ch:List Addr}(I:Inv X pins σ H s)(u:Un (frs X.stack) ch H H' s.heap h')(hok:HOk X.prog X.w H' h')(hg:gi g')
  (y:∀ b∈ch,(b∈X.ex\/X.s₀.heap.objs.size<=b)/\b≠X.env.locals/\(∀ x c,X.env.cells.lookup x=some c->c≠b)/\∀ p∈X.pn++pins,p.1≠b) :
  Inv X pins σ H' { s with heap:=h',gens:=g',drawn:=d',toks:=t' }:=by
 obtain⟨m,⟨o,es,Z,ho,r⟩,_⟩:=id I.loc
 obtain⟨sl,C⟩:=u.any ho I.free λ z=>(y _ z).2.1 rfl
 exact I.step (ch:=ch) y (λ b o C hb hc e n=>u.keep b o e n (λ z=>(aF.mp (I.stkSub b z)).elim C hb) hc) (λ b o _ _ hc e n=>u.any e n hc) (λ b o hc e n=>u.free b o e n hc) (λ b o hc e=>u.there b o e hc) u.tups u.frzs u.tbls (λ m' J=>by
  obtain⟨o',G,F,h,Y⟩:=J
  rw[ho]at h;cases h
  exact⟨_,G,F,C,Y⟩) hok hg
theorem Inv.turned {t':Nat}{it:Addr}(I:Inv X pins σ H s)(k:∀ b o,b≠it->s.heap.get? b=some o->h'.get? b=some o)(hn:H it=none)(y:it≠X.env.locals)
  (Y:it∈X.ex\/X.s₀.heap.objs.size<=it) (C:∀ x c,X.env.cells.lookup x=some c->c≠it) (F:∀ p∈X.pn++pins,p.1≠it):Inv X pins σ H { s with heap:=h',toks:=t' }:=by
 have h:∀ b u,H b=some u->b≠it:=λ b u e z=>by rw[z,hn]at e;cases e
 refine I.step (g':=s.gens) (d':=s.drawn) (ch:=[it]) (λ b hb=>?_) (λ b o _ _ hc e _=>k b o (λ z=>hc (by simp[z])) e) (λ b o _ _ hc e _=>⟨o.slots,k b o (λ z=>hc (by simp[z])) e⟩) (λ _ _ _ _ n=>n)
  (λ b o hc e=>⟨o,k b o (λ z=>hc (by simp[z])) e⟩) (λ _ _ e=>e) (λ _ _ _ e=>e) (λ b ps e=>⟨#[],by rw[e];simp⟩) (λ m G=>?_) (λ b u e=>?_) I.bare
 ·have e:b=it:=by simpa using hb
  subst e
  exact⟨Y,y,C,F⟩
 ·obtain⟨o,es,J,ho,r⟩:=G
  exact⟨o,es,J,k _ o (bJ y) ho,r⟩
 ·refine(I.hok b u e).stay (λ c v hc q=>k c v ?_ q) (λ _ q=>q) λ _ _ q=>q
  rcases hc with z|z
  ·rw[z];exact h b u e
  ·exact h c _ z
theorem Inv.tok (I:Inv X pins σ H s)(t:Nat):Inv X pins σ H { s with toks:=t }:=I.un (h':=s.heap) (t':=t) Un.refl I.hok
theorem Inv.kept {t':Nat}(I:Inv X pins σ H s)(k:∀ b u,s.heap.get? b=some u->h'.get? b=some u):Inv X pins σ H { s with heap:=h',toks:=t' }:=I.un (Un.kept k) (I.hok.kept k)
theorem Inv.laid {a:Addr}{o:HO}{t':Nat}(I:Inv X pins σ H s)(k:∀ b u,s.heap.get? b=some u->h'.get? b=some u)(h:s.heap.objs.size<=a)(new:ab6 X.prog X.w (upd H a o) h' a o) :
  Inv X pins σ (upd H a o) { s with heap:=h',toks:=t' }:=I.un (Un.laid k h (I.hok.fresh h)) (I.hok.laid k h new)
theorem Inv.write {x e:Addr}{o:HO}{t':Nat}(I:Inv X pins σ H s)(mu:Mut (H x))(y:e=x\/H e=some (.own x))(k:∀ b u,b≠e->s.heap.get? b=some u->h'.get? b=some u)(h:∃ u,h'.get? e=some u)
  (new:ab6 X.prog X.w (upd H x o) h' x o):Inv X pins σ (upd H x o) { s with heap:=h',toks:=t' }:=I.un (Un.write mu y k h) (I.hok.write mu y k h new)
theorem Inv.pins_of {y:List (Addr×Obj)}(I:Inv X pins σ H s)(h:∀ p∈y,s.heap.get? p.1=some p.2/\H p.1=none/\p.1≠X.env.locals/\p.1 ∉ X.fs/\∀ v,p.2.data≠.cell v):Inv X y σ H s :=
 ⟨I.ok,I.os,I.bare,I.base,I.loc,I.cell,I.free,I.freeC,λ p C=>(bj.mp C).elim (λ z=>I.pin p (cB _ z)) (h p),I.hok,I.len⟩
theorem aH1 {N:List Str}(hN:N.Nodup){i j:Nat}{x:Str}(a:N[i]?=some x)(b:N[j]?=some x):i=j:=by
 obtain⟨y,e1⟩:=ac.mp a
 obtain⟨h,e2⟩:=ac.mp b
 exact(List.getElem_inj hN).mp (e1.trans e2.symm)
theorem ax7 {M:Model}{A:aX}{E:Value->ag->Prop}{i:Nat}{x:Str}{v:V}{u:Value}{Q:Unit->ag->Prop}(I:Inv X pins σ H s)(hN:X.N.Nodup)(Y:X.N[i]?=some x)(hx:Loc X.env.scope x)(r:RelV v u)
  (h:∀ s',Inv X pins (σ.set i (some v)) H s'->(∃ a,cn a s.heap s'.heap/\(a=X.env.locals\/X.env.cells.lookup x=some a))->Q () s') (hf:X.fn x=true\/X.env.scope.names.lookup x=some .local:=by first|exact .inl rfl|exact .inr rfl|assumption):wpAny M A (gH X.env x u) Q E s:=by
 obtain⟨m,hn,hl⟩:=id I.loc
 have Z:(X.env.scope.kind==.class||(X.env.scope.kind==.module&&X.env.locals != X.env.globals))=false:=by rw[I.ok.kind];rfl
 have a1:i < σ.length:=by rw[I.len];exact(ac.mp Y).1
 have cne:=I.cne
 have C:∀ {a:Addr} {h':Heap},(∃ o,s.heap.get? a=some o/\H a=none)->cn a s.heap h'->HOk X.prog X.w H h':=λ {a h'} ha hs b ob e=>by
  obtain⟨_,_,F⟩:=ha
  refine(I.hok b ob e).stay (λ c w' hc q=>(hs.2 c ?_).trans q) (λ _ q=>q) λ _ _ q=>q
  rintro rfl
  rcases hc with rfl|hc
  ·rw[F]at e;cases e
  ·rw[F]at hc;cases hc
 rcases hx with hk|hk
 ·refine iy hk hn (λ h' a4 hs=>?_) Z
  obtain⟨oL,_,_,a5,_⟩:=id hn
  refine h _ ⟨I.ok,I.os,I.bare,⟨λ b o e n hb hx=>?_,λ b o e n hb hx=>?_,I.base.free,λ b o e hx=>?_,I.base.tups,I.base.frzs,I.base.tbls⟩,⟨_,a4,λ j y v' e1 e2 e3=>?_⟩,λ y c e=>?_,I.free,I.freeC,λ p hp=>?_,C ⟨oL,a5,I.free⟩ hs,by simpa using I.len⟩ ⟨_,hs,.inl rfl⟩
  ·exact(hs.2 b (aw (aq (ax e) I.ok.above))).trans (I.base.keep b o e n hb hx)
  ·obtain⟨sl,e1⟩:=I.base.slot b o e n hb hx
   exact⟨sl,(hs.2 b (aw (aq (ax e) I.ok.above))).trans e1⟩
  ·obtain⟨o',e1⟩:=I.base.there b o e hx
   exact⟨o',(hs.2 b (aw (aq (ax e) I.ok.above))).trans e1⟩
  ·by_cases hj:j=i
   ·subst hj
    rw[Y]at e1;cases e1
    rw[aV a1]at e2
    cases e2
    exact⟨u,r,.inl ⟨hk,by simp⟩⟩
   ·rw[aR (bJ hj)]at e2
    obtain⟨u',r',q⟩:=hl j y v' e1 e2 e3
    refine⟨u',r',?_⟩
    rcases q with⟨k,e⟩|⟨k,c,e,z⟩
    ·refine .inl ⟨k,?_⟩
     have:y≠x:=λ e=>hj (aH1 hN e1 (e▸Y))
     simp[this,e]
    ·exact .inr ⟨k,c,e,z.sameBut hs (cne y c e)⟩
  ·obtain⟨w',z⟩:=I.cell y c e
   exact⟨w',z.sameBut hs (cne y c e)⟩
  ·obtain⟨e,n,ne,nf,d⟩:=I.pin p hp
   exact⟨(hs.2 p.1 ne).trans e,n,ne,nf,d⟩
 ·have G:X.fn x=true:=by
   rcases hf with z|z
   ·exact z
   ·rw[z]at hk;cases hk
  obtain⟨c,hc⟩:=I.ok.has x (.inl hk)
  obtain⟨w',z⟩:=I.cell x c hc
  refine iH I.ok.kind hk hc z (λ h' a2 hs=>?_)
  obtain⟨oc,a3,J⟩:=id z
  refine h { s with heap:=h' } ⟨I.ok,I.os,I.bare,⟨λ b o e n hb hx=>?_,λ b o e n hb hx=>?_,I.base.free,λ b o e hx=>?_,I.base.tups,I.base.frzs,I.base.tbls⟩,⟨m,hn.sameBut hs (bJ (cne x c hc)),λ j y v' e1 e2 e3=>?_⟩,λ y c' e=>?_,I.free,I.freeC,λ p hp=>?_,C ⟨oc,a3,I.freeC x c hc⟩ hs,by simpa using I.len⟩ ⟨c,hs,.inr hc⟩
  ·exact(hs.2 b (aw (aq (ax e) (I.ok.cab x c G hc)))).trans (I.base.keep b o e n hb hx)
  ·obtain⟨sl,e1⟩:=I.base.slot b o e n hb hx
   exact⟨sl,(hs.2 b (aw (aq (ax e) (I.ok.cab x c G hc)))).trans e1⟩
  ·obtain⟨o',e1⟩:=I.base.there b o e hx
   exact⟨o',(hs.2 b (aw (aq (ax e) (I.ok.cab x c G hc)))).trans e1⟩
  ·by_cases hj:j=i
   ·subst hj
    rw[Y]at e1;cases e1
    rw[aV a1]at e2
    cases e2
    exact⟨u,r,.inr ⟨.inl hk,c,hc,a2⟩⟩
   ·rw[aR (bJ hj)]at e2
    obtain⟨u',r',q⟩:=hl j y v' e1 e2 e3
    refine⟨u',r',?_⟩
    rcases q with q|⟨k,c',e,z'⟩
    ·exact .inl q
    ·refine .inr ⟨k,c',e,z'.sameBut hs ?_⟩
     rintro rfl
     exact hj (aH1 hN e1 (I.ok.inj _ _ _ e hc▸Y))
  ·by_cases hcc:c'=c
   ·subst hcc;exact⟨_,a2⟩
   ·obtain⟨w2,z2⟩:=I.cell y c' e
    exact⟨w2,z2.sameBut hs hcc⟩
  ·obtain⟨e,n,ne,nf,d⟩:=I.pin p hp
   refine⟨(hs.2 p.1 ?_).trans e,n,ne,nf,d⟩
   intro q
   rw[q,a3]at e
   have q':oc=p.2:=ay e
   exact d w' (by rw[<-q'];exact J)
theorem as0 {M:Model}{A:aX}{E:Value->ag->Prop}{i:Nat}{x:Str}{v:V}{u:Value}{Q:Unit->ag->Prop}(I:Inv X pins σ H s)(hN:X.N.Nodup)(y:X.N[i]?=some x)(hx:Loc X.env.scope x)(r:RelV v u)
  (h:∀ s',Inv X pins (σ.set i (some v)) H s'->Q () s') (C:X.fn x=true\/X.env.scope.names.lookup x=some .local:=by first|exact .inl rfl|exact .inr rfl|assumption):wpAny M A (gH X.env x u) Q E s :=
 ax7 I hN y hx r (λ s' z _=>h s' z) C
theorem Inv.call' {s':ag}{ch:List Addr}(I:Inv X pins σ H s)(ho:s'.os=s.os)(u:Un (frs X.stack) ch H H' s.heap s'.heap)(hok:HOk X.prog X.w H' s'.heap)(hg:gi s'.gens)
  (h:∀ b∈ch,(b∈X.ex\/X.s₀.heap.objs.size<=b)/\b≠X.env.locals/\(∀ x c,X.env.cells.lookup x=some c->c≠b)/\∀ p∈X.pn++pins,p.1≠b):Inv X pins σ H' s':=by
 obtain⟨h',g',d',t',y⟩:=s'
 have e:y=s.os:=ho
 subst e
 exact I.call (g':=g') (t':=t') (d':=d') u hok hg h
end
abbrev XK:=Value->Option Addr->Hp->Prop
noncomputable abbrev St:=List (Option V)
abbrev VK:=V->Hp->Prop
abbrev TE:=St->Hp->VK->Prop
abbrev TT:=St->Hp->(Bool->Hp->Prop)->Prop
abbrev TA:=St->Hp->(List V->Hp->Prop)->Prop
structure Ends where
 nx:St->Hp->Prop
 rt:VK
 bk:St->Hp->Prop:=λ _ _=>False
 ct:St->Hp->Prop:=λ _ _=>False
abbrev TS:=Ends->St->Hp->Prop
def EP (X:Cx)(pins:List (Addr×Obj))(σ:St)(Q:VK)(u:Value)(s':ag):Prop:=∃ v H',Inv X pins σ H' s'/\RelV v u/\Q v H'
def TP (X:Cx)(pins:List (Addr×Obj))(σ:St)(Q:Bool->Hp->Prop)(b:Bool)(s':ag):Prop:=∃ H',Inv X pins σ H' s'/\Q b H'
def AP (X:Cx)(pins:List (Addr×Obj))(σ:St)(Q:List V->Hp->Prop)(us:List Value)(s':ag):Prop:=∃ vs H',Inv X pins σ H' s'/\Vals vs us/\Q vs H'
def SP (X:Cx)(pins:List (Addr×Obj))(D:Ends)(f:Flow)(s':ag):Prop :=
 match f with
 | .next=>∃ σ' H',Inv X pins σ' H' s'/\D.nx σ' H'
 | .brk=>∃ σ' H',Inv X pins σ' H' s'/\D.bk σ' H'
 | .cont=>∃ σ' H',Inv X pins σ' H' s'/\D.ct σ' H'
 | .ret u=>∃ v σ' H',Inv X pins σ' H' s'/\RelV v u/\D.rt v H'
def PE (X:Cx)(e:Expr)(t:TE):Prop :=
 ∀(pins:List (Addr×Obj)) (s:ag) (σ:St) (H:Hp) (Q:VK),Inv X pins σ H s->t σ H Q->wpAny (model X.prog X.w) X.A (eval e X.env) (EP X pins σ Q) X.xe s
def PT (X:Cx)(e:Expr)(t:TT):Prop :=
 ∀(pins:List (Addr×Obj)) (s:ag) (σ:St) (H:Hp) (Q:Bool->Hp->Prop),Inv X pins σ H s->t σ H Q->wpAny (model X.prog X.w) X.A (eF e X.env (eval e X.env)) (TP X pins σ Q) X.xe s
def PW (X:Cx)(e:Expr)(t:TT):Prop :=
 ∀(whole:Sem Value) (pins:List (Addr×Obj)) (s:ag) (σ:St) (H:Hp) (Q:Bool->Hp->Prop),Inv X pins σ H s->t σ H Q->wpAny (model X.prog X.w) X.A (eF e X.env whole) (TP X pins σ Q) X.xe s
theorem PW.pt {X:Cx}{e:Expr}{t:TT}(h:PW X e t):PT X e t:=h _
def PA (X:Cx)(es:List Expr)(t:TA):Prop :=
 ∀(pos:Pos) (pins:List (Addr×Obj)) (s:ag) (σ:St) (H:Hp) (Q:List V->Hp->Prop),Inv X pins σ H s->t σ H Q->wpAny (model X.prog X.w) X.A (spliced (dS pos (bn es X.env))) (AP X pins σ Q) X.xe s
def PS (X:Cx)(st:Stmt)(t:TS):Prop :=
 ∀(pins:List (Addr×Obj)) (s:ag) (σ:St) (H:Hp) (D:Ends),Inv X pins σ H s->t D σ H->wpAny (model X.prog X.w) X.A (exec st X.env) (SP X pins D) X.xe s
def PSs (X:Cx)(st:List Stmt)(t:TS):Prop :=
 ∀(pins:List (Addr×Obj)) (s:ag) (σ:St) (H:Hp) (D:Ends),Inv X pins σ H s->t D σ H->wpAny (model X.prog X.w) X.A (execs st X.env) (SP X pins D) X.xe s
theorem thn {α:Type}{t:Sem α}{Q y:α->ag->Prop}{M:Model}{A:aX}{E:Value->ag->Prop}{s:ag}(h:wpAny M A t Q E s)(z:∀ a s,Q a s->y a s):wpAny M A t y E s:=cI h z λ _ _ x=>x
section
variable {X:Cx}
theorem bin {a b:Expr}{F tb:TE}(ha:PE X a F)(hb:PE X b tb){z:List (Addr×Obj)}{s:ag}{σ:St}{H:Hp}{R:V->V->Hp->Prop}(I:Inv X z σ H s)(h:F σ H λ x C=>tb σ C λ y H2=>R x y H2)
  {α:Type} {Q:α->ag->Prop} {f:Value->Value->Sem α}
  (G:∀ v u s2 x y H2,Inv X z σ H2 s2->RelV x v->RelV y u->R x y H2->wpAny (model X.prog X.w) X.A (f v u) Q X.xe s2) :
  wpAny (model X.prog X.w) X.A (eval a X.env) (λ v s₁=>wpAny (model X.prog X.w) X.A (eval b X.env) (λ u Y=>wpAny (model X.prog X.w) X.A (f v u) Q X.xe Y) X.xe s₁) X.xe s:=by
 refine thn (ha z s σ H _ I h) λ v s1 ⟨x,C,J,r1,Z⟩=>?_
 refine thn (hb z s1 σ C _ J Z) λ u s2 ⟨y,H2,I2,r2,q2⟩=>?_
 exact G v u s2 x y H2 I2 r1 r2 q2
def aZ8 (i:Nat):TE:=λ σ H Q=>∃ v,σ[i]?=some (some v)/\Q v H
def tC (v:V):TE:=λ _ H Q=>Q v H
theorem av8 {i:Nat}{x:Str}{pos:Pos}(hN:X.N[i]?=some x)(hv:Vis X.env.scope x)(hd:(x==("__debug__":Str))=false:=by decide)(z:(x==("__classdict__":Str))=false:=by decide):PE X (.Name x pos) (aZ8 i):=by
 intro y s σ H Q I h
 obtain⟨v,e,h⟩:=h
 obtain⟨m,hn,hl⟩:=I.loc
 obtain⟨u,r,l⟩:=hl i x v hN e hv
 have fin:EP X y σ Q u s:=⟨v,H,I,r,h⟩
 rcases l with⟨hk,C⟩|⟨hk,c,hc,hcell⟩
 ·exact kr (wpAny_loadName_local I.ok.kind hk hn C fin) hd
 ·rcases hk with hk|hk
  ·exact kr (wpAny_loadName_cell I.ok.kind hk hc hcell fin) hd
  ·exact kr (wpAny_loadName_free I.ok.kind hk hc hcell fin z) hd
theorem bF4 {i j pos}:PE X (.Constant (.int i) j pos) (tC (.int i)):=λ _ _ _ H _ I h=>wpAny_Constant_int ⟨.int i,H,I.tok _,⟨_,rfl⟩,h⟩
theorem bS6 {b j pos}:PE X (.Constant (.bool b) j pos) (tC (.bl b)):=λ _ _ _ H _ I h=>Constant_bool ⟨.bl b,H,I,rfl,h⟩
theorem bN9 {j pos}:PE X (.Constant .none j pos) (tC .non):=λ _ _ _ H _ I h=>jf ⟨.non,H,I,rfl,h⟩
theorem bE5 {x j pos}:PE X (.Constant (.str x) j pos) (tC (.str x)):=λ _ _ _ H _ I h=>Calls.Constant_str ⟨.str x,H,I.tok _,⟨_,rfl⟩,h⟩
def Gl (X:Cx)(x:Str):Prop:=X.env.kindOf x=some .globalImplicit
theorem au8 {E:Value->ag->Prop}{y:List (Addr×Obj)}{s:ag}{σ:St}{H:Hp}{x:Str}{u:Value}{pos:Pos}{Q:Value->ag->Prop}(I:Inv X y σ H s)(hg:Gl X x)(z:X.mg x=some u)(h:Q u s)
  (hd:(x==("__debug__":Str))=false:=by decide):wpAny (model X.prog X.w) X.A (eval (.Name x pos) X.env) Q E s :=
 fW I.ok.kind hg (Calls.loadGlobal_global (by rw[I.ok.glob];exact I.mod.glob.keeps I.bk) z h) hd
theorem ap3 {E:Value->ag->Prop}{y:List (Addr×Obj)}{s:ag}{σ:St}{H:Hp}{x:Str}{u:Value}{pos:Pos}{Q:Value->ag->Prop}(I:Inv X y σ H s)(hg:Gl X x)(C:X.mg x=none)(hv:bq x=some u)(h:Q u s)
  (hn:x ≠ "__name__":=by decide) (hd:(x==("__debug__":Str))=false:=by decide):wpAny (model X.prog X.w) X.A (eval (.Name x pos) X.env) Q E s:=by
 obtain⟨G,F,z⟩:=I.mod.blt
 exact fW I.ok.kind hg (Calls.loadGlobal_builtin (by rw[I.ok.glob];exact I.mod.glob.keeps I.bk) C (by rw[I.ok.blt];exact F.keeps I.bk) ((z x hn).trans hv) h) hd
theorem bq6 {x:Str}{v:V}{u:Value}{pos:Pos}(hg:Gl X x)(y:X.mg x=some u)(r:RelV v u)(hd:(x==("__debug__":Str))=false:=by decide):PE X (.Name x pos) (tC v) :=
 λ _ _ _ H _ I h=>au8 I hg y ⟨v,H,I,r,h⟩ hd
theorem bu3 {x:Str}{v:V}{u:Value}{pos:Pos}(hg:Gl X x)(y:X.mg x=none)(hv:bq x=some u)(r:RelV v u)(hn:x ≠ "__name__":=by decide)(hd:(x==("__debug__":Str))=false:=by decide):PE X (.Name x pos) (tC v) :=
 λ _ _ _ H _ I h=>ap3 I hg y hv ⟨v,H,I,r,h⟩ hn hd
variable {a b:Expr} {ta tb:TE} {pos:Pos}
def PC (X:Cx)(op:CmpOp)(a b:Expr)(t:TE):Prop :=
 ∀(pins:List (Addr×Obj)) (s:ag) (σ:St) (H:Hp) (Q:VK),Inv X pins σ H s->t σ H Q ->
  wpAny (model X.prog X.w) X.A (eval a X.env) (λ v s₁=>wpAny (model X.prog X.w) X.A (eval b X.env) (λ u s₂=>wpAny (model X.prog X.w) X.A (cG op v u) (EP X pins σ Q) X.xe s₂) X.xe s₁) X.xe s
theorem aH2 (b:Expr){op:CmpOp}(h:op≠.In)(y:op≠.NotIn):db op b=false:=by
 have e1:(op==CmpOp.In)=false:=by cases op<;>first|rfl|exact absurd rfl h
 have e2:(op==CmpOp.NotIn)=false:=by cases op<;>first|rfl|exact absurd rfl y
 cases b<;>simp[db,e1,e2]
def bZ4 (ta:TE):TE:=λ σ H Q=>ta σ H λ x H1=>Q (.bl (decide (x=.non))) H1
def bM1 (ta:TE):TE:=λ σ H Q=>ta σ H λ x H1=>Q (.bl (!decide (x=.non))) H1
theorem RelV.none_iff {x:V}{v:Value}(r:RelV x v):(v==Value.none)=decide (x=.non):=by
 cases x with
 | non=>cases r;rfl
 | bl _=>cases r;rfl
 | int _=>obtain⟨t,rfl⟩:=r;rfl
 | str _=>obtain⟨t,rfl⟩:=r;rfl
 | byt _=>obtain⟨t,rfl⟩:=r;rfl
 | flt _=>obtain⟨t,rfl⟩:=r;rfl
 | ref _=>cases r;rfl
 | ty _=>cases r;rfl
theorem bl3 {j pos'}(ha:PE X a ta):PC X .Is a (.Constant .none j pos') (bZ4 ta):=by
 intro y s σ H Q I h
 refine thn (ha y s σ H _ I h) λ v s1 ⟨x,z,C,r1,F⟩=>?_
 exact jf (is_none_gen ⟨.bl _,z,C,by rw[r1.none_iff];rfl,F⟩)
theorem aS8 {j pos'}(ha:PE X a ta):PC X .IsNot a (.Constant .none j pos') (bM1 ta):=by
 intro y s σ H Q I h
 refine thn (ha y s σ H _ I h) λ v s1 ⟨x,z,C,r1,F⟩=>?_
 exact jf (isnot_none_gen ⟨.bl _,z,C,by rw[r1.none_iff];rfl,F⟩)
def tB (t:TE):TT:=λ σ H Q=>t σ H λ x H1=>∃ c,x=.bl c/\Q c H1
theorem bk8 {op:CmpOp}{t:TE}(h:PC X op a b t)(z:db op b=false:=by first|exact aH2 _ (by decide) (by decide)|rfl):PE X (.Compare a [op] [b] pos) t:=λ y s σ H Q I hw=>wpAny_Compare1 (h y s σ H Q I hw) z
theorem bl2 {op:CmpOp}{t:TE}(h:PC X op a b t)(z:db op b=false:=by first|exact aH2 _ (by decide) (by decide)|rfl):PT X (.Compare a [op] [b] pos) (tB t):=by
 intro y s σ H Q I hw
 refine iz (thn (h y s σ H _ I hw) λ v s1 z=>thn z λ u s2 F=>thn F λ c s3 ⟨x,C,G,r1,J⟩=>?_) z
 obtain⟨d,rfl,q⟩:=J
 cases r1
 exact bC ⟨C,G,q⟩
theorem bD5 {e:Expr}{t:TE}(h:PE X e t)(C:∀ y,eF e X.env y=(do let v <- y;standAt e.pos;i6 [v] (truthy v)):=by intro _;rfl):PT X e (tB t):=by
 intro z s σ H Q I hw
 refine isTrue_plain (thn (h z s σ H _ I hw) λ v s1 ⟨x,F,G,r1,J⟩=>?_) (C _)
 obtain⟨d,rfl,q⟩:=J
 cases r1
 exact bC ⟨F,G,q⟩
variable {tA tB':TT} {rest:List Expr}
def bY6 (t u:TT):TT:=λ σ H Q=>t σ H λ c H1=>if c=true then u σ H1 Q else Q false H1
def tOr (t u:TT):TT:=λ σ H Q=>t σ H λ c H1=>if c=true then Q true H1 else u σ H1 Q
def bZ5 (t:TT):TT:=λ σ H Q=>t σ H λ c H1=>Q (!c) H1
theorem br7 (ha:PT X a tA):PW X (.BoolOp .And [a] pos) tA:=by
 intro z y s σ H Q I h
 refine isTrue_and (thn (ha y s σ H Q I h) λ c s1 e=>?_)
 cases c with
 | true=>exact isTrue_and_nil e
 | false=>exact e
theorem bO7 (ha:PT X a tA):PW X (.BoolOp .Or [a] pos) tA:=by
 intro z y s σ H Q I h
 refine isTrue_or (thn (ha y s σ H Q I h) λ c s1 e=>?_)
 cases c with
 | false=>exact isTrue_or_nil e
 | true=>exact e
theorem bl9 (ha:PT X a tA)(hb:PW X (.BoolOp .And (b::rest) pos) tB'):PW X (.BoolOp .And (a::b::rest) pos) (bY6 tA tB'):=by
 intro G y s σ H Q I h
 refine isTrue_and (thn (ha y s σ H _ I h) λ c s1 ⟨z,C,F⟩=>?_)
 cases c with
 | true=>exact hb G y s1 σ z Q C F
 | false=>exact⟨z,C,F⟩
theorem bB4 (ha:PT X a tA)(hb:PW X (.BoolOp .Or (b::rest) pos) tB'):PW X (.BoolOp .Or (a::b::rest) pos) (tOr tA tB'):=by
 intro G y s σ H Q I h
 refine isTrue_or (thn (ha y s σ H _ I h) λ c s1 ⟨z,C,F⟩=>?_)
 cases c with
 | true=>exact⟨z,C,F⟩
 | false=>exact hb G y s1 σ z Q C F
theorem bC2 (ha:PT X a tA):PT X (.UnaryOp .Not a pos) (bZ5 tA):=by
 intro y s σ H Q I h
 exact isTrue_not (ha y s σ H (λ c z=>Q (!c) z) I h)
def bN6 (ta tb:TE):TE:=λ σ H Q=>ta σ H λ x H1=>∃ c,x=.bl c/\if c=true then tb σ H1 Q else Q (.bl false) H1
def bX8 (ta tb:TE):TE:=λ σ H Q=>ta σ H λ x H1=>∃ c,x=.bl c/\if c=true then Q (.bl true) H1 else tb σ H1 Q
def bN0 (ta:TE):TE:=λ σ H Q=>ta σ H λ x H1=>∃ c,x=.bl c/\Q (.bl (!c)) H1
theorem bn3 {op}{t:TE}(h:PE X a t):PE X (.BoolOp op [a] pos) t:=λ y s σ H Q I hw=>BoolOp_one (h y s σ H Q I hw)
theorem bk6 (ha:PE X a ta)(hb:PE X (.BoolOp .And (b::rest) pos) tb):PE X (.BoolOp .And (a::b::rest) pos) (bN6 ta tb):=by
 intro y s σ H Q I h
 refine BoolOp_and (thn (ha y s σ H _ I h) λ v s1 ⟨x,C,F,r1,z⟩=>?_)
 obtain⟨c,rfl,z⟩:=z
 cases r1
 refine bC ?_
 cases c with
 | true=>exact hb y s1 σ C Q F z
 | false=>exact⟨.bl false,C,F,rfl,z⟩
theorem bD7 (ha:PE X a ta)(hb:PE X (.BoolOp .Or (b::rest) pos) tb):PE X (.BoolOp .Or (a::b::rest) pos) (bX8 ta tb):=by
 intro y s σ H Q I h
 refine BoolOp_or (thn (ha y s σ H _ I h) λ v s1 ⟨x,C,F,r1,z⟩=>?_)
 obtain⟨c,rfl,z⟩:=z
 cases r1
 refine bC ?_
 cases c with
 | false=>exact hb y s1 σ C Q F z
 | true=>exact⟨.bl true,C,F,rfl,z⟩
theorem bJ5 (ha:PE X a ta):PE X (.UnaryOp .Not a pos) (bN0 ta):=by
 intro y s σ H Q I h
 refine UnaryOp_ (thn (ha y s σ H _ I h) λ v s1 ⟨x,C,F,r1,z⟩=>?_)
 obtain⟨c,rfl,z⟩:=z
 cases r1
 exact not_of (bC ⟨.bl (!c),C,F,rfl,z⟩)
def tIf (t:TT)(ta tb:TE):TE:=λ σ H Q=>t σ H λ c H1=>if c=true then ta σ H1 Q else tb σ H1 Q
theorem ba0 {c:Expr}(hc:PT X c tA)(ha:PE X a ta)(hb:PE X b tb):PE X (.IfExp c a b pos) (tIf tA ta tb):=by
 intro y s σ H Q I h
 refine wpAny_IfExp (thn (hc y s σ H _ I h) λ d s1 ⟨z,C,F⟩=>?_)
 cases d with
 | true=>exact ha y s1 σ z Q C F
 | false=>exact hb y s1 σ z Q C F
end
def SqL (K:ae)(H:Hp)(a:Addr)(xs:List V):Prop :=
 Rd H a (.lst xs) \/
  ∃(o:Obj) (its:Array Value) (n:Nat),K.lookup a=some o/\o.cls=.type "list"/\o.dict=none/\o.data=.seq its n/\its.size<=aG/\Vals xs its.toList
def SqT (K:ae)(H:Hp)(a:Addr)(xs:List V):Prop :=
 Rd H a (.tup xs) \/
  ∃(o:Obj) (its:Array Value) (n:Nat),K.lookup a=some o/\o.cls=.type "tuple"/\o.data=.seq its n/\its.size<=aG/\Vals xs its.toList
noncomputable def cb6:Value->Option V
 | .none=>some .non
 | .bool b=>some (.bl b)
 | .int i _=>some (.int i)
 | .str x _=>some (.str x)
 | .bytes b _=>some (.byt b)
 | .float b _=>some (.flt b)
 | .ref a=>some (.ref a)
 | .type n=>some (.ty n)
 | _=>none
theorem RelV.abs {x:V}{u:Value}(r:RelV x u):cb6 u=some x:=by
 cases x with
 | non=>cases r;rfl
 | bl _=>cases r;rfl
 | int _=>obtain⟨t,rfl⟩:=r;rfl
 | str _=>obtain⟨t,rfl⟩:=r;rfl
 | byt _=>obtain⟨t,rfl⟩:=r;rfl
 | flt _=>obtain⟨t,rfl⟩:=r;rfl
 | ref _=>cases r;rfl
 | ty _=>cases r;rfl
theorem RelV.inj {x y:V}{u:Value}(r:RelV x u)(q:RelV y u):x=y:=ay (r.abs.symm.trans q.abs)
theorem Vals.inj:∀ {h ys:List V} {us:List Value},Vals h us->Vals ys us->h=ys
 | _,_,_,.nil,.nil=>rfl
 | _,_,_,.cons r t,.cons r' t'=>by rw[r.inj r',Vals.inj t t']
section
variable {X:Cx} {pins:List (Addr×Obj)} {σ:St} {H:Hp} {s:ag} {a:Addr} {xs ys:List V}
theorem SqL.of {K:ae}(h:H a=some (.lst xs)):SqL K H a xs:=.inl (.inl h)
theorem SqT.of {K:ae}(h:H a=some (.tup xs)):SqT K H a xs:=.inl (.inl h)
theorem Inv.list (I:Inv X pins σ H s)(h:SqL X.K H a xs):∃ its:List Value,Vals xs its/\PlainL s.heap a its.toArray/\xs.length<=aG:=by
 rcases h with h|⟨o,its,n,hk,hc,hd,hs,hz,r⟩
 ·obtain⟨z,its,n,r,e⟩:=h.ok I.hok
  exact⟨its,r,⟨_,n,e,rfl,rfl,rfl⟩,z⟩
 ·refine⟨its.toList,r,⟨o,n,I.kIn a o hk,hc,hd,by simpa using hs⟩,?_⟩
  have e:=r.length
  simp only[dm]at e
  omega
theorem Inv.tuple (I:Inv X pins σ H s)(h:SqT X.K H a xs):∃ its:List Value,Vals xs its/\IsTup s.heap a its.toArray/\xs.length<=aG:=by
 rcases h with h|⟨o,its,n,hk,hc,hs,hz,r⟩
 ·obtain⟨z,its,r,p⟩:=h.ok I.hok
  exact⟨its,r,p,z⟩
 ·refine⟨its.toList,r,⟨o,I.kIn a o hk,hc,n,by simpa using hs⟩,?_⟩
  have e:=r.length
  simp only[dm]at e
  omega
theorem Inv.list_inj (I:Inv X pins σ H s)(h:SqL X.K H a xs)(h':SqL X.K H a ys):xs=ys:=by
 obtain⟨its,r,⟨o,n,e,_,_,d⟩,_⟩:=I.list h
 obtain⟨its',y,⟨C,z,e',_,_,d'⟩,_⟩:=I.list h'
 rw[e]at e';cases e'
 rw[d]at d'
 injection d' with d1 _
 have:its=its':=by simpa using congrArg jC d1
 subst this
 exact r.inj y
theorem Inv.tuple_inj (I:Inv X pins σ H s)(h:SqT X.K H a xs)(h':SqT X.K H a ys):xs=ys:=by
 obtain⟨its,r,⟨o,e,_,n,d⟩,_⟩:=I.tuple h
 obtain⟨its',y,⟨C,e',_,z,d'⟩,_⟩:=I.tuple h'
 rw[e]at e';cases e'
 rw[d]at d'
 injection d' with d1 _
 have:its=its':=by simpa using congrArg jC d1
 subst this
 exact r.inj y
end
noncomputable abbrev Cx.wish (X:Cx)(E:Value->ag->Prop):Cx:={ X with xe:=E }
noncomputable abbrev Cx.nox (X:Cx):Cx:=X.wish λ _ _=>False
theorem Cx.Ok.wish {X:Cx}(ok:X.Ok)(E:Value->ag->Prop):(X.wish E).Ok :=
 ⟨ok.mod,ok.kind,ok.glob,ok.blt,ok.above,ok.inj,ok.has,ok.cab,ok.hd,ok.frames,ok.stk,ok.exf,ok.bs,ok.bsz,ok.noex,ok.exfs,ok.funs,ok.frf⟩
theorem Cx.Ok.unwish {X:Cx}{E:Value->ag->Prop}(ok:(X.wish E).Ok):X.Ok :=
 ⟨ok.mod,ok.kind,ok.glob,ok.blt,ok.above,ok.inj,ok.has,ok.cab,ok.hd,ok.frames,ok.stk,ok.exf,ok.bs,ok.bsz,ok.noex,ok.exfs,ok.funs,ok.frf⟩
section
variable {X:Cx} {pins:List (Addr×Obj)} {σ:St} {H:Hp} {s:ag} {E:Value->ag->Prop}
theorem Inv.wish (I:Inv X pins σ H s)(E:Value->ag->Prop):Inv (X.wish E) pins σ H s:=⟨I.ok.wish E,I.os,I.bare,I.base,I.loc,I.cell,I.free,I.freeC,I.pin,I.hok,I.len⟩
theorem Inv.unwish (I:Inv (X.wish E) pins σ H s):Inv X pins σ H s:=⟨I.ok.unwish,I.os,I.bare,I.base,I.loc,I.cell,I.free,I.freeC,I.pin,I.hok,I.len⟩
theorem SP.unwish {D:Ends}{f:Flow}{s':ag}(h:SP (X.wish E) pins D f s'):SP X pins D f s':=by
 cases f with
 | next=>obtain⟨σ',H',I,q⟩:=h;exact⟨σ',H',I.unwish,q⟩
 | brk=>obtain⟨σ',H',I,q⟩:=h;exact⟨σ',H',I.unwish,q⟩
 | cont=>obtain⟨σ',H',I,q⟩:=h;exact⟨σ',H',I.unwish,q⟩
 | ret u=>obtain⟨v,σ',H',I,r,q⟩:=h;exact⟨v,σ',H',I.unwish,r,q⟩
theorem PSs.nox {st:List Stmt}{t:TS}(h:PSs X.nox st t):PSs X st t:=λ y s σ H D I hw =>
 cI (h y s σ H D (I.wish _) hw) (λ _ _ q=>q.unwish) λ _ _ z=>bE z
end
section
variable {X:Cx} {st:Stmt} {rest:List Stmt} {t u:TS} {e:Expr} {te:TE} {pos:Pos}
def bC6:TS:=λ D σ H=>D.nx σ H
noncomputable def bY0 (t u:TS):TS:=λ D σ H=>t { D with nx:=u D } σ H
theorem aF1:PSs X [] bC6:=λ _ _ σ H _ I h=>ip ⟨σ,H,I,h⟩
theorem aj9 (F:PS X st t)(z:PSs X rest u):PSs X (st::rest) (bY0 t u):=by
 intro y s σ H D I h
 refine wpAny_execs_cons (thn (F y s σ H { D with nx:=u D } I h) λ f s1 q=>?_)
 cases f with
 | next =>
  obtain⟨σ',H',C,q⟩:=q
  exact z y s1 σ' H' D C q
 | ret v=>exact q
 | brk=>exact q
 | cont=>exact q
theorem Inv.quiet {h:List (Addr×Obj)}{σ:St}{H:Hp}{s:ag}(I:Inv X h σ H s):interactive X.env=false:=by simp[interactive,I.ok.kind]
def bK4 (te:TE):TS:=λ D σ H=>te σ H λ _ H1=>D.nx σ H1
theorem bt2 (z:PE X e te)(hs:fU e none pos.line X.env=pure false:=by rfl):PS X (.Expr e pos) (bK4 te):=by
 intro y s σ H D I h
 exact wpAny_Expr_any (thn (z y s σ H _ I h) λ v s1 ⟨x,C,F,r1,G⟩=>⟨σ,C,F,G⟩) I.quiet hs
def bY2 (te:TE):TS:=λ D σ H=>te σ H D.rt
theorem aP5 (z:PE X e te):PS X (.Return (some e) pos) (bY2 te):=by
 intro y s σ H D I h
 exact wpAny_Return_some (thn (z y s σ H _ I h) λ v s1 ⟨x,C,F,r1,G⟩=>⟨x,σ,C,F,r1,G⟩)
def bY1 (c:TT)(t u:TS):TS:=λ D σ H=>c σ H λ b H1=>if b=true then t D σ H1 else u D σ H1
theorem bT0 {c:Expr}{a b:List Stmt}{tc:TT}(hc:PT X c tc)(ha:PSs X a t)(hb:PSs X b u):PS X (.If c a b pos) (bY1 tc t u):=by
 intro y s σ H D I h
 refine wpAny_If (thn (hc y s σ H _ I h) λ d s1 ⟨z,C,F⟩=>?_)
 cases d with
 | true=>exact ha y s1 σ z D C F
 | false=>exact hb y s1 σ z D C F
def bG9:TS:=λ _ _ _=>False
theorem bj5:PS X st bG9:=λ _ _ _ _ _ _ h=>h.elim
end
abbrev TG:=V->St->Hp->(St->Hp->Prop)->Prop
abbrev TGs:=List V->St->Hp->(St->Hp->Prop)->Prop
def PG (X:Cx)(target:Expr)(t:TG):Prop :=
 ∀(pins:List (Addr×Obj)) (s:ag) (σ:St) (H:Hp) (v:V) (u:Value) (Q:St->Hp->Prop),Inv X pins σ H s->RelV v u->t v σ H Q ->
  wpAny (model X.prog X.w) X.A (gX target X.env u) (λ _ s'=>∃ σ' H',Inv X pins σ' H' s'/\Q σ' H') X.xe s
def PGs (X:Cx)(ts:List Expr)(t:TGs):Prop :=
 ∀(pins:List (Addr×Obj)) (s:ag) (σ:St) (H:Hp) (vs:List V) (us:List Value) (Q:St->Hp->Prop),Inv X pins σ H s->Vals vs us->t vs σ H Q ->
  wpAny (model X.prog X.w) X.A (assignInOrder ((cQ ts X.env).map (·.2)) us) (λ _ s'=>∃ σ' H',Inv X pins σ' H' s'/\Q σ' H') X.xe s
abbrev bQ5:=V->V->V->Hp->(Hp->Prop)->Prop
def bS7 (X:Cx)(t:bQ5):Prop :=
 ∀(pins:List (Addr×Obj)) (s:ag) (σ:St) (H:Hp) (o i v:V) (ov iv u:Value) (Q:Hp->Prop),Inv X pins σ H s->RelV o ov->RelV i iv->RelV v u->t o i v H Q ->
  wpAny (model X.prog X.w) X.A (setItem ov iv u) (λ _ s'=>∃ H',Inv X pins σ H' s'/\Q H') X.xe s
section
variable {X:Cx} {pos:Pos}
def ao8 (i:Nat):TG:=λ v σ H Q=>Q (σ.set i (some v)) H
theorem at4 {i:Nat}{x:Str}(hN:X.N.Nodup)(z:X.N[i]?=some x)(hx:Loc X.env.scope x)(F:X.fn x=true\/X.env.scope.names.lookup x=some .local:=by first|exact .inl rfl|exact .inr rfl|assumption):PG X (.Name x pos) (ao8 i):=by
 intro y s σ H v u Q I r h
 exact jD (as0 I hN z hx r (λ s' C=>⟨_,H,C,h⟩) F)
def bT5:TGs:=λ vs σ H Q=>vs=[]/\Q σ H
def bg4 (t:TG)(u:TGs):TGs:=λ vs σ H Q=>∃ v r,vs=v::r/\t v σ H λ σ' H'=>u r σ' H' Q
theorem aS5:PGs X [] bT5:=by
 intro y s σ H vs us Q I r h
 obtain⟨e,h⟩:=h
 subst e
 cases r
 exact assignInOrder_nil ⟨σ,H,I,h⟩
theorem av5 {e:Expr}{es:List Expr}{t:TG}{u:TGs}(J:PG X e t)(z:PGs X es u)
  (hs:(cQ (e::es) X.env).map (·.2)=gX e X.env::(cQ es X.env).map (·.2):=by rfl):PGs X (e::es) (bg4 t u):=by
 intro y s σ H vs us Q I r h
 obtain⟨v,Y,e1,h⟩:=h
 subst e1
 cases r with
 | cons r rr =>
  rw[hs]
  refine assignInOrder_cons (thn (J y s σ H _ _ _ I r h) λ _ s1 ⟨σ1,F,C,G⟩=>?_)
  exact z y s1 σ1 F _ _ Q C rr G
def bQ0 (K:ae)(n:Nat)(t:TGs):TG:=λ v σ H Q=>∃ a xs,v=.ref a/\SqT K H a xs/\xs.length=n/\t xs σ H Q
theorem bk1 {es:List Expr}{k:Nat}{t:TGs}{n:Nat}(hc:X.calm=true)(h:PGs X es t)
  (hn:(cQ es X.env).length=n:=by rfl) (z:(cQ es X.env).findIdx? (·.1)=none:=by rfl):PG X (.Tuple es k pos) (bQ0 X.K n t):=by
 intro y s σ H v u Q I r hw
 obtain⟨a,J,e1,hq,hl,hw⟩:=hw
 subst e1
 cases r
 obtain⟨its,C,F,hz⟩:=I.tuple hq
 refine assign_Tuple_tuple (I.ok.hd hc) F (by simp[hn,<-hl,C.length]) z λ h' hx=>?_
 have G:Inv X y σ H { s with heap:=h' }:=I.kept (t':=s.toks) λ b o e=>hx b o (aw (ax e)) e
 exact h y _ σ H J _ Q G (by simpa using C) hw
def bZ2 (to ti:TE)(t:bQ5):TG:=λ v σ H Q=>to σ H λ o H1=>ti σ H1 λ i H2=>t o i v H2 λ H3=>Q σ H3
theorem bG6 {o i:Expr}{G F:TE}{t:bQ5}(ho:PE X o G)(J:PE X i F)(hs:bS7 X t)
  (ha:∀ v,gX (.Subscript o i pos) X.env v=(do
   let C <- i6 [v] (eval o X.env)
   let iv <- i6 [v,C] (eval i X.env)
   standAt pos
   i6 [v,C,iv] (setItem C iv v)
   release [v,C,iv] []):=by intro _;rfl):PG X (.Subscript o i pos) (bZ2 G F t):=by
 intro z s σ H v u Q I r h
 rw[ha]
 refine ab (cz (thn (ho z s σ H _ I h) λ C s1 ⟨x,H1,Z,r1,q1⟩=>?_))
 refine ab (cz (thn (J z s1 σ H1 _ Z q1) λ iv s2 ⟨y,H2,I2,r2,q2⟩=>?_))
 refine ab (jg (ab (cz (thn (hs z s2 σ H2 x y v C iv u _ I2 r1 r2 r q2) λ _ s3 ⟨Y,I3,q3⟩=>?_))))
 exact wpAny_release ⟨σ,Y,I3,q3⟩
def bc1 (te:TE)(g:TG):TS:=λ D σ H=>te σ H λ x H1=>g x σ H1 D.nx
theorem bo2 {tg e:Expr}{te:TE}{g:TG}(z:PE X e te)(hg:PG X tg g)(hs:swapsWithSole [tg] e pos.line X.env=pure false:=by rfl)(hw:jh [tg] e X.env=pure none:=by rfl)
  (J:(cQ [tg] X.env).map (·.2)=[gX tg X.env]:=by rfl):PS X (.Assign [tg] e pos) (bc1 te g):=by
 intro y s σ H D I h
 refine wpAny_Assign_stores (thn (z y s σ H _ I h) λ v s1 ⟨x,C,F,r1,G⟩=>?_) hs hw
 rw[J]
 exact thn (hg y s1 σ C x v _ F r1 G) λ _ s2 q=>q
theorem bm5 {i:Nat}{x:Str}{e:Expr}{te:TE}{z:Pos}(hN:X.N.Nodup)(J:X.N[i]?=some x)(hx:Loc X.env.scope x)(F:PE X e te)(hs:fU e (some (.Name x z)) pos.line X.env=pure false:=by rfl)(G:X.fn x=true\/X.env.scope.names.lookup x=some .local:=by first|exact .inl rfl|exact .inr rfl|assumption) :
  PS X (.Assign [.Name x z] e pos) (bc1 te (ao8 i)):=by
 intro C s σ H D I h
 refine wpAny_Assign_Name (thn (F C s σ H _ I h) λ v s1 ⟨y,Z,Y,r1,q1⟩=>?_) hs
 exact as0 Y hN J hx r1 (λ s2 I2=>⟨_,Z,I2,q1⟩) G
end
section
variable {X:Cx} {pos:Pos}
def bl4 (c:TT)(tb:TS):TS:=λ D σ H=>∃ W:Nat->St->Hp->Prop,(∃ m,W m σ H)/\∀ m σ H,W m σ H ->
 c σ H λ b H1=>if b=true then ∃ N:St->Hp->Prop,(∀ σ' H',N σ' H'->∃ m',m'<m/\W m' σ' H')/\tb { D with nx:=N,ct:=N,bk:=D.nx } σ H1 else D.nx σ H1
theorem bb7 {c:Expr}{body:List Stmt}{tc:TT}{tb:TS}(Z:PassesOwn (model X.prog X.w) X.A X.env X.xe)(hc:PT X c tc)(hb:PSs X body tb):PS X (.While c body [] pos) (bl4 tc tb):=by
 intro y s σ H D I h
 obtain⟨W,⟨m0,w0⟩,turn⟩:=h
 refine wpAny_While (codeAny_whileLoop (λ n s'=>∃ σ' H',Inv X y σ' H' s'/\W n σ' H') ?_ m0 ⟨σ,H,I,w0⟩)
 rintro n s1 ⟨σ1,Y,I1,w1⟩
 refine cZ Z (thn (hc y s1 σ1 Y _ I1 (turn n σ1 Y w1)) λ b s2 ⟨H2,I2,q2⟩=>?_)
 cases b with
 | true =>
  obtain⟨N,hN,q2⟩:=q2
  rw[if_pos rfl]
  refine cZ Z (thn (hb y s2 σ1 H2 _ I2 q2) λ f s3 q3=>?_)
  cases f with
  | next =>
   obtain⟨σ3,z,G,F⟩:=q3
   obtain⟨m',C,J⟩:=hN σ3 z F
   exact⟨m',C,σ3,z,G,J⟩
  | cont =>
   obtain⟨σ3,z,G,F⟩:=q3
   obtain⟨m',C,J⟩:=hN σ3 z F
   exact⟨m',C,σ3,z,G,J⟩
  | brk=>exact q3
  | ret v=>exact q3
 | false =>
  rw[if_neg aL]
  exact ip ⟨σ1,H2,I2,q2⟩
end
structure It where
 go:Nat->Hp->Prop
 yld:Nat->Hp->V->Hp->Prop
 stop:Nat->Hp->Prop
def FpOk (X:Cx)(pins:List (Addr×Obj))(H:Hp)(b:Addr):Prop :=
 H b=none/\b≠X.env.locals/\b ∉ X.fs/\(b∈X.ex\/X.s₀.heap.objs.size<=b)/\(∀ x c,X.env.cells.lookup x=some c->c≠b)/\∀ p∈X.pn++pins,p.1≠b
theorem Inv.fpOk {X:Cx}{h:List (Addr×Obj)}{σ:St}{H H':Hp}{s:ag}{b:Addr}(I:Inv X h σ H s)(hb:s.heap.objs.size<=b)(hn:H' b=none):FpOk X h H' b:=by
 refine⟨hn,c6 (aq I.lt hb),I.nofs hb,.inr (am I.sz hb),λ x c e z=>?_,λ p y z=>?_⟩
 ·obtain⟨v,q⟩:=I.cell x c e
  exact absurd (aq q.lt (by rw[z];exact hb)) (bu _)
 ·exact absurd (aq (ax (I.pin p y).1) (by rw[z];exact hb)) (bu _)
structure Turn (P:aJ)(w:World)(K:ae)(tg:Expr)(J:It)(fp:List Addr)(it:Addr)(tn:Nat->Heap->Prop):Prop where
 mem:it∈fp
 obj:∀ i h,tn i h->∀ b∈fp,∃ o,h.get? b=some o/\∀ v,o.data≠.cell v
 keep:∀ i h h',tn i h->(∀ b∈fp,∀ o,h.get? b=some o->h'.get? b=some o)->tn i h'
 item:∀(X:Cx),X.prog=P->X.w=w->X.K=K->X.calm=true->∀(i:Nat) (pins:List (Addr×Obj)) (s:ag) (σ:St) (H:Hp) (E:Value->ag->Prop),Inv X pins σ H s->(∀ b∈fp,FpOk X pins H b)->tn i s.heap->J.go i H ->
  wpAny (model P w) X.A (fg (.ref it)) (λ r s1=>∃ u,r=some u /\
   wpAny (model P w) X.A (fG tg (.ref it) u) (λ _ s2=>∃ x H',Inv X pins σ H' s2/\RelV x u/\J.yld i H x H'/\tn (i+1) s2.heap/\∀ b∈fp,H' b=none) E s1) E s
 done:∀(X:Cx),X.prog=P->X.w=w->X.K=K->X.calm=true->∀(i:Nat) (pins:List (Addr×Obj)) (s:ag) (σ:St) (H:Hp) (E:Value->ag->Prop),Inv X pins σ H s->(∀ b∈fp,FpOk X pins H b)->tn i s.heap->J.stop i H ->
  wpAny (model P w) X.A (fg (.ref it)) (λ r s1=>r=none/\Inv X pins σ H s1) E s
 self:∀(A:aX) (i:Nat) (s:ag) (Q:Value->ag->Prop) (E:Value->ag->Prop),tn i s.heap->Q (.ref it) s->wpAny (model P w) A (kt (.ref it)) Q E s
abbrev TI:=St->Hp->(It->Hp->Prop)->Prop
def PIE (X:Cx)(pins:List (Addr×Obj))(σ:St)(tg:Expr)(R:It->Hp->Prop)(itv:Value)(s2:ag):Prop :=
 ∃(it:Addr) (fp:List Addr) (tn:Nat->Heap->Prop) (J:It) (H':Hp),itv=.ref it/\Inv X pins σ H' s2/\Turn X.prog X.w X.K tg J fp it tn/\tn 0 s2.heap/\(∀ b∈fp,FpOk X pins H' b)/\R J H'
def PI (X:Cx)(tg iter:Expr)(wi:TI):Prop :=
 ∀(pins:List (Addr×Obj)) (s:ag) (σ:St) (H:Hp) (R:It->Hp->Prop),Inv X pins σ H s->wi σ H R ->
  wpAny (model X.prog X.w) X.A (eval iter X.env) (λ v s1=>wpAny (model X.prog X.w) X.A (kt v) (PIE X pins σ tg R) X.xe s1) X.xe s
theorem bi6 {M : Model} {A : Around} {E : Value -> Shared -> Prop} {s : Shared} {tg : Expr} {it : Addr} {u : Value} {o : Obj} {n : String} {vs : Array Value} {Q : Unit -> Shared -> Prop} (ho : s.heap.get? it = some o) (hc : o.cls = .type n) (hd : o.data = .fields vs)
    (hn : ["enumerate", "zip", "dict_itemiterator", "dict_reverseitemiterator", "odict_iterator", "itertools.zip_longest", "itertools.pairwise"].contains n = false) (hQ : Q () s) : wpAny M A (fG tg (.ref it) u) Q E s := by
  unfold fG
  cases tg <;> first
    | exact ao hQ
    | (cases u <;> first
        | exact ao hQ
        | (refine ab (wpAny_load ho ?_)
           rw[hc, hd]
           show wpAny M A (if(["enumerate", "zip", "dict_itemiterator", "dict_reverseitemiterator", "odict_iterator", "itertools.zip_longest", "itertools.pairwise"].contains n && vs[0]? == some (cR _)) = true then _ else _) Q E s
           rw[if_neg (by intro h; rw[hn, Bool.false_and]at h; cases h)]
           exact ao hQ))
noncomputable def Itl (K:ae)(a:Addr):It :=
 ⟨λ i H=>∃ xs x,SqL K H a xs/\xs[i]?=some x,λ i H x H'=>H'=H/\∀ xs,SqL K H a xs->xs[i]?=some x,λ i H=>∃ xs,SqL K H a xs/\xs.length<=i⟩
noncomputable def Itt (K:ae)(a:Addr):It :=
 ⟨λ i H=>∃ xs x,SqT K H a xs/\xs[i]?=some x,λ i H x H'=>H'=H/\∀ xs,SqT K H a xs->xs[i]?=some x,λ i H=>∃ xs,SqT K H a xs/\xs.length<=i⟩
noncomputable def Itr (lo:Int)(n:Nat):It:=⟨λ i _=>i<n,λ i H x H'=>H'=H/\x=.int (lo+i),λ i _=>n<=i⟩
theorem aW1 {P:aJ}{w:World}{K:ae}{tg:Expr}(a it:Addr):Turn P w K tg (Itl K a) [it] it (λ i h=>h.IsListIter it a i) where
 mem:=by simp
 obj:=λ i h st b hb=>by
  have e:b=it:=by simpa using hb
  subst e
  obtain⟨o,e,c,d⟩:=st
  exact⟨o,e,λ v z=>by rw[d]at z;cases z⟩
 keep:=λ i h h' st k=>st.at λ o e=>k it (by simp) o e
 item:=by
  intro X hP hw J hc i y s σ H E I F st hg
  subst hP hw J
  obtain⟨xs,x,hq,hx⟩:=hg
  obtain⟨its,G,p,hz⟩:=I.list hq
  obtain⟨u,hu,ru⟩:=G.get hx
  obtain⟨Y,f1,f2,Z,f4,f5⟩:=F it (by simp)
  refine wpAny_pyNext_list_item st p.isList (x:=u) (by simpa using hu) λ h' C sb=>?_
  have I1:Inv X y σ H { s with heap:=h' }:=I.turned (t':=s.toks) (λ b o hb e=>(sb.2 b hb).trans e) Y f1 Z f4 f5
  obtain⟨o,e,c,d⟩:=id C
  exact⟨u,rfl,bi6 (s:={ s with heap:=h' }) e c d (by decide) ⟨x,H,I1,ru,⟨rfl,λ ys hy=>by rw[I.list_inj hy hq];exact hx⟩,C,λ b hb=>(F b hb).1⟩⟩
 done:=by
  intro X hP hw J hc i y s σ H E I F st hg
  subst hP hw J
  obtain⟨xs,hq,hx⟩:=hg
  obtain⟨its,G,p,hz⟩:=I.list hq
  obtain⟨Y,f1,f2,Z,f4,f5⟩:=F it (by simp)
  have hl:=G.length
  exact wpAny_pyNext_list_end (I.ok.hd hc) st p.isList (by simp;omega) λ h' eb=>⟨rfl,I.turned (t':=s.toks) (λ b o hb e=>eb b o hb e) Y f1 Z f4 f5⟩
 self:=λ _ _ _ _ _ st h=>wpAny_pyIter_listiter st h
theorem aM9 {P:aJ}{w:World}{K:ae}{tg:Expr}(a it:Addr):Turn P w K tg (Itt K a) [it] it (λ i h=>h.IsTupleIter it a i) where
 mem:=by simp
 obj:=λ i h st b hb=>by
  have e:b=it:=by simpa using hb
  subst e
  obtain⟨o,e,c,d⟩:=st
  exact⟨o,e,λ v z=>by rw[d]at z;cases z⟩
 keep:=λ i h h' st k=>st.at λ o e=>k it (by simp) o e
 item:=by
  intro X hP hw J hc i y s σ H E I F st hg
  subst hP hw J
  obtain⟨xs,x,hq,hx⟩:=hg
  obtain⟨its,G,p,hz⟩:=I.tuple hq
  obtain⟨u,hu,ru⟩:=G.get hx
  obtain⟨Y,f1,f2,Z,f4,f5⟩:=F it (by simp)
  refine wpAny_pyNext_tuple_item st (show s.heap.IsTuple a its.toArray from p) (x:=u) (by simpa using hu) λ h' C sb=>?_
  have I1:Inv X y σ H { s with heap:=h' }:=I.turned (t':=s.toks) (λ b o hb e=>(sb.2 b hb).trans e) Y f1 Z f4 f5
  obtain⟨o,e,c,d⟩:=id C
  exact⟨u,rfl,bi6 (s:={ s with heap:=h' }) e c d (by decide) ⟨x,H,I1,ru,⟨rfl,λ ys hy=>by rw[I.tuple_inj hy hq];exact hx⟩,C,λ b hb=>(F b hb).1⟩⟩
 done:=by
  intro X hP hw J hc i y s σ H E I F st hg
  subst hP hw J
  obtain⟨xs,hq,hx⟩:=hg
  obtain⟨its,G,p,hz⟩:=I.tuple hq
  obtain⟨Y,f1,f2,Z,f4,f5⟩:=F it (by simp)
  have hl:=G.length
  exact wpAny_pyNext_tuple_end (I.ok.hd hc) st (show s.heap.IsTuple a its.toArray from p) (by simp;omega) λ h' eb=>⟨rfl,I.turned (t':=s.toks) (λ b o hb e=>eb b o hb e) Y f1 Z f4 f5⟩
 self:=λ _ _ _ _ _ st h=>wpAny_pyIter_tupleiter st h
theorem aM7 {P:aJ}{w:World}{K:ae}{tg:Expr}(it:Addr)(F:Int)(n:Nat):Turn P w K tg (Itr F n) [it] it (λ i h=>IsRangeIter h it (F+(i:Nat)*1) ((n:Int) - (i:Nat)) 1) where
 mem:=by simp
 obj:=λ i h st b hb=>by
  have e:b=it:=by simpa using hb
  subst e
  exact⟨_,st,λ v z=>by
   have z':Data.fields _=Data.cell v:=z
   cases z'⟩
 keep:=λ i h h' st k=>k it (by simp) _ st
 item:=by
  intro X hP hw J hc i y s σ H E I G st hg
  subst hP hw J
  obtain⟨Y,f1,f2,Z,f4,f5⟩:=G it (by simp)
  have W:=Walks.range (prog:=X.prog) (w:=X.w) (I.ok.hd hc) it F 1 n
  refine W.item i s _ _ hg st λ v h' tk hv C kk=>?_
  obtain⟨t,rfl⟩:=hv
  have I1:Inv X y σ H { s with heap:=h',toks:=tk }:=I.turned (λ b o hb e=>kk b o (by simpa using hb) e) Y f1 Z f4 f5
  refine⟨_,rfl,bi6 (s:={ s with heap:=h',toks:=tk }) (n := "range_iterator") C rfl rfl (by decide) ⟨.int (F+i),H,I1,⟨t,?_⟩,⟨rfl,rfl⟩,C,λ b hb=>(G b hb).1⟩⟩
  rw[Int.mul_one]
 done:=by
  intro X hP hw J hc i y s σ H E I G st hg
  subst hP hw J
  obtain⟨Y,f1,f2,Z,f4,f5⟩:=G it (by simp)
  exact wpAny_pyNext_range_end (I.ok.hd hc) st (by have:n<=i:=hg;omega) λ h' eb=>⟨rfl,I.turned (t':=s.toks) (λ b o hb e=>eb b o hb e) Y f1 Z f4 f5⟩
 self:=λ _ _ _ _ _ st h=>wpAny_pyIter_rangeiter st h
section
variable {X:Cx} {tg:Expr}
def br8 (K:ae)(tl:TE):TI:=λ σ H R=>tl σ H λ x H1=>∃ a,x=.ref a/\(∃ xs,SqL K H1 a xs)/\R (Itl K a) H1
def bV0 (K:ae)(tl:TE):TI:=λ σ H R=>tl σ H λ x H1=>∃ a,x=.ref a/\(∃ xs,SqT K H1 a xs)/\R (Itt K a) H1
theorem bq4 {l:Expr}{C:TE}(hl:PE X l C):PI X tg l (br8 X.K C):=by
 intro y s σ H R I h
 refine thn (hl y s σ H _ I h) λ v s1 ⟨x,F,z,r1,G⟩=>?_
 obtain⟨a,e,⟨Y,hq⟩,q⟩:=G
 subst e
 cases r1
 obtain⟨its,J,p,hz⟩:=z.list hq
 refine c7 p.isList ?_
 refine⟨s1.heap.objs.size,[s1.heap.objs.size],_,_,F,rfl,z.kept (t':=s1.toks) λ b o e=>af _ e,aW1 a _,⟨_,az _ rfl,rfl,rfl⟩,λ b hb=>?_,q⟩
 have e:b=s1.heap.objs.size:=by simpa using hb
 subst e
 exact z.fpOk (ak _) (z.hok.fresh (ak _))
theorem bE1 {l:Expr}{C:TE}(hl:PE X l C):PI X tg l (bV0 X.K C):=by
 intro y s σ H R I h
 refine thn (hl y s σ H _ I h) λ v s1 ⟨x,F,z,r1,G⟩=>?_
 obtain⟨a,e,⟨Y,hq⟩,q⟩:=G
 subst e
 cases r1
 obtain⟨its,J,p,hz⟩:=z.tuple hq
 refine jr (show s1.heap.IsTuple a its.toArray from p) ?_
 refine⟨s1.heap.objs.size,[s1.heap.objs.size],_,_,F,rfl,z.kept (t':=s1.toks) λ b o e=>af _ e,aM9 a _,⟨_,az _ rfl,rfl,rfl⟩,λ b hb=>?_,q⟩
 have e:b=s1.heap.objs.size:=by simpa using hb
 subst e
 exact z.fpOk (ak _) (z.hok.fresh (ak _))
theorem bg8 {z:List (Addr×Obj)}{σ:St}{H:Hp}{s:ag}{R:It->Hp->Prop}{E:Value->ag->Prop}{h y:Int}{t u v:Tok}{tk:Nat}(I:Inv X z σ H s)(Y:-(2^62)<=h)(F:h<2^62)(G:-(2^62)<=y)(J:y<2^62)
  (q:R (Itr h (y - h).toNat) H):wpAny (model X.prog X.w) X.A (kt (.ref s.heap.objs.size)) (PIE X z σ tg R) E { s with heap:=s.heap.push { cls:=.type "range",data:=.fields #[.int h t,.int y u,.int 1 v] },toks:=tk }:=by
 refine wpAny_pyIter_range (IsRange.new ..) (small_one Y F G J) ?_
 have C:Inv X z σ H { s with heap:=s.heap.push { cls:=.type "range",data:=.fields #[.int h t,.int y u,.int 1 v] },toks:=tk }:=I.kept λ b o e=>af _ e
 refine⟨(s.heap.push { cls:=.type "range",data:=.fields #[.int h t,.int y u,.int 1 v] }).objs.size,[(s.heap.push { cls:=.type "range",data:=.fields #[.int h t,.int y u,.int 1 v] }).objs.size],_,_,H,rfl,
  C.kept (t':=tk) λ b o e=>af _ e,aM7 _ h (y - h).toNat,?_,λ b hb=>?_,q⟩
 ·have e1:h+((0:Nat):Int)*1=h:=by simp
  have e2:(((y - h).toNat:Nat):Int) - ((0:Nat):Int)=kS h y 1:=by rw[rangeSize_one];split<;>omega
  show IsRangeIter _ _ (h+((0:Nat):Int)*1) ((((y - h).toNat:Nat):Int) - ((0:Nat):Int)) 1
  rw[e1,e2]
  exact az _ rfl
 ·have e:b=(s.heap.push { cls:=.type "range",data:=.fields #[.int h t,.int y u,.int 1 v] }).objs.size:=by simpa using hb
  subst e
  exact C.fpOk (ak _) (C.hok.fresh (ak _))
def bF6 (ta:TA):TI:=λ σ H R=>ta σ H λ vs H1=>∃ j:Int,vs=[.int j]/\-(2^62)<=j/\j<2^62/\R (Itr 0 j.toNat) H1
theorem aS6 {a:Expr}{C:TA}{p pos:Pos}(hg:Gl X "range")(G:X.mg "range"=none)(ha:PA X [a] C)(hs:bn [a] X.env=[(false,eval a X.env)]:=by rfl):PI X tg (.Call (.Name "range" p) [a] [] pos) (bF6 C):=by
 intro y s σ H R I h
 refine Call_ (ap3 I hg G boot_range (fQ (thn (ha pos y s σ H _ I h) λ us s1 ⟨vs,J,F,r1,z⟩=>?_) hs rfl))
 obtain⟨j,e,z,q2,q⟩:=z
 subst e
 cases r1 with
 | cons r rr =>
  cases rr
  obtain⟨t,rfl⟩:=r
  exact call_range_1 (bg8 F (by omega) (by omega) z q2 (by simpa using q))
def bZ9 (wi:TI)(g:TG)(tb:TS):TS:=λ D σ H=>wi σ H λ J H1=>∃ W:Nat->Nat->St->Hp->Prop,(∃ m,W 0 m σ H1)/\∀ i m σ H,W i m σ H ->
 (J.stop i H/\D.nx σ H)\/(J.go i H/\∃ N:St->Hp->Prop,(∀ σ' H',N σ' H'->∃ m',m'<m/\W (i+1) m' σ' H')/\∀ x H',J.yld i H x H'->g x σ H' λ σ2 H2=>tb { D with nx:=N,ct:=N,bk:=D.nx } σ2 H2)
noncomputable def az4 (fp:List Addr)(h:Heap):List (Addr×Obj):=fp.filterMap λ b=>(h.get? b).map λ o=>(b,o)
theorem qv {y:List Addr}{h:Heap}{b:Addr}{o:Obj}(hb:b∈y)(e:h.get? b=some o):(b,o)∈az4 y h:=dA.mpr ⟨b,hb,by rw[e];rfl⟩
theorem aP4 {y:List Addr}{h:Heap}{p:Addr×Obj}(z:p∈az4 y h):p.1∈y/\h.get? p.1=some p.2:=by
 obtain⟨b,hb,e⟩:=dA.mp z
 cases q:h.get? b with
 | none=>rw[q]at e;cases e
 | some o =>
  rw[q]at e
  have e':(b,o)=p:=ay e
  subst e'
  exact⟨hb,q⟩
theorem Inv.pinned {h:List (Addr×Obj)}{σ:St}{H:Hp}{s:ag}{y:List Addr}(I:Inv X h σ H s)(F:∀ b∈y,FpOk X h H b)(ho:∀ b∈y,∃ o,s.heap.get? b=some o/\∀ v,o.data≠.cell v):Inv X (h++az4 y s.heap) σ H s :=
 I.pins_of λ p G=>(bj.mp G).elim (λ z=>I.pin p (aY _ z)) λ z=>by
  obtain⟨hb,e⟩:=aP4 z
  obtain⟨C,Y,J,_⟩:=F p.1 hb
  obtain⟨o,e',d⟩:=ho p.1 hb
  rw[e]at e';cases e'
  exact⟨e,C,Y,J,d⟩
theorem Inv.unpinned {h z:List (Addr×Obj)}{σ:St}{H:Hp}{s:ag}(I:Inv X (h++z) σ H s):Inv X h σ H s:=I.pins_of λ p y=>I.pin p (aY _ (cB _ y))
theorem bC5 {iter:Expr}{body:List Stmt}{wi:TI}{g:TG}{tb:TS}{pos:Pos}(hp:PassesOwn (model X.prog X.w) X.A X.env X.xe)(hc:X.calm=true)(hi:PI X tg iter wi)(hg:PG X tg g)(hb:PSs X body tb)
  (hs:∀ x,dW iter X.env x=pure x:=by intro _;rfl):PS X (.For tg iter body [] pos) (bZ9 wi g tb):=by
 intro y s σ H D I h
 refine wpAny_For (thn (hi y s σ H _ I h) λ v s1 h1=>thn h1 λ a6 s2 h2=>?_) hs
 obtain⟨it,fp,tn,J,H2,e,I2,T,a4,f2,W,⟨m0,w0⟩,turn⟩:=h2
 subst e
 have G:∀ {H':Hp},(∀ b∈fp,H' b=none)->∀ b∈fp,FpOk X y H' b:=λ hn b hb=>⟨hn b hb,(f2 b hb).2⟩
 refine codeAny_forLoop_any (λ n s'=>∃ i σ' H',Inv X y σ' H' s'/\tn i s'.heap/\(∀ b∈fp,H' b=none)/\W i n σ' H') ?_ m0 ⟨0,σ,H2,I2,a4,λ b hb=>(f2 b hb).1,w0⟩
 rintro n s3 ⟨i,σ3,H3,I3,a1,a2,w3⟩
 rcases turn i n σ3 H3 w3 with⟨stop,qn⟩|⟨go,N,hN,step⟩
 ·refine cZ hp (thn (T.done X rfl rfl rfl hc i y s3 σ3 H3 X.xe I3 (G a2) a1 stop) λ r s4 ⟨hr,I4⟩=>?_)
  subst hr
  exact ip ⟨σ3,H3,I4,qn⟩
 ·refine cZ hp (thn (T.item X rfl rfl rfl hc i y s3 σ3 H3 X.xe I3 (G a2) a1 go) λ r s4 ⟨u,hr,h4⟩=>?_)
  subst hr
  refine cZ hp (thn h4 λ _ s5 ⟨x,H5,I5,r5,y5,Z,a3⟩=>?_)
  have a5:=I5.pinned (G a3) (T.obj _ _ Z)
  refine cZ hp (thn (hg _ s5 σ3 H5 x u _ a5 r5 (step x H5 y5)) λ _ s6 ⟨σ6,H6,I6,q6⟩=>?_)
  refine cZ hp (thn (hb _ s6 σ6 H6 _ I6 q6) λ f s7 Y=>?_)
  have C:∀ {σ7:St} {F:Hp},Inv X (y++az4 fp s5.heap) σ7 F s7->N σ7 F->∃ m,m<n/\∃ i σ' H',Inv X y σ' H' s7/\tn i s7.heap/\(∀ b∈fp,H' b=none)/\W i m σ' H':=λ {σ7 F} z n7=>by
   obtain⟨m',hm,w7⟩:=hN σ7 F n7
   refine⟨m',hm,i+1,σ7,F,z.unpinned,T.keep _ _ _ Z λ b hb o e=>(z.pin (b,o) (aY _ (aY _ (qv hb e)))).1,λ b hb=>?_,w7⟩
   obtain⟨o,e,d⟩:=T.obj _ _ Z b hb
   exact(z.pin (b,o) (aY _ (aY _ (qv hb e)))).2.1
  cases f with
  | next=>obtain⟨σ7,F,z,n7⟩:=Y;exact C z n7
  | cont=>obtain⟨σ7,F,z,n7⟩:=Y;exact C z n7
  | brk=>obtain⟨σ7,F,z,Y⟩:=Y;exact⟨σ7,F,z.unpinned,Y⟩
  | ret v=>obtain⟨x7,σ7,F,z,r7,Y⟩:=Y;exact⟨x7,σ7,F,z.unpinned,r7,Y⟩
end
abbrev R2:=V->V->Hp->VK->Prop
def OpR (X:Cx)(f:Value->Value->Sem Value)(r:R2):Prop :=
 ∀(pins:List (Addr×Obj)) (s:ag) (σ:St) (H:Hp) (x y:V) (v u:Value) (Q:VK),Inv X pins σ H s->RelV x v->RelV y u->r x y H Q ->
  wpAny (model X.prog X.w) X.A (f v u) (EP X pins σ Q) X.xe s
def UnR (X:Cx)(f:Value->Sem Value)(r:V->Hp->VK->Prop):Prop :=
 ∀(pins:List (Addr×Obj)) (s:ag) (σ:St) (H:Hp) (x:V) (v:Value) (Q:VK),Inv X pins σ H s->RelV x v->r x H Q ->
  wpAny (model X.prog X.w) X.A (f v) (EP X pins σ Q) X.xe s
def ac2 (X:Cx)(f:Value)(r:List V->Hp->VK->Prop):Prop :=
 ∀(pins:List (Addr×Obj)) (s:ag) (σ:St) (H:Hp) (xs:List V) (us:List Value) (Q:VK),Inv X pins σ H s->Vals xs us->r xs H Q ->
  wpAny (model X.prog X.w) X.A (call f us) (EP X pins σ Q) X.xe s
def tOp (r:R2)(ta tb:TE):TE:=λ σ H Q=>ta σ H λ x H1=>tb σ H1 λ y H2=>r x y H2 Q
def tUn (r:V->Hp->VK->Prop)(ta:TE):TE:=λ σ H Q=>ta σ H λ x H1=>r x H1 Q
def rI (C:Int->Int->Prop)(g:Int->Int->V):R2:=λ x y H Q=>∃ i j,x=.int i/\y=.int j/\C i j/\Q (g i j) H
def rI0 (g:Int->Int->V):R2:=λ x y H Q=>∃ i j,x=.int i/\y=.int j/\Q (g i j) H
def rU (g:Int->V):V->Hp->VK->Prop:=λ x H Q=>∃ i,x=.int i/\Q (g i) H
section
variable {X:Cx} {a b c:Expr} {ta tb tc:TE} {pos:Pos}
theorem bW9 (ha:PE X a ta)(hb:PE X b tb){z:List (Addr×Obj)}{s:ag}{σ:St}{H:Hp}{R:V->V->Hp->Prop}(I:Inv X z σ H s)
  (h:ta σ H λ x C=>tb σ C λ y H2=>R x y H2) {Q:Value->ag->Prop} {f:Value->Value->Sem Value}
  (F:∀ v u s2 x y H2,Inv X z σ H2 s2->RelV x v->RelV y u->R x y H2->wpAny (model X.prog X.w) X.A (f v u) Q X.xe s2) :
  wpAny (model X.prog X.w) X.A (eval a X.env) (λ v s₁=>wpAny (model X.prog X.w) X.A (eval b X.env) (λ u J=>wpAny (model X.prog X.w) X.A (f v u) Q X.xe J) X.xe s₁) X.xe s:=by
 refine thn (ha z s σ H _ I h) λ v s1 ⟨x,C,G,r1,Y⟩=>?_
 refine thn (hb z s1 σ C _ G Y) λ u s2 ⟨y,H2,I2,Z,q2⟩=>?_
 exact F v u s2 x y H2 I2 r1 Z q2
theorem bK5 {op:Operator}{r:R2}(ho:OpR X (cw op) r)(ha:PE X a ta)(hb:PE X b tb):PE X (.BinOp a op b pos) (tOp r ta tb):=by
 intro z s σ H Q I h
 exact wpAny_BinOp (bW9 ha hb I h λ v u s2 x y H2 I2 F C q=>ho z s2 σ H2 x y v u Q I2 F C q)
theorem bW6 {op:UnaryOp}{r:V->Hp->VK->Prop}(ho:UnR X (unaryOp op) r)(ha:PE X a ta):PE X (.UnaryOp op a pos) (tUn r ta):=by
 intro y s σ H Q I h
 exact UnaryOp_ (thn (ha y s σ H _ I h) λ v s1 ⟨x,z,C,r1,F⟩=>ho y s1 σ z x v Q C r1 F)
theorem opI {f:Value->Value->Sem Value}{C:Int->Int->Prop}{g:Int->Int->Int}
  (rule:∀(i j:Int) (t u:Tok) (s:ag) (Q:Value->ag->Prop) (E:Value->ag->Prop),C i j->Q (.int (g i j) s.toks) { s with toks:=s.toks+1 }->wpAny (model X.prog X.w) X.A (f (.int i t) (.int j u)) Q E s) :
  OpR X f (rI C λ i j=>.int (g i j)):=by
 intro z s σ H x y v u Q I G F h
 obtain⟨i,j,rfl,rfl,hc,q⟩:=h
 obtain⟨t,rfl⟩:=G
 obtain⟨t',rfl⟩:=F
 exact rule i j t t' s _ _ hc ⟨.int (g i j),H,I.tok _,⟨_,rfl⟩,q⟩
theorem ca2 {f:Value->Value->Sem Value}{g:Int->Int->Int}
  (rule:∀(i j:Int) (t u:Tok) (s:ag) (Q:Value->ag->Prop) (E:Value->ag->Prop),Q (.int (g i j) s.toks) { s with toks:=s.toks+1 }->wpAny (model X.prog X.w) X.A (f (.int i t) (.int j u)) Q E s) :
  OpR X f (rI0 λ i j=>.int (g i j)):=by
 intro z s σ H x y v u Q I F C h
 obtain⟨i,j,rfl,rfl,q⟩:=h
 obtain⟨t,rfl⟩:=F
 obtain⟨t',rfl⟩:=C
 exact rule i j t t' s _ _ ⟨.int (g i j),H,I.tok _,⟨_,rfl⟩,q⟩
theorem bQ4 {f:Value->Value->Sem Value}{g:Int->Int->Bool}
  (rule:∀(i j:Int) (t u:Tok) (s:ag) (Q:Value->ag->Prop) (E:Value->ag->Prop),Q (.bool (g i j)) s->wpAny (model X.prog X.w) X.A (f (.int i t) (.int j u)) Q E s) :
  OpR X f (rI0 λ i j=>.bl (g i j)):=by
 intro z s σ H x y v u Q I F C h
 obtain⟨i,j,rfl,rfl,q⟩:=h
 obtain⟨t,rfl⟩:=F
 obtain⟨t',rfl⟩:=C
 exact rule i j t t' s _ _ ⟨.bl (g i j),H,I,rfl,q⟩
def ca4 (i j:Int):Prop:=0<=j/\j<=1000000/\i.natAbs<2^64
def bP7 (i j:Int):Prop:=(-(2^64)<i/\i<2^64)\/(-(2^64)<j/\j<2^64)
theorem bP7.ok {i j:Int}(h:bP7 i j):IntMulOk i j:=by
 rcases h with⟨y,z⟩|⟨y,z⟩
 ·exact .of_left (intBits_le_64 y z)
 ·exact .of_right (intBits_le_64 y z)
theorem aO7 (k:Nat):(0:Int)<=2^k:=by
 rw[two_pow_cast]
 exact Int.natCast_nonneg _
theorem bL0:OpR X (cw .Add) (rI0 λ i j=>.int (i+j)):=ca2 λ _ _ _ _ _ _ _ q=>add_int q
theorem bL1:OpR X (cw .Sub) (rI0 λ i j=>.int (i - j)):=ca2 λ _ _ _ _ _ _ _ q=>sub_int q
theorem bO4:OpR X (cw .Mod) (rI (λ _ j=>0<j) λ i j=>.int (i % j)):=opI λ i j _ _ _ _ _ hc q=>by
 have h:(0:Int)<j:=hc
 exact mod_int' (by omega) (by rw[Int.fmod_eq_emod_of_nonneg i (by omega)];exact q)
theorem bE8:OpR X (cw .Pow) (rI ca4 λ i j=>.int (i^j.toNat)):=opI λ _ _ _ _ _ _ _ hc q=>pow_int_small hc.1 hc.2.1 hc.2.2 q
theorem bM3:OpR X (cw .LShift) (rI ca4 λ i j=>.int (i*2^j.toNat)):=opI λ _ _ _ _ _ _ _ hc q=>lshift_int_small hc.1 hc.2.1 hc.2.2 q
theorem bM7:OpR X (cw .RShift) (rI (λ _ j=>0<=j) λ i j=>.int (i / 2^j.toNat)):=opI λ i j _ _ _ _ _ hc q =>
 rshift_int hc (by rw[fX i (aO7 _)];exact q)
theorem unI {f:Value->Sem Value}{g:Int->Int}
  (rule:∀(i:Int) (t:Tok) (s:ag) (Q:Value->ag->Prop) (E:Value->ag->Prop),Q (.int (g i) s.toks) { s with toks:=s.toks+1 }->wpAny (model X.prog X.w) X.A (f (.int i t)) Q E s) :
  UnR X f (rU λ i=>.int (g i)):=by
 intro y s σ H x v Q I z h
 obtain⟨i,rfl,q⟩:=h
 obtain⟨t,rfl⟩:=z
 exact rule i t s _ _ ⟨.int (g i),H,I.tok _,⟨_,rfl⟩,q⟩
theorem bH6:UnR X (unaryOp .USub) (rU λ i=>.int (-i)):=unI λ _ _ _ _ _ q=>neg_int q
end
section
variable {X:Cx} {a b c:Expr} {ta tb tc:TE} {pos:Pos}
theorem bW5:OpR X (cG .Lt) (rI0 λ i j=>.bl (decide (i<j))):=bQ4 λ _ _ _ _ _ _ _ q=>lt_int q
theorem bX1:OpR X (cG .LtE) (rI0 λ i j=>.bl (decide (i<=j))):=bQ4 λ _ _ _ _ _ _ _ q=>le_int q
theorem bU7:OpR X (cG .Gt) (rI0 λ i j=>.bl (decide (j<i))):=bQ4 λ _ _ _ _ _ _ _ q=>gt_int q
theorem bR9:OpR X (cG .GtE) (rI0 λ i j=>.bl (decide (j<=i))):=bQ4 λ _ _ _ _ _ _ _ q=>ge_int q
theorem bz6 {op:CmpOp}{r:R2}(ho:OpR X (cG op) r)(ha:PE X a ta)(hb:PE X b tb)(C:db op b=false):PE X (.Compare a [op] [b] pos) (tOp r ta tb):=by
 intro z s σ H Q I h
 exact wpAny_Compare1 (bW9 ha hb I h λ v u s2 x y H2 I2 G F q=>ho z s2 σ H2 x y v u Q I2 G F q) C
def bv5 (t:TE):TT:=λ σ H Q=>t σ H λ x H'=>∃ k,x=.bl k/\Q k H'
theorem bo5 {op:CmpOp}{r:R2}(ho:OpR X (cG op) r)(ha:PE X a ta)(hb:PE X b tb)(F:db op b=false):PT X (.Compare a [op] [b] pos) (bv5 (tOp r ta tb)):=by
 intro C s σ H Q I h
 refine iz (thn (ha C s σ H _ I h) λ v s1 ⟨x,Z,J,r1,q1⟩=>thn (hb C s1 σ Z _ J q1) λ u s2 ⟨y,H2,I2,r2,q2⟩ =>
  thn (ho C s2 σ H2 x y v u _ I2 r1 r2 q2) λ c s3 ⟨z,G,Y,r3,k,e,q3⟩=>?_) F
 subst e
 cases r3
 exact bC ⟨G,Y,q3⟩
def aV9 (r r':R2)(ta tb tc:TE):TE:=λ σ H Q=>ta σ H λ x H1=>tb σ H1 λ y H2=>r x y H2 λ z H3=>∃ k,z=.bl k /\
 (if k=true then tc σ H3 λ w' H4=>r' y w' H4 Q else Q (.bl false) H3)
theorem bf1 {op F:CmpOp}{r Y:R2}(ho:OpR X (cG op) r)(G:OpR X (cG F) Y)(ha:PE X a ta)(hb:PE X b tb)(hc:PE X c tc)
  (hm:kT [op,F] [b,c]=false:=by with_unfolding_all rfl):PE X (.Compare a [op,F] [b,c] pos) (aV9 r Y ta tb tc):=by
 intro C s σ H Q I h
 refine Compare_chain (thn (ha C s σ H _ I h) λ v s1 ⟨x,H1,I1,r1,q1⟩=>chain_link (thn (hb C s1 σ H1 _ I1 q1) λ u s2 ⟨y,H2,I2,r2,q2⟩ =>
  thn (ho C s2 σ H2 x y v u _ I2 r1 r2 q2) λ d s3 ⟨z,J,Z,r3,k,e,q3⟩=>?_)) hm
 subst e
 cases r3
 refine bC ?_
 cases k with
 | false=>exact ite_ff ⟨.bl false,J,Z,rfl,q3⟩
 | true=>exact ite_tt (chain_last (thn (hc C s3 σ J _ Z q3) λ w' s4 ⟨z',H4,I4,r4,q4⟩=>G C s4 σ H4 y z' u w' Q I4 r2 r4 q4))
theorem bh8 {op F:CmpOp}{r Y:R2}(ho:OpR X (cG op) r)(G:OpR X (cG F) Y)(ha:PE X a ta)(hb:PE X b tb)(hc:PE X c tc)
  (hm:kT [op,F] [b,c]=false:=by with_unfolding_all rfl):PT X (.Compare a [op,F] [b,c] pos) (bv5 (aV9 r Y ta tb tc)):=by
 intro C s σ H Q I h
 refine isTrue_chain (thn (ha C s σ H _ I h) λ v s1 ⟨x,H1,I1,r1,q1⟩=>test_link (thn (hb C s1 σ H1 _ I1 q1) λ u s2 ⟨y,H2,I2,r2,q2⟩ =>
  thn (ho C s2 σ H2 x y v u _ I2 r1 r2 q2) λ d s3 ⟨z,J,Z,r3,k,e,q3⟩=>?_)) hm
 subst e
 cases r3
 refine bC ?_
 cases k with
 | false =>
  obtain⟨k',e',q'⟩:=q3
  cases e'
  exact ite_ff ⟨J,Z,q'⟩
 | true =>
  refine ite_tt (test_last (thn (hc C s3 σ J _ Z q3) λ w' s4 ⟨z',H4,I4,r4,q4⟩=>thn (G C s4 σ H4 y z' u w' _ I4 r2 r4 q4) λ d' s5 ⟨z2,H5,I5,r5,k2,e2,q5⟩=>?_))
  subst e2
  cases r5
  exact bC ⟨H5,I5,q5⟩
theorem am1:(aG:Nat)<2^63:=by rw[dv];decide
theorem aM3:OpR X (cw .Add) (λ x y H Q=>∃ i j,x=.str i/\y=.str j/\i.length+j.length<=aG/\Q (.str (i++j)) H):=by
 intro z s σ H x y v u Q I F C h
 obtain⟨i,j,rfl,rfl,hz,q⟩:=h
 obtain⟨t,rfl⟩:=F
 obtain⟨t',rfl⟩:=C
 exact add_str (λ t' tk=>⟨.str (i++j),H,I.tok _,⟨_,rfl⟩,q⟩) hz
theorem ag6 {x:V}{us:List Value}(r:Vals [x] us):∃ u,us=[u]/\RelV x u:=by
 cases r with
 | cons r1 r2=>cases r2;exact⟨_,rfl,r1⟩
theorem bw0 {x y:V}{us:List Value}(r:Vals [x,y] us):∃ u w',us=[u,w']/\RelV x u/\RelV y w':=by
 cases r with
 | cons r1 r2 =>
  cases r2 with
  | cons r3 r4=>cases r4;exact⟨_,_,rfl,r1,r3⟩
theorem bd7:ac2 X (.builtin "abs") (λ y H Q=>∃ i,y=[.int i]/\Q (.int (if i<0 then -i else i)) H):=by
 intro z s σ H y us Q I r h
 obtain⟨i,rfl,q⟩:=h
 obtain⟨u,rfl,t,rfl⟩:=ag6 r
 exact call_abs_int λ u tk=>⟨.int (if i<0 then -i else i),H,I.tok _,⟨_,rfl⟩,q⟩
theorem aT0 (hc:X.calm=true):ac2 X (.builtin "max") (λ y H Q=>∃ i j,y=[.int i,.int j]/\Q (.int (if j > i then j else i)) H):=by
 intro z s σ H y us Q I r h
 obtain⟨i,j,rfl,q⟩:=h
 obtain⟨u,w',rfl,⟨t,rfl⟩,⟨t',rfl⟩⟩:=bw0 r
 refine max_two_ints (I.ok.hd hc) λ h' tk k=>⟨_,H,I.kept k,?_,q⟩
 by_cases hj:j > i
 ·rw[if_pos hj,if_pos hj];exact⟨_,rfl⟩
 ·rw[if_neg hj,if_neg hj];exact⟨_,rfl⟩
theorem aR1 (hc:X.calm=true):ac2 X (.builtin "min") (λ y H Q=>∃ i j,y=[.int i,.int j]/\Q (.int (if j<i then j else i)) H):=by
 intro z s σ H y us Q I r h
 obtain⟨i,j,rfl,q⟩:=h
 obtain⟨u,w',rfl,⟨t,rfl⟩,⟨t',rfl⟩⟩:=bw0 r
 refine min_two_ints (I.ok.hd hc) λ h' tk k=>⟨_,H,I.kept k,?_,q⟩
 by_cases hj:j<i
 ·rw[if_pos hj,if_pos hj];exact⟨_,rfl⟩
 ·rw[if_neg hj,if_neg hj];exact⟨_,rfl⟩
theorem aQ1:ac2 X (.type "int") (λ y H Q=>(∃ i,y=[.int i]/\Q (.int i) H)\/∃ k,y=[.bl k]/\Q (.int (if k then 1 else 0)) H):=by
 intro z s σ H y us Q I r h
 rcases h with⟨i,rfl,q⟩|⟨k,rfl,q⟩
 ·obtain⟨u,rfl,t,rfl⟩:=ag6 r
  exact call_int_int ⟨.int i,H,I,⟨_,rfl⟩,q⟩
 ·obtain⟨u,rfl,r1⟩:=ag6 r
  cases r1
  exact call_int_bool ⟨.int (if k then 1 else 0),H,I.tok _,⟨_,rfl⟩,q⟩
end
structure ObjM (h:Heap)(x dx C:Addr)(mA:Str->Option Value):Prop where
 obj:h.get? x=some (io C dx)
 ns:h.Ns1 dx mA
 ne:dx≠x
theorem aQ5 {h:Heap}{F:Addr}{G:Str->Option Value}(n:h.Ns1 F G):∃ od,h.get? F=some od/\∀ name,iI name od=some (G name):=by
 obtain⟨o,es,Z,ho,hd,hk,_,J⟩:=n
 refine⟨o,ho,λ name=>?_⟩
 have e:=J name
 unfold nsFind findBy at e
 rw[<-Array.find?_toList]at e
 unfold iI
 rw[hd]
 dsimp only
 split
 ·rename_i y q
  rw[q]at e
  exact congrArg some e
 ·rename_i q
  rw[q]at e
  have a:es.toList.any (·.refKey)=false:=by
   rw[List.any_eq_false]
   intro y hy
   obtain⟨z,t,C⟩:=hk y (Array.mem_toList_iff.mp hy)
   simp[DictEntry.refKey,C]
  have Y:¬ es.toList.any (·.refKey)=true:=by rw[a];exact aL
  rw[if_neg Y]
  exact congrArg some e
theorem ObjM.look {h:Heap}{x y C:Addr}{z:Str->Option Value}(I:ObjM h x y C z):∃ od,PySem.W.InstAt h x (io C y) C (some od)/\∀ name,iI name od=some (z name) :=
 let⟨od,ho,hl⟩:=aQ5 I.ns
 ⟨od,⟨I.obj,rfl,rfl,ho⟩,hl⟩
section
variable {prog:aJ} {w:World} {A:aX} {E:Value->ag->Prop} {s:ag} {K:ae} {x dx C f:Addr} {mA:Str->Option Value} {name:Str} {v:Value}
end
theorem aL8.some_of {v:V}{o:Option Value}(r:aL8 (some v) o):∃ u,o=some u/\RelV v u:=by
 cases o with
 | none=>exact(show False from r).elim
 | some u=>exact⟨u,rfl,r⟩
section
variable {P:aJ} {w:World} {H H':Hp} {h h':Heap} {a C dx:Addr} {fs fs':List (Str×V)}
theorem bo9 (hok:HOk P w H h)(e:H a=some (.ins C dx fs)):∃ y,ObjM h a dx C y/\(∀ f,aL8 (fs.lookup f) (y f))/\kX y (fs.map (·.1))/\fs.length<=1000/\H dx=some (.own a):=by
 obtain⟨d,z,ne,ob,y,n,r,q⟩:=(show ab6 P w H h a (.ins C dx fs)from hok a _ e)
 exact⟨y,⟨ob,n,ne⟩,r,q,z,d⟩
end
structure Cls (K:ae)(C:Addr):Prop where
 pg:jU K C Str.empty=true
 hd:PySem.W.hasDictIn K C=true
 po:PySem.W.plainOver K C=true
 sa:iJ K (.ref C) "__setattr__"=some (some (.builtin "object.__setattr__"))
theorem Cls.get {K:ae}{C:Addr}(c:Cls K C)(f:Str):jU K C f=true:=c.pg
section
variable {X:Cx} {pins:List (Addr×Obj)} {σ:St} {H:Hp} {s:ag} {a C dx:Addr} {fs:List (Str×V)} {f:Str} {v:V} {A:aX} {E:Value->ag->Prop}
end
section
variable {X:Cx} {o e value:Expr} {f:Str} {pos pos' tpos:Pos} {ta tv:TE}
end
section
variable {X:Cx} {pins:List (Addr×Obj)} {σ:St} {H:Hp} {s:ag} {A:aX} {E:Value->ag->Prop} {Q:Value->ag->Prop} {c:Value} {b:Bool}
inductive TyOf (K:ae)(H:Hp):V->Value->Prop where
 | non:TyOf K H .non (.type "NoneType")
 | bl (x:Bool):TyOf K H (.bl x) (.type "bool")
 | int (i:Int):TyOf K H (.int i) (.type "int")
 | str (x:Str):TyOf K H (.str x) (.type "str")
 | flt (x:UInt64):TyOf K H (.flt x) (.type "float")
 | lst {a:Addr} {xs:List V} (e:H a=some (.lst xs)):TyOf K H (.ref a) (.type "list")
 | frz {a:Addr} {o:Obj} {xs:List V} (e:H a=some (.frz o (.lst xs))):TyOf K H (.ref a) (.type "list")
 | tup {a:Addr} {xs:List V} (e:H a=some (.tup xs)):TyOf K H (.ref a) (.type "tuple")
 | dK {a:Addr} {kvs:List (Key×V)} (e:H a=some (.dK kvs)):TyOf K H (.ref a) (.type "dict")
 | dT {a:Addr} {kvs:List (List Key×V)} (e:H a=some (.dT kvs)):TyOf K H (.ref a) (.type "dict")
 | ins {a C dx:Addr} {fs:List (Str×V)} (e:H a=some (.ins C dx fs)) (cl:Cls K C) (ha:iJ K (.ref C) "__class__"=some (some (.builtin "object.__class__")))
   (hn:PySem.W.specialIn K (.builtin "object.__class__") "__get__"=some (some (.builtin "getset_descriptor.__get__"))) (htk:PySem.W.takesIn K (.builtin "object.__class__")=some true)
   (hm:PySem.W.mroIn K C (.type "object")=some true):TyOf K H (.ref a) (.ref C)
theorem qp {x:V}{u t:Value}(I:Inv X pins σ H s)(F:RelV x u)(ty:TyOf X.K H x t)(e:cS X.K t c=some b)(h:∀ tk,Q (.bool b) { s with toks:=tk }) :
  wpAny (model X.prog X.w) A (call (.builtin "isinstance") [u,c]) Q E s:=by
 cases ty with
 | non=>cases(show u=Value.none from F);exact bM PySem.W.kitx_none I.kIn True.intro e (λ z=>nomatch z) h
 | bl y=>cases(show u=Value.bool y from F);exact bM PySem.W.kitx_bool I.kIn True.intro e (λ z=>nomatch z) h
 | int i=>obtain⟨t,q⟩:=(show ∃ t,u=Value.int i t from F);cases q;exact bM PySem.W.kitx_int I.kIn True.intro e (λ z=>nomatch z) h
 | str y=>obtain⟨t,q⟩:=(show ∃ t,u=Value.str y t from F);cases q;exact bM PySem.W.kitx_str I.kIn True.intro e (λ z=>nomatch z) h
 | flt y=>obtain⟨t,q⟩:=(show ∃ t,u=Value.float y t from F);cases q;exact bM PySem.W.kitx_float I.kIn True.intro e (λ z=>nomatch z) h
 | @lst a Y ea =>
  cases(show u=Value.ref a from F)
  obtain⟨_,_,n,_,G⟩:=(show ab6 X.prog X.w H s.heap a (.lst Y)from I.hok a _ ea)
  exact bM jE I.kIn ⟨_,G,rfl⟩ e (λ z=>nomatch z) h
 | @frz a ob Y ea =>
  cases(show u=Value.ref a from F)
  obtain⟨_,_,_,n,_,G⟩:=(show ab6 X.prog X.w H s.heap a (.frz ob (.lst Y))from I.hok a _ ea)
  exact bM jE I.kIn ⟨_,G,rfl⟩ e (λ z=>nomatch z) h
 | @tup a Y ea =>
  cases(show u=Value.ref a from F)
  obtain⟨_,_,_,p⟩:=(show ab6 X.prog X.w H s.heap a (.tup Y)from I.hok a _ ea)
  obtain⟨o,G,Z,_⟩:=p
  exact bM js I.kIn ⟨o,G,Z⟩ e (λ z=>nomatch z) h
 | @dK a kvs ea =>
  cases(show u=Value.ref a from F)
  obtain⟨_,_,vs,_,p⟩:=(show ab6 X.prog X.w H s.heap a (.dK kvs)from I.hok a _ ea)
  obtain⟨o,es,ep,G,Z,_⟩:=p
  exact bM jF I.kIn ⟨o,G,Z.1⟩ e (λ z=>nomatch z) h
 | @dT a kvs ea =>
  cases(show u=Value.ref a from F)
  obtain⟨_,_,Y,_,o,es,ep,G,Z,_⟩:=(show ab6 X.prog X.w H s.heap a (.dT kvs)from I.hok a _ ea)
  exact bM jF I.kIn ⟨o,G,Z.1⟩ e (λ z=>nomatch z) h
 | @ins a C dx fs ea cl ha hn htk hm =>
  cases(show u=Value.ref a from F)
  obtain⟨mA,O,_⟩:=bo9 I.hok ea
  obtain⟨od,J,_⟩:=O.look
  exact bM (PySem.W.kitx_own (cl.get _) cl.hd ha hn htk hm) I.kIn J e (λ z=>nomatch z) h
end
structure Room (k:Nat)(A:aX):Prop where
 hd:A.handled=none
 dp:A.depth+3*k+5<recursionLimit
 un:A.units+16*k+200<cLine
theorem Room.mono {j k:Nat}{A:aX}(r:Room k A)(h:j<=k):Room j A:=⟨r.hd,by have:=r.dp;omega,by have:=r.un;omega⟩
theorem Room.deeper {k:Nat}{A:aX}(r:Room (k+1) A)(env:Env):Room k (A.deeper env) :=
 ⟨r.hd,by have:=r.dp;show A.depth+1+3*k+5<_;omega,by have:=r.un;show A.units+3+16*k+200<_;omega⟩
theorem Room.in1 {k:Nat}{A:aX}(r:Room (k+1) A):Room k A.in1 :=
 ⟨r.hd,by have:=r.dp;show A.depth+3*k+5<_;omega,by have:=r.un;show A.units+1+16*k+200<_;omega⟩
theorem Room.depth {k:Nat}{A:aX}(r:Room k A):A.depth<recursionLimit:=by have:=r.dp;omega
theorem Room.units {k:Nat}{A:aX}(r:Room k A):A.units+64<cLine:=by have:=r.un;omega
theorem Room.units0 {k:Nat}{A:aX}(r:Room k A):A.units<cLine:=by have:=r.un;omega
def aQ9:TA:=λ _ H Q=>Q [] H
def an4 (ta:TE)(tr:TA):TA:=λ σ H Q=>ta σ H λ x H1=>tr σ H1 λ xs H2=>Q (x::xs) H2
section
variable {X:Cx} {e:Expr} {es:List Expr} {te:TE} {t:TA} {pos:Pos}
theorem ad2:PA X [] aQ9:=λ _ _ _ _ H Q I h=>jG ⟨[],H,I,.nil,h⟩
theorem zC (ha:PE X e te)(hr:PA X es t)(hs:bn (e::es) X.env=(false,eval e X.env)::bn es X.env:=by rfl):PA X (e::es) (an4 te t):=by
 intro pos y s σ H Q I h
 rw[hs]
 show wpAny _ _ (spliced ((false,eval e X.env)::dS pos (bn es X.env))) _ _ s
 refine fY (thn (ha y s σ H _ I h) λ u s1 ⟨x,z,F,r1,J⟩=>?_)
 exact thn (hr pos y s1 σ z _ F J) λ us s2 ⟨G,H2,I2,C,q2⟩=>⟨x::G,H2,I2,.cons r1 C,q2⟩
def bW4 (t:TA):TE:=λ σ H Q=>t σ H λ xs H1=>xs.length<=aG/\∀ p,H1 p=none->Q (.ref p) (upd H1 p (.tup xs))
def cb5 (t:TA):TE:=λ σ H Q=>t σ H λ xs H1=>xs.length<=aG/\∀ p,H1 p=none->Q (.ref p) (upd H1 p (.lst xs))
theorem bn8 {x1}(h:PA X es t):PE X (.Tuple es x1 pos) (bW4 t):=by
 intro y s σ H Q I hq
 refine wpAny_Tuple_spliced (thn (h pos y s σ H _ I hq) λ us s1 ⟨J,C,F,r,z,q⟩=>⟨by rw[<-r.length];exact z,?_⟩)
 have G:C s1.heap.objs.size=none:=F.hok.fresh (ak _)
 refine⟨.ref s1.heap.objs.size,upd C s1.heap.objs.size (.tup J),F.laid (t':=s1.toks) (λ b u e=>af _ e) (ak _) ?_,rfl,q _ G⟩
 exact⟨z,us,r,⟨_,az _ rfl,rfl,_,rfl⟩⟩
theorem bn6 (h:PA X es t):PE X (.List es pos) (cb5 t):=by
 intro y s σ H Q I hq
 refine wpAny_List_spliced (thn (h pos y s σ H _ I hq) λ us s1 ⟨J,C,F,r,z,q⟩=>⟨by rw[<-r.length];exact z,?_⟩)
 have G:C s1.heap.objs.size=none:=F.hok.fresh (ak _)
 refine⟨.ref s1.heap.objs.size,upd C s1.heap.objs.size (.lst J),F.laid (t':=s1.toks) (λ b u e=>af _ e) (ak _) ?_,rfl,q _ G⟩
 exact⟨z,us,0,r,az _ rfl⟩
end
abbrev Sp:=List V->Hp->VK->XK->Prop
abbrev CXT:=List Env->Hp->ag->XK->Value->ag->Prop
structure Env0 (P:aJ)(w:World)(K:ae)(mg:Str->Option Value)(base:Heap)(A:aX)(outer:List Env)(s:ag)(H:Hp):Prop where
 frames:A.frames=some outer
 mod:Mod K mg base
 bs:∀ b o,base.get? b=some o->s.heap.get? b=some o/\H b=none
 bsz:base.objs.size<=s.heap.objs.size
 funs:s.heap.FunFrames base outer
 frf:∀ b∈frs outer,H b=none
 hok:HOk P w H s.heap
 bare:gi s.gens
def CE (outer:List Env)(P:aJ)(w:World)(H:Hp)(s:ag)(Q:VK)(u:Value)(s':ag):Prop :=
 ∃ v H',s'.os=s.os/\gi s'.gens/\Un (frs outer) [] H H' s.heap s'.heap/\HOk P w H' s'.heap/\RelV v u/\Q v H'
def CR (CX:CXT)(outer:List Env)(P:aJ)(w:World)(H:Hp)(s:ag)(Q:VK)(E:XK)(r:kY)(s':ag):Prop :=
 match r with
 | .ok (.ret u)=>CE outer P w H s Q u s'
 | .ok _=>False
 | .error e=>CX outer H s E e s'
structure FnOk (P:aJ)(w:World)(K:ae)(mg:Str->Option Value)(base:Heap)(CX:CXT)(k:Nat)(f:Addr)(fd:bQ)(ps:List Str)(sp:Sp):Prop where
 len:∀ vs H Q E,sp vs H Q E->vs.length=ps.length
 run:∀(A:aX) (outer:List Env) (s:ag) (H:Hp) (args:Args) (us:List Value) (vs:List V) (Q:VK) (E:XK),Room k A->Env0 P w K mg base A outer s H->km s fd args (ps.zip us)->Vals vs us->sp vs H Q E ->
  fw (model P w) A (.call (.ref f) args) (CR CX outer P w H s Q E) s
theorem FnOk.imp {P:aJ}{w:World}{K:ae}{mg:Str->Option Value}{y:Heap}{C:CXT}{k:Nat}{f:Addr}{G:bQ}{ps:List Str}{sp z:Sp}(F:FnOk P w K mg y C k f G ps sp)
  (h:∀ vs H Q E,z vs H Q E->sp vs H Q E):FnOk P w K mg y C k f G ps z :=
 ⟨λ vs H Q E q=>F.len vs H Q E (h _ _ _ _ q),λ A outer s H args us vs Q E hr J hb hv hs=>F.run A outer s H args us vs Q E hr J hb hv (h _ _ _ _ hs)⟩
section
variable {X:Cx} {pins:List (Addr×Obj)} {σ:St} {H:Hp} {s s':ag}
theorem Inv.env0 (I:Inv X pins σ H s):Env0 X.prog X.w X.K X.mg X.base X.A X.stack s H :=
 ⟨I.ok.frames,I.ok.mod,I.bs,am I.ok.bsz I.sz,I.stack,I.stkFree,I.hok,I.bare⟩
theorem Inv.after {Q:VK}{u:Value}(I:Inv X pins σ H s)(h:CE X.stack X.prog X.w H s Q u s'):EP X pins σ Q u s':=by
 obtain⟨v,H',os,bare,un,hok,r,q⟩:=h
 obtain⟨C,g,d,t,y⟩:=s'
 obtain rfl:y=s.os:=os
 exact⟨v,H',I.call (h':=C) (g':=g) (d':=d) (t':=t) (ch:=[]) un hok bare (λ b z=>absurd z (by simp)),r,q⟩
end
def aM2 (sp:Sp)(dvs:List V)(E:XK)(t:TA):TE:=λ σ H Q=>t σ H λ vs H1=>sp (vs++dvs) H1 Q E
def Binds (K:ae)(fd:bQ)(ps:List Str)(ds:List Value):Prop :=
 ∀(s:ag) (us:List Value),K.In s.heap->(us++ds).length=ps.length->km s fd ⟨us,[]⟩ (ps.zip (us++ds))
theorem Binds.all {K:ae}{y:bQ}{ps:List Str}(h:∀ us:List Value,us.length=ps.length->fy y ⟨us,[]⟩=pure (ps.zip us)):Binds K y ps []:=λ s us _ hl=>by
 rw[aZ]at hl ⊢
 exact .of_eq (h us hl)
def aL4 (CX:CXT)(X:Cx)(E:XK):Prop:=∀(pins:List (Addr×Obj)) (σ:St) (H:Hp) (s:ag) (e:Value) (s':ag),Inv X pins σ H s->CX X.stack H s E e s'->X.xe e s'
section
variable {X:Cx} {CX:CXT} {k:Nat} {f C:Addr} {fd:bQ} {ps:List Str} {sp:Sp} {dvs:List V} {ds:List Value} {E:XK} {x m:Str} {p pos apos:Pos} {e o:Expr} {es:List Expr} {ta:TE} {t:TA}
theorem bl5 {y:List (Addr×Obj)}{σ:St}{H:Hp}{s:ag}{Q:VK}{us:List Value}{vs:List V}(F:FnOk X.prog X.w X.K X.mg X.base CX k f fd ps sp)(hr:Room k X.A)(hb:Binds X.K fd ps ds)(hd:Vals dvs ds)(hx:aL4 CX X E)
  (I:Inv X y σ H s) (r:Vals vs us) (h:sp (vs++dvs) H Q E):wpAny (model X.prog X.w) X.A (call (.ref f) us) (EP X y σ Q) X.xe s:=by
 have z:Vals (vs++dvs) (us++ds):=r.append hd
 have hl:(us++ds).length=ps.length:=by rw[<-z.length];exact F.len _ _ _ _ h
 refine ku (fR (F.run X.A X.stack s H ⟨us,[]⟩ (us++ds) (vs++dvs) Q E hr I.env0 (hb s us I.kIn hl) z h) λ r s' hq=>?_)
 cases r with
 | error e=>exact hx y σ H s e s' I hq
 | ok fl =>
  cases fl with
  | ret u=>exact I.after hq
  | next=>exact bE hq
  | brk=>exact bE hq
  | cont=>exact bE hq
theorem bo4 (F:FnOk X.prog X.w X.K X.mg X.base CX k f fd ps sp)(hr:Room k X.A)(hg:Gl X x)(Y:X.mg x=some (.ref f))(hk:cC X.K (.ref f)=true)(hb:Binds X.K fd ps ds)(hd:Vals dvs ds)(hx:aL4 CX X E)
  (ha:PA X (e::es) t) (C:(x==("__debug__":Str))=false:=by decide) (J:bn (e::es) X.env=(false,eval e X.env)::bn es X.env:=by rfl) (z:(dS pos (bn es X.env)).any (·.1)=false:=by rfl) :
  PE X (.Call (.Name x p) (e::es) [] pos) (aM2 sp dvs E t):=by
 intro y s σ H Q I h
 refine cc (au8 I hg Y ?_ C)
 refine jt (h₀:=X.base) I.ok.mod.kin hk (thn (ha pos y s σ H _ I h) λ us s1 ⟨vs,Z,G,r,q⟩=>⟨G.kIn,?_⟩) J z
 exact bl5 F hr hb hd hx G r q
theorem bi7 (F:FnOk X.prog X.w X.K X.mg X.base CX k f fd ps sp)(hr:Room k X.A)(hg:Gl X x)(C:X.mg x=some (.ref f))(hk:cC X.K (.ref f)=true)(hb:Binds X.K fd ps ds)(hd:Vals dvs ds)(hx:aL4 CX X E)
  (y:(x==("__debug__":Str))=false:=by decide):PE X (.Call (.Name x p) [] [] pos) (aM2 sp dvs E aQ9):=by
 intro z s σ H Q I h
 refine cc (au8 I hg C ?_ y)
 exact PySem.W.callWith_K0 I.kIn hk (bl5 (us:=[]) F hr hb hd hx I .nil h)
structure Mk (K:ae)(C f:Addr):Prop where
 makes:PySem.W.makesIn K C=true
 init:iJ K (.ref C) "__init__"=some (some (.ref f))
 fn:PySem.W.isFn K (.ref f)=true
 kp:cC K (.ref C)=true
end
section
variable {X:Cx} {CX:CXT} {k:Nat} {f C:Addr} {fd:bQ} {ps ks:List Str} {sp:Sp} {E:XK} {x m:Str} {p pos apos kpos:Pos} {e o:Expr} {es:List Expr} {kws:List gj} {te ta:TE} {t tk:TA} {nm:Option Str}
variable {g:List Value->List Value->List Value} {gV:List V->List V->List V}
end
structure FnScope (N P:List Str)(sc:Scope):Prop where
 kind:sc.kind=.function
 co:sc.isCoroutine=false
 gen:sc.isGenerator=false
 nd:N.Nodup
 pre:N.take P.length=P
 par:∀ x∈P,sc.names.lookup x=some .local\/sc.names.lookup x=some .cell
 nofree:∀ y∈sc.names,y.2≠.free
theorem aw7 {fh:Str->Option bR}{x:Str}:∀ {binds:List (Str×Value)} {m:Str->Option Value},(∀ v,(x,v) ∉ binds)->bindL fh binds m x=m x
 | [],_,_=>rfl
 | (n,v)::r,m,h=>by
  unfold bindL
  rw[aw7 λ w hw=>h w (av _ hw)]
  split
  ·have:x≠n:=by rintro rfl;exact h v aB
   simp[this]
  ·rfl
theorem aw9 {fh:Str->Option bR}{x:Str}:∀ {binds:List (Str×Value)} {m:Str->Option Value},(∀ v,(x,v) ∉ binds)->bindC fh binds m x=m x
 | [],_,_=>rfl
 | (n,v)::r,m,h=>by
  unfold bindC
  rw[aw9 λ w hw=>h w (av _ hw)]
  split
  ·rfl
  ·have:x≠n:=by rintro rfl;exact h v aB
   simp[this]
theorem al9 {fh:Str->Option bR}{x:Str}{v:Value}:∀ {P:List Str} {vs:List Value} {i:Nat} {m:Str->Option Value},P.Nodup->P[i]?=some x->vs[i]?=some v->fh x=some .local ->
  bindL fh (P.zip vs) m x=some v
 | [],_,_,_,_,h,_,_=>by simp at h
 | _::_,[],_,_,_,_,h,_=>by simp at h
 | p::P,w::vs,0,m,nd,h1,h2,hk=>by
  simp at h1 h2;subst h1;subst h2
  show bindL fh ((p,w)::P.zip vs) m p=_
  unfold bindL
  rw[aw7 λ v hv=>(dI.mp nd).1 (eD hv).1,if_pos hk]
  simp
 | p::P,w::vs,i+1,m,nd,h1,h2,hk=>by
  show bindL fh ((p,w)::P.zip vs) m x=_
  unfold bindL
  exact al9 (i:=i) (dI.mp nd).2 (by simpa using h1) (by simpa using h2) hk
theorem am9 {fh:Str->Option bR}{x:Str}{v:Value}:∀ {P:List Str} {vs:List Value} {i:Nat} {m:Str->Option Value},P.Nodup->P[i]?=some x->vs[i]?=some v->fh x≠some .local ->
  bindC fh (P.zip vs) m x=some v
 | [],_,_,_,_,h,_,_=>by simp at h
 | _::_,[],_,_,_,_,h,_=>by simp at h
 | p::P,w::vs,0,m,nd,h1,h2,hk=>by
  simp at h1 h2;subst h1;subst h2
  show bindC fh ((p,w)::P.zip vs) m p=_
  unfold bindC
  rw[aw9 λ v hv=>(dI.mp nd).1 (eD hv).1,if_neg hk]
  simp
 | p::P,w::vs,i+1,m,nd,h1,h2,hk=>by
  show bindC fh ((p,w)::P.zip vs) m x=_
  unfold bindC
  exact am9 (i:=i) (dI.mp nd).2 (by simpa using h1) (by simpa using h2) hk
noncomputable def ah6 (N:List Str)(vs:List V):St:=vs.map some++aI (N.length - vs.length) none
noncomputable def bh9 (CX:CXT)(P:aJ)(w:World)(K:ae)(mg:Str->Option Value)(base:Heap)(N:List Str)(qual:Str)(scope:Scope)(f:Addr)(cd:Value)(A:aX)(outer:List Env)(s:ag)(H:Hp)(E:XK):Cx where
 prog:=P
 w:=w
 K:=K
 mg:=mg
 base:=base
 A:=A.deeper (gz qual scope s.heap.objs.size f cd)
 N:=N
 s₀:=s
 H₀:=H
 env:=gz qual scope s.heap.objs.size f cd
 outer:=outer
 stack:=gz qual scope s.heap.objs.size f cd::outer
 ex:=[]
 calm:=true
 fn:=λ _=>true
 pn:=[]
 xe:=λ e s'=>wpAny (model P w) (A.deeper (gz qual scope s.heap.objs.size f cd)) (leaving (gz qual scope s.heap.objs.size f cd) e) (λ _ s''=>CX outer H s E e s'') (λ e' s''=>CX outer H s E e' s'') s'
theorem zN {sc:Scope}{n:Nat}{x:Str}(h:sc.names.lookup x=some .cell):∃ c,(aM n sc.names []).lookup x=some c:=by
 have q:=gY sc.names n [] (.inl h)
 exact gA.mp q
theorem aX7 {CX:CXT}{P:aJ}{w:World}{K:ae}{mg:Str->Option Value}{F:Heap}{N ps:List Str}{qual:Str}{scope:Scope}{f:Addr}{cd:Value}{A:aX}{outer:List Env}{s s1:ag}{H:Hp}{E:XK}{us:List Value}{vs:List V}
  (S:FnScope N ps scope) (hd:A.handled=none) (G:Env0 P w K mg F A outer s H) (hl:vs.length=ps.length) (r:Vals vs us)
  (x:gk s s.heap.objs.size (bindL (gz qual scope s.heap.objs.size f cd).kindOf (ps.zip us) λ _=>none) (aM (s.heap.objs.size+1) scope.names []) (bindC (gz qual scope s.heap.objs.size f cd).kindOf (ps.zip us) λ _=>none) s1) :
  Inv (bh9 CX P w K mg F N qual scope f cd A outer s H E) [] (ah6 N vs) H s1:=by
 have a1:ps.length<=N.length:=by have:=congrArg iK S.pre;rw[bF]at this;omega
 obtain⟨h1,tk,rfl,hk⟩:=x.done
 have J:∀ b:Addr,b ∉ (bh9 CX P w K mg F N qual scope f cd A outer s H E).ex:=λ b z=>absurd (show b∈([]:List Addr)from z) (by simp)
 refine⟨⟨G.mod,S.kind,rfl,rfl,ak _,λ y z c h1 C=>?_,λ y hy=>?_,λ y c _ h=>?_,λ _=>hd,iL G.frames,.inr ⟨rfl,rfl⟩,λ b z=>absurd z (J b),G.bs,G.bsz,λ b _ _=>J b,λ b z=>absurd z (J b),G.funs,G.frf⟩,
  rfl,G.bare,Un.kept hk,⟨_,x.toInCall.ns,λ i y v h1 C h3=>?_⟩,λ y c h=>⟨_,x.cell y c h⟩,G.hok.fresh (ak _),λ y c h=>?_,λ p Z=>absurd (show p∈([]:List (Addr×Obj))from Z) (by simp),G.hok.kept hk,?_⟩
 ·exact gZ x.apart (aA h1) (aA C)
 ·have hy:scope.names.lookup y=some .cell\/scope.names.lookup y=some .free:=hy
  rcases hy with hy|hy
  ·exact zN hy
  ·exact absurd rfl (S.nofree _ (aA hy))
 ·exact d7 (x.above y c (aA h))
 ·have hi:i<vs.length:=by
   unfold ah6 at C
   by_cases hi:i<vs.length
   ·exact hi
   ·rw[be (by simpa using hi)]at C
    rw[gJ]at C
    split at C<;>cases C
  have ha:vs[i]?=some v:=by
   unfold ah6 at C
   rw[aN (by simpa using hi),aE]at C
   cases e:vs[i]? with
   | none=>rw[e]at C;cases C
   | some a=>rw[e]at C;cases C;rfl
  obtain⟨u,hu,rv⟩:=r.get ha
  have Z:ps[i]?=some y:=by
   rw[<-S.pre,List.getElem?_take_of_lt (by omega)];exact h1
  have Y:ps.Nodup:=by rw[<-S.pre];exact S.nd.sublist (List.take_sublist _ _)
  refine⟨u,rv,?_⟩
  rcases S.par y (aK Z)with k|k
  ·exact .inl ⟨k,al9 Y Z hu k⟩
  ·obtain⟨c,e⟩:=zN (n:=s.heap.objs.size+1) k
   refine .inr ⟨.inl k,c,e,?_⟩
   have q:=x.cell y c e
   rw[am9 Y Z hu (by show scope.names.lookup y≠_;rw[k];decide)]at q
   exact q
 ·exact G.hok.fresh (d7 (x.above y c (aA h)))
 ·unfold ah6
  show _=N.length
  rw[aC,au,List.length_replicate]
  omega
theorem bL9 {Z:CXT}{P:aJ}{w:World}{K:ae}{mg:Str->Option Value}{base:Heap}{k:Nat}{f:Addr}{name qual:Str}{params:bp}{body:List Stmt}{scope:Scope}{dV kV F pm h ct oc:Value}{an od:Option Addr}
  {a2:Array (Option Value)} {N ps:List Str} {sp:Sp} (lk:K.lookup f=some ⟨oc,od,.func (dB name qual params body scope dV kV F pm an h ct),a2⟩) (a3:fZ K h qual=true) (S:FnScope N ps scope)
  (len:∀ vs H Q E,sp vs H Q E->vs.length=ps.length)
  (z:∀(A:aX) (outer:List Env) (s:ag) (H:Hp) (vs:List V) (Q:VK) (E:XK),Room k (A.deeper (gz qual scope s.heap.objs.size f h))->sp vs H Q E ->
   ∃ t,PSs (bh9 Z P w K mg base N qual scope f h A outer s H E) body t/\t { nx:=λ _ H'=>Q .non H',rt:=Q } (ah6 N vs) H) :
  FnOk P w K mg base Z (k+1) f (dB name qual params body scope dV kV F pm an h ct) ps sp:=by
 refine⟨len,λ A outer s H args us vs Q E hr Y hb r G=>?_⟩
 have hl:=len _ _ _ _ G
 have KX:K.In s.heap:=Y.mod.kin.keeps λ b o e=>(Y.bs b o e).1
 have a1:s.heap.NoLimit:=Y.mod.nolimit.keeps λ b o e=>(Y.bs b o e).1
 have C:∀ y∈ps.zip us,scope.names.lookup y.1=some .local\/(scope.names.lookup y.1=some .cell/\((aM (s.heap.objs.size+1) scope.names []).lookup y.1).isSome=true):=λ⟨n,v⟩ hy=>by
  rcases S.par n (eD hy).1 with q|q
  ·exact .inl q
  ·exact .inr ⟨q,gY _ _ _ (.inl q)⟩
 refine iA hr.depth (KX _ _ lk) rfl S.co S.gen rfl (PySem.W.codeRec_of KX a3) (hb _ _ _ _ ?_)
 refine wpAny_newFunctionEnv_cells S.kind C λ env he s1 x=>?_
 subst he
 refine⟨a1.keeps x.toInCall.keep,codeAny_func ?_⟩
 obtain⟨t,ht,hq⟩:=z A outer s H vs Q E (hr.deeper _) G
 have I:Inv (bh9 Z P w K mg base N qual scope f h A outer s H E) [] (ah6 N vs) H s1:=aX7 S hr.hd Y hl r x
 refine cI (ht [] s1 (ah6 N vs) H _ I hq) (λ fl s' hs=>?_) λ e s' hs=>hs
 have fin:∀ {σ':St} {H':Hp} {v:V} {u:Value},Inv (bh9 Z P w K mg base N qual scope f h A outer s H E) [] σ' H' s'->RelV v u->Q v H'->CE outer P w H s Q u s' :=
  λ {σ' H' v u} J rv q=>⟨v,H',J.os,J.bare,J.base,J.hok,rv,q⟩
 cases fl with
 | ret u =>
  obtain⟨v,σ',H',J,rv,q⟩:=hs
  exact fin J rv q
 | next =>
  obtain⟨σ',H',J,q⟩:=hs
  exact fin (v:=V.non) (u:=Value.none) J rfl q
 | brk =>
  obtain⟨_,_,_,q⟩:=hs
  exact bE q
 | cont =>
  obtain⟨_,_,_,q⟩:=hs
  exact bE q
section
variable {X:Cx} {x:Str} {p pos:Pos} {e:Expr} {es:List Expr} {t:TA} {id T:String} {r:List V->Hp->VK->Prop}
def tCB (r:List V->Hp->VK->Prop)(t:TA):TE:=λ σ H Q=>t σ H λ vs H1=>r vs H1 Q
theorem at1 (hc:ac2 X (.builtin id) r)(hg:Gl X x)(Y:X.mg x=none)(hv:bq x=some (.builtin id))(ha:PA X (e::es) t)(hn:x ≠ "__name__":=by decide)(C:(x==("__debug__":Str))=false:=by decide)
  (F:bn (e::es) X.env=(false,eval e X.env)::bn es X.env:=by rfl) (z:(dS pos (bn es X.env)).any (·.1)=false:=by rfl):PE X (.Call (.Name x p) (e::es) [] pos) (tCB r t):=by
 intro y s σ H Q I h
 refine cc (ap3 I hg Y hv ?_ hn C)
 exact PyProof.Rows.callWith_builtin1 (thn (ha pos y s σ H _ I h) λ us s1 ⟨vs,G,J,r1,Z⟩=>hc y s1 σ G vs us Q J r1 Z) F z
theorem am4 (hc:ac2 X (.type T) r)(hg:Gl X x)(Y:X.mg x=none)(hv:bq x=some (.type T))(ha:PA X (e::es) t)(hn:x ≠ "__name__":=by decide)(C:(x==("__debug__":Str))=false:=by decide)
  (F:bn (e::es) X.env=(false,eval e X.env)::bn es X.env:=by rfl) (z:(dS pos (bn es X.env)).any (·.1)=false:=by rfl):PE X (.Call (.Name x p) (e::es) [] pos) (tCB r t):=by
 intro y s σ H Q I h
 refine cc (ap3 I hg Y hv ?_ hn C)
 exact fQ (thn (ha pos y s σ H _ I h) λ us s1 ⟨vs,G,J,r1,Z⟩=>hc y s1 σ G vs us Q J r1 Z) F z
end
end L2
end
noncomputable section
namespace HT
open PySem PyProof.Rows
section
open PySem.SeqAt
open PySem.AutoSeq1 (wpAny_loadPart')
open PySem.MeetsSeq PySem.MeetsSeq2 PySem.MeetsSeq3
end
section
variable {prog:aJ} {w:World} {A:aX} {E:Value->ag->Prop} {s:ag}
theorem cat_tup {t b:Addr}{vs ws:List Value}{Q:Value->ag->Prop}(ht:IsTup s.heap t vs.toArray)(hb:IsTup s.heap b ws.toArray)(hv:vs≠[])
  (h1:ws=[]->Q (.ref t) s) (h2:ws≠[]->Q (.ref s.heap.objs.size) { s with heap:=s.heap.push { cls:=.type "tuple",data:=.seq (vs++ws).toArray } })
  (hsz:vs.length+ws.length<=aG):wpAny (model prog w) A (cw .Add (.ref t) (.ref b)) Q E s:=by
 obtain⟨⟨cls,Y,data,sl⟩,ho,hc,n,hd⟩:=id ht
 obtain⟨⟨Z,F,G,z⟩,h,y,J,C⟩:=id hb
 simp only at hc hd y C
 subst hc hd y C
 have e:vs.toArray++ws.toArray=(vs++ws).toArray:=by simp
 by_cases hw:ws=[]
 ·exact jH ⟨_,ho,rfl⟩ ⟨_,h,rfl⟩ gK ji eM eI (et _ _)
   (tuple_addW1 t b vs.toArray ws.toArray n J Y F sl z (by simpa using hv) (by simp[hw])) ⟨ho,h,h1 hw⟩
 ·refine jH ⟨_,ho,rfl⟩ ⟨_,h,rfl⟩ gK ji eM eI (et _ _)
   (tuple_addW2 t b vs.toArray ws.toArray n J Y F sl z (by simpa using hv) (by simpa using hw) (by rw[ar,ar];exact hsz)) ⟨ho,h,?_⟩
  rw[e]
  exact h2 hw
noncomputable def sIx (n d:Nat):Option Int->Nat
 | none=>d
 | some v=>if v<0 then(v+(n:Int)).toNat else min v.toNat n
theorem sIx_le (n d:Nat)(hd:d<=n)(o:Option Int):sIx n d o<=n:=by
 cases o with
 | none=>exact hd
 | some v =>
  show(if v<0 then(v+(n:Int)).toNat else min v.toNat n)<=n
  by_cases hv:v<0
  ·rw[if_pos hv];omega
  ·rw[if_neg hv];exact Nat.min_le_right _ _
theorem clip_eq (v:Int)(n d:Nat):(if v<0 then max (v+(n:Int)) 0 else min v (n:Int))=((sIx n d (some v):Nat):Int):=by
 show(if v<0 then max (v+(n:Int)) 0 else min v (n:Int))=(((if v<0 then(v+(n:Int)).toNat else min v.toNat n):Nat):Int)
 by_cases hv:v<0
 ·simp only[if_pos hv];omega
 ·simp only[if_neg hv];omega
theorem adjust_gen (y h:Option Int)(n:Nat):ee y h 1 (n:Int)=(((sIx n 0 y:Nat):Int),((sIx n n h:Nat):Int)):=by
 have z:¬((1:Int)<0):=by omega
 unfold ee
 simp only[z,if_false]
 refine Prod.ext ?_ ?_
 ·cases y with
  | none=>rfl
  | some v=>exact clip_eq v n 0
 ·cases h with
  | none=>rfl
  | some v=>exact clip_eq v n n
theorem places_gen (i j:Nat):cX (i:Int) (j:Int) 1=j - i:=by
 unfold cX
 have h:(1:Int) > 0:=by omega
 simp only[h,if_true,Int.ediv_one]
 split<;>omega
theorem slicePart_ {v:Value}{o:Option Int}{Q:Option Int->ag->Prop}(p:gB v o)(h:Q o s):wpAny (model prog w) A (kg v) Q E s:=by
 cases p with
 | none=>exact slicePart_none h
 | int i t=>exact slicePart_int h
theorem sliceApplied_gen {sl:Addr}{vl vu:Value}{y z:Option Int}{n:Nat}{Q:Int×Int×Nat->ag->Prop}(hs:s.heap.IsSliceOf sl vl vu .none)(G:gB vl y)(pu:gB vu z)
  (h:Q (((sIx n 0 y:Nat):Int),1,sIx n n z - sIx n 0 y) s):wpAny (model prog w) A (f6 (.ref sl) (pure (n:Int))) Q E s:=by
 obtain⟨os,C,J,F⟩:=id hs
 unfold f6 kJ
 refine ab (ab (cL C F (x:=vl) rfl (ab (cL C F (x:=vu) rfl (ab (cL C F (x:=.none) rfl (ao ?_)))))))
 refine ab (slicePart_none ?_)
 show wpAny _ _ (if((1:Int)==0)=true then _ else _) _ _ s
 rw[if_neg (by decide)]
 refine ab (slicePart_ G (ab (slicePart_ pu (ab (ao ?_)))))
 show wpAny _ _ (match ee y z 1 (n:Int)with|(y,z)=>pure (y,(1:Int),cX y z 1)) _ _ s
 rw[adjust_gen y z n]
 show wpAny _ _ (pure (((sIx n 0 y:Nat):Int),(1:Int),cX ((sIx n 0 y:Nat):Int) ((sIx n n z:Nat):Int) 1)) _ _ s
 rw[places_gen]
 exact ao h
theorem pick_gen (h:Array Value)(i k:Nat):((bB k).filterMap λ(m:Nat)=>h[((i:Int)+(m:Int)*1).toNat]?).toArray=((h.toList.drop i).take k).toArray:=by
 have e:(λ(m:Nat)=>h[((i:Int)+(m:Int)*1).toNat]?)=λ m=>h[i+m]?:=by
  funext m
  have:((i:Int)+(m:Int)*1).toNat=i+m:=by omega
  rw[this]
 rw[e]
 have:=pick_run h i k
 rw[bK]at this
 have e2:((λ x=>h[x]?) ∘ λ x=>i+x)=λ m=>h[i+m]?:=rfl
 rw[e2]at this
 rw[this]
theorem getItem_tuple_cut {t sl:Addr}{y:Array Value}{vl vu:Value}{C F:Option Int}{Q:Value->ag->Prop}(G:IsTup s.heap t y)(hs:s.heap.IsSliceOf sl vl vu .none)(pl:gB vl C)(pu:gB vu F)
  (hw:¬(sIx y.size 0 C=0/\sIx y.size y.size F=y.size))
  (h:Q (.ref s.heap.objs.size) { s with heap:=s.heap.push { cls:=.type "tuple",data:=.seq ((y.toList.drop (sIx y.size 0 C)).take (sIx y.size y.size F - sIx y.size 0 C)).toArray } })
  (hsz:y.size<=aG):wpAny (model prog w) A (g6 (.ref t) (.ref sl)) Q E s:=by
 have z:sizeOk (.seq ((y.toList.drop (sIx y.size 0 C)).take (sIx y.size y.size F - sIx y.size 0 C)).toArray):=by
  show((y.toList.drop (sIx y.size 0 C)).take (sIx y.size y.size F - sIx y.size 0 C)).toArray.size<=aG
  rw[ar,bF,fi,dm]
  omega
 have hj:sIx y.size y.size F<=y.size:=sIx_le _ _ (ak _) F
 obtain⟨os,Y,a1,a2⟩:=id hs
 have Z:s.TypeIs (.ref sl) "slice":=⟨os,Y,a1⟩
 unfold g6
 try with_reducible refine cz ?_
 first|refine ab (ao ?_)|skip
 refine ab (jI G.typeIs (by decide) ?_)
 refine ab (cf (name:=bL "__getitem__") G.typeIs bA
  (cg bA G.typeIs ja ?_ (ju _ _)))
 show wpAny _ _ (d5 (.ref t) >>= _) _ _ s
 refine ab (jj G ?_)
 refine ab (g8 Z ?_)
 rw[if_pos (by decide)]
 refine ab (sliceApplied_gen hs pl pu ?_)
 have J:¬((((sIx y.size 0 C:Nat):Int)==0&&(1:Int)==1&&(sIx y.size y.size F - sIx y.size 0 C)==y.size)=true):=by
  intro q
  rw[aj,aj]at q
  have q1:((sIx y.size 0 C:Nat):Int)=0:=eq_of_beq q.1.1
  have q2:sIx y.size y.size F - sIx y.size 0 C=y.size:=eq_of_beq q.2
  exact hw ⟨by omega,by omega⟩
 show wpAny _ _ (if(((sIx y.size 0 C:Nat):Int)==0&&(1:Int)==1&&(sIx y.size y.size F - sIx y.size 0 C)==y.size)=true then _ else _) _ _ s
 rw[if_neg J,pick_gen]
 first
  | exact ab (m:=dg _) (bf (ao ⟨_,rfl,ao h⟩) z)
  | exact ab (m:=dg _) (bf (ab (ao (ao ⟨_,rfl,ao h⟩))) z)
  | exact ab (ab (m:=dg _) (bf (ao (ao ⟨_,rfl,ao h⟩)) z))
  | exact ab (ab (m:=dg _) (bf (ao ⟨_,rfl,ao h⟩) z))
end
end HT
noncomputable section
namespace L2
open PySem PySem.Spec PyProof.Rows
abbrev TO:=St->Hp->(Option Int->Hp->Prop)->Prop
def PO (X:Cx)(e:Option Expr)(t:TO):Prop :=
 ∀(pins:List (Addr×Obj)) (s:ag) (σ:St) (H:Hp) (Q:Option Int->Hp->Prop),Inv X pins σ H s->t σ H Q ->
  wpAny (model X.prog X.w) X.A (evalPart e X.env) (λ u s'=>∃ o H',Inv X pins σ H' s'/\gB u o/\Q o H') X.xe s
noncomputable def aC9:TO:=λ _ H Q=>Q none H
noncomputable def aU2 (t:TE):TO:=λ σ H Q=>t σ H λ x H1=>∃ i,x=.int i/\Q (some i) H1
section
variable {X:Cx} {e:Expr} {te:TE} {lo hi:Option Expr} {tl th:TO} {pos p2:Pos}
theorem aU8:PO X none aC9:=by
 intro y s σ H Q I h
 rw[evalPart_none]
 exact ao ⟨none,H,I,.none,h⟩
theorem aU9 (h:PE X e te):PO X (some e) (aU2 te):=by
 intro y s σ H Q I hw
 rw[evalPart_some]
 refine thn (h y s σ H _ I hw) λ u s1 ⟨x,z,C,r1,F⟩=>?_
 obtain⟨i,rfl,q⟩:=F
 obtain⟨t,rfl⟩:=r1
 exact⟨some i,z,C,.int i t,q⟩
def SlR (X:Cx)(r:V->Option Int->Option Int->Hp->VK->Prop):Prop :=
 ∀(pins:List (Addr×Obj)) (s:ag) (σ:St) (H:Hp) (x:V) (v vl vu:Value) (lo hi:Option Int) (sl:Addr) (Q:VK),Inv X pins σ H s->RelV x v->s.heap.IsSliceOf sl vl vu .none->gB vl lo->gB vu hi->r x lo hi H Q ->
  ∃ T id,typeLookup (.type T) "__getitem__"=pure (some (.builtin id))/\s.TypeIs v T/\wpAny (model X.prog X.w) X.A (g6 v (.ref sl)) (EP X pins σ Q) X.xe s
def tSl (r:V->Option Int->Option Int->Hp->VK->Prop)(te:TE)(tl th:TO):TE:=λ σ H Q=>te σ H λ x H1=>tl σ H1 λ l H2=>th σ H2 λ u H3=>r x l u H3 Q
theorem aG6 {r:V->Option Int->Option Int->Hp->VK->Prop}(hr:SlR X r)(C:PE X e te)(hl:PO X lo tl)(hu:PO X hi th):PE X (.Subscript e (.Slice lo hi none p2) pos) (tSl r te tl th):=by
 intro y s σ H Q I h
 refine Subscript_ (thn (C y s σ H _ I h) λ v s1 ⟨x,Z,G,r1,q1⟩=>?_)
 refine wpAny_Slice (thn (hl y s1 σ Z _ G q1) λ vl s2 ⟨l,H2,I2,J,q2⟩=>thn (hu y s2 σ H2 _ I2 q2) λ vu s3 ⟨u,z,Y,pu,q3⟩=>?_)
 rw[evalPart_none]
 refine ao ?_
 have I4:Inv X y σ z { s3 with heap:=s3.heap.push { cls:=.type "slice",data:=.fields #[vl,vu,.none] } }:=Y.kept (t':=s3.toks) λ b ob q=>af _ q
 obtain⟨T,id,hT,F,hg⟩:=hr y { s3 with heap:=s3.heap.push { cls:=.type "slice",data:=.fields #[vl,vu,.none] } } σ z x v vl vu l u s3.heap.objs.size Q I4 r1 (lp ..) J pu q3
 show wpAny (model X.prog X.w) X.A (subscriptTail e (.Slice lo hi none p2) v (.ref s3.heap.objs.size)) (EP X y σ Q) X.xe { s3 with heap:=s3.heap.push { cls:=.type "slice",data:=.fields #[vl,vu,.none] } }
 exact kx (ops:=[.ref s3.heap.objs.size,v]) F hT hg (by with_unfolding_all rfl)
noncomputable def aM8 (xs:List V)(lo hi:Option Int):List V:=(xs.drop (HT.sIx xs.length 0 lo)).take (HT.sIx xs.length xs.length hi - HT.sIx xs.length 0 lo)
theorem am7 (h:List V)(z y:Option Int):(aM8 h z y).length<=h.length:=by
 unfold aM8
 rw[bF,fi]
 omega
def ca9 (K:ae):V->Option Int->Option Int->Hp->VK->Prop:=λ x lo hi H Q=>∃ a xs,x=.ref a/\SqT K H a xs /\
 ¬(HT.sIx xs.length 0 lo=0/\HT.sIx xs.length xs.length hi=xs.length)/\∀ p,H p=none->Q (.ref p) (upd H p (.tup (aM8 xs lo hi)))
theorem bJ3:SlR X (ca9 X.K):=by
 intro J s σ H x v vl vu C F sl Q I Z hs Y pu h
 obtain⟨a,z,rfl,hx,hw,q⟩:=h
 cases Z
 obtain⟨its,r,G,hz⟩:=I.tuple hx
 have y:its.toArray.size=z.length:=by rw[ar];exact r.length.symm
 refine⟨"tuple",_,bA.lookup,G.typeIs,?_⟩
 refine HT.getItem_tuple_cut G hs Y pu (by rw[y];exact hw) ?_ (by rw[y];exact hz)
 rw[y]
 refine⟨.ref s.heap.objs.size,_,I.laid (t':=s.toks) (o:=.tup (aM8 z C F)) (λ b ob q=>af _ q) (ak _) ?_,rfl,q _ (I.hok.fresh (ak _))⟩
 exact⟨am (am7 z C F) hz,_,(r.drop (HT.sIx z.length 0 C)).take (HT.sIx z.length z.length F - HT.sIx z.length 0 C),jV _ _⟩
def bW8 (K:ae):R2:=λ x y H Q=>∃ a b xs ys,x=.ref a/\y=.ref b/\SqT K H a xs/\SqT K H b ys/\xs≠[]/\xs.length+ys.length<=aG /\
 (ys=[]->Q (.ref a) H)/\(ys≠[]->∀ p,H p=none->Q (.ref p) (upd H p (.tup (xs++ys))))
theorem Vals.nil_iff {h:List V}{us:List Value}(r:Vals h us):us=[]↔h=[]:=by
 cases r with
 | nil=>simp
 | cons _ _=>simp
theorem by9:OpR X (cw .Add) (bW8 X.K):=by
 intro G s σ H x y v u Q I rx J h
 obtain⟨a,b,Y,ys,rfl,rfl,ha,hb,hx,hz,q1,q2⟩:=h
 cases rx
 cases J
 obtain⟨its,r1,p1,_⟩:=I.tuple ha
 obtain⟨F,C,Z,_⟩:=I.tuple hb
 refine HT.cat_tup p1 Z (λ z=>hx (r1.nil_iff.mp z)) (λ z=>⟨.ref a,H,I,rfl,q1 (C.nil_iff.mp z)⟩) (λ z=>?_) (by rw[<-r1.length,<-C.length];exact hz)
 refine⟨.ref s.heap.objs.size,_,I.laid (t':=s.toks) (o:=.tup (Y++ys)) (λ b ob q=>af _ q) (ak _) ?_,rfl,q2 (λ w=>z (C.nil_iff.mpr w)) _ (I.hok.fresh (ak _))⟩
 exact⟨by rw[aC];exact hz,_,r1.append C,jV _ _⟩
end
noncomputable def ixN (n:Nat)(i:Int):Option Nat:=if 0<=i then(if i<n then some i.toNat else none)else if -(n:Int)<=i then some (i+n).toNat else none
noncomputable def atI {α:Type}(xs:List α)(i:Int):Option α:=(ixN xs.length i).bind λ j=>xs[j]?
theorem aY3 {n:Nat}{i:Int}{j:Nat}(h:ixN n i=some j):seqIndex? i n=some j/\j<n/\-(n:Int)<=i/\i<n:=by
 unfold ixN at h
 by_cases h0:0<=i
 ·rw[if_pos h0]at h
  by_cases h1:i<n
  ·rw[if_pos h1]at h
   have e:i.toNat=j:=ay h
   exact⟨by rw[ka h0 h1,e],by omega,by omega,h1⟩
  ·rw[if_neg h1]at h;cases h
 ·rw[if_neg h0]at h
  by_cases h1:-(n:Int)<=i
  ·rw[if_pos h1]at h
   have e:(i+n).toNat=j:=ay h
   exact⟨by rw[jJ (by omega) h1,e],by omega,h1,by omega⟩
  ·rw[if_neg h1]at h;cases h
theorem aE3 {α:Type}{y:List α}{i:Int}{v:α}(h:atI y i=some v):∃ j,seqIndex? i y.length=some j/\y[j]?=some v/\j<y.length/\-(y.length:Int)<=i/\i<y.length:=by
 unfold atI at h
 cases e:ixN y.length i with
 | none=>rw[e]at h;cases h
 | some j =>
  rw[e]at h
  obtain⟨G,z,C,F⟩:=aY3 e
  exact⟨j,G,h,z,C,F⟩
def aR5 (b:Expr):Prop:=∀ o i,subscripted b false o i=operate [o,i] (g6 o i)
def IxR (X:Cx)(r:R2):Prop :=
 ∀(value slice:Expr) (pins:List (Addr×Obj)) (s:ag) (σ:St) (H:Hp) (x y:V) (v u:Value) (Q:VK),Inv X pins σ H s->RelV x v->RelV y u->r x y H Q ->
  subscripted slice false v u=operate [v,u] (g6 v u)->wpAny (model X.prog X.w) X.A (subscriptTail value slice v u) (EP X pins σ Q) X.xe s
def MtR (X:Cx)(id:String)(r:V->List V->Hp->VK->Prop):Prop :=
 ∀(pins:List (Addr×Obj)) (s:ag) (σ:St) (H:Hp) (x:V) (xs:List V) (v:Value) (us:List Value) (Q:VK),Inv X pins σ H s->RelV x v->Vals xs us->r x xs H Q ->
  wpAny (model X.prog X.w) X.A (call (.builtin id) (v::us)) (EP X pins σ Q) X.xe s
section
variable {X:Cx} {a b:Expr} {ta tb:TE} {pos:Pos}
theorem bU6 {r:R2}(hr:IxR X r)(ha:PE X a ta)(hb:PE X b tb)(hs:aR5 b):PE X (.Subscript a b pos) (tOp r ta tb):=by
 intro z s σ H Q I h
 exact Subscript_ (bW9 ha hb I h λ v u s2 x y H2 I2 F C q=>hr a b z s2 σ H2 x y v u Q I2 F C q (hs _ _))
def bY9 (K:ae):R2:=λ x y H Q=>∃ p xs i v,x=.ref p/\y=.int i/\SqL K H p xs/\atI xs i=some v/\Q v H
def bZ8 (K:ae):R2:=λ x y H Q=>∃ p xs i v,x=.ref p/\y=.int i/\SqT K H p xs/\atI xs i=some v/\Q v H
def cb2:R2:=λ x y H Q=>∃ z i c,x=.str z/\y=.int i/\z.length<=aG/\atI z.cps.toList i=some c/\Q (.str ⟨#[c]⟩) H
theorem bs6:IxR X (bY9 X.K):=by
 intro G Z C s σ H x y v u Q I rx ry h hs
 obtain⟨p,xs,i,z,rfl,rfl,hq,he,q⟩:=h
 cases rx
 obtain⟨t,rfl⟩:=ry
 obtain⟨its,r,J,hz⟩:=I.list hq
 obtain⟨j,F,h2,h3,h4,h5⟩:=aE3 he
 obtain⟨w,ew,Y⟩:=r.get h2
 have hl:=r.length
 have hn:=am1
 have fin:EP X C σ Q w s:=⟨z,H,I,Y,q⟩
 by_cases h0:0<=i
 ·have hj:i.toNat=j:=by
   rw[ka h0 h5]at F
   exact ay F
  exact item_listR J.isList h0 (by omega) (by rw[hj];simpa using ew) fin hs
 ·have hj:(i+(its.toArray.size:Int)).toNat=j:=by
   rw[jJ (by omega) h4]at F
   rw[ar,<-hl]
   exact ay F
  exact g9 (x:=w) J.isList.typeIs jK.lookup
   (wpAny_getItem_list_neg (Q:=λ r s'=>r=w/\EP X C σ Q r s') J.isList (by omega) (by rw[ar]<;>omega) (by omega) (by rw[hj];simpa using ew) ⟨rfl,fin⟩) hs
theorem ix_tup:IxR X (bZ8 X.K):=by
 intro F J C s σ H x y v u Q I rx ry h hs
 obtain⟨p,xs,i,z,rfl,rfl,hq,Z,q⟩:=h
 cases rx
 obtain⟨t,rfl⟩:=ry
 obtain⟨its,r,Y,hz⟩:=I.tuple hq
 obtain⟨j,h1,h2,h3,h4,h5⟩:=aE3 Z
 obtain⟨w,ew,G⟩:=r.get h2
 have hl:=r.length
 have hn:=am1
 have fin:EP X C σ Q w s:=⟨z,H,I,G,q⟩
 exact g9 (x:=w) Y.typeIs bA.lookup
  (getItem_tuple (j:=j) (Q:=λ r s'=>r=w/\EP X C σ Q r s') Y (by omega) (by omega) (by rw[ar,<-hl];exact h1) (by simpa using ew) ⟨rfl,fin⟩) hs
theorem bJ7:IxR X cb2:=by
 intro C F J s σ H x y v u Q I rx ry h hs
 obtain⟨z,i,c,rfl,rfl,hz,Y,q⟩:=h
 obtain⟨t,rfl⟩:=rx
 obtain⟨t',rfl⟩:=ry
 obtain⟨j,G,Z,h3,h4,h5⟩:=aE3 Y
 have hl:z.cps.toList.length=z.length:=by simp[Str.length]
 rw[hl]at G h4 h5
 have hn:=am1
 exact kx (kz s z t) slot_str_getitem.lookup (getItem_str (c:=c) (by
  have e1:decide (i < -(2^63:Int))=false:=decide_eq_false (by omega)
  have e2:decide (i ≥ 2^63)=false:=decide_eq_false (by omega)
  rw[e1,e2,Bool.or_false]) (by rw[G];simpa using Z) ⟨.str ⟨#[c]⟩,H,I.tok _,⟨_,rfl⟩,q⟩) hs
theorem aN9 (its:List Value)(n j:Nat)(u:Value):hG (·.setIfInBounds j u) { cls:=.type "list",data:=.seq its.toArray n }={ cls:=.type "list",data:=.seq (its.set j u).toArray n }:=by
 simp[hG]
theorem Inv.lst {y:List (Addr×Obj)}{σ:St}{H:Hp}{s:ag}{p:Addr}{C:List V}(I:Inv X y σ H s)(h:H p=some (.lst C)) :
  ∃(its:List Value) (n:Nat),Vals C its/\s.heap.get? p=some { cls:=.type "list",data:=.seq its.toArray n }/\C.length<=aG:=by
 obtain⟨z,its,n,r,e⟩:=I.hok p _ h
 exact⟨its,n,r,e,z⟩
theorem Inv.lstUpd {y:List (Addr×Obj)}{σ:St}{H:Hp}{s:ag}{p:Addr}{F ys:List V}{its its':List Value}{n z:Nat}{f:Obj->Obj}(I:Inv X y σ H s)(h:H p=some (.lst F))
  (ho:s.heap.get? p=some { cls:=.type "list",data:=.seq its.toArray n }) (C:f { cls:=.type "list",data:=.seq its.toArray n }={ cls:=.type "list",data:=.seq its'.toArray z }) (r:Vals ys its') (hz:ys.length<=aG) (t:Nat) :
  Inv X y σ (upd H p (.lst ys)) { s with heap:=s.heap.update p f,toks:=t }:=by
 have e:(s.heap.update p f).get? p=some { cls:=.type "list",data:=.seq its'.toArray z }:=by
  rw[cx f ho (by rw[C]<;>rfl),C]
 refine I.write (x:=p) (e:=p) (by rw[h];trivial) (.inl rfl) (λ b u hb q=>(bh _ _ (bJ hb)).trans q) ⟨_,e⟩ ?_
 exact⟨hz,its',z,r,e⟩
def bT7:V->V->V->Hp->(Hp->Prop)->Prop:=λ o i v H Q=>∃ p xs k j,o=.ref p/\i=.int k/\H p=some (.lst xs)/\ixN xs.length k=some j/\Q (upd H p (.lst (xs.set j v)))
theorem bf2:bS7 X bT7:=by
 intro y s σ H o i v ov iv u Q I ro Z Y h
 obtain⟨p,xs,k,j,rfl,rfl,J,hj,q⟩:=h
 cases ro
 obtain⟨t,rfl⟩:=Z
 obtain⟨its,n,r,ho,hz⟩:=I.lst J
 obtain⟨z,h2,F,G⟩:=aY3 hj
 have hl:=r.length
 have hn:=am1
 have C:Inv X y σ (upd H p (.lst (xs.set j v))) { s with heap:=s.heap.update p (hG (·.setIfInBounds j u)) } :=
  I.lstUpd J ho (aN9 its n j u) (r.set Y j) (by rw[a0];exact hz) s.toks
 by_cases h0:0<=k
 ·have hk:k.toNat=j:=by
   rw[ka h0 G]at z
   exact ay z
  exact PySem.W.ki_setAt ho h0 (by omega) (by rw[ar,<-hl];exact G) (by rw[hk];exact⟨_,C,q⟩)
 ·have hk:(k+(its.toArray.size:Int)).toNat=j:=by
   rw[jJ (by omega) F]at z
   rw[ar,<-hl]
   exact ay z
  exact PySem.W.ki_setBack ho (by omega) (by rw[ar,<-hl];exact F) (by omega) (by rw[hk];exact⟨_,C,q⟩)
theorem az9 (z y:Option Int)(n:Nat):(eJ z y none n).1=((HT.sIx n 0 z:Nat):Int)/\(eJ z y none n).2.1=((HT.sIx n n y:Nat):Int)/\(eJ z y none n).2.2=1:=by
 refine⟨?_,?_,rfl⟩
 ·cases z with
  | none=>simp[eJ,HT.sIx]
  | some i =>
   simp only[eJ,HT.sIx,jW,show(1:Int) > 0 by decide,if_true]
   by_cases h:i<0
   ·simp only[h,if_true]<;>omega
   ·simp only[h,if_false]<;>omega
 ·cases y with
  | none=>simp[eJ,HT.sIx]
  | some i =>
   simp only[eJ,HT.sIx,jW,show(1:Int) > 0 by decide,if_true]
   by_cases h:i<0
   ·simp only[h,if_true]<;>omega
   ·simp only[h,if_false]<;>omega
theorem au7 (its:List Value)(h y:Option Int):slicePick its.toArray h y none=((its.drop (HT.sIx its.length 0 h)).take (HT.sIx its.length its.length y - HT.sIx its.length 0 h)).toArray:=by
 obtain⟨F,z,C⟩:=az9 h y its.toArray.size
 unfold slicePick
 rw[F,z,C]
 simp only[sliceRange_one,pick_run,ar]<;>rfl
def bY7 (K:ae):V->Option Int->Option Int->Hp->VK->Prop:=λ x lo hi H Q=>∃ a xs,x=.ref a/\SqL K H a xs/\∀ p,H p=none->Q (.ref p) (upd H p (.lst (aM8 xs lo hi)))
theorem bq0:SlR X (bY7 X.K):=by
 intro J s σ H x v vl vu C F sl Q I Z hs Y pu h
 obtain⟨a,y,rfl,hx,q⟩:=h
 cases Z
 obtain⟨its,r,G,hz⟩:=I.list hx
 have z:=r.length
 refine⟨"list",_,jK.lookup,G.isList.typeIs,?_⟩
 refine wpAny_getItem_list_slice G.isList hs Y pu .none (by simp) ?_ (by rw[ar]<;>omega)
 rw[au7,<-z]
 refine⟨.ref s.heap.objs.size,_,I.laid (t':=s.toks) (o:=.lst (aM8 y C F)) (λ b ob q=>af _ q) (ak _) ?_,rfl,q _ (I.hok.fresh (ak _))⟩
 exact⟨am (am7 y C F) hz,_,0,(r.drop (HT.sIx y.length 0 C)).take (HT.sIx y.length y.length F - HT.sIx y.length 0 C),az _ rfl⟩
theorem aA5:ac2 X (.builtin "len") (λ G H Q=>∃ p ys,G=[.ref p]/\(SqL X.K H p ys\/SqT X.K H p ys)/\Q (.int ys.length) H):=by
 intro F s σ H G us Q I r h
 obtain⟨p,ys,rfl,hq,q⟩:=h
 obtain⟨u,rfl,J⟩:=ag6 r
 cases J
 have hn:=am1
 rcases hq with hq|hq
 ·obtain⟨its,z,C,hz⟩:=I.list hq
  have y:=z.length
  exact Calls.call_len_list C.isList (by simp only[ar]<;>omega) ⟨.int ys.length,H,I.tok _,⟨s.toks+1,by rw[ar,y]⟩,q⟩
 ·obtain⟨its,z,C,hz⟩:=I.tuple hq
  have y:=z.length
  exact len_tuple C (by simp only[ar]<;>omega) ⟨.int ys.length,H,I.tok _,⟨s.toks+1,by rw[ar,y]⟩,q⟩
theorem aw6:ac2 X (.builtin "len") (λ y H Q=>∃ z,y=[.str z]/\z.length<=aG/\Q (.int z.length) H):=by
 intro C s σ H y us Q I r h
 obtain⟨z,rfl,hz,q⟩:=h
 obtain⟨u,rfl,t,rfl⟩:=ag6 r
 have hn:=am1
 exact len_str (by omega) ⟨.int z.length,H,I.tok _,⟨_,rfl⟩,q⟩
theorem ac2.or {f:Value}{r F:List V->Hp->VK->Prop}(h:ac2 X f r)(h':ac2 X f F):ac2 X f (λ z H Q=>r z H Q\/F z H Q):=by
 intro y s σ H z us Q I C q
 rcases q with q|q
 ·exact h y s σ H z us Q I C q
 ·exact h' y s σ H z us Q I C q
theorem ay2:ac2 X (.type "list") (λ J H Q=>∃ p ys,J=[.ref p]/\(SqL X.K H p ys\/SqT X.K H p ys)/\∀ l,H l=none->Q (.ref l) (upd H l (.lst ys))):=by
 intro F s σ H J us Q I r h
 obtain⟨p,ys,rfl,hq,q⟩:=h
 obtain⟨u,rfl,Z⟩:=ag6 r
 cases Z
 have fin:∀(its:List Value),Vals ys its->ys.length<=aG->∀(h':Heap) (z:Nat),(∀ b Y,s.heap.get? b=some Y->h'.get? b=some Y) ->
   h'.get? s.heap.objs.size=some { cls:=.type "list",dict:=none,data:=.seq its.toArray z,slots:=#[] }->EP X F σ Q (.ref s.heap.objs.size) { s with heap:=h' }:=λ its y hz h' z kp e =>
  ⟨.ref s.heap.objs.size,_,I.laid (t':=s.toks) kp (ak _) (show ab6 X.prog X.w _ h' _ (.lst ys)from⟨hz,its,z,y,e⟩),rfl,q _ (I.hok.fresh (ak _))⟩
 rcases hq with hq|hq
 ·obtain⟨its,y,G,hz⟩:=I.list hq
  have C:=y.length
  obtain⟨o,ho,hc,n,hd⟩:=G.isList
  exact call_list_seq p (.inl rfl) ho hc hd (λ h' z kp e=>fin its y hz h' z kp e) (by simp only[ar]<;>omega)
 ·obtain⟨its,y,G,hz⟩:=I.tuple hq
  have C:=y.length
  obtain⟨o,ho,hc,n,hd⟩:=G
  exact call_list_seq p (.inr rfl) ho hc hd (λ h' z kp e=>fin its y hz h' z kp e) (by simp only[ar]<;>omega)
theorem au0:ac2 X (.type "tuple") (λ G H Q=>∃ p ys,G=[.ref p]/\((SqL X.K H p ys/\∀ l,H l=none->Q (.ref l) (upd H l (.tup ys)))\/(SqT X.K H p ys/\Q (.ref p) H))):=by
 intro y s σ H G us Q I r h
 obtain⟨p,ys,rfl,h⟩:=h
 obtain⟨u,rfl,Y⟩:=ag6 r
 cases Y
 rcases h with⟨hq,q⟩|⟨hq,q⟩
 ·obtain⟨its,z,C,hz⟩:=I.list hq
  have J:=z.length
  refine call_tuple_list C.isList (λ h' kp=>?_) (by simp only[ar]<;>omega)
  have F:Inv X y σ H { s with heap:=h' }:=I.kept (t':=s.toks) kp
  have I2:Inv X y σ (upd H h'.objs.size (.tup ys)) { s with heap:=h'.push { cls:=.type "tuple",data:=.seq its.toArray } } :=
   F.laid (t':=s.toks) (λ b o e=>af _ e) (ak _) (show ab6 X.prog X.w _ _ _ (.tup ys)from⟨hz,its,z,jV _ _⟩)
  exact⟨.ref h'.objs.size,_,I2,rfl,q _ (F.hok.fresh (ak _))⟩
 ·obtain⟨its,z,C,hz⟩:=I.tuple hq
  exact call_tuple_same C ⟨.ref p,H,I,rfl,q⟩
def tyV (K:ae)(T:String)(x:V)(H:Hp):Prop:=match x with
 | .str _=>T = "str"
 | .int _=>T = "int"
 | .ref p=>(T = "list"/\∃ xs,SqL K H p xs)\/(T = "tuple"/\∃ o,K.lookup p=some o/\o.cls=.type "tuple"/\o.dict=none) \/
   (T = "dict"/\((∃ kvs,H p=some (.dK kvs))\/∃ kvs,H p=some (.dT kvs)))\/(T = "set"/\∃ S n,H p=some (.set S n))
 | _=>False
theorem bm3 {h:List (Addr×Obj)}{σ:St}{H:Hp}{s:ag}{T:String}{x:V}{v:Value}(I:Inv X h σ H s)(r:RelV x v)(y:tyV X.K T x H) :
  s.TypeIs v T/\∀ a,v=.ref a->∃ ob,s.heap.get? a=some ob/\ob.dict=none:=by
 cases x with
 | str z =>
  obtain⟨t,rfl⟩:=r
  cases(show T = "str" from y)
  exact⟨kz s z t,λ _ e=>nomatch e⟩
 | int i =>
  obtain⟨t,rfl⟩:=r
  cases(show T = "int" from y)
  exact⟨hJ s i t,λ _ e=>nomatch e⟩
 | ref p =>
  cases r
  rcases y with⟨rfl,G,hq⟩|⟨rfl,o,hk,hc,hd⟩|⟨rfl,hk⟩|⟨rfl,S,n,hk⟩
  ·obtain⟨its,_,F,_⟩:=I.list hq
   refine⟨F.isList.typeIs,λ a e=>?_⟩
   cases e
   obtain⟨o,n,e,c,hd,_⟩:=F
   exact⟨o,e,hd⟩
  ·refine⟨⟨o,I.kIn p o hk,hc⟩,λ a e=>?_⟩
   cases e
   exact⟨o,I.kIn _ o hk,hd⟩
  ·have z:∃ o,s.heap.get? p=some o/\o.ExactDict:=by
    rcases hk with⟨C,hk⟩|⟨C,hk⟩
    ·obtain⟨_,_,_,_,o,_,_,e,ex,_⟩:=I.hok p _ hk
     exact⟨o,e,ex⟩
    ·obtain⟨_,_,_,_,o,_,_,e,ex,_⟩:=I.hok p _ hk
     exact⟨o,e,ex⟩
   obtain⟨o,e,ex⟩:=z
   refine⟨⟨o,e,ex.1⟩,λ a e2=>?_⟩
   cases e2
   exact⟨o,e,ex.2.1⟩
  ·obtain⟨o,_,_,_,e,ex,_⟩:=I.hok p _ hk
   refine⟨⟨o,e,ex.1⟩,λ a e2=>?_⟩
   cases e2
   exact⟨o,e,ex.2.1⟩
 | _=>exact bE y
def bT2 (K:ae)(T:String)(r:V->List V->Hp->VK->Prop)(to:TE):TE:=λ σ H Q=>to σ H λ x H1=>tyV K T x H1/\r x [] H1 Q
def tBM (K:ae)(T:String)(r:V->List V->Hp->VK->Prop)(to:TE)(t:TA):TE:=λ σ H Q=>to σ H λ x H1=>tyV K T x H1/\t σ H1 λ xs H2=>r x xs H2 Q
variable {o e:Expr} {es:List Expr} {to:TE} {t:TA} {name:Str} {apos cpos:Pos} {T id:String} {r:V->List V->Hp->VK->Prop}
theorem bk0 (J:kA T)(slot:Slot T name id)(F:typeOf (.builtin id)=pure (.type "method_descriptor"))(Z:MtR X id r)(ho:PE X o to)
  (z:dh o name X.env (eval o X.env)=eval o X.env:=by rfl) (C:(apos.endLine==cpos.line)=true:=by rfl):PE X (.Call (.Attribute o name apos) [] [] cpos) (bT2 X.K T r to):=by
 intro y s σ H Q I h
 refine wpAny_Call_method0_late z C (thn (ho y s σ H _ I h) λ v s1 ⟨x,H1,G,r1,ty,q1⟩=>?_)
 obtain⟨h1,Y⟩:=bm3 G r1 ty
 exact⟨T,id,J,slot,F,h1,Y,eN rfl (PySem.evalArgs_none (Z y s1 σ H1 x [] v [] Q G r1 .nil q1))⟩
theorem bX4 (pa:kA T)(slot:Slot T name id)(J:typeOf (.builtin id)=pure (.type "method_descriptor"))(hm:MtR X id r)(ho:PE X o to)(ha:PA X (e::es) t)
  (C:dh o name X.env (eval o X.env)=eval o X.env:=by rfl)
  (G:((dS cpos (bn (e::es) X.env)).all (λ x=>!x.1)&&(kB cpos (iM [] X.env)).all (λ x=>x.1.isSome)
   && decide ((e::es).length+([]:List gj).length+(if([]:List gj).isEmpty then 0 else 1)<30))=true:=by rfl)
  (F:(apos.endLine==cpos.line)=true:=by rfl) (hs:bn (e::es) X.env=(false,eval e X.env)::bn es X.env:=by rfl) (z:(dS cpos (bn es X.env)).any (·.1)=false:=by rfl) :
  PE X (.Call (.Attribute o name apos) (e::es) [] cpos) (tBM X.K T r to t):=by
 intro y s σ H Q I h
 refine wpAny_Call_method_late C G F rfl (thn (ho y s σ H _ I h) λ v s1 ⟨x,H1,Y,r1,ty,q1⟩=>?_)
 obtain⟨h1,h2⟩:=bm3 Y r1 ty
 refine⟨T,id,pa,slot,J,h1,h2,?_⟩
 have Z:=ha cpos y s1 σ H1 _ Y q1
 rw[hs]at Z ⊢
 refine eN (by show(false||(dS cpos (bn es X.env)).any (·.1))=false;rw[z]<;>rfl) (iO ?_)
 exact thn Z λ us s2 ⟨vs,H2,I2,r2,q2⟩=>hm y s2 σ H2 x vs v us Q I2 r1 r2 q2
end
def MtM (X:Cx)(id:String)(r:V->List V->Hp->VK->Prop):Prop :=
 ∀(pins:List (Addr×Obj)) (s:ag) (σ:St) (H:Hp) (x:V) (xs:List V) (v:Value) (us:List Value) (Q:VK),Inv X pins σ H s->RelV x v->Vals xs us->r x xs H Q ->
  wpAny (model X.prog X.w) X.A (call (.builtin id) (v::us)) (EP X pins σ Q) X.xe s
theorem Vals.one:∀ {x:V} {us:List Value},Vals [x] us->∃ u,us=[u]/\RelV x u
 | _,_,.cons r .nil=>⟨_,rfl,r⟩
theorem Vals.zero:∀ {us:List Value},Vals [] us->us=[]
 | _,.nil=>rfl
theorem Vals.dropLast {y:List V}{us:List Value}(h:Vals y us):Vals y.dropLast us.dropLast:=by
 induction h with
 | nil=>exact .nil
 | cons r t ih =>
  cases t with
  | nil=>exact .nil
  | cons q t'=>exact .cons r ih
theorem Vals.reverse {y:List V}{us:List Value}(h:Vals y us):Vals y.reverse us.reverse:=by
 induction h with
 | nil=>exact .nil
 | cons r t ih=>rw[eO,eO];exact Vals.append ih (.cons r .nil)
theorem Vals.rep {y:List V}{us:List Value}(h:Vals y us):∀ k:Nat,Vals (aI k y).flatten (aI k us).flatten
 | 0=>.nil
 | k+1=>by
  rw[bP,bP,dX,dX]
  exact Vals.append h (Vals.rep h k)
theorem aB7 (its:List Value):∀(k:Nat) (h:List Value),
  kC (λ x1 y=>x1++y) h.toArray (aI k its.toArray)=(h++(aI k its).flatten).toArray
 | 0,h=>by simp
 | k+1,h=>by
  have e:h.toArray++its.toArray=(h++its).toArray:=by simp
  have e2:(h++its)++(aI k its).flatten=h++(aI (k+1) its).flatten:=by
   rw[bP,dX,cq]
  rw[<-e2,<-aB7 its k (h++its),<-e,bP,cJ]
section
variable {X:Cx} {pins:List (Addr×Obj)} {σ:St} {H:Hp} {s:ag} {l b:Addr} {xs ys zs:List V}
theorem Inv.lset {its its':List Value}{n:Nat}{f:Array Value->Array Value}{t':Nat}(I:Inv X pins σ H s)(y:H l=some (.lst xs))
  (e:s.heap.get? l=some { cls:=.type "list",data:=.seq its.toArray n }) (h:f its.toArray=its'.toArray) (hv:Vals ys its') (hz:ys.length<=aG) :
  Inv X pins σ (upd H l (.lst ys)) { s with heap:=s.heap.update l (hG f),toks:=t' }:=by
 have q:=PySem.IsL.update e f
 rw[h]at q
 refine I.write (x:=l) (e:=l) (by rw[y];exact trivial) (.inl rfl) (λ C u hb z=>(bh s.heap (hG f) (bJ hb)).trans z) ⟨_,q⟩ ?_
 exact⟨hz,its',_,hv,q⟩
theorem Inv.lnew {its:List Value}{t':Nat}(I:Inv X pins σ H s)(hv:Vals ys its)(hz:ys.length<=aG) :
  Inv X pins σ (upd H s.heap.objs.size (.lst ys)) { s with heap:=s.heap.push { cls:=.type "list",data:=.seq its.toArray },toks:=t' } :=
 I.laid (λ _ _ q=>af _ q) (ak _) ⟨hz,its,0,hv,az _ rfl⟩
theorem Inv.fresh (I:Inv X pins σ H s):H s.heap.objs.size=none:=I.hok.fresh (ak _)
theorem Inv.lstM (I:Inv X pins σ H s)(h:H l=some (.lst xs)):xs.length<=aG/\∃(its:List Value) (n:Nat),Vals xs its/\xs.length=its.length/\s.heap.get? l=some { cls:=.type "list",data:=.seq its.toArray n }:=by
 obtain⟨z,its,n,r,e⟩:=I.hok l _ h
 exact⟨z,its,n,r,r.length,e⟩
theorem aL6 {n:Nat}(h:n<=aG):di n=false:=by
 unfold di
 exact decide_eq_false (by omega)
end
section
variable {X:Cx}
def bw2:V->List V->Hp->VK->Prop:=λ x vs H Q=>∃ l xs y,x=.ref l/\vs=[y]/\H l=some (.lst xs)/\xs.length<aG/\Q .non (upd H l (.lst (xs++[y])))
theorem ax5:MtM X "list.append" bw2:=by
 intro G s σ H x vs v us Q I Z J h
 obtain⟨l,xs,y,rfl,rfl,C,hz,q⟩:=h
 cases Z
 obtain⟨u,rfl,Y⟩:=J.one
 obtain⟨z,its,n,r,hl,e⟩:=I.lstM C
 refine hU iB ⟨_,e,rfl⟩ F.entry_list_append (F.args_list_append_2 _ _) (PySem.list_append l its.toArray n u (by rw[ar];omega)) ⟨e,?_⟩
 refine⟨.non,_,I.lset (its':=its++[u]) C e (by simp) (r.append (.cons Y .nil)) ?_,rfl,q⟩
 rw[aC,dU]
 omega
def by7:V->List V->Hp->VK->Prop:=λ x vs H Q=>∃ l b xs zs,x=.ref l/\vs=[.ref b]/\H l=some (.lst xs)/\H b=some (.lst zs)/\xs.length+zs.length<=aG/\Q .non (upd H l (.lst (xs++zs)))
theorem az2:MtM X "list.extend" by7:=by
 intro J s σ H x vs v us Q I rx Y h
 obtain⟨l,b,xs,zs,rfl,rfl,G,hB,hz,q⟩:=h
 cases rx
 obtain⟨u,rfl,ru⟩:=Y.one
 cases ru
 obtain⟨z,its,n,r,hl,e⟩:=I.lstM G
 obtain⟨z2,y,n2,r2,Z,e2⟩:=I.lstM hB
 have hsz:its.toArray.size+y.toArray.size<=aG:=by rw[ar,ar];omega
 have C:¬(!its.toArray.isEmpty&&di (its.toArray.size+y.toArray.size))=true:=by
  rw[aL6 hsz,Bool.and_false]
  exact aL
 refine hU eP ⟨_,e,rfl⟩ F.entry_list_extend (F.args_list_extend_2 _ _)
  (AutoSeq1.list_extend_list_list_0 l its.toArray n b y.toArray n2 C (by rw[ar];omega) (by omega)) ⟨e,e2,?_⟩
 refine⟨.non,_,I.lset (its':=its++y) G e (by simp) (r.append r2) ?_,rfl,q⟩
 rw[aC]
 omega
def cb0:R2:=λ x y H Q=>∃ l b xs zs,x=.ref l/\y=.ref b/\H l=some (.lst xs)/\H b=some (.lst zs)/\xs.length+zs.length<=aG/\∀ p,H p=none->Q (.ref p) (upd H p (.lst (xs++zs)))
theorem bB7:OpR X (cw .Add) cb0:=by
 intro F s σ H x y v u Q I rx G h
 obtain⟨l,b,xs,zs,rfl,rfl,J,hB,hz,q⟩:=h
 cases rx
 cases G
 obtain⟨z,its,n,r,hl,e⟩:=I.lstM J
 obtain⟨z2,C,n2,r2,Z,e2⟩:=I.lstM hB
 refine PySem.P.add_list e e2 ?_ (by rw[ar,ar];omega)
 have Y:its.toArray++C.toArray=(its++C).toArray:=by simp
 rw[Y]
 exact⟨.ref _,_,I.lnew (t':=s.toks) (r.append r2) (by rw[aC];omega),rfl,q _ I.fresh⟩
def cb4:R2:=λ x y H Q=>∃ l k xs,x=.ref l/\y=.int k/\H l=some (.lst xs)/\-(2^63)<=k/\k<2^63/\xs.length*k.toNat<=aG /\
 ∀ p,H p=none->Q (.ref p) (upd H p (.lst (aI k.toNat xs).flatten))
theorem by4 {α:Type}(h:List α)(k:Nat):(aI k h).flatten.length=k*h.length:=by
 induction k with
 | zero=>simp
 | succ k ih=>rw[bP,dX,aC,ih,dC,hV]
theorem bM8:OpR X (cw .Mult) cb4:=by
 intro a1 s σ H x y v u Q I rx ry h
 obtain⟨l,k,xs,rfl,rfl,hH,h1,h2,hz,q⟩:=h
 cases rx
 obtain⟨t,rfl⟩:=ry
 obtain⟨z,its,n,r,hl,e⟩:=I.lstM hH
 have Z:its.toArray.size*k.toNat<=aG:=by rw[ar,<-hl];exact hz
 have J:¬ its.toArray.size*k.toNat > (2^63 - 1) / 8:=by
  have:(aG:Nat)<=(2^63 - 1) / 8:=by decide
  omega
 have Y:¬(!Builtin.List.listFitsIndex k)=true:=by
  rw[fitsIndex_both h1 h2]
  exact aL
 have C:¬ di (its.toArray.size*k.toNat)=true:=by
  rw[aL6 Z]
  exact aL
 have G:kC (λ x1 x2=>x1++x2) #[] (aI (if its.toArray.isEmpty=true then 0 else k.toNat) its.toArray)=(aI k.toNat its).flatten.toArray:=by
  have f0:∀ m:Nat,kC (λ x1 x2=>x1++x2) #[] (aI m its.toArray)=(aI m its).flatten.toArray:=λ m=>by
   have:=aB7 its m []
   rw[b9]at this
   exact this
  rw[f0]
  cases its with
  | nil=>simp
  | cons a r'=>rw[if_neg (by simp)]
 refine gd (T := "list") (U := "int") (by decide) ⟨_,e,rfl⟩ (λ s'=>hJ s' k t) noFill_list_mul jv eG repeat_list jb.lookup
  (hU eG (hJ s k t) jc (iP _ _) (int___rmul___int_list k t l its.toArray n)
   ⟨e,rfl,⟨_,e,rfl⟩,hU F.slot_list_mul ⟨_,e,rfl⟩ F.entry_list_mul (F.args_list_mul_2 _ _) (AutoListH.list___mul___list_int_3 l its.toArray n k t Y J C) ⟨e,?_⟩⟩)
 rw[G]
 exact⟨.ref _,_,I.lnew (t':=s.toks) (r.rep k.toNat) (by rw[by4,kZ];exact hz),rfl,q _ I.fresh⟩
end
section
variable {prog:aJ} {w:World} {A:aX} {E:Value->ag->Prop} {s:ag}
end
section
variable {X:Cx}
end
end L2
end
noncomputable section
namespace Att
open PySem PySem.W PySem.Calls PyProof.Rows
theorem ints_of_wellAll {P:Params}{h:Heap}:∀(ns:List Int) (vs:List Value),WellAll P h vs (ns.map WData.int)->kn vs ns:=by
 intro ns
 induction ns with
 | nil =>
  intro vs w
  rw[bS]at w
  cases w
  exact .nil
 | cons n ns ih =>
  intro vs w
  rw[aH]at w
  cases w with
  | cons a b =>
   cases a
   exact .cons _ _ (ih _ b)
theorem script_of {l:OpenLaw}{n:Nat}(hn:l.most=some n){P:Params}{h:Heap}{args:List WData}{y:List Value}
  (z:l.row.toRowW.claim.pre args=true) (Y:WellAll P h y args) :
  ∃ a vs ns,y=[Value.ref a]/\args=[WData.list (ns.map WData.int)]/\h.get? a=some { cls:=.type "list",data:=.seq vs.toArray }/\kn vs ns/\ns.length<=n:=by
 have J:WShape.hasAll [] args [.list .int]=true:=(pre_splitW z).1
 have hc:l.pre.holds [] { args:=args }=true:=(pre_splitW z).2
 obtain⟨d,r,rfl,h1,Z⟩:=hasAllW_cons J
 obtain rfl:=hasAllW_nil Z
 obtain⟨xs,rfl,h3⟩:=hasW_list h1
 obtain⟨ns,rfl⟩:=items_int h3
 have C:ns.length<=n:=by
  unfold OpenLaw.pre at hc
  have F:(WTm.not (.lt (.lit (.int (n:Int))) (.len (.arg 0)))).holds [] { args:=[.list (ns.map .int)] }=true:=by
   have F:=(holds_andW hc).1
   rw[hn]at F
   exact F
  have G:=condW_of F (w_not (w_lt w_lit (w_len_list (w_arg rfl))))
  rw[au]at G
  refine jX λ q=>?_
  have q':(n:Int)<((ns.length:Nat):Int):=by omega
  first
   | (rw[decide_eq_true q']at G;exact absurd G (by decide))
   | (simp at G;omega)
 cases Y with
 | cons w1 w2 =>
  cases w2
  cases w1 with
  | list ho hall=>exact⟨_,_,ns,rfl,rfl,ho,ints_of_wellAll ns _ hall,C⟩
theorem post_true (l:OpenLaw)(args:List WData):l.row.toRowW.claim.post args (.bool true) args=true :=
 postW_of (r:=l.row.toRowW) (X:=(true==true))
  (show WShape.has [] (.bool true) .bool=true by first|rfl|decide|simp[WShape.has,WShape.arms,WShape.armsAll])
  (show(WTm.eq .res (.lit (.bool true))).value [] { args:=args,res:=some (.bool true),after:=args }=some (.bool (true==true))from w_eq_bool (w_res rfl) w_lit) rfl
theorem attach_call {l:OpenLaw}{n:Nat}{q:aJ}{loose:List Str}{XP:(Str->Option Value)->Heap->Prop}{YP:World->Heap->Prop}{d:DefRec}
  (hn:l.most=some n) (a1:d.params.defaults=[])
  (call:∀(w:World) (s₀ h:ag) (mg Z:Str->Option Value) (fa:Addr) (o:Obj) (pm cd z:Value) (a:Addr) (vs:List Value) (ns:List Int),
   Ground q loose [] XP w s₀ mg Z h.heap->YP w h.heap ->
   h.heap.get? fa=some o->o.data=.func (docDef d.name d.params d.body d.scope pm cd z)->h.heap.CodeRec cd d.name->mg d.name=some (.ref fa) ->
   h.heap.get? a=some { cls:=.type "list",data:=.seq vs.toArray }->kn vs ns->ns.length<=n->h.gens=#[] ->
   fw (model l.prog w) i7 (.call (.ref fa) ⟨[.ref a],[]⟩) (λ r s'=>r=.ok (.ret (.bool true))/\OldK h.heap s'.heap/\s'.os=h.os/\gi s'.gens) h) :
  WalkO q loose XP YP l.row.toRowW d [] (λ f vs=>kq f vs):=by
 intro w s₀ h mg Z G Y fa o pm cd z dV kV ho hd a4 hD a2 hg args a5 as J a6 a7 a3 a8
 obtain rfl:dV=.none:=Dflts.none hD a1
 obtain rfl:kV=.none:=Dflts.noKw hD
 obtain⟨a,vs,ns,rfl,rfl,C,y,F⟩:=script_of hn J a3
 refine enter_call (fR (call w s₀ h mg Z fa o pm cd z a vs ns G Y ho (fd_plain hd) a4 a2 C y F hg) λ r s' hq=>?_)
 obtain⟨rfl,h2,h3,h4⟩:=hq
 exact⟨.inl ⟨.bool true,.bool true,[],rfl,λ _=>rfl,.bool true,post_true l _,λ _=>⟨List.Pairwise.nil,λ _ hm=>(nomatch hm)⟩⟩,h2,h3,h4⟩
section
variable {prog:aJ} {w:World} {A:aX} {E:Value->ag->Prop} {s:ag} {K:Frag}
end
end Att
noncomputable section
namespace L2
open PySem PySem.Spec PyProof.Rows
theorem ay8:∀ {vs:List Value} {ns:List Int},kn vs ns->Vals (ns.map V.int) vs
 | _,_,.nil=>.nil
 | _,_,.cons n t h=>.cons ⟨t,rfl⟩ (ay8 h)
noncomputable def defArgs (s:Stmt):bp:=match s with
 | .FunctionDef _ a _ _ _ _ _ _ _ _=>a
 | _=>{ posonlyargs:=[],args:=[],vararg:=none,kwonlyargs:=[],kw_defaults:=[],kwarg:=none,defaults:=[] }
noncomputable def zG (s:Stmt):List Stmt:=match s with
 | .FunctionDef _ _ b _ _ _ _ _ _ _=>b
 | _=>[]
noncomputable def defScope (s:Stmt):Scope:=match s with
 | .FunctionDef _ _ _ _ _ _ sc _ _ _=>sc
 | _=>{ kind:=.function,names:=[],isGenerator:=false,isCoroutine:=false }
noncomputable abbrev CX0:CXT:=λ _ _ _ _ _ _=>False
abbrev E0:XK:=λ _ _ _=>False
theorem bH3 {X:Cx}:aL4 CX0 X E0:=λ _ _ _ _ _ _ _ h=>h.elim
structure Fun (K:ae)(x qual:Str)(st:Stmt)(f:Addr)(fd:bQ):Prop where
 ex:∃(oc:Value) (od:Option Addr) (kV doc pm:Value) (an:Option Addr) (cdv ct:Value) (osl:Array (Option Value)),
  fd=dB x qual (defArgs st) (zG st) (defScope st) .none kV doc pm an cdv ct/\K.lookup f=some ⟨oc,od,.func fd,osl⟩/\fZ K cdv qual=true
 kp:cC K (.ref f)=true
section
variable {P:aJ} {w:World} {K:ae} {mg:Str->Option Value} {base:Heap}
theorem Fun.ok {x qual:Str}{st:Stmt}{f:Addr}{J:bQ}{N ps:List Str}{k:Nat}{sp:Sp}(F:Fun K x qual st f J)(S:FnScope N ps (defScope st))(len:∀ vs H Q E,sp vs H Q E->vs.length=ps.length)
  (z:∀(y:Value) (A:aX) (outer:List Env) (s:ag) (H:Hp) (vs:List V) (Q:VK) (E:XK),Room k (A.deeper (gz qual (defScope st) s.heap.objs.size f y))->sp vs H Q E ->
   ∃ t,PSs (bh9 CX0 P w K mg base N qual (defScope st) f y A outer s H E).nox (zG st) t/\t { nx:=λ _ H'=>Q .non H',rt:=Q } (ah6 N vs) H):FnOk P w K mg base CX0 (k+1) f J ps sp:=by
 obtain⟨oc,od,kV,Z,pm,an,y,ct,Y,rfl,lk,C⟩:=F.ex
 refine bL9 lk C S len λ A outer s H vs Q E hr G=>?_
 obtain⟨t,h,q⟩:=z y A outer s H vs Q E hr G
 exact⟨t,h.nox,q⟩
theorem Fun.binds {x qual:Str}{st:Stmt}{f:Addr}{J:bQ}{ps:List Str}(F:Fun K x qual st f J)
  (h:∀(kV z G:Value) (C:Option Addr) (y ct:Value) (us:List Value),us.length=ps.length->fy (dB x qual (defArgs st) (zG st) (defScope st) .none kV z G C y ct) ⟨us,[]⟩=pure (ps.zip us)):Binds K J ps []:=by
 obtain⟨oc,od,kV,z,G,C,y,ct,Y,rfl,lk,Z⟩:=F.ex
 exact .all (h kV z G C y ct)
theorem bn2 {x qual:Str}{st:Stmt}{f:Addr}{oc:Value}{od C:Option Addr}{z:Array (Option Value)}{kV y F h ct:Value}(l:K.lookup f=some ⟨oc,od,.func (dB x qual (defArgs st) (zG st) (defScope st) .none kV y F C h ct),z⟩)
  (c:fZ K h qual=true) (k:cC K (.ref f)=true):Fun K x qual st f (dB x qual (defArgs st) (zG st) (defScope st) .none kV y F C h ct):=⟨⟨oc,od,kV,y,F,C,h,ct,z,rfl,l,c⟩,k⟩
end
theorem aF9 {A:aX}{k:Nat}(hr:Room k A):A.units+1<cLine:=Nat.lt_of_le_of_lt (Nat.add_le_add_left (by decide:1<=64) _) hr.units
section
variable {X:Cx}
theorem pv (i:Nat){x:Str}{pos:Pos}(hN:X.N[i]?=some x:=by rfl)(hv:Vis X.env.scope x:=by first|exact Or.inl rfl|exact Or.inr (Or.inl rfl)|exact Or.inr (Or.inr rfl))(hd:(x==("__debug__":Str))=false:=by decide)
  (h:(x==("__classdict__":Str))=false:=by decide):PE X (.Name x pos) (aZ8 i):=av8 hN hv hd h
end
theorem ca8 {A B:Prop}(h:B):if false=true then A else B:=by
 rw[if_neg aL]
 exact h
theorem cc2 {A B:Prop}(h:A):if true=true then A else B:=by
 rw[if_pos rfl]
 exact h
def ad9 (H H':Hp):Prop:=∀ b o,H b=some o->H' b=some o
theorem ad9.refl (H:Hp):ad9 H H:=λ _ _ h=>h
theorem aP9 {prog:aJ}{w:World}{A:aX}{R:kY->ag->Prop}{s:ag}{elt y iter:Expr}{ifs:List Expr}{scope:Scope}{pos:Pos}{it z:Value}{env:Env}(I:Nat->ag->Prop)
  (turn:∀ n s,I n s->wpAny (model prog w) A (fg it) (λ r J=>match r with
   | none=>R (.ok .next) J
   | some v=>wpAny (model prog w) A (fG y it v) (λ _ C=>wpAny (model prog w) A (gX y env v) (λ _ s₂ =>
     wpAny (model prog w) A (forIn ifs true λ c r=>if r=true then do let ok <- eF c env (eval c env);pure (ForInStep.yield ok)else pure (ForInStep.yield r)) (λ ok G =>
      if ok=true then wpAny (model prog w) A (eval elt env) (λ x Z =>
       wpAny (model prog w) A (call (.builtin "list.append") [z,x]) (λ _ s₅=>∃ m,m<n/\I m s₅) (jL (model prog w) A env λ e s'=>R (.error e) s') Z) (jL (model prog w) A env λ e s'=>R (.error e) s') G
      else ∃ m,m<n/\I m G) (jL (model prog w) A env λ e s'=>R (.error e) s') s₂) (jL (model prog w) A env λ e s'=>R (.error e) s') C) (jL (model prog w) A env λ e s'=>R (.error e) s') J) (jL (model prog w) A env λ e s'=>R (.error e) s') s)
  (n:Nat) (h:I n s) :
  fw (model prog w) A (.compLoop (.ListComp elt [⟨y,iter,ifs,0⟩] scope pos) 0 it z env) R s:=by
 refine codeAny_loop rfl I (λ n s hI=>?_) n h
 show wpAny _ A ((compTurn (.ListComp elt [⟨y,iter,ifs,0⟩] scope pos) 0 it z env).onRaise (λ x=>do noteFrame x env;theTreesLotGoes x)) _ _ s
 refine wpAny_noted ?_
 rw[compTurn_list]
 refine ab (jg (ab (cI (turn n s hI) (λ r J Y=>?_) λ _ _ h'=>h')))
 cases r with
 | none=>exact ao Y
 | some v =>
  refine ab (cI Y (λ _ C F=>?_) λ _ _ h'=>h')
  refine ab (cI F (λ _ s₂ h₂=>ab (cI h₂ (λ ok G h₃=>?_) λ _ _ h'=>h')) λ _ _ h'=>h')
  cases ok with
  | false=>exact ao ⟨rfl,h₃⟩
  | true =>
   exact ab (ab (cI h₃ (λ x Z h₄=>ab (cI h₄ (λ _ s₅ h₅=>ao (ao ⟨rfl,h₅⟩)) λ _ _ h'=>h')) λ _ _ h'=>h'))
noncomputable def ad3 (cells:List (Str×Addr)):List (Str×bR)->List (Str×Addr)->List (Str×Addr)
 | [],acc=>acc
 | (n,k)::r,acc=>ad3 cells r (if k==.free then(match cells.lookup n with|some c=>(n,c)::acc|none=>acc)else acc)
theorem af2 {env:Env}:∀(names:List (Str×bR)) (z:List (Str×Addr)),(∀ y∈names,y.2=.free->∃ c,env.cells.lookup y.1=some c) ->
  (forIn names z λ(x:Str×bR) (cs:List (Str×Addr))=>(if x.2==.free then do let c <- cellOf env x.1;pure (ForInStep.yield ((x.1,c)::cs))else pure (ForInStep.yield cs):Sem (ForInStep (List (Str×Addr)))))=pure (ad3 env.cells names z)
 | [],z,_=>by rw[iQ];rfl
 | (n,k)::r,z,h=>by
  have C:=λ a=>af2 r a λ y hy=>h y (av _ hy)
  rw[kh]
  unfold ad3
  cases e:(k==NameKind.free)with
  | false =>
   simp only[bz,if_false]
   exact C z
  | true =>
   have hk:k=.free:=by simpa using e
   obtain⟨c,hc⟩:=h (n,k) aB hk
   have e1:cellOf env n=pure c:=by unfold cellOf;rw[hc]
   simp only[if_true,e1,hc]
   exact C _
theorem zW {scope:Scope}{env:Env}(h:∀ y∈scope.names,y.2=.free->∃ c,env.cells.lookup y.1=some c):closureFor scope env=pure (ad3 env.cells scope.names []):=by
 have:=af2 (env:=env) scope.names [] h
 show(forIn scope.names [] (λ(x:Str×bR) (cs:List (Str×Addr))=>(if x.2==.free then do let c <- cellOf env x.1;pure (ForInStep.yield ((x.1,c)::cs))else pure (ForInStep.yield cs):Sem (ForInStep (List (Str×Addr))))) >>= λ cs=>pure cs)=_
 rw[this]
 rfl
theorem clOf_mem {cells:List (Str×Addr)}{n:Str}{c:Addr}:∀ {names:List (Str×bR)} {C:List (Str×Addr)},(n,c)∈ad3 cells names C->cells.lookup n=some c\/(n,c)∈C
 | [],_,h=>.inr h
 | (m,k)::r,C,h=>by
  unfold ad3 at h
  rcases clOf_mem h with z|z
  ·exact .inl z
  ·cases e:(k==NameKind.free)with
   | false=>simp only[e,bz,if_false]at z;exact .inr z
   | true =>
    simp only[e,if_true]at z
    cases q:cells.lookup m with
    | none=>rw[q]at z;exact .inr z
    | some d =>
     rw[q]at z
     rcases aF.mp z with y|y
     ·cases y;exact .inl q
     ·exact .inr y
theorem aH0 {cells:List (Str×Addr)}{n:Str}{c:Addr}(hc:cells.lookup n=some c):∀ {names:List (Str×bR)} {y:List (Str×Addr)},((n,NameKind.free)∈names\/(n,c)∈y)->(n,c)∈ad3 cells names y
 | [],_,h=>by rcases h with h|h;(exact absurd h (by simp));exact h
 | (m,k)::r,y,h=>by
  unfold ad3
  refine aH0 hc ?_
  rcases h with h|h
  ·rcases aF.mp h with e|h
   ·cases e
    right
    simp[hc]
   ·exact .inl h
  ·right
   cases e:(k==NameKind.free)with
   | false=>simpa using h
   | true =>
    simp only[if_true]
    cases q:cells.lookup m with
    | none=>exact h
    | some d=>exact av _ h
theorem ag3 {α:Type}{n:Str}{c:α}:∀ {l:List (Str×α)},(n,c)∈l->(∀ d,(n,d)∈l->d=c)->l.lookup n=some c
 | (m,d)::r,h,u=>by
  rw[bo]
  cases e:n==m with
  | true =>
   have e':=beq_iff_eq.mp e
   subst e'
   rw[u d aB]
  | false =>
   rcases aF.mp h with z|z
   ·cases z;simp at e
   ·exact ag3 z λ d' h'=>u d' (av _ h')
theorem qb {cells:List (Str×Addr)}{n:Str}{c:Addr}{names:List (Str×bR)}(hc:cells.lookup n=some c)(h:(n,NameKind.free)∈names):(ad3 cells names []).lookup n=some c:=by
 refine ag3 (aH0 hc (.inl h)) λ d hd=>?_
 rcases clOf_mem hd with z|z
 ·rw[hc]at z;exact(ay z).symm
 ·exact absurd z (by simp)
theorem zl:∀(names:List (Str×bR)) (n:Nat) (h:List (Str×Addr)),aM n names h=aM n names []++h
 | [],_,h=>by simp[aM]
 | (x,k)::r,n,h=>by
  unfold aM
  split
  ·rw[zl r (n+1) ((x,n)::h),zl r (n+1) [(x,n)]]
   simp
  ·exact zl r n h
theorem zx:∀ {names:List (Str×bR)} {n:Nat} {C:List (Str×Addr)} {x:Str} {c:Addr},(x,c)∈aM n names C->(x,NameKind.cell)∈names\/(x,c)∈C
 | [],_,_,_,_,h=>.inr h
 | (y,k)::r,n,C,x,c,h=>by
  unfold aM at h
  split at h
  ·rename_i hk
   rcases zx h with z|z
   ·exact .inl (av _ z)
   ·rcases aF.mp z with e|z
    ·cases e
     have:k=.cell:=by simpa using hk
     subst this
     exact .inl aB
    ·exact .inr z
  ·rcases zx h with z|z
   ·exact .inl (av _ z)
   ·exact .inr z
theorem zB {α:Type}(x:Str):∀(l r:List (Str×α)),(l++r).lookup x=(l.lookup x).or (r.lookup x)
 | [],r=>by simp
 | (y,v)::l,r=>by
  rw[ci,bo,bo]
  cases x==y with
  | true=>rfl
  | false=>exact zB x l r
noncomputable def zJ (N':List Str)(src:List (Option Nat))(scope:Scope)(XN:List Str)(xs:Scope):Bool :=
 (scope.kind==.function) &&
 (scope.names.all λ y=>!(y.2==.free)||(xs.names.lookup y.1==some .cell||xs.names.lookup y.1==some .free)) &&
 (scope.names.all λ y=>!(y.2==.local)||scope.names.lookup y.1==some .local) &&
 (scope.names.all λ y=>!(y.2==.cell)||(scope.names.all λ z=>!(z.1==y.1)||z.2==.cell)) &&
 (src.length==N'.length) &&
 ((N'.zip src).all λ y=>match y.2 with|none=>true|some j=>XN[j]?==some y.1&&scope.names.lookup y.1==some .free)
structure CompCk (N':List Str)(src:List (Option Nat))(scope:Scope)(XN:List Str)(xs:Scope):Prop where
 kind:scope.kind=.function
 fr:∀ y∈scope.names,y.2=.free->xs.names.lookup y.1=some .cell\/xs.names.lookup y.1=some .free
 loc:∀ y∈scope.names,y.2=.local->scope.names.lookup y.1=some .local
 cel:∀ y∈scope.names,y.2=.cell->∀ z∈scope.names,z.1=y.1->z.2=.cell
 len:src.length=N'.length
 sr:∀(i j:Nat) (x:Str),src[i]?=some (some j)->N'[i]?=some x->XN[j]?=some x/\scope.names.lookup x=some .free
theorem bj8 {C:List Str}{src:List (Option Nat)}{scope:Scope}{F:List Str}{G:Scope}(h:zJ C src scope F G=true):CompCk C src scope F G:=by
 unfold zJ at h
 simp only[aj]at h
 obtain⟨⟨⟨⟨⟨h1,Z⟩,h3⟩,h4⟩,J⟩,Y⟩:=h
 refine⟨by simpa using h1,λ y hy e=>?_,λ y hy e=>?_,λ y hy e z hz ez=>?_,by simpa using J,λ i j x e1 e2=>?_⟩
 ·have:=aW.mp Z y hy
  simpa [e]using this
 ·have:=aW.mp h3 y hy
  simpa [e]using this
 ·have:=aW.mp h4 y hy
  simp only[e,beq_self_eq_true,jk,kO]at this
  have:=aW.mp this z hz
  simpa [ez]using this
 ·have hm:(x,some j)∈C.zip src:=by
   refine aK (i:=i) ?_
   rw[List.getElem?_zip_eq_some]
   exact⟨e2,e1⟩
  have:=aW.mp Y _ hm
  simpa using this
noncomputable abbrev zE (X:Cx)(N':List Str)(scope:Scope)(C:Addr)(cells:List (Str×Addr))(s:ag)(H:Hp)(ex:List Addr):Cx where
 prog:=X.prog
 w:=X.w
 K:=X.K
 mg:=X.mg
 base:=X.base
 A:=X.A
 N:=N'
 s₀:=s
 H₀:=H
 env:={ scope:=dY scope X.env,locals:=C,globals:=X.env.globals,cells:=cells,qual:=X.env.qual,func:=none,code:=X.env.code,frame:=X.env.frame,builtins:=X.env.builtins }
 outer:=X.stack
 stack:=X.stack
 ex:=ex
 fn:=λ x=>scope.names.lookup x==some .cell
 calm:=X.calm
 pn:=[]
 xe:=λ _ _=>False
def PIf (X:Cx)(ifs:List Expr)(t:TT):Prop :=
 ∀(pins:List (Addr×Obj)) (s:ag) (σ:St) (H:Hp) (Q:Bool->Hp->Prop),Inv X pins σ H s->t σ H Q ->
  wpAny (model X.prog X.w) X.A (forIn ifs true λ c r=>if r=true then do let ok <- eF c X.env (eval c X.env);pure (ForInStep.yield ok)else pure (ForInStep.yield r)) (TP X pins σ Q) X.xe s
def bR1:TT:=λ _ H Q=>Q true H
theorem aT5 {X:Cx}:PIf X [] bR1:=λ _ _ _ H _ I h=>wpAny_tests_nil ⟨H,I,h⟩
theorem bx2 {X:Cx}{c:Expr}{t:TT}(h:PT X c t):PIf X [c] t:=λ y s σ H Q I hw=>wpAny_tests_one (h y s σ H Q I hw)
noncomputable def aA7 (src:List (Option Nat))(σ:St):St:=src.map λ o=>match o with|none=>none|some j=>(σ[j]?).join
def tComp (src:List (Option Nat))(wi:TI)(g:TG)(tc:TT)(te:TE):TE:=λ σ H Q=>wi σ H λ J H1=>∀ D,H1 D=none ->
 ∃ W:Nat->Nat->St->Hp->Prop,(∃ m,W 0 m (aA7 src σ) (upd H1 D (.lst [])))/\∀ i m σ' H',W i m σ' H' ->
  (J.stop i H'/\Q (.ref D) H')\/(J.go i H'/\∃ N:St->Hp->Prop,(∀ σ2 H2,N σ2 H2->∃ m',m'<m/\W (i+1) m' σ2 H2) /\
   ∀ x H2,J.yld i H' x H2->g x σ' H2 λ σ3 H3=>tc σ3 H3 λ b H4=>if b=true then te σ3 H4 λ v H5=>∃ ys,H5 D=some (.lst ys)/\ys.length<aG/\N σ3 (upd H5 D (.lst (ys++[v])))else N σ3 H4)
theorem zO {env:Env}:∀ {names:List (Str×bR)} {x:Str} {k:bR},names.lookup x=some k ->
  (names.map λ(n,k)=>if(k==NameKind.free&&env.scope.kind==.function&&env.kindOf n==some .cell)then(n,NameKind.cell)else(n,k)).lookup x =
   some (if(k==NameKind.free&&env.scope.kind==.function&&env.kindOf x==some .cell)then NameKind.cell else k)
 | [],_,_,h=>by simp at h
 | (n,k)::r,x,k',h=>by
  have y:=@zO env r x k'
  show lh x ((if(k==NameKind.free&&env.scope.kind==.function&&env.kindOf n==some .cell)=true then(n,NameKind.cell)else(n,k))::_)=_
  cases hx:x==n with
  | true =>
   have e:=beq_iff_eq.mp hx
   subst e
   simp only[bo,hx]at h
   cases h
   by_cases hc:(k==NameKind.free&&env.scope.kind==.function&&env.kindOf x==some .cell)=true
   ·rw[if_pos hc,if_pos hc];simp only[bo,hx]
   ·rw[if_neg hc,if_neg hc];simp only[bo,hx]
  | false =>
   simp only[bo,hx]at h
   by_cases hc:(k==NameKind.free&&env.scope.kind==.function&&env.kindOf n==some .cell)=true
   ·rw[if_pos hc];simp only[bo,hx];exact y h
   ·rw[if_neg hc];simp only[bo,hx];exact y h
theorem zY {env:Env}:∀ {names:List (Str×bR)} {x:Str},names.lookup x=none ->
  (names.map λ(n,k)=>if(k==NameKind.free&&env.scope.kind==.function&&env.kindOf n==some .cell)then(n,NameKind.cell)else(n,k)).lookup x=none
 | [],_,_=>rfl
 | (n,k)::r,x,h=>by
  have y:=@zY env r x
  show lh x ((if(k==NameKind.free&&env.scope.kind==.function&&env.kindOf n==some .cell)=true then(n,NameKind.cell)else(n,k))::_)=_
  cases hx:x==n with
  | true=>simp only[bo,hx]at h;cases h
  | false =>
   simp only[bo,hx]at h
   by_cases hc:(k==NameKind.free&&env.scope.kind==.function&&env.kindOf n==some .cell)=true
   ·rw[if_pos hc];simp only[bo,hx];exact y h
   ·rw[if_neg hc];simp only[bo,hx];exact y h
theorem ar3 {X:Cx}{N':List Str}{src:List (Option Nat)}{scope:Scope}{a5:List (Addr×Obj)}{σ:St}{H:Hp}{s s4:ag}{fp:List Addr}
  (F:CompCk N' src scope X.N X.env.scope) (I:Inv X a5 σ H s) (hf:∀ b∈fp,FpOk X a5 H b) (a7:∀ b∈fp,b<s.heap.objs.size)
  (e4:∃ tk,s4={ s with heap:=fj (s.heap.push { cls:=.type "dict",data:=.dict #[] }) scope.names,toks:=tk }) :
  Inv (zE X N' scope s.heap.objs.size (aM (s.heap.objs.size+1) scope.names (ad3 X.env.cells scope.names [])) s H fp) [] (aA7 src σ) H s4:=by
 obtain⟨tk,rfl⟩:=e4
 have hk:∀ b o,s.heap.get? b=some o->(fj (s.heap.push { cls:=.type "dict",data:=.dict #[] }) scope.names).get? b=some o:=λ b o e=>dJ _ _ b o (af _ e)
 have ok:=cellsFrom_ok scope.names (s.heap.push { cls:=.type "dict",data:=.dict #[] }) (s.heap.objs.size+1) [] ⟨λ _ _ hm=>(nomatch hm),List.Pairwise.nil⟩ (by rw[bW];exact ak _)
 rw[bW]at ok
 have Z:=zl scope.names (s.heap.objs.size+1) (ad3 X.env.cells scope.names [])
 have lk:∀ x c,(aM (s.heap.objs.size+1) scope.names (ad3 X.env.cells scope.names [])).lookup x=some c ->
   ((x,c)∈aM (s.heap.objs.size+1) scope.names []/\(x,NameKind.cell)∈scope.names)\/(X.env.cells.lookup x=some c/\(aM (s.heap.objs.size+1) scope.names []).lookup x=none):=λ x c e=>by
  rw[Z,zB]at e
  cases q:(aM (s.heap.objs.size+1) scope.names []).lookup x with
  | some d =>
   rw[q]at e
   have e':d=c:=ay e
   subst e'
   have hm:=aA q
   refine .inl ⟨hm,?_⟩
   rcases zx hm with z|z
   ·exact z
   ·exact absurd z (by simp)
  | none =>
   rw[q]at e
   have e':(ad3 X.env.cells scope.names []).lookup x=some c:=e
   rcases clOf_mem (aA e')with z|z
   ·exact .inr ⟨z,rfl⟩
   ·exact absurd z (by simp)
 have up:∀ x c,(x,c)∈aM (s.heap.objs.size+1) scope.names []->s.heap.objs.size+1<=c:=λ x c h=>(ok.empty x c h).2
 have a8:∀ x c,X.env.cells.lookup x=some c->c<s.heap.objs.size:=λ x c h=>by
  obtain⟨v,q⟩:=I.cell x c h
  exact q.lt
 have a3:∀ b,b<s.heap.objs.size->b≠s.heap.objs.size:=λ b h=>aw h
 have b1:∀ b∈fp,H b=none/\b≠X.env.locals/\b ∉ X.fs:=λ b hb=>⟨(hf b hb).1,(hf b hb).2.1,(hf b hb).2.2.1⟩
 have b2:(fj (s.heap.push { cls:=.type "dict",data:=.dict #[] }) scope.names).Ns s.heap.objs.size (λ _=>none):=(li s.heap (.type "dict")).keeps (dJ _ _)
 have Y:∀ x k,scope.names.lookup x=some k->(dY scope X.env).names.lookup x=some (if(k==NameKind.free&&X.env.scope.kind==.function&&X.env.kindOf x==some .cell)then NameKind.cell else k):=λ x k e=>zO (env:=X.env) e
 have a4:∀ x,scope.names.lookup x=none->(dY scope X.env).names.lookup x=none:=λ x e=>zY (env:=X.env) e
 have a9:∀ x c,(x,NameKind.free)∈scope.names->X.env.cells.lookup x=some c->(aM (s.heap.objs.size+1) scope.names (ad3 X.env.cells scope.names [])).lookup x=some c:=λ x c hx hc=>by
  rw[Z,zB]
  cases q:(aM (s.heap.objs.size+1) scope.names []).lookup x with
  | some d =>
   rcases zx (aA q)with z|z
   ·have:=F.cel _ z rfl _ hx rfl
    cases this
   ·exact absurd z (by simp)
  | none=>exact qb hc hx
 have a6:∀ x,(x,NameKind.free)∈scope.names->∃ c,X.env.cells.lookup x=some c:=λ x hx=>I.ok.has x (F.fr _ hx rfl)
 refine⟨⟨I.ok.mod,F.kind,I.ok.glob,I.ok.blt,ak _,λ x y c e1 e2=>?_,λ x hx=>?_,λ x c hx e=>?_,I.ok.hd,I.ok.frames,.inl rfl,λ b hb=>⟨a3 b (a7 b hb),λ x c e z=>?_⟩,I.bs,am I.ok.bsz I.sz,λ b o e hb=>?_,λ b hb z=>?_,I.stack,I.stkFree⟩,
  rfl,I.bare,Un.kept hk,⟨_,b2,λ i x v e1 e2 e3=>?_⟩,λ x c e=>?_,I.hok.fresh (ak _),λ x c e=>?_,λ p hp=>absurd (show p∈([]:List (Addr×Obj))from hp) (by simp),I.hok.kept hk,by unfold aA7;rw[au];exact F.len⟩
 ·rcases lk x c e1 with⟨a1,_⟩|⟨a1,_⟩<;>rcases lk y c e2 with⟨a2,_⟩|⟨a2,_⟩
  ·exact gZ ok.apart a1 a2
  ·exact absurd (aq (a8 _ _ a2) (gm (up _ _ a1))) (bu _)
  ·exact absurd (aq (a8 _ _ a1) (gm (up _ _ a2))) (bu _)
  ·exact I.ok.inj x y c a1 a2
 ·cases q:scope.names.lookup x with
  | none =>
   have G:(dY scope X.env).names.lookup x=some .cell\/(dY scope X.env).names.lookup x=some .free:=hx
   rw[a4 x q]at G
   rcases G with z|z<;>cases z
  | some k =>
   have G:(dY scope X.env).names.lookup x=some .cell\/(dY scope X.env).names.lookup x=some .free:=hx
   rw[Y x k q]at G
   cases k with
   | free =>
    obtain⟨c,hc⟩:=a6 x (aA q)
    exact⟨c,a9 x c (aA q) hc⟩
   | cell =>
    obtain⟨c,hc⟩:=zN (n:=s.heap.objs.size+1) q
    exact⟨c,by show(aM _ _ _).lookup x=_;rw[Z,zB,hc];rfl⟩
   | _=>rcases G with z|z<;>cases z
 ·have G:(scope.names.lookup x==some .cell)=true:=hx
  have q:scope.names.lookup x=some .cell:=by simpa using G
  rcases lk x c e with⟨a,_⟩|⟨a,b⟩
  ·have:=up _ _ a;show s.heap.objs.size<=c;omega
  ·obtain⟨d,hd⟩:=zN (n:=s.heap.objs.size+1) q
   rw[hd]at b;cases b
 ·subst z
  rcases lk x c e with⟨a,_⟩|⟨a,_⟩
  ·exact absurd (aq (a7 c hb) (gm (up _ _ a))) (bu _)
  ·exact(hf c hb).2.2.2.2.1 x c a rfl
 ·rcases(hf b hb).2.2.2.1 with z|z
  ·exact I.ok.noex b o e z
  ·exact absurd (aq (ax e) (am I.ok.bsz z)) (bu _)
 ·rcases aF.mp (I.stkSub b z)with y|y
  ·exact(b1 b hb).2.1 y
  ·exact(b1 b hb).2.2 y
 ·have C:(aA7 src σ)[i]?=some (some v):=e2
  unfold aA7 at C
  rw[aE]at C
  cases q:src[i]? with
  | none=>rw[q]at C;cases C
  | some o =>
   rw[q]at C
   cases o with
   | none=>cases C
   | some j =>
    have J:(σ[j]?).join=some v:=ay C
    have ej:σ[j]?=some (some v):=by
     cases q2:σ[j]? with
     | none=>rw[q2]at J;cases J
     | some o2=>rw[q2]at J;exact congrArg some J
    obtain⟨h1,h2⟩:=F.sr i j x q e1
    have hm:=aA h2
    obtain⟨mX,b4,b3⟩:=I.loc
    have b0:Vis X.env.scope x:=by
     rcases F.fr _ hm rfl with z|z
     ·exact .inr (.inl z)
     ·exact .inr (.inr z)
    obtain⟨u,ru,look⟩:=b3 j x v h1 ej b0
    refine⟨u,ru,.inr ?_⟩
    have hcell:∃ c,X.env.cells.lookup x=some c/\s.heap.IsCell c (some u):=by
     rcases look with⟨z,_⟩|⟨_,c,z1,z2⟩
     ·have z':X.env.scope.names.lookup x=some .local:=z
      rcases F.fr _ hm rfl with y|y<;>(rw[z']at y;cases y)
     ·exact⟨c,z1,z2⟩
    obtain⟨c,c1,c2⟩:=hcell
    refine⟨?_,c,a9 x c hm c1,c2.keeps hk⟩
    show(dY scope X.env).names.lookup x=some .cell\/(dY scope X.env).names.lookup x=some .free
    rw[Y x _ h2]
    by_cases hc:(NameKind.free==NameKind.free&&X.env.scope.kind==.function&&X.env.kindOf x==some .cell)=true
    ·rw[if_pos hc];exact .inl rfl
    ·rw[if_neg hc];exact .inr rfl
 ·rcases lk x c e with⟨a,_⟩|⟨a,_⟩
  ·exact⟨_,(ok.empty x c a).1⟩
  ·obtain⟨v,q⟩:=I.cell x c a
   exact⟨v,q.keeps hk⟩
 ·rcases lk x c e with⟨a,_⟩|⟨a,_⟩
  ·exact I.hok.fresh (by have:=up _ _ a;omega)
  ·exact I.freeC x c a
theorem aK2 {X:Cx}{Z:List Str}{scope:Scope}{h:List (Addr×Obj)}{σ σ':St}{H G:Hp}{s s5:ag}{F:List Addr}{cells:List (Str×Addr)}{h':Heap}
  (I:Inv X h σ H s) (C:∀ b∈F,FpOk X h H b) (J:Inv (zE X Z scope s.heap.objs.size cells s H F) [] σ' G s5) (hs:cn s.heap.objs.size s5.heap h') :
  Inv X h σ G { s5 with heap:=h' }:=by
 have y:∀ b o,s.heap.get? b=some o->b≠s.heap.objs.size:=λ b o e=>aw (ax e)
 have u:Un (frs X.stack) F H G s.heap s5.heap:=J.base
 refine I.call' (s':={ s5 with heap:=h' }) (ch:=F) J.os ⟨λ b o e n hb hx=>?_,λ b o e n hb hx=>?_,λ b o e n hx=>u.free b o e n hx,λ b o e hx=>?_,u.tups,u.frzs,u.tbls⟩ (λ b o e=>?_) J.bare λ b hb=>⟨(C b hb).2.2.2.1,(C b hb).2.1,(C b hb).2.2.2.2.1,(C b hb).2.2.2.2.2⟩
 ·exact(hs.2 b (y b o e)).trans (u.keep b o e n hb hx)
 ·obtain⟨sl,q⟩:=u.slot b o e n hb hx
  exact⟨sl,(hs.2 b (y b o e)).trans q⟩
 ·obtain⟨Y,q⟩:=u.there b o e hx
  exact⟨Y,(hs.2 b (y b o e)).trans q⟩
 ·have fr:G s.heap.objs.size=none:=J.free
  refine(J.hok b o e).stay (λ c w' hc q=>(hs.2 c ?_).trans q) (λ _ q=>q) λ _ _ q=>q
  rintro rfl
  rcases hc with z|hc
  ·rw[<-z,fr]at e;cases e
  ·rw[fr]at hc;cases hc
theorem af4 {M:Model}{A:aX}{E:Value->ag->Prop}{s:ag}{scope:Scope}{globals:Addr}{y:List (Str×Addr)}{qual:Str}{outer:Env}{Q:Env->ag->Prop}
  (h:Q { scope:=scope,locals:=s.heap.objs.size,globals:=globals,cells:=aM (s.heap.objs.size+1) scope.names y,qual:=qual,func:=none,code:=outer.code,frame:=outer.frame,builtins:=outer.builtins }
   { s with heap:=fj (s.heap.push { cls:=.type "dict",data:=.dict #[] }) scope.names }) :
  wpAny M A (f7 scope globals y [] qual none .none (some outer)) Q E s:=by
 simp only[f7,f8,if_true]
 refine ab (wpAny_alloc ?_)
 refine ab (wpAny_layCells _ (λ name kind cells=>by cases hkc:kind==NameKind.cell<;>simp[hkc]) _ _ _ _ ?_)
 rw[show({ s with heap:=s.heap.push { cls:=.type "dict",data:=.dict #[] } }:ag).heap.objs.size=s.heap.objs.size+1 from bW ..]
 refine ab ?_
 rw[iQ]
 exact ao (ao h)
theorem aA3 {X':Cx}{R:kY->ag->Prop}{elt tg iter:Expr}{ifs:List Expr}{scope:Scope}{pos:Pos}{g:TG}{tc:TT}{te:TE}{J:It}{Z:List Addr}{it D:Addr}{tn:Nat->Heap->Prop}{W:Nat->Nat->St->Hp->Prop}
  {QD:Hp->Prop} {σ0:St} {H0:Hp} {s4:ag} {m0:Nat} (hx:X'.xe=λ _ _=>False) (G:X'.calm=true) (I4:Inv X' [] σ0 H0 s4) (T:Turn X'.prog X'.w X'.K tg J Z it tn) (a6:tn 0 s4.heap)
  (C:∀ H':Hp,(∀ b∈Z,H' b=none)->∀ b∈Z,FpOk X' [] H' b) (a7:∀ b∈Z,H0 b=none) (w0:W 0 m0 σ0 H0)
  (turn:∀ i m σ' H',W i m σ' H'->(J.stop i H'/\QD H')\/(J.go i H'/\∃ N:St->Hp->Prop,(∀ σ2 H2,N σ2 H2->∃ m',m'<m/\W (i+1) m' σ2 H2) /\
   ∀ x H2,J.yld i H' x H2->g x σ' H2 λ σ3 Y=>tc σ3 Y λ b H4=>if b=true then te σ3 H4 λ v H5=>∃ ys,H5 D=some (.lst ys)/\ys.length<aG/\N σ3 (upd H5 D (.lst (ys++[v])))else N σ3 H4))
  (hg:PG X' tg g) (hif:PIf X' ifs tc) (he:PE X' elt te) (a4:∀ σ' H' s',Inv X' [] σ' H' s'->QD H'->R (.ok .next) s') :
  fw (model X'.prog X'.w) X'.A (.compLoop (.ListComp elt [⟨tg,iter,ifs,0⟩] scope pos) 0 (.ref it) (.ref D) X'.env) R s4:=by
 have nox:∀ {α:Type} {t:Sem α} {Q Q':α->ag->Prop} {E:Value->ag->Prop} {s:ag},wpAny (model X'.prog X'.w) X'.A t Q X'.xe s->(∀ a s,Q a s->Q' a s)->wpAny (model X'.prog X'.w) X'.A t Q' E s :=
  λ h hQ=>cI h hQ λ _ _ z=>by rw[hx]at z;exact z.elim
 refine aP9 (λ n s'=>∃ i σ' H',Inv X' [] σ' H' s'/\tn i s'.heap/\(∀ b∈Z,H' b=none)/\W i n σ' H') ?_ m0 ⟨0,σ0,H0,I4,a6,a7,w0⟩
 rintro n s3 ⟨i,σ3,Y,I3,a3,a2,w3⟩
 rcases turn i n σ3 Y w3 with⟨stop,qn⟩|⟨go,N,hN,step⟩
 ·refine nox (T.done X' rfl rfl rfl G i [] s3 σ3 Y X'.xe I3 (C Y a2) a3 stop) λ r s4 ⟨hr,I4⟩=>?_
  subst hr
  exact a4 σ3 Y s4 I4 qn
 ·refine nox (T.item X' rfl rfl rfl G i [] s3 σ3 Y X'.xe I3 (C Y a2) a3 go) λ r s4 ⟨u,hr,h4⟩=>?_
  subst hr
  refine nox h4 λ _ s5 ⟨x,H5,I5,r5,y5,a1,a5⟩=>?_
  have a8:=I5.pinned (C H5 a5) (T.obj _ _ a1)
  refine nox (hg _ s5 σ3 H5 x u _ a8 r5 (step x H5 y5)) λ _ s6 ⟨σ6,H6,I6,q6⟩=>?_
  have F:∀ {σ7:St} {H7:Hp} {s7:ag},Inv X' ([]++az4 Z s5.heap) σ7 H7 s7->N σ7 H7->∃ m,m<n/\∃ i σ' H',Inv X' [] σ' H' s7/\tn i s7.heap/\(∀ b∈Z,H' b=none)/\W i m σ' H':=λ {σ7 H7 s7} I7 n7=>by
   obtain⟨m',hm,w7⟩:=hN σ7 H7 n7
   refine⟨m',hm,i+1,σ7,H7,I7.unpinned,T.keep _ _ _ a1 λ b hb o e=>(I7.pin (b,o) (aY _ (aY _ (qv hb e)))).1,λ b hb=>?_,w7⟩
   obtain⟨o,e,d⟩:=T.obj _ _ a1 b hb
   exact(I7.pin (b,o) (aY _ (aY _ (qv hb e)))).2.1
  refine nox (hif _ s6 σ6 H6 _ I6 q6) λ b s7 ⟨H7,I7,q7⟩=>?_
  cases b with
  | false =>
   rw[if_neg aL]at q7 ⊢
   exact F I7 q7
  | true =>
   rw[if_pos rfl]at q7 ⊢
   refine nox (he _ s7 σ6 H7 _ I7 q7) λ v s8 ⟨y,H8,I8,r8,ys,hy,hz,q8⟩=>?_
   refine nox (ax5 _ s8 σ6 H8 (.ref D) [y] (.ref D) [v] (λ _ H9=>N σ6 H9) I8 rfl (.cons r8 .nil) ⟨D,ys,y,rfl,rfl,hy,hz,q8⟩) λ v9 s9 ⟨_,H9,I9,_,q9⟩=>?_
   exact F I9 q9
theorem aE0 {X:Cx}{elt tg iter:Expr}{ifs:List Expr}{scope:Scope}{pos:Pos}{wi:TI}{g:TG}{tc:TT}{te:TE}(Z:List Str)(src:List (Option Nat))
  (a9:zJ Z src scope X.N X.env.scope=true) (hi:PI X tg iter wi) (Y:X.calm=true)
  (a8:∀(C:Addr) (cells:List (Str×Addr)) (s:ag) (H:Hp) (ex:List Addr),PG (zE X Z scope C cells s H ex) tg g/\PIf (zE X Z scope C cells s H ex) ifs tc/\PE (zE X Z scope C cells s H ex) elt te)
  (hs:∀ x,dW iter X.env x=pure x:=by intro _;rfl):PE X (.ListComp elt [⟨tg,iter,ifs,0⟩] scope pos) (tComp src wi g tc te):=by
 intro z s σ H Q I h
 have ck:=bj8 a9
 rw[eval_ListComp]
 have a5:=zW (scope:=scope) (env:=X.env) λ y hy e=>I.ok.has y.1 (ck.fr y hy e)
 refine gC (use:=none) rfl hs a5 ck.kind ck.loc (thn (hi z s σ H _ I h) λ v s1 h1=>thn h1 λ b2 s2 h2=>?_)
 obtain⟨it,F,tn,J,H2,e,I2,T,a2,f2,W⟩:=h2
 subst e
 have hD:=I2.fresh
 obtain⟨W,⟨m0,w0⟩,turn⟩:=W _ hD
 have I3:=I2.lnew (its:=[]) (ys:=[]) (t':=s2.toks) .nil (cu _)
 have a3:∀ b∈F,b<s2.heap.objs.size:=λ b hb=>by obtain⟨o,q,_⟩:=T.obj _ _ a2 b hb;exact ax q
 have f3:∀ b∈F,FpOk X z (upd H2 s2.heap.objs.size (.lst [])) b:=λ b hb=>⟨by rw[za (aw (a3 b hb))];exact(f2 b hb).1,(f2 b hb).2⟩
 refine bf (af4 ?_)
 generalize G:({ s2 with heap:=s2.heap.push { cls:=.type "list",data:=.seq ([]:List Value).toArray },toks:=s2.toks }:ag)=s3 at I3
 have b1:({ s2 with heap:=s2.heap.push { cls:=.type "list",data:=.seq ([]:List Value).toArray } }:ag)=s3:=G
 have a6:∀ b∈F,b<s3.heap.objs.size:=λ b hb=>by
  rw[<-G]
  show b<(s2.heap.push _).objs.size
  rw[bW]
  exact gq (a3 b hb)
 have I4:=ar3 (s4:={ s3 with heap:=fj (s3.heap.push { cls:=.type "dict",data:=.dict #[] }) scope.names }) ck I3 f3 a6 ⟨_,rfl⟩
 have a1:tn 0 (fj (s3.heap.push { cls:=.type "dict",data:=.dict #[] }) scope.names):=T.keep _ _ _ a2 λ b hb o e=>dJ _ _ b o (af _ (by rw[<-G];exact af _ e))
 obtain⟨hg,hif,he⟩:=a8 s3.heap.objs.size (aM (s3.heap.objs.size+1) scope.names (ad3 X.env.cells scope.names [])) s3 (upd H2 s2.heap.objs.size (.lst [])) F
 have a4:∀ H':Hp,(∀ b∈F,H' b=none)->∀ b∈F,FpOk (zE X Z scope s3.heap.objs.size (aM (s3.heap.objs.size+1) scope.names (ad3 X.env.cells scope.names [])) s3 (upd H2 s2.heap.objs.size (.lst [])) F) [] H' b:=λ H' hn b hb =>
  ⟨hn b hb,(I4.ok.exf b hb).1,I4.ok.exfs b hb,.inl hb,λ x c e=>(I4.ok.exf b hb).2 x c e,λ p hp=>absurd (show p∈([]:List (Addr×Obj))from hp) (by simp)⟩
 have T':Turn X.prog X.w X.K tg J F it tn:=T
 have b0:∀ b∈F,upd H2 s2.heap.objs.size (.lst []) b=none:=λ b hb=>(f3 b hb).1
 have L:=aA3 (X':=zE X Z scope s3.heap.objs.size (aM (s3.heap.objs.size+1) scope.names (ad3 X.env.cells scope.names [])) s3 (upd H2 s2.heap.objs.size (.lst [])) F) (R:=compPost (model X.prog X.w) X.A X.xe none (EP X z σ Q) (Value.ref s2.heap.objs.size) s3.heap.objs.size) (iter:=iter) (scope:=scope) (pos:=pos) (QD:=λ H'=>Q (.ref s2.heap.objs.size) H') rfl Y I4 T' a1 a4 b0 w0 turn hg hif he
  (λ σ' H' s' J' q=>by
   obtain⟨mm,hn,_⟩:=J'.loc
   exact⟨mm,hn,λ h' a7=>⟨.ref s2.heap.objs.size,H',aK2 I3 f3 J' a7,rfl,q⟩⟩)
 exact hW L (T.self _ _ _ _ _ a1 L)
section
variable {X:Cx}
theorem bV9:bq "abs"=some (.builtin "abs"):=by decide +kernel
theorem bV1:bq "len"=some (.builtin "len"):=by decide +kernel
theorem bu2:bq "min"=some (.builtin "min"):=by decide +kernel
theorem bK1:bq "max"=some (.builtin "max"):=by decide +kernel
theorem bT9:bq "all"=some (.builtin "all"):=by decide +kernel
theorem aB9:bq "isinstance"=some (.builtin "isinstance"):=by decide +kernel
theorem bL8:bq "int"=some (.type "int"):=by decide +kernel
theorem bE2:bq "bool"=some (.type "bool"):=by decide +kernel
theorem bW1:bq "str"=some (.type "str"):=by decide +kernel
theorem aZ0:bq "tuple"=some (.type "tuple"):=by decide +kernel
theorem bm1:bq "list"=some (.type "list"):=by decide +kernel
def bR8 (i j:Int):Prop:=0<j/\j<2^4096
theorem aM1 {y:Int}(h0:0<y)(h:y<2^4096):y.natAbs.log2<9000:=by
 have hn:y.natAbs<2^4096:=by
  have:(y.natAbs:Int)=y:=by omega
  have z:(y.natAbs:Int)<((2^4096:Nat):Int):=by rw[this];simpa using h
  exact jM.mp z
 have:=(Nat.log2_lt (by omega)).mpr hn
 omega
theorem bj2:OpR X (cw .FloorDiv) (rI bR8 λ i j=>.int (i / j)):=opI λ i j _ _ _ _ _ hc q=>by
 refine floordiv_int (by have:=hc.1;omega) ?_ (.inl (PyProof.noPylong_of_log2 (aM1 hc.1 hc.2)))
 rw[fX i (by have:=hc.1;omega)]
 exact q
theorem aG9 {K:ae}(h:X.K=K):IxR X (bY9 K):=by subst h;exact bs6
theorem bx7 {K:ae}(h:X.K=K):IxR X (bZ8 K):=by subst h;exact ix_tup
theorem ao1 {K:ae}(y:X.K=K):ac2 X (.builtin "len") (λ h H Q=>∃ p ys,h=[.ref p]/\(SqL K H p ys\/SqT K H p ys)/\Q (.int ys.length) H):=by subst y;exact aA5
theorem aC3 {K:ae}(y:X.K=K):ac2 X (.type "tuple") (λ h H Q=>∃ p ys,h=[.ref p]/\((SqL K H p ys/\∀ l,H l=none->Q (.ref l) (upd H l (.tup ys)))\/(SqT K H p ys/\Q (.ref p) H))):=by subst y;exact au0
theorem aN8 {K:ae}(y:X.K=K):ac2 X (.type "list") (λ h H Q=>∃ p ys,h=[.ref p]/\(SqL K H p ys\/SqT K H p ys)/\∀ l,H l=none->Q (.ref l) (upd H l (.lst ys))):=by subst y;exact ay2
theorem bb2 {K:ae}{tg l:Expr}{h:TE}(y:X.K=K)(hl:PE X l h):PI X tg l (br8 K h):=by subst y;exact bq4 hl
theorem bo7 {K:ae}{tg l:Expr}{h:TE}(y:X.K=K)(hl:PE X l h):PI X tg l (bV0 K h):=by subst y;exact bE1 hl
theorem bu1 {K:ae}{pos:Pos}{es:List Expr}{k:Nat}{t:TGs}{n:Nat}(z:X.K=K)(hc:X.calm=true)(h:PGs X es t)
  (hn:(cQ es X.env).length=n:=by rfl) (y:(cQ es X.env).findIdx? (·.1)=none:=by rfl):PG X (.Tuple es k pos) (bQ0 K n t):=by subst z;exact bk1 hc h hn y
end
structure DefAt (K:ae)(mg:Str->Option Value)(x:Str)(st:Stmt)(ps:List Str)(f:Addr)(fd:bQ):Prop where
 fn:Fun K x x st f fd
 mg:mg x=some (.ref f)
 bi:Binds K fd ps []
@[irreducible] noncomputable def cc4 (p:Prop):Prop:=p
theorem ad9.new {p:Addr}{H y:Hp}{o:HO}(h:ad9 H y)(z:y p=none):ad9 H (L2.upd y p o):=λ x o e=>by
 have e1:=h x o e
 rw[za (zn e1 z)]
 exact e1
section
variable {prog:aJ} {w:World} {A:aX} {R:kY->ag->Prop} {I:Addr} {fp wr:List Addr} {n:Nat} {P:Nat->Value->Prop} {St:Nat->Heap->Prop} {kw:List (Str×Value)}
theorem aX2 (W:Walks prog w A.in1 I fp wr n P St)(bt:Nat->Nat->Bool)(a6:CmpOf prog w A.in1 .Lt P bt)(S:Addr)(a7:S ∉ fp) :
  ∀(k j:Nat) (s:ag) (vb:Value) (c:Nat),n - (j+1)=k->j+1<=n->St (j+1) s.heap->P (cb bt j) vb ->
  s.heap.get? S=some { cls:=.type "list",dict:=none,data:=.seq #[vb,vb] c,slots:=#[] } ->
  (∀ v h' tk,P (cb bt (n - 1)) v->(∀ b o,b ∉ wr->b≠S->s.heap.get? b=some o->h'.get? b=some o)->R (.ok (.ret v)) { s with heap:=h',toks:=tk }) ->
  fw (model prog w) A (.builtin "min.loop" ⟨[.ref I,.none,.ref S],kw⟩) R s:=by
 have a5:S ∉ wr:=λ h=>a7 (W.sub _ h)
 have Y:(toString "min"++toString ".loop":String) = "min.loop":=by decide
 intro k
 induction k with
 | zero =>
  intro j s vb c hk hj a4 Z hS hR
  have a8:j+1=n:=by omega
  refine dL gL ?_
  rw[cD cN _]
  show wpAny _ A.in1 (fm (.ref S) >>= _) _ _ s
  refine ab (cT hS rfl ?_)
  show wpAny _ A.in1 (tryCatch (fg (.ref I)) _ >>= _) _ _ s
  refine ab (cr (W.done s _ _ (a8▸a4) λ h' tk z=>?_))
  have G:=z S _ a5 hS
  show wpAny _ A.in1 (jY S (λ _=>#[]) >>= _) _ _ _
  refine ab ?_
  refine dM G rfl (ab (dw (ao ?_)))
  refine hR vb _ tk (by rw[<-a8];exact Z) λ b o y C e=>(bh _ _ (bJ C)).trans (z b o y e)
 | succ k ih =>
  intro j s vb c hk hj a4 Z hS hR
  have hlt:j+1<n:=by omega
  refine dL gL ?_
  rw[cD cN _]
  show wpAny _ A.in1 (fm (.ref S) >>= _) _ _ s
  refine ab (cT hS rfl ?_)
  show wpAny _ A.in1 (tryCatch (fg (.ref I)) _ >>= _) _ _ s
  refine ab (cr (W.item (j+1) s _ _ hlt a4 λ v h' tk hP a1 z=>?_))
  have G:=z S _ a5 hS
  show wpAny _ A.in1 (tryCatch (i6 [v,v] (richCompare .Lt v vb >>= _)) _ >>= _) _ _ _
  refine ab (cr (cz (ab (a6 (j+1) (cb bt j) v vb _ _ _ hP Z ?_))))
  refine ab (cz (bC ?_))
  refine ab (dw (ao ?_))
  cases hb:bt (j+1) (cb bt j)with
  | true =>
   simp only[if_true]
   refine ab ?_
   refine dM G rfl (ab (dw ?_))
   rw[Y]
   refine ao ⟨dj cN _,ih (j+1) _ v _ (by omega) hlt (W.frame _ _ _ a1 λ b a9 o e=>?_) (by simp only[cb,hb,if_true];exact hP) (cx _ G rfl)
    λ v' a2 F a3 J=>?_⟩
   ·exact(bh _ _ (λ h:S=b=>a7 (by rw[h];exact a9))).trans e
   ·exact hR v' a2 F a3 λ b o y C e=>J b o y C ((bh _ _ (bJ C)).trans (z b o y e))
  | false =>
   simp only[bz,if_false]
   refine ab (dw ?_)
   rw[Y]
   refine ao ⟨dj cN _,ih (j+1) _ vb c (by omega) hlt a1 (by simp only[cb,hb,bz,if_false];exact Z) G λ v' a2 F a3 J=>?_⟩
   exact hR v' a2 F a3 λ b o y C e=>J b o y C (z b o y e)
theorem aO2 (W:Walks prog w A.in1 I fp wr n P St)(bt:Nat->Nat->Bool)(J:CmpOf prog w A.in1 .Lt P bt)(S:Addr)(C:S ∉ fp){s:ag}{c:Nat}{d:Value}(a1:St 0 s.heap)
  (hS:s.heap.get? S=some { cls:=.type "list",dict:=none,data:=.seq #[] c,slots:=#[] })
  (h0:n=0->∀ h' tk,(∀ b o,b ∉ wr->b≠S->s.heap.get? b=some o->h'.get? b=some o)->R (.ok (.ret d)) { s with heap:=h',toks:=tk })
  (hR:0<n->∀ v h' tk,P (cb bt (n - 1)) v->(∀ b o,b ∉ wr->b≠S->s.heap.get? b=some o->h'.get? b=some o)->R (.ok (.ret v)) { s with heap:=h',toks:=tk }) :
  fw (model prog w) A (.builtin "min.loop" ⟨[.ref I,.none,.ref S],[(bL "default",d)]⟩) R s:=by
 have a5:S ∉ wr:=λ h=>C (W.sub _ h)
 have F:(toString "min"++toString ".loop":String) = "min.loop":=by decide
 refine dL gL ?_
 rw[cD cN _]
 show wpAny _ A.in1 (fm (.ref S) >>= _) _ _ s
 refine ab (cT hS rfl ?_)
 show wpAny _ A.in1 (tryCatch (fg (.ref I)) _ >>= _) _ _ s
 rcases jw n with hn|hn
 ·refine ab (cr (W.done s _ _ (hn▸a1) λ h' tk y=>?_))
  show wpAny _ A.in1 (rule _ >>= _) _ _ _
  refine ab (hX (ao ?_))
  exact h0 hn h' tk λ b o z _ e=>y b o z e
 ·refine ab (cr (W.item 0 s _ _ hn a1 λ v h' tk hP Z y=>?_))
  have Y:=y S _ a5 hS
  show wpAny _ A.in1 (jY S (λ _=>#[v,v]) >>= _) _ _ _
  refine ab ?_
  refine dM Y rfl ?_
  rw[F]
  refine ao ⟨dj cN _,aX2 W bt J S C _ 0 _ v _ rfl hn (W.frame _ _ _ Z λ b a7 o e=>?_) hP (cx _ Y rfl) λ v' a4 G a6 a2=>?_⟩
  ·exact(bh _ _ (λ h:S=b=>C (by rw[h];exact a7))).trans e
  ·exact hR hn v' a4 G a6 λ b o z a3 e=>a2 b o z a3 ((bh _ _ (bJ a3)).trans (y b o z e))
end
theorem aS0 (a d:Value):argsOk "min" ⟨[a],[(bL "default",d)]⟩:=by unfold argsOk;kernel_rfl
theorem qz (val : Nat -> Int) : ∀ k j, j <= k -> val (cb (λ i j => decide (val i < val j)) k) <= val j
  | 0, j, h => by have : j = 0 := by omega
                  subst this; exact dz _
  | k + 1, j, h => by
    have ih := qz val k
    unfold cb
    by_cases hb : val (k + 1) < val (cb (λ i j => decide (val i < val j)) k)
    · rw[if_pos (by simpa using hb)]
      by_cases hj : j = k + 1
      · subst hj; exact dz _
      · have := ih j (by omega); omega
    · rw[if_neg (by simpa using hb)]
      by_cases hj : j = k + 1
      · subst hj; omega
      · exact ih j (by omega)
def bx1 (K:ae):V->V->Hp->VK->Prop:=λ x d H Q=>∃ a ns,x=.ref a/\SqL K H a (ns.map V.int)/\(ns=[]->Q d H)/\∀ m∈ns,(∀ y∈ns,m<=y)->Q (.int m) H
theorem ah3 {ns:List Int}{its:List Value}(r:Vals (ns.map V.int) its){i:Nat}{v:Value}(h:its[i]?=some v):∃ z t,ns[i]?=some z/\v=Value.int z t:=by
 have hl:=r.length
 rw[au]at hl
 have y:i<its.length:=(ac.mp h).1
 obtain⟨u,e1,q⟩:=r.get (i:=i) (x:=.int ns[i]) (by rw[aE,ai (by omega)];rfl)
 rw[h]at e1;cases e1
 obtain⟨t,rfl⟩:=q
 exact⟨_,t,ai (by omega),rfl⟩
theorem ba7 {X:Cx}{C:List (Addr×Obj)}{σ:St}{H:Hp}{s:ag}{x d:V}{u w':Value}{Q:VK}(hc:X.calm=true)(I:Inv X C σ H s)(rx:RelV x u)(rd:RelV d w')(h:bx1 X.K x d H Q) :
  wpAny (model X.prog X.w) X.A (call (.builtin "min") [u] [(bL "default",w')]) (EP X C σ Q) X.xe s:=by
 obtain⟨a,ns,rfl,hS,q0,qm⟩:=h
 cases rx
 obtain⟨its,rv,pl,hz⟩:=I.list hS
 have hl:=rv.length
 rw[au]at hl
 have Y:(toString "min"++toString ".loop":String) = "min.loop":=by decide
 refine kmb_tree F.kind_min F.plain_min F.entry_min (aS0 _ _) ?_
 show wpAny _ X.A.in1 (cK "min" ["key", "default"] 0 ⟨[],[(bL "default",w')]⟩ >>= _) _ _ s
 refine ab (iR (show cK "min" ["key", "default"] 0 ⟨[],[(bL "default",w')]⟩=pure [none,some w']from rfl) ?_)
 refine ab (ao ?_)
 refine ab (c7 pl.isList ?_)
 have a1:a<s.heap.objs.size:=by obtain⟨o,_,e,_⟩:=pl;exact ax e
 have W:=jx (prog:=X.prog) (w:=X.w) (A:=X.A.in1) (I.ok.hd hc) s.heap.objs.size a (aw a1) its.toArray
 refine ab (bf ?_)
 generalize J:s.heap.push _=h2
 have G:h2.objs.size=s.heap.objs.size+1:=by rw[<-J,bW]
 have a2:∀ b o,s.heap.get? b=some o->h2.get? b=some o:=λ b o e=>by rw[<-J];exact af _ e
 have a4:h2.objs.size ∉ [s.heap.objs.size,a]:=by
  rw[G]
  intro z
  rcases aF.mp z with z|z
  ·exact absurd z (jZ _)
  ·have z':s.heap.objs.size+1=a:=by simpa using z
   exact absurd (aq a1 (by rw[<-z'];exact c8 _)) (bu _)
 have a3:(h2.push { cls:=.type "list",data:=.seq ([]:List Value).toArray }).IsListIter s.heap.objs.size a 0/\(h2.push { cls:=.type "list",data:=.seq ([]:List Value).toArray }).IsList a its.toArray:=by
  refine⟨⟨_,af _ (by rw[<-J];exact az _ rfl),rfl,rfl⟩,?_⟩
  obtain⟨o,e,r⟩:=pl.isList
  exact⟨o,af _ (a2 _ _ e),r⟩
 let val:Nat->Int:=λ i=>ns.getD i 0
 have Z:∀ i v,its.toArray[i]?=some v->∃ t,v=Value.int (val i) t:=λ i v e=>by
  obtain⟨z,t,e1,e2⟩:=ah3 rv (i:=i) (v:=v) (by rw[bV]at e;exact e)
  refine⟨t,?_⟩
  rw[e2]
  show Value.int z t=Value.int (ns.getD i 0) t
  rw[aP,e1]
  rfl
 rw[Y]
 have nx:∀(h':Heap) (tk:Nat),(∀ b o,b ∉ [s.heap.objs.size]->b≠h2.objs.size->(h2.push { cls:=.type "list",data:=.seq ([]:List Value).toArray }).get? b=some o->h'.get? b=some o)->Inv X C σ H { s with heap:=h',toks:=tk }:=λ h' tk k=>I.kept λ b o e=>by
  refine k b o ?_ ?_ (af _ (a2 b o e))
  ·intro z
   have z':b=s.heap.objs.size:=by simpa using z
   exact absurd (ax e) (by rw[z'];exact bu _)
  ·intro z
   exact absurd (ax e) (by rw[z,G];exact Nat.not_lt.mpr (c8 _))
 refine ao ⟨dj cN _,aO2 (d:=w') W _ (kP val Z) h2.objs.size a4 a3 (az _ rfl) (λ hn h' tk k=>?_) λ hn v h' tk hP k=>?_⟩
 ·have e:ns=[]:=by
   have:its.toArray.size=0:=hn
   have:its.length=0:=by simpa using this
   exact bG.mp (by omega)
  exact⟨d,H,nx h' tk k,rd,q0 e⟩
 ·obtain⟨z,t,e1,e2⟩:=ah3 rv (i:=cb (λ i j=>decide (val i<val j)) (its.toArray.size - 1)) (v:=v) (by rw[bV]at hP;exact hP)
  subst e2
  have hv:val (cb (λ i j=>decide (val i<val j)) (its.toArray.size - 1))=z:=by
   show ns.getD _ 0=z
   rw[aP,e1]
   rfl
  refine⟨.int z,H,nx h' tk k,⟨t,rfl⟩,qm z (aK e1) λ y hy=>?_⟩
  obtain⟨j,hj,e3⟩:=cE.mp hy
  have:=qz val (its.toArray.size - 1) j (by simp only[ar];omega)
  rw[hv]at this
  have e4:val j=y:=by
   show ns.getD j 0=y
   rw[aP,ai hj]
   exact e3
  omega
def bS5 (K:ae)(ta td:TE):TE:=λ σ H Q=>ta σ H λ x H1=>td σ H1 λ d H2=>bx1 K x d H2 Q
theorem bp4 {X:Cx}{K:ae}{e J:Expr}{C G:TE}{p pos kp:Pos}(hK:X.K=K)(hc:X.calm=true)(hg:Gl X "min")(Y:X.mg "min"=none)(ha:PE X e C)(hd:PE X J G)
  (hs:bn [e] X.env=[(false,eval e X.env)]:=by rfl) :
  PE X (.Call (.Name "min" p) [e] [⟨some "default",J,kp⟩] pos) (bS5 K C G):=by
 subst hK
 intro y s σ H Q I h
 refine cc (ap3 I hg Y bu2 ?_)
 have h':an4 C aQ9 σ H (λ vs z=>match vs with|[x]=>G σ z λ d H2=>bx1 X.K x d H2 Q|_=>False):=h
 refine callWith_kw (env:=X.env) (thn ((zC ha ad2 hs) pos y s σ H _ I h') λ us s1 ⟨vs,z,Z,r1,F⟩=>?_) (by rw[hs];rfl) (by rw[hs];rfl)
 match vs,F,r1 with
 | [x],F,r1 =>
  obtain⟨u,rfl,ru⟩:=ag6 r1
  refine kws_cons (thn (hd y s1 σ z _ Z F) λ v s2 ⟨d,H2,I2,rd,q2⟩=>kws_nil ?_)
  exact ba7 hc I2 ru rd q2
inductive D where
 | non|bl (b:Bool)|int (i:Int)|str (x:Str)|tup (l:List D)|lst (l:List D)
mutual
noncomputable def D.deep:D->Nat
 | .tup l=>D.deepL l+1
 | .lst l=>D.deepL l+1
 | _=>0
noncomputable def D.deepL:List D->Nat
 | []=>0
 | d::l=>max (D.deep d) (D.deepL l)
end
section
variable {X:Cx}
end
section
variable {X:Cx}
def bF5 (K:ae):R2:=λ x y H Q=>∃ a b xs ys,x=.ref a/\y=.ref b/\SqT K H a xs/\SqT K H b ys/\xs.length+ys.length<=aG/\∀ p H',ad9 H H'->SqT K H' p (xs++ys)->(H' p=some (.tup (xs++ys))\/(p=a/\ys=[])\/(p=b/\xs=[]))->Q (.ref p) H'
theorem bt1 {prog:aJ}{w:World}{A:aX}{E:Value->ag->Prop}{s:ag}{t b:Addr}{ws:List Value}{Q:Value->ag->Prop}(Z:IsTup s.heap t ([]:List Value).toArray)(hb:IsTup s.heap b ws.toArray)(h1:Q (.ref b) s) :
  wpAny (model prog w) A (cw .Add (.ref t) (.ref b)) Q E s:=by
 obtain⟨⟨cls,Y,data,sl⟩,ho,hc,n,hd⟩:=id Z
 obtain⟨⟨J,G,F,C⟩,h,z,n2,y⟩:=id hb
 simp only at hc hd z y
 subst hc hd z y
 exact jH ⟨_,ho,rfl⟩ ⟨_,h,rfl⟩ gK ji eM eI (et _ _)
   (tuple_addW0 t b _ ws.toArray n n2 Y G sl C rfl) ⟨ho,h,h1⟩
theorem aV7 {K:ae}(Z:X.K=K):OpR X (cw .Add) (bF5 K):=by
 subst Z
 intro C s σ H x y v u Q I Y F h
 obtain⟨a,b,J,ys,e1,e2,ha,hb,hz,q⟩:=h
 by_cases hx:J=[]
 ·subst e1;subst e2;subst hx
  cases Y;cases F
  obtain⟨its,r1,p1,_⟩:=I.tuple ha
  obtain⟨G,r2,p2,_⟩:=I.tuple hb
  obtain rfl:its=[]:=r1.nil_iff.mpr rfl
  exact bt1 p1 p2 ⟨.ref b,H,I,rfl,q b H (ad9.refl H) hb (.inr (.inr ⟨rfl,rfl⟩))⟩
 ·refine by9 C s σ H x y v u Q I Y F ⟨a,b,J,ys,e1,e2,ha,hb,hx,hz,λ z=>?_,λ z p hp=>?_⟩
  ·subst z
   exact q a H (ad9.refl H) (by rw[aZ];exact ha) (.inr (.inl ⟨rfl,rfl⟩))
  ·exact q p _ ((ad9.refl H).new hp) (SqT.of zb) (.inl zb)
def cc0 (K:ae):V->Option Int->Option Int->Hp->VK->Prop:=λ x lo hi H Q=>∃ a xs,x=.ref a/\SqT K H a xs/\∀ p H',ad9 H H'->SqT K H' p (aM8 xs lo hi)->(H' p=some (.tup (aM8 xs lo hi))\/(p=a/\aM8 xs lo hi=xs))->Q (.ref p) H'
theorem at8 {prog:aJ}{w:World}{A:aX}{E:Value->ag->Prop}{s:ag}{t sl:Addr}{y:Array Value}{vl vu:Value}{z G:Option Int}{Q:Value->ag->Prop}(C:IsTup s.heap t y)(hs:s.heap.IsSliceOf sl vl vu .none)(pl:gB vl z)(pu:gB vu G)
  (hw:HT.sIx y.size 0 z=0/\HT.sIx y.size y.size G=y.size) (h:Q (.ref t) s):wpAny (model prog w) A (g6 (.ref t) (.ref sl)) Q E s:=by
 obtain⟨os,J,Z,a1⟩:=id hs
 have Y:s.TypeIs (.ref sl) "slice":=⟨os,J,Z⟩
 unfold g6
 try with_reducible refine cz ?_
 first|refine ab (ao ?_)|skip
 refine ab (jI C.typeIs (by decide) ?_)
 refine ab (cf (name:=bL "__getitem__") C.typeIs bA
  (cg bA C.typeIs ja ?_ (ju _ _)))
 show wpAny _ _ (d5 (.ref t) >>= _) _ _ s
 refine ab (jj C ?_)
 refine ab (g8 Y ?_)
 rw[if_pos (by decide)]
 refine ab (HT.sliceApplied_gen hs pl pu ?_)
 have F:((((HT.sIx y.size 0 z:Nat):Int)==0&&(1:Int)==1&&(HT.sIx y.size y.size G - HT.sIx y.size 0 z)==y.size)=true):=by
  rw[hw.1,hw.2]
  simp
 show wpAny _ _ (if(((HT.sIx y.size 0 z:Nat):Int)==0&&(1:Int)==1&&(HT.sIx y.size y.size G - HT.sIx y.size 0 z)==y.size)=true then _ else _) _ _ s
 rw[if_pos F]
 refine ab (ab (g8 C.typeIs (ao ?_)))
 rw[if_pos (by decide)]
 exact ab (hX (ao ⟨_,rfl,ao h⟩))
theorem aq1 {y:List V}{C z:Option Int}(h:HT.sIx y.length 0 C=0/\HT.sIx y.length y.length z=y.length):aM8 y C z=y:=by
 unfold aM8
 rw[h.1,h.2]
 simp
theorem bs9 {K:ae}(hK:X.K=K):SlR X (cc0 K):=by
 subst hK
 intro C s σ H x v vl vu F J sl Q I Z hs Y pu h
 obtain⟨a,y,e1,hx,q⟩:=h
 by_cases hw:HT.sIx y.length 0 F=0/\HT.sIx y.length y.length J=y.length
 ·subst e1
  cases Z
  obtain⟨its,r,G,hz⟩:=I.tuple hx
  have z:its.toArray.size=y.length:=by rw[ar];exact r.length.symm
  refine⟨"tuple",_,bA.lookup,G.typeIs,?_⟩
  exact at8 G hs Y pu (by rw[z];exact hw) ⟨.ref a,H,I,rfl,q a H (ad9.refl H) (by rw[aq1 hw];exact hx) (.inr ⟨rfl,aq1 hw⟩)⟩
 ·exact bJ3 C s σ H x v vl vu F J sl Q I Z hs Y pu ⟨a,y,e1,hx,hw,λ p hp=>q p _ ((ad9.refl H).new hp) (SqT.of zb) (.inl zb)⟩
theorem bb1 {K:ae}(h:X.K=K):SlR X (bY7 K):=by subst h;exact bq0
end
noncomputable def Its (x:Str):It:=⟨λ i _=>i<x.cps.size,λ i H v H'=>H'=H/\∃ c,x.cps[i]?=some c/\v=.str ⟨#[c]⟩,λ i _=>x.cps.size<=i⟩
theorem aH4 {P:aJ}{w:World}{K:ae}{tg:Expr}{F:String}{x:Str}{t:Tok}(it:Addr)(hn:["enumerate", "zip", "dict_itemiterator", "dict_reverseitemiterator", "odict_iterator", "itertools.zip_longest", "itertools.pairwise"].contains F=false)
  (W:∀ A:aX,A.handled=none->Walks P w A it [it] [it] x.cps.size (SignAt x) (λ i h=>h.IsStrIter it F x t i))
  (J:∀(A:aX) (s:ag) (i:Nat) (Q:Option Value->ag->Prop) (E:Value->ag->Prop),A.handled=none->s.heap.IsStrIter it F x t i->x.cps[i]?=none->(∀ h',iU it s.heap h'->Q none { s with heap:=h' })->wpAny (model P w) A (fg (.ref it)) Q E s)
  (C:∀(A:aX) (i:Nat) (s:ag) (Q:Value->ag->Prop) (E:Value->ag->Prop),s.heap.IsStrIter it F x t i->Q (.ref it) s->wpAny (model P w) A (kt (.ref it)) Q E s):Turn P w K tg (Its x) [it] it (λ i h=>h.IsStrIter it F x t i) where
 mem:=by simp
 obj:=λ i h st b hb=>by
  have e:b=it:=by simpa using hb
  subst e
  obtain⟨o,ho,hc,hd⟩:=st
  exact⟨o,ho,λ v z=>by rw[hd]at z;cases z⟩
 keep:=λ i h h' st k=>by
  obtain⟨o,ho,r⟩:=st
  exact⟨o,k it (by simp) _ ho,r⟩
 item:=by
  intro X hP hw hK hc i y s σ H E I Y st hg
  subst hP hw hK
  obtain⟨f0,f1,f2,f3,f4,f5⟩:=Y it (by simp)
  refine(W X.A (I.ok.hd hc)).item i s _ _ hg st λ v h' tk hv G kk=>?_
  obtain⟨c,u,a1,rfl⟩:=hv
  have I1:Inv X y σ H { s with heap:=h',toks:=tk }:=I.turned (λ b o hb e=>kk b o (by simpa using hb) e) f0 f1 f3 f4 f5
  obtain⟨o,ho,Z,hd⟩:=id G
  exact⟨_,rfl,bi6 (s:={ s with heap:=h',toks:=tk }) (n:=F) ho Z hd hn ⟨.str ⟨#[c]⟩,H,I1,⟨u,rfl⟩,⟨rfl,c,a1,rfl⟩,G,λ b hb=>(Y b hb).1⟩⟩
 done:=by
  intro X hP hw hK hc i y s σ H E I Y st hg
  subst hP hw hK
  obtain⟨f0,f1,f2,f3,f4,f5⟩:=Y it (by simp)
  have a2:x.cps.size<=i:=hg
  exact J X.A s i _ E (I.ok.hd hc) st (by simp;omega) λ h' eb=>⟨rfl,I.turned (t':=s.toks) (λ b o hb e=>eb b o hb e) f0 f1 f3 f4 f5⟩
 self:=λ A i s Q E st h=>C A i s Q E st h
def bX7 (tl:TE):TI:=λ σ H R=>tl σ H λ v H1=>∃ x,v=.str x/\R (Its x) H1
theorem bO1 {X:Cx}{tg l:Expr}{J:TE}(hl:PE X l J):PI X tg l (bX7 J):=by
 intro y s σ H R I h
 refine thn (hl y s σ H _ I h) λ v s1 ⟨v0,Y,C,r1,Z⟩=>?_
 obtain⟨x,e,q⟩:=Z
 subst e
 obtain⟨t,rfl⟩:=r1
 have fin:∀(G:String) (o:Obj),o={ cls:=.type G,data:=.fields #[.str x t,.int 0 0] }->Turn X.prog X.w X.K tg (Its x) [s1.heap.objs.size] s1.heap.objs.size (λ i h=>h.IsStrIter s1.heap.objs.size G x t i)->PIE X y σ tg R (.ref s1.heap.objs.size) { s1 with heap:=s1.heap.push o }:=λ G o eo T=>by
  subst eo
  refine⟨s1.heap.objs.size,[s1.heap.objs.size],_,_,Y,rfl,C.kept (t':=s1.toks) λ b o e=>af _ e,T,⟨_,az _ rfl,rfl,rfl⟩,λ b hb=>?_,q⟩
  have e:b=s1.heap.objs.size:=by simpa using hb
  subst e
  exact C.fpOk (ak _) (C.hok.fresh (ak _))
 cases ha:x.cps.all (·<128)
 ·exact wpAny_pyIter_wide ha (fin "str_iterator" _ rfl (aH4 _ (by decide) (λ A z=>Walks.strWide z _ x t) (λ A s i Q E z st hx F=>wpAny_pyNext_wide_end z st hx F) λ A i s Q E st h=>wpAny_pyIter_striter_wide st h))
 ·exact wpAny_pyIter_ascii ha (fin "str_ascii_iterator" _ rfl (aH4 _ (by decide) (λ A z=>Walks.strAscii z _ x t) (λ A s i Q E z st hx F=>wpAny_pyNext_ascii_end z st hx F) λ A i s Q E st h=>wpAny_pyIter_striter_ascii st h))
section
variable {X:Cx} {K:ae} {T id:String} {name:Str} {o e:Expr} {es:List Expr} {to:TE} {t:TA} {r:V->List V->Hp->VK->Prop} {apos cpos:Pos}
theorem aV8 (J:X.K=K)(G:kA T)(slot:Slot T name id)(F:typeOf (.builtin id)=pure (.type "method_descriptor"))(Y:MtR X id r)(ho:PE X o to)(ha:PA X (e::es) t)
  (z:dh o name X.env (eval o X.env)=eval o X.env:=by rfl)
  (C:((dS cpos (bn (e::es) X.env)).all (λ x=>!x.1)&&(kB cpos (iM [] X.env)).all (λ x=>x.1.isSome)
   && decide ((e::es).length+([]:List gj).length+(if([]:List gj).isEmpty then 0 else 1)<30))=true:=by rfl)
  (y:(apos.endLine==cpos.line)=true:=by rfl) (hs:bn (e::es) X.env=(false,eval e X.env)::bn es X.env:=by rfl) (h:(dS cpos (bn es X.env)).any (·.1)=false:=by rfl) :
  PE X (.Call (.Attribute o name apos) (e::es) [] cpos) (tBM K T r to t):=by
 subst J
 exact bX4 G slot F Y ho ha z C y hs h
end
structure Mach where
 letters:Int
 rooms:Int
 begins:List Int
 ends:List Int
 doors:List (Int×Str×Int×Int)
noncomputable def bX2 (q:Int×Str×Int×Int):D:=.tup [.int q.1,.str q.2.1,.int q.2.2.1,.int q.2.2.2]
noncomputable def Mach.D (M:Mach):D:=.tup [.int M.letters,.int M.rooms,.tup (M.begins.map .int),.tup (M.ends.map .int),.tup (M.doors.map bX2)]
noncomputable def ltr (i:Nat):Str:=⟨#[97+i]⟩
structure DoorOk (letters rooms:Int)(q:Int×Str×Int×Int):Prop where
 s0:0<=q.1
 s1:q.1<rooms
 l:∃ i:Nat,(i:Int)<letters/\q.2.1=ltr i
 g0:0<=q.2.2.1
 g1:q.2.2.1<rooms
 t0:0<=q.2.2.2
 t1:q.2.2.2<=3
structure RoomsOk (rooms:Int)(l:List Int):Prop where
 mem:∀ r∈l,0<=r/\r<rooms
 up:l.Pairwise (· < ·)
structure Mach.Ok (most:Nat)(M:Mach):Prop where
 l0:1<=M.letters
 l1:M.letters<=3
 r0:1<=M.rooms
 r1:M.rooms<=5
 b:RoomsOk M.rooms M.begins
 e:RoomsOk M.rooms M.ends
 d:∀ q∈M.doors,DoorOk M.letters M.rooms q
 m:M.doors.length<=most
mutual
noncomputable def D.tups:D->Bool
 | .lst _=>false
 | .tup l=>D.tupsL l
 | _=>true
noncomputable def D.tupsL:List D->Bool
 | []=>true
 | d::l=>D.tups d&&D.tupsL l
end
end L2
end
noncomputable section
namespace L2
end L2
end
noncomputable section
namespace L2
open PySem PySem.Spec PyProof.Rows
noncomputable def minO:List Int->Option Int
 | []=>none
 | a::l=>some (match minO l with|none=>a|some b=>if b<a then b else a)
theorem aO0 {X:Cx}{elt tg iter:Expr}{ifs:List Expr}{scope:Scope}{pos Y py:Pos}{y:Str}{i:Nat}{wi:TI}{g:TG}{tc:TT}{te:TE}(N':List Str)(src:List (Option Nat))
  (hN:X.N.Nodup) (a7:X.N[i]?=some y) (a6:X.env.scope.names.lookup y=some .local)
  (a9:zJ N' src scope X.N X.env.scope=true) (hi:PI X tg iter wi) (a1:X.calm=true)
  (b2:∀(C:Addr) (cells:List (Str×Addr)) (s:ag) (H:Hp) (ex:List Addr),PG (zE X N' scope C cells s H ex) tg g/\PIf (zE X N' scope C cells s H ex) ifs tc/\PE (zE X N' scope C cells s H ex) elt te)
  (hs:∀ x,dW iter X.env x=pure x:=by intro _;rfl)
  (a8:fU (.ListComp elt [⟨tg,iter,ifs,0⟩] scope pos) (some (.Name y py)) Y.line X.env=pure true:=by rfl) :
  PS X (.Assign [.Name y py] (.ListComp elt [⟨tg,iter,ifs,0⟩] scope pos) Y) (bc1 (tComp src wi g tc te) (ao8 i)):=by
 intro F s σ H D0 I h
 have ck:=bj8 a9
 rw[exec_Assign_Name_used _ _ _ _ a8]
 refine ab (jg (ab ?_))
 show wpAny _ X.A (do let _ <- comprehension (.ListComp elt [⟨tg,iter,ifs,0⟩] scope pos) scope X.env _ (newList []) false (eval iter X.env) (some (gX (.Name y py) X.env))) _ _ s
 have b0:=zW (scope:=scope) (env:=X.env) λ y hy e=>I.ok.has y.1 (ck.fr y hy e)
 refine ab (cI (gC (use:=some (gX (.Name y py) X.env)) (Q:=λ _ s'=>SP X F D0 .next s') rfl hs b0 ck.kind ck.loc (thn (hi F s σ H _ I h) λ v s1 h1=>thn h1 λ b6 s2 h2=>?_)) (λ _ s' hq=>ao (ao hq)) λ _ _ e=>e)
 obtain⟨it,G,tn,J,H2,e,I2,T,a5,f2,W⟩:=h2
 subst e
 have hD:=I2.fresh
 obtain⟨W,⟨m0,w0⟩,turn⟩:=W _ hD
 have I3:=I2.lnew (its:=[]) (ys:=[]) (t':=s2.toks) .nil (cu _)
 have a2:∀ b∈G,b<s2.heap.objs.size:=λ b hb=>by obtain⟨o,q,_⟩:=T.obj _ _ a5 b hb;exact ax q
 have f3:∀ b∈G,FpOk X F (upd H2 s2.heap.objs.size (.lst [])) b:=λ b hb=>⟨by rw[za (aw (a2 b hb))];exact(f2 b hb).1,(f2 b hb).2⟩
 refine bf (af4 ?_)
 generalize Z:({ s2 with heap:=s2.heap.push { cls:=.type "list",data:=.seq ([]:List Value).toArray },toks:=s2.toks }:ag)=s3 at I3
 have b5:({ s2 with heap:=s2.heap.push { cls:=.type "list",data:=.seq ([]:List Value).toArray } }:ag)=s3:=Z
 have b1:∀ b∈G,b<s3.heap.objs.size:=λ b hb=>by
  rw[<-Z]
  show b<(s2.heap.push _).objs.size
  rw[bW]
  exact gq (a2 b hb)
 have I4:=ar3 (s4:={ s3 with heap:=fj (s3.heap.push { cls:=.type "dict",data:=.dict #[] }) scope.names }) ck I3 f3 b1 ⟨_,rfl⟩
 have a3:tn 0 (fj (s3.heap.push { cls:=.type "dict",data:=.dict #[] }) scope.names):=T.keep _ _ _ a5 λ b hb o e=>dJ _ _ b o (af _ (by rw[<-Z];exact af _ e))
 obtain⟨hg,hif,he⟩:=b2 s3.heap.objs.size (aM (s3.heap.objs.size+1) scope.names (ad3 X.env.cells scope.names [])) s3 (upd H2 s2.heap.objs.size (.lst [])) G
 have a4:∀ H':Hp,(∀ b∈G,H' b=none)->∀ b∈G,FpOk (zE X N' scope s3.heap.objs.size (aM (s3.heap.objs.size+1) scope.names (ad3 X.env.cells scope.names [])) s3 (upd H2 s2.heap.objs.size (.lst [])) G) [] H' b:=λ H' hn b hb =>
  ⟨hn b hb,(I4.ok.exf b hb).1,I4.ok.exfs b hb,.inl hb,λ x c e=>(I4.ok.exf b hb).2 x c e,λ p hp=>absurd (show p∈([]:List (Addr×Obj))from hp) (by simp)⟩
 have T':Turn X.prog X.w X.K tg J G it tn:=T
 have b4:∀ b∈G,upd H2 s2.heap.objs.size (.lst []) b=none:=λ b hb=>(f3 b hb).1
 have L:=aA3 (X':=zE X N' scope s3.heap.objs.size (aM (s3.heap.objs.size+1) scope.names (ad3 X.env.cells scope.names [])) s3 (upd H2 s2.heap.objs.size (.lst [])) G) (R:=compPost (model X.prog X.w) X.A X.xe (some (gX (.Name y py) X.env)) (λ _ s'=>SP X F D0 .next s') (Value.ref s2.heap.objs.size) s3.heap.objs.size) (iter:=iter) (scope:=scope) (pos:=pos) (QD:=λ H'=>D0.nx (σ.set i (some (.ref s2.heap.objs.size))) H') rfl a1 I4 T' a3 a4 b4 w0 turn hg hif he
  (λ σ' H' s' J' q=>by
   have J2:=aK2 I3 f3 J' (Heap.SameBut.refl _ _)
   obtain⟨mm,hn,_⟩:=J'.loc
   have nL:s3.heap.objs.size≠X.env.locals:=c6 I3.lt
   have nC:∀ x c,X.env.cells.lookup x=some c->c≠s3.heap.objs.size:=λ x c e=>by
    obtain⟨v,z⟩:=I3.cell x c e
    exact aw z.lt
   show wpAny _ X.A (gX (.Name y py) X.env (.ref s2.heap.objs.size)) _ _ _
   refine jD (ax7 (v:=.ref s2.heap.objs.size) J2 hN a7 (.inl a6) rfl (λ s5 I5 sb=>?_) (.inr a6))
   obtain⟨aa,sb,ha⟩:=sb
   have na:s3.heap.objs.size≠aa:=by
    rcases ha with z|z
    ·rw[z];exact nL
    ·exact λ e=>nC _ _ z e.symm
   refine⟨mm,hn.sameBut sb na,λ h' b3=>⟨_,H',I5.turned (t':=s5.toks) (λ b o hb e=>(b3.2 b hb).trans e) J'.free nL (.inr I3.sz) nC λ p hp z=>?_,q⟩⟩
   exact absurd (ax (I3.pin p hp).1) (by rw[z];exact bu _))
 exact hW L (T.self _ _ _ _ _ a3 L)
def cb7:V->Option Int->Option Int->Hp->VK->Prop:=λ x lo hi H Q=>∃ z,x=.str z/\z.length<=aG/\Q (.str (fH z lo hi)) H
theorem ay6 {v:Value}{o:Option Int}(p:gB v o):∃ q:Option (Int×Tok),v=partValue q/\q.map (·.1)=o:=by
 cases p with
 | none=>exact⟨none,rfl,rfl⟩
 | int i t=>exact⟨some (i,t),rfl,rfl⟩
theorem bL6 {X:Cx}:SlR X cb7:=by
 intro Y s σ H x v vl vu C G sl Q I rx hs pl pu h
 obtain⟨z,rfl,hz,q⟩:=h
 obtain⟨t,rfl⟩:=rx
 obtain⟨l,rfl,Z⟩:=ay6 pl
 obtain⟨u,rfl,eu⟩:=ay6 pu
 refine⟨"str",_,F.slot_str_getitem.lookup,kz s z t,?_⟩
 refine wpAny_getItem_str_slice (l:=l) (u:=u) (st:=none) hs rfl ?_
 unfold sliceMade
 have e:slicePicked z l u none=bD C G 1 z.length:=by
  unfold slicePicked
  rw[Z,eu]
  rfl
 rw[e]
 unfold fH at q
 split
 ·rename_i hc
  have y:((1:Int)==1&&(bD C G 1 z.length).length==z.length)=true:=hc
  rw[if_pos y]at q
  exact⟨.str z,H,I,⟨t,rfl⟩,q⟩
 ·rename_i hc
  have y:¬((1:Int)==1&&(bD C G 1 z.length).length==z.length)=true:=hc
  rw[if_neg y]at q
  have J:(Str.mk (iV (λ x=>z.cps[x]?) (bD C G 1 z.length)).toArray).length<=aG:=by
   show(iV (λ x=>z.cps[x]?) (bD C G 1 z.length)).toArray.size<=aG
   rw[ar]
   exact am (List.length_filterMap_le _ _) (am (sliceIndices_le C G z.length) hz)
  exact⟨J,.str _,H,I.tok _,⟨_,rfl⟩,q⟩
section
variable {M:Model} {A:aX} {E:Value->ag->Prop} {s₀ s:ag} {m cm:Str->Option Value} {env:Env} {cs:List (Str×Addr)}
theorem bu4 {n:Str}{v:Value}{Q:Unit->ag->Prop}(z:gk s₀ env.locals m cs cm s)(F:env.scope.kind=.function)(kl:env.kindOf n=some .local)
  (go:∀ s',gk s₀ env.locals (λ y=>if y=n then some v else m y) cs cm s'->Q () s'):wpAny M A (gH env n v) Q E s:=by
 refine iy kl z.toInCall.ns (λ g C h=>go _ ⟨⟨?a,C,λ b o e=>?b,z.toInCall.fresh⟩,λ k c e=>?c,z.apart,z.above⟩) (by rw[F];rfl)
 case a=>obtain⟨G,tk,e⟩:=z.toInCall.same;subst e;exact⟨g,_,rfl⟩
 case b=>exact h.extBut b o (aw (aq (ax e) z.toInCall.fresh)) (z.toInCall.keep b o e)
 case c=>exact(z.cell k c e).sameBut h (c6 (z.above k c (aA e)))
theorem bu8 {n:Str}{c:Addr}{v:Value}{Q:Unit->ag->Prop}(z:gk s₀ env.locals m cs cm s)(G:env.scope.kind=.function)(C:env.kindOf n=some .cell)
  (e1:env.cells.lookup n=some c) (e2:cs.lookup n=some c) (go:∀ s',gk s₀ env.locals m cs (λ y=>if y=n then some v else cm y) s'->Q () s'):wpAny M A (gH env n v) Q E s:=by
 have up:=z.above n c (aA e2)
 refine iH G C e1 (z.cell n c e2) λ g J h=>go _ ⟨⟨?a,z.toInCall.ns.sameBut h (aw up),λ b o e=>?b,z.toInCall.fresh⟩,λ k F e=>?c,z.apart,z.above⟩
 case a=>obtain⟨Y,tk,e⟩:=z.toInCall.same;subst e;exact⟨g,_,rfl⟩
 case b=>exact h.extBut b o (aw (eQ (aq (ax e) z.toInCall.fresh) up)) (z.toInCall.keep b o e)
 case c =>
  by_cases q:k=n
  ·subst q
   rw[e2]at e;cases e
   simpa using J
  ·rw[if_neg q]
   exact(z.cell k F e).sameBut h λ y=>q (gZ z.apart (aA e) (y▸aA e2))
theorem aE9 (f:Str×Value->PUnit->Sem (ForInStep PUnit))(J:∀ n v u,f (n,v) u=(do gH env n v;pure (.yield ⟨⟩)))(F:env.scope.kind=.function)(sub:∀ n c,cs.lookup n=some c->env.cells.lookup n=some c) :
  ∀(bs:List (Str×Value)) (m G:Str->Option Value) (s:ag) (Q:PUnit->ag->Prop),gk s₀ env.locals m cs G s ->
   (∀ y∈bs,env.kindOf y.1=some .local\/(env.kindOf y.1=some .cell/\∃ c,cs.lookup y.1=some c)) ->
   (∀ s',gk s₀ env.locals (bindL env.kindOf bs m) cs (bindC env.kindOf bs G) s'->Q ⟨⟩ s')->wpAny M A (forIn bs ⟨⟩ f) Q E s
 | [],m,G,s,Q,z,_,go=>by rw[iQ];exact ao (go s z)
 | (n,v)::r,m,G,s,Q,z,hy,go=>by
  rw[kh,J]
  have hr:=λ y (q:y∈r)=>hy y (av _ q)
  rcases hy (n,v) aB with kl|⟨Z,c,e2⟩
  ·refine ab (ab (bu4 z F kl λ s' Y=>ao (aE9 f J F sub r _ _ s' Q Y hr λ h C=>go h ?_)))
   unfold bindL bindC;rw[if_pos kl,if_pos kl];exact C
  ·have nl:¬ env.kindOf n=some .local:=by rw[Z];decide
   refine ab (ab (bu8 z F Z (sub n c e2) e2 λ s' Y=>ao (aE9 f J F sub r _ _ s' Q Y hr λ h C=>go h ?_)))
   unfold bindL bindC;rw[if_neg nl,if_neg nl];exact C
end
theorem aq3 {M:Model}{A:aX}{E:Value->ag->Prop}{s:ag}{scope:Scope}{globals:Addr}{h:List (Str×Addr)}{binds:List (Str×Value)}{qual:Str}{func:Option Addr}{code:Value}{builtins:Addr}{Q:Env->ag->Prop}
  (F:scope.kind=.function) (hy:∀ y∈binds,scope.names.lookup y.1=some .local\/(scope.names.lookup y.1=some .cell/\∃ c,(aM (s.heap.objs.size+1) scope.names []).lookup y.1=some c))
  (go:∀ env,env=newEnv scope s.heap.objs.size globals (aM (s.heap.objs.size+1) scope.names h) qual func code none builtins ->
   ∀ s',gk s env.locals (bindL env.kindOf binds λ _=>none) (aM (s.heap.objs.size+1) scope.names []) (bindC env.kindOf binds λ _=>none) s'->Q env s') :
  wpAny M A (f7 scope globals h binds qual func code none builtins) Q E s:=by
 simp only[f7,jy,bz,if_false]
 refine ab (wpAny_alloc (ab (wpAny_layCells _ (λ G kd J=>by cases q:kd==NameKind.cell<;>simp[q]) _ _ _ _ ?_)))
 have ok:=cellsFrom_ok scope.names (s.heap.push { cls:=.type "frame",data:=.dict #[] }) (s.heap.objs.size+1) [] ⟨λ _ _ C=>(nomatch C),List.Pairwise.nil⟩ (by rw[bW];exact ak _)
 have z:({ s with heap:=s.heap.push { cls:=.type "frame",data:=.dict #[] } }:ag).heap.objs.size=s.heap.objs.size+1:=bW ..
 rw[bW]at ok
 rw[z]
 refine ab (aE9 (s₀:=s) (cs:=aM (s.heap.objs.size+1) scope.names []) (env:=newEnv scope s.heap.objs.size globals (aM (s.heap.objs.size+1) scope.names h) qual func code none builtins)
  _ (λ _ _ _=>rfl) F (λ n c e=>?sub) binds (λ _=>none) (λ _=>none) _ _ ⟨⟨⟨_,_,rfl⟩,?ns,λ b o e=>?k,ak _⟩,λ n c e=>(ok.empty n c (aA e)).1,ok.apart,λ n c e=>(ok.empty n c e).2⟩ hy λ s' x=>ao (go _ rfl s' x))
 case sub =>
  show(aM _ _ _).lookup n=some c
  rw[zl,zB,e];rfl
 case ns=>exact(li s.heap (.type "frame")).keeps (dJ _ _)
 case k=>exact dJ _ _ b o (af _ e)
noncomputable def z0 (c:Addr)(qual:Str):HO:=.ext λ h=>h.CodeRec (.ref c) qual
noncomputable def as5 (f:Addr)(fd:bQ):HO:=.ext λ h=>h.get? f=some { cls:=.type "function",data:=.func fd }
theorem aH9 {P:aJ}{w:World}{H:Hp}{h:Heap}{c:Addr}{q:Str}(r:h.CodeRec (.ref c) q):ab6 P w H h c (z0 c q):=by
 refine⟨r,?_,λ F C z k=>?_⟩
 ·obtain⟨y,o,vs,t,e,g,_⟩:=r
  cases e
  exact⟨o,g⟩
 ·obtain⟨y,o,vs,t,e,g,d⟩:=z
  cases e
  exact⟨c,o,vs,t,rfl,k o g,d⟩
theorem aA2 {P:aJ}{w:World}{H:Hp}{h:Heap}{c:Addr}{q:Str}(x:HOk P w H h)(e:H c=some (z0 c q)):h.CodeRec (.ref c) q:=(x c _ e).1
theorem as4 {P:aJ}{w:World}{H:Hp}{h:Heap}{f:Addr}{y:bQ}(r:h.get? f=some { cls:=.type "function",data:=.func y }):ab6 P w H h f (as5 f y) :=
 ⟨r,⟨_,r⟩,λ _ _ z k=>k _ z⟩
theorem av3 {P:aJ}{w:World}{H:Hp}{h:Heap}{f:Addr}{y:bQ}(x:HOk P w H h)(e:H f=some (as5 f y)):h.get? f=some { cls:=.type "function",data:=.func y }:=(x f _ e).1
noncomputable def isC (cells:List (Str×Addr))(b:Addr):Bool:=cells.any λ p=>cells.lookup p.1==some b
theorem ae1 {cells:List (Str×Addr)}{b:Addr}:isC cells b=true↔∃ x,cells.lookup x=some b:=by
 unfold isC
 rw[j0]
 constructor
 ·rintro⟨p,_,e⟩;exact⟨p.1,by simpa using e⟩
 ·rintro⟨x,e⟩;exact⟨(x,b),aA e,by simpa using e⟩
noncomputable def ab5 (cells:List (Str×Addr))(H:Hp):Hp:=λ b=>if isC cells b=true then none else H b
noncomputable def Put (cells:List (Str×Addr))(H H':Hp):Hp:=λ b=>if isC cells b=true then H b else H' b
theorem ab5.cell {cells:List (Str×Addr)}{H:Hp}{b:Addr}(h:isC cells b=true):ab5 cells H b=none:=if_pos h
theorem ab5.ne {cells:List (Str×Addr)}{H:Hp}{b:Addr}(h:isC cells b≠true):ab5 cells H b=H b:=if_neg h
theorem ab5.some {cells:List (Str×Addr)}{H:Hp}{b:Addr}{o:HO}(h:ab5 cells H b=some o):isC cells b≠true/\H b=some o:=by
 unfold ab5 at h
 split at h
 ·cases h
 ·rename_i z;exact⟨z,h⟩
theorem ab5.none {cells:List (Str×Addr)}{H:Hp}{b:Addr}(h:H b=none):ab5 cells H b=none:=by
 unfold ab5
 split
 ·rfl
 ·exact h
theorem Put.cell {cells:List (Str×Addr)}{H H':Hp}{b:Addr}(h:isC cells b=true):Put cells H H' b=H b:=if_pos h
theorem Put.ne {cells:List (Str×Addr)}{H H':Hp}{b:Addr}(h:isC cells b≠true):Put cells H H' b=H' b:=if_neg h
def Cells (clos:List (Str×Addr))(H:Hp):Prop:=∀ x c,clos.lookup x=some c->∃ o v,H c=some (.frz o (.own c))/\o.data=.cell v
theorem Cells.at {y:List (Str×Addr)}{H:Hp}(z:Cells y H){b:Addr}(h:isC y b=true):∃ o v,H b=some (.frz o (.own b))/\o.data=.cell v:=by
 obtain⟨x,e⟩:=ae1.mp h
 exact z x b e
def Cap (clos:List (Str×Addr))(H:Hp)(fr:List Str)(cap:List V):Prop:=∀(i:Nat) (x:Str) (v:V),fr[i]?=some x->cap[i]?=some v->∃ c o u,clos.lookup x=some c/\H c=some (.frz o (.own c))/\o.data=.cell (some u)/\RelV v u
structure LamScope (N ps fr:List Str)(sc:Scope):Prop where
 kind:sc.kind=.function
 co:sc.isCoroutine=false
 gen:sc.isGenerator=false
 nd:N.Nodup
 app:N=ps++fr
 par:∀ x∈ps,sc.names.lookup x=some .local\/sc.names.lookup x=some .cell
 frs:∀ x∈fr,sc.names.lookup x=some .free
 cel:∀ y∈sc.names,y.2=.cell->sc.names.lookup y.1=some .cell
noncomputable def aG3 (P:aJ)(w:World)(K:ae)(mg:Str->Option Value)(base:Heap)(N:List Str)(qual:Str)(scope:Scope)(f:Addr)(cd:Value)(clos:List (Str×Addr))(A:aX)(outer:List Env)(s:ag)(H:Hp):Cx where
 prog:=P
 w:=w
 K:=K
 mg:=mg
 base:=base
 A:=A.deeper (dD qual scope s.heap.objs.size f cd (aM (s.heap.objs.size+1) scope.names clos))
 N:=N
 s₀:=s
 H₀:=ab5 clos H
 env:=dD qual scope s.heap.objs.size f cd (aM (s.heap.objs.size+1) scope.names clos)
 outer:=outer
 stack:=dD qual scope s.heap.objs.size f cd (aM (s.heap.objs.size+1) scope.names clos)::outer
 ex:=[]
 fn:=λ x=>scope.names.lookup x==some .cell
 calm:=true
 pn:=[]
 xe:=λ _ _=>False
theorem HOk.drop {P:aJ}{w:World}{H:Hp}{h:Heap}{C:List (Str×Addr)}(x:HOk P w H h)(z:Cells C H):HOk P w (ab5 C H) h:=λ b o e=>by
 obtain⟨_,e'⟩:=ab5.some e
 have G:∀ c u,H c=some u->(∀ o v,u≠.frz o v)->isC C c≠true:=λ c u q d y=>by
  obtain⟨o,v,F,_⟩:=z.at y
  rw[q]at F;cases F
  exact d _ _ rfl
 exact(x b o e').stay (λ _ _ _ q=>q) (λ c q=>by rw[ab5.ne (G c _ q λ _ _=>by nofun)];exact q) λ c J q=>by rw[ab5.ne (G c _ q λ _ _=>by nofun)];exact q
theorem aX0 {P:aJ}{w:World}{K:ae}{mg:Str->Option Value}{G:Heap}{N ps fr:List Str}{qual:Str}{scope:Scope}{f:Addr}{cd:Value}{h:List (Str×Addr)}{A:aX}{outer:List Env}{s s1:ag}{H:Hp}{us:List Value}{vs cap:List V}
  (S:LamScope N ps fr scope) (hd:A.handled=none) (C:Env0 P w K mg G A outer s H) (hl:vs.length=ps.length) (a2:cap.length=fr.length) (r:Vals vs us)
  (hc:Cells h H) (inj:∀ x y c,h.lookup x=some c->h.lookup y=some c->x=y) (a4:∀ x,scope.names.lookup x=some .free->∃ c,h.lookup x=some c) (a1:Cap h H fr cap)
  (x:gk s s.heap.objs.size (bindL (dD qual scope s.heap.objs.size f cd (aM (s.heap.objs.size+1) scope.names h)).kindOf (ps.zip us) λ _=>none) (aM (s.heap.objs.size+1) scope.names [])
   (bindC (dD qual scope s.heap.objs.size f cd (aM (s.heap.objs.size+1) scope.names h)).kindOf (ps.zip us) λ _=>none) s1) :
  Inv (aG3 P w K mg G N qual scope f cd h A outer s H) [] (vs.map some++cap.map some) (ab5 h H) s1:=by
 obtain⟨h1,tk,rfl,hk⟩:=x.done
 have J:∀ b:Addr,b ∉ (aG3 P w K mg G N qual scope f cd h A outer s H).ex:=λ b z=>absurd (show b∈([]:List Addr)from z) (by simp)
 have lk:∀ y c,(aM (s.heap.objs.size+1) scope.names h).lookup y=some c->(aM (s.heap.objs.size+1) scope.names []).lookup y=some c\/((aM (s.heap.objs.size+1) scope.names []).lookup y=none/\h.lookup y=some c):=λ y c e=>by
  rw[zl,zB]at e
  cases q:(aM (s.heap.objs.size+1) scope.names []).lookup y with
  | some d=>rw[q]at e;left;simpa using e
  | none=>rw[q]at e;right;exact⟨rfl,by simpa using e⟩
 have own:∀ y c,(aM (s.heap.objs.size+1) scope.names []).lookup y=some c->s.heap.objs.size<c:=λ y c e=>x.above y c (aA e)
 have Y:∀ y c,h.lookup y=some c->c<s.heap.objs.size:=λ y c e=>by
  obtain⟨o,v,q,_⟩:=hc y c e
  exact C.hok.lt q
 have hx:∀ y c,h.lookup y=some c->scope.names.lookup y=some .free->(aM (s.heap.objs.size+1) scope.names h).lookup y=some c:=λ y c e k=>by
  rw[zl,zB]
  cases q:(aM (s.heap.objs.size+1) scope.names []).lookup y with
  | none=>exact e
  | some d =>
   rcases zx (aA q)with z|z
   ·rw[S.cel _ z rfl]at k;cases k
   ·exact absurd z (by simp)
 have dn:∀ b,H b=none->ab5 h H b=none:=λ b e=>ab5.none e
 refine⟨⟨C.mod,S.kind,rfl,rfl,ak _,λ y z c a b=>?inj,λ y hy=>?has,λ y c hy e=>?cab,λ _=>hd,iL C.frames,.inr ⟨rfl,rfl⟩,λ b z=>absurd z (J b),λ b o e=>⟨(C.bs b o e).1,dn b (C.bs b o e).2⟩,C.bsz,λ b _ _=>J b,λ b z=>absurd z (J b),C.funs,λ b hb=>dn b (C.frf b hb)⟩,
  rfl,C.bare,Un.kept hk,⟨_,x.toInCall.ns,λ i y v q1 q2 q3=>?loc⟩,λ y c e=>?cell,dn _ (C.hok.fresh (ak _)),λ y c e=>?freeC,λ p hp=>absurd (show p∈([]:List (Addr×Obj))from hp) (by simp),(C.hok.drop hc).kept hk,?len⟩
 case inj =>
  rcases lk y c a with a|⟨_,a⟩<;>rcases lk z c b with b|⟨_,b⟩
  ·exact gZ x.apart (aA a) (aA b)
  ·exact absurd (eQ (own _ _ a) (Y _ _ b)) (bu _)
  ·exact absurd (eQ (own _ _ b) (Y _ _ a)) (bu _)
  ·exact inj y z c a b
 case has =>
  have hy:scope.names.lookup y=some .cell\/scope.names.lookup y=some .free:=hy
  rcases hy with hy|hy
  ·obtain⟨c,e⟩:=zN (n:=s.heap.objs.size+1) hy
   refine⟨c,?_⟩
   show(aM (s.heap.objs.size+1) scope.names h).lookup y=some c
   rw[zl,zB,e];rfl
  ·obtain⟨c,e⟩:=a4 y hy
   exact⟨c,hx y c e hy⟩
 case cab =>
  have hy:(scope.names.lookup y==some .cell)=true:=hy
  have a3:scope.names.lookup y=some .cell:=by simpa using hy
  rcases lk y c e with a|⟨a,_⟩
  ·exact d7 (own y c a)
  ·obtain⟨d,q⟩:=zN (n:=s.heap.objs.size+1) a3
   rw[q]at a;cases a
 case loc =>
  have Z:ps.Nodup:=by have:=S.nd;rw[S.app]at this;exact(List.nodup_append.mp this).1
  by_cases hi:i<vs.length
  ·have ha:vs[i]?=some v:=by
    rw[aN (by simpa using hi),aE]at q2
    cases e:vs[i]? with
    | none=>rw[e]at q2;cases q2
    | some a=>rw[e]at q2;cases q2;rfl
   obtain⟨u,hu,rv⟩:=r.get ha
   have hp:ps[i]?=some y:=by
    have F:N[i]?=some y:=q1
    rw[S.app,aN (by omega)]at F;exact F
   refine⟨u,rv,?_⟩
   rcases S.par y (aK hp)with k|k
   ·exact .inl ⟨k,al9 Z hp hu k⟩
   ·obtain⟨c,e⟩:=zN (n:=s.heap.objs.size+1) k
    refine .inr ⟨.inl k,c,?_,?_⟩
    ·show(aM (s.heap.objs.size+1) scope.names h).lookup y=some c
     rw[zl,zB,e];rfl
    ·have q:=x.cell y c e
     rw[am9 Z hp hu (by show scope.names.lookup y≠_;rw[k];decide)]at q
     exact q
  ·have hf:fr[i - vs.length]?=some y:=by
    have F:N[i]?=some y:=q1
    rw[S.app,be (by omega)]at F;rw[hl];exact F
   have hv:cap[i - vs.length]?=some v:=by
    rw[be (by simpa using hi),aE,au]at q2
    cases e:cap[i - vs.length]? with
    | none=>rw[e]at q2;cases q2
    | some a=>rw[e]at q2;cases q2;rfl
   obtain⟨c,o,u,e1,e2,e3,e4⟩:=a1 _ y v hf hv
   have kf:=S.frs y (aK hf)
   refine⟨u,e4,.inr ⟨.inr kf,c,hx y c e1 kf,?_⟩⟩
   exact⟨o,hk c o (C.hok c _ e2).1,e3⟩
 case cell =>
  rcases lk y c e with a|⟨_,a⟩
  ·exact⟨_,x.cell y c a⟩
  ·obtain⟨o,v,q,d⟩:=hc y c a
   exact⟨v,o,hk c o (C.hok c _ q).1,d⟩
 case freeC =>
  rcases lk y c e with a|⟨_,a⟩
  ·exact dn c (C.hok.fresh (d7 (own y c a)))
  ·exact ab5.cell (ae1.mpr ⟨y,a⟩)
 case len =>
  show _=N.length
  rw[S.app]
  simp[hl,a2]
theorem aW8 {P:aJ}{w:World}{outer:List Env}{H H':Hp}{s s':ag}{h:List (Str×Addr)}(hok:HOk P w H s.heap)(hc:Cells h H)(frf:∀ b∈frs outer,H b=none)
  (un:Un (frs outer) [] (ab5 h H) H' s.heap s'.heap) (G:HOk P w H' s'.heap):Un (frs outer) [] H (Put h H H') s.heap s'.heap/\HOk P w (Put h H H') s'.heap:=by
 have nc:∀ b,H b=none->isC h b≠true:=λ b e y=>by
  obtain⟨o,v,q,_⟩:=hc.at y
  rw[e]at q;cases q
 have C:∀ c u,H c=some u->(∀ o v,u≠.frz o v)->isC h c≠true:=λ c u q d y=>by
  obtain⟨o,v,Z,_⟩:=hc.at y
  rw[q]at Z;cases Z
  exact d _ _ rfl
 have F:∀ b,isC h b=true->H' b=none:=λ b y=>by
  obtain⟨o,v,q,_⟩:=hc.at y
  exact un.free b o (hok b _ q).1 (ab5.cell y) (by simp)
 refine⟨⟨λ b o e n hb hx=>un.keep b o e (ab5.none n) hb hx,λ b o e n hb hx=>un.slot b o e (ab5.none n) hb hx,λ b o e n hx=>?_,λ b o e hx=>un.there b o e hx,λ b Y e=>?_,λ b o u e=>?_,λ b ps e=>?_⟩,λ b o e=>?_⟩
 ·rw[Put.ne (nc b n)];exact un.free b o e (ab5.none n) hx
 ·have z:=C b _ e λ _ _=>by nofun
  rw[Put.ne z];exact un.tups b Y (by rw[ab5.ne z];exact e)
 ·by_cases z:isC h b=true
  ·rw[Put.cell z];exact e
  ·rw[Put.ne z];exact un.frzs b o u (by rw[ab5.ne z];exact e)
 ·have z:=C b _ e λ _ _=>by nofun
  rw[Put.ne z];exact un.tbls b ps (by rw[ab5.ne z];exact e)
 ·by_cases z:isC h b=true
  ·rw[Put.cell z]at e
   obtain⟨ob,v,q,d⟩:=hc.at z
   rw[q]at e;cases e
   have g:=(hok b _ q).1
   have g':=un.keep b ob g (ab5.cell z) (λ y=>by rw[frf b y]at q;cases q) (by simp)
   exact⟨g',ob,g'⟩
  ·rw[Put.ne z]at e
   have J:∀ c u,H' c=some u->Put h H H' c=some u:=λ c u q=>by
    rw[Put.ne λ y=>by rw[F c y]at q;cases q];exact q
   exact(G b o e).stay (λ _ _ _ q=>q) (λ c q=>J c _ q) λ c Y q=>J c _ q
structure ClOk (P:aJ)(w:World)(K:ae)(mg:Str->Option Value)(base:Heap)(k:Nat)(R:Hp->Prop)(f:Addr)(sp:Sp):Prop where
 run:∀(A:aX) (outer:List Env) (s:ag) (H:Hp) (us:List Value) (vs:List V) (Q:VK),Room k A->Env0 P w K mg base A outer s H->R H->Vals vs us->sp vs H Q E0 ->
  fw (model P w) A (.call (.ref f) ⟨us,[]⟩) (CR CX0 outer P w H s Q E0) s
theorem ClOk.ofFn {P:aJ}{w:World}{K:ae}{mg:Str->Option Value}{y:Heap}{k:Nat}{f:Addr}{C:bQ}{ps:List Str}{sp:Sp}(F:FnOk P w K mg y CX0 k f C ps sp)(hb:Binds K C ps []):ClOk P w K mg y k (λ _=>True) f sp :=
 ⟨λ A outer s H us vs Q hr z _ r h=>by
  have hl:=F.len _ _ _ _ h
  have:=hb s us (z.mod.kin.keeps λ b o e=>(z.bs b o e).1) (by rw[aZ,<-r.length];exact hl)
  rw[aZ]at this
  exact F.run A outer s H ⟨us,[]⟩ us vs Q E0 hr z this r h⟩
def ax8 (H:Hp)(f:Addr)(qual:Str)(params:bp)(body:Expr)(scope:Scope)(fr:List Str)(cap:List V)(clos:List (Str×Addr)):Prop :=
 ∃ pm c' ctv,H f=some (as5 f (bX "<lambda>" qual params body scope clos pm (.ref c') ctv))/\H c'=some (z0 c' qual)/\Cells clos H /\
  (∀ x y c,clos.lookup x=some c->clos.lookup y=some c->x=y)/\(∀ x,scope.names.lookup x=some .free->∃ c,clos.lookup x=some c)/\Cap clos H fr cap
def BM (mg:Str->Option Value)(base:Heap):Prop:=∃ bm ob,mg "__builtins__"=some (.ref bm)/\bm≠gW/\base.get? bm=some ob/\ob.cls=.type "module"/\ob.dict=some gW/\ob.data=.plain
def bY5 (cells:List (Str×Addr))(P:Addr)(qual:Str)(params:bp)(body:Expr)(scope:Scope)(pos:Pos):TE:=λ _ H Q =>
 ∃ ps:Array Value,H P=some (.tbl ps)/\i8 ps.toList /\
  (dq pos ps.toList=none->∀ c' f pm ctv,H c'=none->H f=none->c'≠f ->
   Q (.ref f) (upd (upd (upd H P (.tbl (ps++#[cR pos.line,cR pos.col,.ref c']))) c' (z0 c' qual)) f (as5 f (bX "<lambda>" qual params body scope (ad3 cells scope.names []) pm (.ref c') ctv)))) /\
  (∀ cv,dq pos ps.toList=some cv->∃ c',cv=.ref c'/\∀ f pm ctv,H f=none->Q (.ref f) (upd H f (as5 f (bX "<lambda>" qual params body scope (ad3 cells scope.names []) pm (.ref c') ctv))))
noncomputable def lamCheck (scope xs:Scope):Bool:=scope.names.all λ y=>!(y.2==.free)||(xs.names.lookup y.1==some .cell||xs.names.lookup y.1==some .free)
theorem aW9 {X:Cx}{c P:Addr}{params:bp}{body:Expr}{scope:Scope}{pos:Pos}(J:X.env.code=.ref c)(C:bZ X.base c P)(hB:BM X.mg X.base)
  (b7:lamCheck scope X.env.scope=true) (a7:kD params X.env=([],[]):=by rfl) :
  PE X (.Lambda params body scope pos) (bY5 X.env.cells P (X.env.qual ++ "<lambda>") params body scope pos):=by
 intro c4 s σ H Q I h
 have c0:∀ y∈scope.names,y.2=.free->X.env.kindOf y.1=some .cell\/X.env.kindOf y.1=some .free:=λ y hy e=>by
  have z:=aW.mp b7 y hy
  have z':X.env.scope.names.lookup y.1=some .cell\/X.env.scope.names.lookup y.1=some .free:=by simpa [e]using z
  exact z'
 obtain⟨ps,hP,ht,a3,a2⟩:=h
 refine PySem.W.kla_eval a7 ?_
 have a5:=zW (scope:=scope) (env:=X.env) λ y hy e=>I.ok.has y.1 (c0 y hy e)
 have oP:s.heap.get? P=some (eR ps):=I.hok P _ hP
 have Z:s.heap.Ns bw X.mg:=I.mod.glob.keeps I.bk
 have hC:bZ s.heap c P:=C.keeps I.bk
 have b0:bw≠P:=λ q=>by
  obtain⟨o,es,ep,e,d,_⟩:=Z
  rw[q,oP]at e;cases e;cases d
 have hb:s.heap.BuiltinsAt X.mg P:=by
  obtain⟨bm,ob,b1,b2,b3,b4,b5,b6⟩:=hB
  refine⟨bm,ob,b1,b2,λ q=>?_,λ q=>?_,I.bk _ _ b3,b4,b5,b6⟩
  ·obtain⟨o,es,ep,e,d,_⟩:=I.mod.glob
   rw[q,e]at b3;cases b3;rw[d]at b6;cases b6
  ·have e:=I.bk _ _ b3
   rw[q,oP]at e;cases e;cases b4
 cases q:dq pos ps.toList with
 | none =>
  refine PySem.W.kla_makeFunction (mg:=X.mg) a5 I.ok.glob Z J hC oP ht q b0 hb λ F G h' tk hx hge hlt a1 a9=>?_
  have a8:P<s.heap.objs.size:=ax oP
  have b8:F≠P:=c6 (aq a8 hge)
  have c3:h'.objs.size≠P:=c6 (eQ (aq a8 hge) hlt)
  have c1:F≠h'.objs.size:=aw hlt
  have hsz:s.heap.objs.size<=h'.objs.size:=am hge (d7 hlt)
  have nP:∀ b,H b=none->b≠P:=λ b n z=>by rw[z,hP]at n;cases n
  have lt:∀ b o,H b=some o->b≠F/\b≠h'.objs.size:=λ b o e=>⟨aw (aq (I.hok.lt e) hge),aw (aq (I.hok.lt e) hsz)⟩
  have a4:∀ b o,s.heap.get? b=some o->b≠F/\b≠h'.objs.size:=λ b o e=>⟨aw (aq (ax e) hge),aw (aq (ax e) hsz)⟩
  have keep:∀ b o,b≠P->s.heap.get? b=some o->(h'.push (PySem.W.kla_obj "<lambda>" (X.env.qual ++ "<lambda>") params body scope (ad3 X.env.cells scope.names []) ((X.mg "__name__").getD .none) F G)).get? b=some o:=λ b o n e=>af _ (hx b o n e)
  have Y:∀ b,b≠P->b≠F->b≠h'.objs.size->∀ o1 o2 o3,upd (upd (upd H P o1) F o2) h'.objs.size o3 b=H b:=λ b n1 n2 n3 o1 o2 o3=>by rw[za n3,za n2,za n1]
  refine⟨.ref h'.objs.size,upd (upd (upd H P (.tbl (ps++#[cR pos.line,cR pos.col,.ref F]))) F (z0 F (X.env.qual ++ "<lambda>"))) h'.objs.size (as5 h'.objs.size (bX "<lambda>" (X.env.qual ++ "<lambda>") params body scope (ad3 X.env.cells scope.names []) ((X.mg "__name__").getD .none) (.ref F) G)),I.un (t':=tk) ⟨λ b o e n _ _=>keep b o (nP b n) e,λ b o e n _ _=>⟨o.slots,keep b o (nP b n) e⟩,λ b o e n _=>?fr,λ b o e _=>?th,λ b xs e=>?tu,λ b o u e=>?fz,λ b qs e=>?tb⟩ ?ok,rfl,a3 q F h'.objs.size _ G (I.hok.fresh hge) (I.hok.fresh hsz) c1⟩
  case fr=>rw[Y b (nP b n) (a4 b o e).1 (a4 b o e).2];exact n
  case th =>
   by_cases z:b=P
   ·subst z;exact⟨_,af _ a9⟩
   ·exact⟨o,keep b o z e⟩
  case tu=>rw[Y b (λ z=>by rw[z,hP]at e;cases e) (lt b _ e).1 (lt b _ e).2];exact e
  case fz=>rw[Y b (λ z=>by rw[z,hP]at e;cases e) (lt b _ e).1 (lt b _ e).2];exact e
  case tb =>
   by_cases z:b=P
   ·subst z
    rw[hP]at e;cases e
    exact⟨#[cR pos.line,cR pos.col,.ref F],by rw[za (bJ c3),za (bJ b8),zb]⟩
   ·exact⟨#[],by rw[Y b z (lt b _ e).1 (lt b _ e).2,e];simp⟩
  case ok =>
   intro b o e
   by_cases zf:b=h'.objs.size
   ·subst zf
    rw[zb]at e;cases e
    exact as4 (az _ rfl)
   ·rw[za zf]at e
    by_cases zc:b=F
    ·subst zc
     rw[zb]at e;cases e
     obtain⟨c2,oc,vs,t,e1,e2,e3⟩:=a1
     exact aH9 ⟨c2,oc,vs,t,e1,af _ e2,e3⟩
    ·rw[za zc]at e
     by_cases zp:b=P
     ·subst zp
      rw[zb]at e;cases e
      exact af _ a9
     ·rw[za zp]at e
      have a6:∀ d u,H d=some u->(∀ ps,u≠.tbl ps)->upd (upd (upd H P (.tbl (ps++#[cR pos.line,cR pos.col,.ref F]))) F (z0 F (X.env.qual ++ "<lambda>"))) h'.objs.size (as5 h'.objs.size (bX "<lambda>" (X.env.qual ++ "<lambda>") params body scope (ad3 X.env.cells scope.names []) ((X.mg "__name__").getD .none) (.ref F) G)) d=some u:=λ d u e nt=>by
       rw[Y d (λ z=>by rw[z,hP]at e;cases e;exact nt _ rfl) (lt d _ e).1 (lt d _ e).2];exact e
      refine(I.hok b o e).stay (λ d u hd q=>keep d u ?_ q) (λ d q=>a6 d _ q λ _=>by nofun) λ d xs q=>a6 d _ q λ _=>by nofun
      rintro rfl
      rcases hd with hd|hd
      ·exact zp hd.symm
      ·rw[hP]at hd;cases hd
 | some cv =>
  obtain⟨F,rfl,hq⟩:=a2 cv q
  refine PySem.W.kla_makeFunctionHit (mg:=X.mg) a5 I.ok.glob Z J hC oP ht q hb λ G h' tk hk hsz=>?_
  refine⟨.ref h'.objs.size,_,I.laid (t':=tk) (λ b o e=>af _ (hk b o e)) hsz (as4 (az _ rfl)),rfl,hq h'.objs.size _ G (I.hok.fresh hsz)⟩
structure Caught (cl:List (Str×Addr))(N:List Str)(kd:Str->Option bR)(σ:St)(H1 H2:Hp):Prop where
 ne:∀ b,isC cl b≠true->H2 b=H1 b
 free:∀ b,isC cl b=true->H1 b=none
 cells:Cells cl H2
 cap:∀(i:Nat) (x:Str) (v:V) (c:Addr),N[i]?=some x->σ[i]?=some (some v)->(kd x=some .cell\/kd x=some .free)->cl.lookup x=some c->∃ o u,H2 c=some (.frz o (.own c))/\o.data=.cell (some u)/\RelV v u
 inj:∀ x y c,cl.lookup x=some c->cl.lookup y=some c->x=y
def bK0 (cl:List (Str×Addr))(N:List Str)(kd:Str->Option bR)(sp:Sp)(t:TA):TE:=λ σ H Q=>t σ H λ vs H1=>∀ H2,Caught cl N kd σ H1 H2->sp vs H2 (λ v H3=>Q v (ab5 cl H3)) E0
theorem bu9 {X:Cx}{k:Nat}{f:Addr}{fd:bQ}{ps:List Str}{sp:Sp}{J:List (Addr×Obj)}{σ:St}{H:Hp}{s:ag}{Q:VK}{us:List Value}{vs:List V}(F:FnOk X.prog X.w X.K X.mg X.base CX0 k f fd ps sp)(hr:Room k X.A)(hb:Binds X.K fd ps [])
  (a7:∀ x,X.fn x=true) (I:Inv X J σ H s) (r:Vals vs us) (h:∀ H2,Caught X.env.cells X.N X.env.kindOf σ H H2->sp vs H2 (λ v Z=>Q v (ab5 X.env.cells Z)) E0):wpAny (model X.prog X.w) X.A (call (.ref f) us) (EP X J σ Q) X.xe s:=by
 let H2:Hp:=λ b=>if isC X.env.cells b=true then(s.heap.get? b).map λ o=>.frz o (.own b)else H b
 have C:∀ b,isC X.env.cells b≠true->H2 b=H b:=λ b z=>if_neg z
 have G:∀ b,isC X.env.cells b=true->∃ o v,s.heap.get? b=some o/\o.data=.cell v/\H2 b=some (.frz o (.own b)):=λ b z=>by
  obtain⟨x,e⟩:=ae1.mp z
  obtain⟨v,o,g,d⟩:=I.cell x b e
  exact⟨o,v,g,d,by show(if _ then _ else _)=_;rw[if_pos z,g];rfl⟩
 have fr:∀ b,isC X.env.cells b=true->H b=none:=λ b z=>by
  obtain⟨x,e⟩:=ae1.mp z
  exact I.freeC x b e
 have up:∀ b,isC X.env.cells b=true->X.s₀.heap.objs.size<=b:=λ b z=>by
  obtain⟨x,e⟩:=ae1.mp z
  exact I.ok.cab x b (a7 x) e
 have a4:∀ b o,X.s₀.heap.get? b=some o->isC X.env.cells b≠true:=λ b o e z=>absurd (aq (ax e) (up b z)) (bu _)
 have a2:∀ b∈frs X.stack,isC X.env.cells b≠true:=λ b hb z=>by
  rcases aF.mp (I.stkSub b hb)with e|hb
  ·obtain⟨x,e2⟩:=ae1.mp z
   exact I.cne x b e2 e
  ·obtain⟨_,o,ho,_⟩:=I.ok.funs.mem hb
   exact a4 b o ho z
 have a8:HOk X.prog X.w H2 s.heap:=λ b o e=>by
  by_cases z:isC X.env.cells b=true
  ·obtain⟨ob,v,g,d,q⟩:=G b z
   rw[q]at e;cases e
   exact⟨g,ob,g⟩
  ·rw[C b z]at e
   have np:∀ c u,H c=some u->H2 c=some u:=λ c u q=>by rw[C c λ y=>by rw[fr c y]at q;cases q];exact q
   exact(I.hok b o e).stay (λ _ _ _ q=>q) (λ c q=>np c _ q) λ c xs q=>np c _ q
 have nb:∀ b o,X.base.get? b=some o->isC X.env.cells b≠true:=λ b o e=>a4 b o (I.ok.bs b o e).1
 have e0:Env0 X.prog X.w X.K X.mg X.base X.A X.stack s H2:=⟨I.ok.frames,I.ok.mod,λ b o e=>⟨(I.bs b o e).1,by rw[C b (nb b o e)];exact(I.bs b o e).2⟩,am I.ok.bsz I.sz,I.stack,λ b hb=>by rw[C b (a2 b hb)];exact I.stkFree b hb,a8,I.bare⟩
 have ca:Caught X.env.cells X.N X.env.kindOf σ H H2:=⟨C,fr,λ x c e=>by
   obtain⟨o,v,g,d,q⟩:=G c (ae1.mpr ⟨x,e⟩)
   exact⟨o,v,q,d⟩,λ i x v c e1 e2 e3 e4=>by
   obtain⟨m,hn,hl⟩:=I.loc
   have vis:Vis X.env.scope x:=e3.elim (λ z=>.inr (.inl z)) λ z=>.inr (.inr z)
   obtain⟨u,ru,lk⟩:=hl i x v e1 e2 vis
   rcases lk with⟨z,_⟩|⟨_,c2,z1,z2⟩
   ·rcases e3 with y|y<;>(rw[z]at y;cases y)
   ·rw[e4]at z1;cases z1
    obtain⟨o,w',g,d,q⟩:=G c (ae1.mpr ⟨x,e4⟩)
    obtain⟨o2,g2,d2⟩:=z2
    rw[g]at g2;cases g2
    exact⟨o,u,q,d2,ru⟩,I.ok.inj⟩
 have a6:=h H2 ca
 have hl:=F.len _ _ _ _ a6
 have a5:=hb s us I.kIn (by rw[aZ,<-r.length];exact hl)
 rw[aZ]at a5
 refine ku (fR (F.run X.A X.stack s H2 ⟨us,[]⟩ us vs _ E0 hr e0 a5 r a6) λ r s' hq=>?_)
 cases r with
 | error e=>exact bE hq
 | ok fl =>
  cases fl with
  | next=>exact bE hq
  | brk=>exact bE hq
  | cont=>exact bE hq
  | ret u =>
   obtain⟨v,Z,os,bare,un,a1,rv,q⟩:=hq
   have a3:∀ b,isC X.env.cells b=true->∃ o,s.heap.get? b=some o/\s'.heap.get? b=some o/\Z b=some (.frz o (.own b)):=λ b z=>by
    obtain⟨o,v,g,d,q2⟩:=G b z
    have q3:=un.frzs b o _ q2
    exact⟨o,g,(a1 b _ q3).1,q3⟩
   have Y:∀ b u,H b=some u->isC X.env.cells b≠true:=λ b u e y=>by rw[fr b y]at e;cases e
   refine⟨v,_,I.call' (H':=ab5 X.env.cells Z) (ch:=[]) os ⟨λ b o e n hb hx=>?k,λ b o e n hb hx=>?sl,λ b o e n hx=>?fr,λ b o e hx=>un.there b o e hx,λ b xs e=>?tu,λ b o u e=>?fz,λ b ps e=>?tb⟩ (λ b o e=>?hok) bare (λ b z=>absurd z (by simp)),rv,q⟩
   case k =>
    by_cases z:isC X.env.cells b=true
    ·obtain⟨o2,g,g',_⟩:=a3 b z
     rw[e]at g;cases g
     exact g'
    ·exact un.keep b o e (by rw[C b z];exact n) hb hx
   case sl=>exact un.slot b o e (by rw[C b (a2 b hb)];exact n) hb hx
   case fr =>
    by_cases z:isC X.env.cells b=true
    ·exact ab5.cell z
    ·exact ab5.none (un.free b o e (by rw[C b z];exact n) hx)
   case tu =>
    rw[ab5.ne (Y b _ e)]
    exact un.tups b xs (by rw[C b (Y b _ e)];exact e)
   case fz =>
    rw[ab5.ne (Y b _ e)]
    exact un.frzs b o u (by rw[C b (Y b _ e)];exact e)
   case tb =>
    rw[ab5.ne (Y b _ e)]
    exact un.tbls b ps (by rw[C b (Y b _ e)];exact e)
   case hok =>
    obtain⟨z,e3⟩:=ab5.some e
    have np:∀ c u,Z c=some u->(∀ o w',u≠.frz o w')->ab5 X.env.cells Z c=some u:=λ c u q d=>by
     rw[ab5.ne λ y=>by obtain⟨o,_,_,q3⟩:=a3 c y;rw[q]at q3;cases q3;exact d _ _ rfl];exact q
    exact(a1 b o e3).stay (λ _ _ _ q=>q) (λ c q=>np c _ q λ _ _=>by nofun) λ c xs q=>np c _ q λ _ _=>by nofun
theorem aJ2 {X:Cx}{k:Nat}{f:Addr}{Y:bQ}{ps:List Str}{sp:Sp}{x:Str}{p pos:Pos}{e:Expr}{es:List Expr}{t:TA}(F:FnOk X.prog X.w X.K X.mg X.base CX0 k f Y ps sp)(hr:Room k X.A)(hg:Gl X x)(hm:X.mg x=some (.ref f))(hk:cC X.K (.ref f)=true)(hb:Binds X.K Y ps [])
  (z:∀ x,X.fn x=true) (ha:PA X (e::es) t) (G:(x==("__debug__":Str))=false:=by decide) (Z:bn (e::es) X.env=(false,eval e X.env)::bn es X.env:=by rfl) (C:(dS pos (bn es X.env)).any (·.1)=false:=by rfl) :
  PE X (.Call (.Name x p) (e::es) [] pos) (bK0 X.env.cells X.N X.env.kindOf sp t):=by
 intro y s σ H Q I h
 refine cc (au8 I hg hm ?_ G)
 refine jt (h₀:=X.base) I.ok.mod.kin hk (thn (ha pos y s σ H _ I h) λ us s1 ⟨vs,H1,J,r,q⟩=>⟨J.kIn,?_⟩) Z C
 exact bu9 F hr hb z J r q
def bz8 (K:ae)(H:Hp)(f:Addr):Prop:=(∃ fd,H f=some (as5 f fd))\/∃ oc od fd sl,K.lookup f=some ⟨oc,od,.func fd,sl⟩
theorem bz8.at {X:Cx}{y:List (Addr×Obj)}{σ:St}{H:Hp}{s:ag}{f:Addr}(h:bz8 X.K H f)(I:Inv X y σ H s):PySem.W.FnAt f s.heap:=by
 rcases h with⟨z,h⟩|⟨oc,od,z,sl,h⟩
 ·exact⟨_,_,_,_,av3 I.hok h⟩
 ·exact⟨_,_,_,_,I.kIn _ _ h⟩
def bI2 (P:aJ)(w:World)(K:ae)(mg:Str->Option Value)(base:Heap)(k:Nat)(i:Nat)(t:TA):TE:=λ σ H Q=>∃ f,σ[i]?=some (some (.ref f))/\bz8 K H f/\t σ H λ vs H1=>bz8 K H1 f/\∃ R sp,ClOk P w K mg base k R f sp/\R H1/\sp vs H1 Q E0
theorem bF1 {X:Cx}{k:Nat}{f:Addr}{sp:Sp}{R:Hp->Prop}{y:List (Addr×Obj)}{σ:St}{H:Hp}{s:ag}{Q:VK}{us:List Value}{vs:List V}(F:ClOk X.prog X.w X.K X.mg X.base k R f sp)(hr:Room k X.A)(I:Inv X y σ H s)(z:R H)(r:Vals vs us)(h:sp vs H Q E0) :
  wpAny (model X.prog X.w) X.A (call (.ref f) us) (EP X y σ Q) X.xe s:=by
 refine ku (fR (F.run X.A X.stack s H us vs Q hr I.env0 z r h) λ r s' hq=>?_)
 cases r with
 | error e=>exact bE hq
 | ok fl =>
  cases fl with
  | ret u=>exact I.after hq
  | next=>exact bE hq
  | brk=>exact bE hq
  | cont=>exact bE hq
theorem bf9 {X:Cx}{P:aJ}{w:World}{K:ae}{mg:Str->Option Value}{base:Heap}{k i:Nat}{x:Str}{p pos:Pos}{e:Expr}{es:List Expr}{t:TA}(hP:X.prog=P)(hw:X.w=w)(hK:X.K=K)(C:X.mg=mg)(z:X.base=base)(hr:Room k X.A)(hv:PE X (.Name x p) (aZ8 i))(ha:PA X (e::es) t)
  (Z:bn (e::es) X.env=(false,eval e X.env)::bn es X.env:=by rfl) (G:(dS pos (bn es X.env)).any (·.1)=false:=by rfl) :
  PE X (.Call (.Name x p) (e::es) [] pos) (bI2 P w K mg base k i t):=by
 subst hP hw hK C z
 intro y s σ H Q I h
 obtain⟨f,hσ,hf,ht⟩:=h
 refine cc (thn (hv y s σ H (λ v H'=>v=.ref f/\H'=H) I ⟨.ref f,hσ,rfl,rfl⟩) λ u s0 ⟨v,H0,Y,r0,ev,eH⟩=>?_)
 subst ev
 subst eH
 cases r0
 exact PySem.W.callWith_F (q:=f) (hf.at Y) (thn (ha pos y s0 σ H0 _ Y ht) λ us s1 ⟨vs,H1,J,r,hF,R,sp,F,hR,q⟩=>⟨hF.at J,bF1 F hr J hR r q⟩) Z G
noncomputable def aw2 (K:ae)(names:List Str):List (Str×Addr×Addr):=names.filterMap λ x=>(bv K x).map λ p=>(x,p)
theorem ar4 {K:ae}{names:List Str}{y:Str×Addr×Addr}:y∈aw2 K names↔y.1∈names/\bv K y.1=some y.2:=by
 unfold aw2
 rw[dA]
 constructor
 ·rintro⟨x,hx,e⟩
  obtain⟨p,h,rfl⟩:=hZ.mp e
  exact⟨hx,h⟩
 ·rintro⟨hx,e⟩
  exact⟨y.1,hx,by rw[e];rfl⟩
def bo6 (K:ae)(names:List Str)(base:Heap):Prop:=∀ x∈names,∀ c P,bv K x=some (c,P)->bZ base c P
def bz1 (K:ae)(names:List Str)(H:Hp):Prop:=∀ x∈names,∀ c P,bv K x=some (c,P)->H P=some (.tbl #[])
noncomputable def bK6 (K:ae)(names:List Str)(ts:List Addr):Bool:=names.all λ x=>match bv K x with
 | some (c,P)=>j1 K c P&&ts.contains P
 | none=>true
theorem au9 {K:ae}{x:Str}(h:(bv K x).isSome=true):bv K x=some (((bv K x).getD (0,0)).1,((bv K x).getD (0,0)).2):=by
 obtain⟨p,e⟩:=gA.mp h
 rw[e]
 rfl
def bJ6 (H:Hp)(P:Addr)(q:Str):Prop:=∃ ps:Array Value,H P=some (.tbl ps)/\i8 ps.toList/\∀ pos cv,dq pos ps.toList=some cv->∃ c',cv=.ref c'/\H c'=some (z0 c' q)
def TabsH (T:List (Addr×Str))(H:Hp):Prop:=∀ y∈T,bJ6 H y.1 y.2
def aU6 (H H':Hp):Prop:=∀ b o,(∀ ps,o≠.tbl ps)->H b=some o->H' b=some o
theorem aU6.of {H y:Hp}(a:ad9 H y):aU6 H y:=λ c o _ h=>a c o h
theorem TabsH.keep {T:List (Addr×Str)}{H H':Hp}(h:TabsH T H)(k:∀ b o,(∀ C,o≠.lst C)->H b=some o->H' b=some o):TabsH T H':=λ y hy=>by
 obtain⟨ps,e,t,c⟩:=h y hy
 refine⟨ps,k _ _ (λ _=>by nofun) e,t,λ pos F q=>?_⟩
 obtain⟨z,e1,e2⟩:=c pos F q
 exact⟨z,e1,k _ _ (λ _=>by unfold z0;nofun) e2⟩
theorem TabsH.same {T:List (Addr×Str)}{H H':Hp}(h:TabsH T H)(s:ad9 H H'):TabsH T H':=h.keep λ b o _ e=>s b o e
theorem TabsH.new {T:List (Addr×Str)}{H:Hp}{a:Addr}{o:HO}(h:TabsH T H)(n:H a=none):TabsH T (upd H a o):=h.same ((ad9.refl H).new n)
theorem TabsH.put {T:List (Addr×Str)}{H:Hp}{a:Addr}{o:HO}{y:List V}(h:TabsH T H)(n:H a=some (.lst y)):TabsH T (upd H a o):=h.keep λ b u d e=>by
 rw[za λ z=>by subst z;rw[n]at e;cases e;exact d _ rfl];exact e
theorem TabsH.init {T:List (Addr×Str)}{H:Hp}(h:∀ p∈T.map (·.1),H p=some (.tbl #[])):TabsH T H:=λ y hy =>
 ⟨#[],h _ (aS hy),trivial,λ pos z e=>by simp[dq]at e⟩
theorem codeAmong_add {pos:Pos}{a b:Int}{c C:Value}:∀(l:List Value),i8 l->dq pos (l++[cR a,cR b,c])=some C->dq pos l=some C\/C=c:=by
 intro l
 fun_induction i8 l with
 | case1 =>
  intro _ e
  simp only[b9,dq,cR]at e
  split at e
  ·exact .inr (ay e).symm
  ·cases e
 | case2 x t y u z rest ih =>
  intro h e
  simp only[ci,dq]at e ⊢
  split at e
  ·rename_i q
   left;rw[if_pos q];exact e
  ·rename_i q
   rw[if_neg q];exact ih h e
 | case3 l h1 h2=>intro h;exact h.elim
theorem bc2 {cells:List (Str×Addr)}{N:List Str}{kd:Str->Option bR}{σ:St}{Y H2:Hp}{f:Addr}{q:Str}{params:bp}{body:Expr}{scope:Scope}{fr:List Str}{cap:List V}(G:Caught cells N kd σ Y H2)
  (hf:∃ Z C h,Y f=some (as5 f (bX "<lambda>" q params body scope (ad3 cells scope.names []) Z (.ref C) h))/\Y C=some (z0 C q))
  (J:∀ x,scope.names.lookup x=some .free->∃ c,cells.lookup x=some c)
  (F:∀(i:Nat) (x:Str) (v:V),fr[i]?=some x->cap[i]?=some v->scope.names.lookup x=some .free/\(kd x=some .cell\/kd x=some .free)/\∃ j:Nat,N[j]?=some x/\σ[j]?=some (some v)) :
  ax8 H2 f q params body scope fr cap (ad3 cells scope.names []):=by
 obtain⟨Z,C,h,h1,h2⟩:=hf
 have up:∀ b o,Y b=some o->H2 b=some o:=λ b o e=>by
  rw[G.ne b λ z=>by rw[G.free b z]at e;cases e];exact e
 have sub:∀ x c,(ad3 cells scope.names []).lookup x=some c->cells.lookup x=some c:=λ x c e=>by
  rcases clOf_mem (aA e)with z|z
  ·exact z
  ·exact absurd z (by simp)
 refine⟨Z,C,h,up _ _ h1,up _ _ h2,λ x c e=>G.cells x c (sub x c e),λ x y c e1 e2=>G.inj x y c (sub x c e1) (sub y c e2),λ x k=>?_,λ i x v e1 e2=>?_⟩
 ·obtain⟨c,e⟩:=J x k
  exact⟨c,qb e (aA k)⟩
 ·obtain⟨k,kk,j,e3,e4⟩:=F i x v e1 e2
  obtain⟨c,e⟩:=J x k
  obtain⟨o,u,e5,e6,e7⟩:=G.cap j x v c e3 e4 kk e
  exact⟨c,o,u,qb e (aA k),e5,e6,e7⟩
theorem Caught.same {cells:List (Str×Addr)}{N:List Str}{kd:Str->Option bR}{σ:St}{h H2:Hp}(y:Caught cells N kd σ h H2):ad9 h H2:=λ b o e=>by
 rw[y.ne b λ z=>by rw[y.free b z]at e;cases e];exact e
theorem Fun.okC {P:aJ}{w:World}{K:ae}{mg:Str->Option Value}{y:Heap}{x qual:Str}{st:Stmt}{f c:Addr}{Y:bQ}{N ps:List Str}{k:Nat}{sp:Sp}(F:Fun K x qual st f Y)(G:Y.code=.ref c)(S:FnScope N ps (defScope st))(len:∀ vs H Q E,sp vs H Q E->vs.length=ps.length)
  (z:∀(A:aX) (outer:List Env) (s:ag) (H:Hp) (vs:List V) (Q:VK) (E:XK),Room k (A.deeper (gz qual (defScope st) s.heap.objs.size f (.ref c)))->sp vs H Q E ->
   ∃ t,PSs (bh9 CX0 P w K mg y N qual (defScope st) f (.ref c) A outer s H E).nox (zG st) t/\t { nx:=λ _ H'=>Q .non H',rt:=Q } (ah6 N vs) H):FnOk P w K mg y CX0 (k+1) f Y ps sp:=by
 obtain⟨oc,od,kV,a1,pm,an,C,ct,Z,rfl,lk,hc⟩:=F.ex
 have e:C=.ref c:=G
 subst e
 refine bL9 lk hc S len λ A outer s H vs Q E hr J=>?_
 obtain⟨t,h,q⟩:=z A outer s H vs Q E hr J
 exact⟨t,h.nox,q⟩
theorem aQ2 {X:Cx}{K:ae}(hc:X.calm=true)(hK:X.K=K):ac2 X (.builtin "min") (λ xs H Q=>∃ a ns,xs=[.ref a]/\SqL K H a (ns.map V.int)/\ns≠[]/\∀ m∈ns,(∀ y∈ns,m<=y)->Q (.int m) H):=by
 subst hK
 intro a2 s σ H xs us Q I r h
 obtain⟨a,ns,rfl,hS,Z,q⟩:=h
 obtain⟨u,rfl,ru⟩:=ag6 r
 cases ru
 obtain⟨its,G,J,hz⟩:=I.list hS
 have hl:=G.length
 rw[au]at hl
 have a1:0<ns.length:=jd.mpr Z
 refine call_min_walk (c7 J.isList ?_)
 have F:a<s.heap.objs.size:=by obtain⟨o,_,e,_⟩:=J;exact ax e
 have W:=jx (prog:=X.prog) (w:=X.w) (A:=X.A.in1) (I.ok.hd hc) s.heap.objs.size a (aw F) its.toArray
 let val:Nat->Int:=λ i=>ns.getD i 0
 have C:∀ i v,its.toArray[i]?=some v->∃ t,v=Value.int (val i) t:=λ i v e=>by
  obtain⟨z,t,e1,e2⟩:=ah3 G (i:=i) (v:=v) (by rw[bV]at e;exact e)
  refine⟨t,?_⟩
  rw[e2]
  show Value.int z t=Value.int (ns.getD i 0) t
  rw[aP,e1]
  rfl
 refine⟨_,_,_,_,_,_,_,rfl,W,⟨⟨_,az _ rfl,rfl,rfl⟩,?_⟩,λ b hb=>?_,by rw[ar];omega,kP val C,λ v h' tk hP k=>?_⟩
 ·obtain⟨o,e,r⟩:=J.isList
  exact⟨o,af _ e,r⟩
 ·show b<(s.heap.push _).objs.size
  rw[bW]
  rcases aF.mp hb with z|z
  ·rw[z];exact fq _
  ·have Y:b=a:=by simpa using z
   rw[Y];exact gq F
 ·obtain⟨z,t,e1,e2⟩:=ah3 G (i:=cb (λ i j=>decide (val i<val j)) (its.toArray.size - 1)) (v:=v) (by rw[bV]at hP;exact hP)
  subst e2
  have hv:val (cb (λ i j=>decide (val i<val j)) (its.toArray.size - 1))=z:=by
   show ns.getD _ 0=z
   rw[aP,e1]
   rfl
  refine⟨.int z,H,I.kept (h':=h') (t':=tk) λ b o q=>k b o ?_ (af _ q),⟨t,rfl⟩,q z (aK e1) λ y hy=>?_⟩
  ·intro z
   have Y:b=s.heap.objs.size:=by simpa using z
   exact absurd (ax q) (by rw[Y];exact bu _)
  ·obtain⟨j,hj,e3⟩:=cE.mp hy
   have:=qz val (its.toArray.size - 1) j (by simp only[ar];omega)
   rw[hv]at this
   have e4:val j=y:=by
    show ns.getD j 0=y
    rw[aP,ai hj]
    exact e3
   omega
section
variable {X:Cx}
end
section
variable {n:Nat} {s:Nat->Nat->Int}
end
def bY8 (cells:List (Str×Addr))(P:Addr)(name q:Str)(params:bp)(body:List Stmt)(scope:Scope)(pos:Pos)(i:Nat):TS:=λ D σ H =>
 ∃ ps:Array Value,H P=some (.tbl ps)/\i8 ps.toList /\
  (dq pos ps.toList=none->∀ c' f doc pm ctv,H c'=none->H f=none->c'≠f ->
   D.nx (σ.set i (some (.ref f))) (upd (upd (upd H P (.tbl (ps++#[cR pos.line,cR pos.col,.ref c']))) c' (z0 c' q)) f (as5 f (cM name q params body scope (ad3 cells scope.names []) .none .none doc pm none (.ref c') ctv)))) /\
  (∀ cv,dq pos ps.toList=some cv->∃ c',cv=.ref c'/\∀ f doc pm ctv,H f=none->D.nx (σ.set i (some (.ref f))) (upd H f (as5 f (cM name q params body scope (ad3 cells scope.names []) .none .none doc pm none (.ref c') ctv))))
theorem bG8 {X:Cx}{c P:Addr}{name q:Str}{i:Nat}{params:bp}{body:List Stmt}{scope:Scope}{pos:Pos}(hN:X.N.Nodup)(hi:X.N[i]?=some name)(hx:Loc X.env.scope name)(Z:X.env.code=.ref c)(C:bZ X.base c P)(hB:BM X.mg X.base)
  (c4:lamCheck scope X.env.scope=true) (hq:kE X.env name name=q:=by rfl) (b7:params.defaults=[]:=by rfl) (b8:params.kw_defaults=[]:=by rfl) (ha:annTrees params none X.env=[]:=by rfl) (hf:X.fn name=true\/X.env.scope.names.lookup name=some .local:=by first|exact .inl rfl|exact .inr rfl) :
  PS X (.FunctionDef name params body [] none [] scope none name pos) (bY8 X.env.cells P name q params body scope pos i):=by
 intro a1 s σ H D I h
 have d2:∀ y∈scope.names,y.2=.free->X.env.kindOf y.1=some .cell\/X.env.kindOf y.1=some .free:=λ y hy e=>by
  have z:=aW.mp c4 y hy
  have z':X.env.scope.names.lookup y.1=some .cell\/X.env.scope.names.lookup y.1=some .free:=by simpa [e]using z
  exact z'
 obtain⟨ps,hP,ht,a5,a4⟩:=h
 refine PySem.W.nestDef_K b7 b8 ha ?_
 rw[hq]
 have fin:∀ {H2:Hp} {f:Addr} {s2:ag},Inv X a1 σ H2 s2->D.nx (σ.set i (some (.ref f))) H2->wpAny (model X.prog X.w) X.A (gH X.env name (.ref f)) (λ _ s3=>SP X a1 D .next s3) X.xe s2:=λ {H2 f s2} I2 q2=>as0 (v:=.ref f) I2 hN hi hx rfl (λ s3 I3=>⟨_,H2,I3,q2⟩) hf
 have a8:=zW (scope:=scope) (env:=X.env) λ y hy e=>I.ok.has y.1 (d2 y hy e)
 have oP:s.heap.get? P=some (eR ps):=I.hok P _ hP
 have a2:s.heap.Ns bw X.mg:=I.mod.glob.keeps I.bk
 have hC:bZ s.heap c P:=C.keeps I.bk
 have d0:bw≠P:=λ q=>by
  obtain⟨o,es,ep,e,d,_⟩:=a2
  rw[q,oP]at e;cases e;cases d
 have hb:s.heap.BuiltinsAt X.mg P:=by
  obtain⟨bm,ob,b1,b2,b3,b4,b5,b6⟩:=hB
  refine⟨bm,ob,b1,b2,λ q=>?_,λ q=>?_,I.bk _ _ b3,b4,b5,b6⟩
  ·obtain⟨o,es,ep,e,d,_⟩:=I.mod.glob
   rw[q,e]at b3;cases b3;rw[d]at b6;cases b6
  ·have e:=I.bk _ _ b3
   rw[q,oP]at e;cases e;cases b4
 cases qq:dq pos ps.toList with
 | none =>
  refine PySem.W.makeFunction_K (mg:=X.mg) a8 I.ok.glob a2 Z hC oP ht qq d0 hb λ F J G h' tk hx hge hlt a6 b0=>?_
  have a3:P<s.heap.objs.size:=ax oP
  have c0:F≠P:=c6 (aq a3 hge)
  have d1:h'.objs.size≠P:=c6 (eQ (aq a3 hge) hlt)
  have c1:F≠h'.objs.size:=aw hlt
  have hsz:s.heap.objs.size<=h'.objs.size:=am hge (d7 hlt)
  have nP:∀ b,H b=none->b≠P:=λ b n z=>by rw[z,hP]at n;cases n
  have lt:∀ b o,H b=some o->b≠F/\b≠h'.objs.size:=λ b o e=>⟨aw (aq (I.hok.lt e) hge),aw (aq (I.hok.lt e) hsz)⟩
  have a7:∀ b o,s.heap.get? b=some o->b≠F/\b≠h'.objs.size:=λ b o e=>⟨aw (aq (ax e) hge),aw (aq (ax e) hsz)⟩
  have keep:∀ b o,b≠P->s.heap.get? b=some o->(h'.push (PySem.W.fnMade name q params body scope (ad3 X.env.cells scope.names []) G ((X.mg "__name__").getD .none) F J)).get? b=some o:=λ b o n e=>af _ (hx b o n e)
  have Y:∀ b,b≠P->b≠F->b≠h'.objs.size->∀ o1 o2 o3,upd (upd (upd H P o1) F o2) h'.objs.size o3 b=H b:=λ b n1 n2 n3 o1 o2 o3=>by rw[za n3,za n2,za n1]
  refine fin (H2:=upd (upd (upd H P (.tbl (ps++#[cR pos.line,cR pos.col,.ref F]))) F (z0 F q)) h'.objs.size (as5 h'.objs.size (cM name q params body scope (ad3 X.env.cells scope.names []) .none .none G ((X.mg "__name__").getD .none) none (.ref F) J))) (I.un (t':=tk) ⟨λ b o e n _ _=>keep b o (nP b n) e,λ b o e n _ _=>⟨o.slots,keep b o (nP b n) e⟩,λ b o e n _=>?fr,λ b o e _=>?th,λ b xs e=>?tu,λ b o u e=>?fz,λ b qs e=>?tb⟩ ?ok) (a5 qq F h'.objs.size G _ J (I.hok.fresh hge) (I.hok.fresh hsz) c1)
  case fr=>rw[Y b (nP b n) (a7 b o e).1 (a7 b o e).2];exact n
  case th =>
   by_cases z:b=P
   ·subst z;exact⟨_,af _ b0⟩
   ·exact⟨o,keep b o z e⟩
  case tu=>rw[Y b (λ z=>by rw[z,hP]at e;cases e) (lt b _ e).1 (lt b _ e).2];exact e
  case fz=>rw[Y b (λ z=>by rw[z,hP]at e;cases e) (lt b _ e).1 (lt b _ e).2];exact e
  case tb =>
   by_cases z:b=P
   ·subst z
    rw[hP]at e;cases e
    exact⟨#[cR pos.line,cR pos.col,.ref F],by rw[za (bJ d1),za (bJ c0),zb]⟩
   ·exact⟨#[],by rw[Y b z (lt b _ e).1 (lt b _ e).2,e];simp⟩
  case ok =>
   intro b o e
   by_cases zf:b=h'.objs.size
   ·subst zf
    rw[zb]at e;cases e
    exact as4 (az _ rfl)
   ·rw[za zf]at e
    by_cases zc:b=F
    ·subst zc
     rw[zb]at e;cases e
     obtain⟨c2,oc,vs,t,e1,e2,e3⟩:=a6
     exact aH9 ⟨c2,oc,vs,t,e1,af _ e2,e3⟩
    ·rw[za zc]at e
     by_cases zp:b=P
     ·subst zp
      rw[zb]at e;cases e
      exact af _ b0
     ·rw[za zp]at e
      have a9:∀ d u,H d=some u->(∀ ps,u≠.tbl ps)->upd (upd (upd H P (.tbl (ps++#[cR pos.line,cR pos.col,.ref F]))) F (z0 F q)) h'.objs.size (as5 h'.objs.size (cM name q params body scope (ad3 X.env.cells scope.names []) .none .none G ((X.mg "__name__").getD .none) none (.ref F) J)) d=some u:=λ d u e nt=>by
       rw[Y d (λ z=>by rw[z,hP]at e;cases e;exact nt _ rfl) (lt d _ e).1 (lt d _ e).2];exact e
      refine(I.hok b o e).stay (λ d u hd q=>keep d u ?_ q) (λ d q=>a9 d _ q λ _=>by nofun) λ d xs q=>a9 d _ q λ _=>by nofun
      rintro rfl
      rcases hd with hd|hd
      ·exact zp hd.symm
      ·rw[hP]at hd;cases hd
 | some cv =>
  obtain⟨F,rfl,c3⟩:=a4 cv qq
  refine PySem.W.makeFunction_hit (mg:=X.mg) a8 I.ok.glob a2 Z hC oP ht qq hb λ J G h' tk hk hsz=>?_
  exact fin (I.laid (t':=tk) (λ b o e=>af _ (hk b o e)) hsz (as4 (az _ rfl))) (c3 h'.objs.size G _ J (I.hok.fresh hsz))
def ao2 (H:Hp)(f:Addr)(name qual:Str)(params:bp)(body:List Stmt)(scope:Scope)(fr:List Str)(cap:List V)(clos:List (Str×Addr)):Prop :=
 ∃ doc pm c' ctv,H f=some (as5 f (cM name qual params body scope clos .none .none doc pm none (.ref c') ctv))/\H c'=some (z0 c' qual)/\Cells clos H /\
  (∀ x y c,clos.lookup x=some c->clos.lookup y=some c->x=y)/\(∀ x,scope.names.lookup x=some .free->∃ c,clos.lookup x=some c)/\Cap clos H fr cap
theorem bh6 {cells:List (Str×Addr)}{N:List Str}{kd:Str->Option bR}{σ:St}{Z H2:Hp}{f:Addr}{q:Str}{name:Str}{params:bp}{body:List Stmt}{scope:Scope}{fr:List Str}{cap:List V}(J:Caught cells N kd σ Z H2)
  (hf:∃ h pm F C,Z f=some (as5 f (cM name q params body scope (ad3 cells scope.names []) .none .none h pm none (.ref F) C))/\Z F=some (z0 F q))
  (Y:∀ x,scope.names.lookup x=some .free->∃ c,cells.lookup x=some c)
  (G:∀(i:Nat) (x:Str) (v:V),fr[i]?=some x->cap[i]?=some v->scope.names.lookup x=some .free/\(kd x=some .cell\/kd x=some .free)/\∃ j:Nat,N[j]?=some x/\σ[j]?=some (some v)) :
  ao2 H2 f name q params body scope fr cap (ad3 cells scope.names []):=by
 obtain⟨h,pm,F,C,h1,h2⟩:=hf
 have up:∀ b o,Z b=some o->H2 b=some o:=λ b o e=>by
  rw[J.ne b λ z=>by rw[J.free b z]at e;cases e];exact e
 have sub:∀ x c,(ad3 cells scope.names []).lookup x=some c->cells.lookup x=some c:=λ x c e=>by
  rcases clOf_mem (aA e)with z|z
  ·exact z
  ·exact absurd z (by simp)
 refine⟨h,pm,F,C,up _ _ h1,up _ _ h2,λ x c e=>J.cells x c (sub x c e),λ x y c e1 e2=>J.inj x y c (sub x c e1) (sub y c e2),λ x k=>?_,λ i x v e1 e2=>?_⟩
 ·obtain⟨c,e⟩:=Y x k
  exact⟨c,qb e (aA k)⟩
 ·obtain⟨k,kk,j,e3,e4⟩:=G i x v e1 e2
  obtain⟨c,e⟩:=Y x k
  obtain⟨o,u,e5,e6,e7⟩:=J.cap j x v c e3 e4 kk e
  exact⟨c,o,u,qb e (aA k),e5,e6,e7⟩
theorem ao2.fn {K:ae}{H:Hp}{f:Addr}{name qual:Str}{params:bp}{body:List Stmt}{scope:Scope}{fr:List Str}{cap:List V}{y:List (Str×Addr)}(h:ao2 H f name qual params body scope fr cap y):bz8 K H f:=by
 obtain⟨z,J,G,C,F,_⟩:=h
 exact .inl ⟨_,F⟩
end L2
end
noncomputable section
namespace L2
open PySem PySem.Spec PyProof.Rows Builtin
section
variable {P:aJ} {w:World} {A:aX} {E:Value->ag->Prop} {s:ag}
theorem aD6 {it t:Addr}{i:Nat}{l:Array Value}{v:Value}{Q:Value->ag->Prop}(y:s.heap.IsTupleIter it t i)(C:s.heap.IsTuple t l)(hv:l[i]?=some v)
  (k:∀ h',h'.IsTupleIter it t (i+1)->cn it s.heap h'->Q v { s with heap:=h' }):wpAny (model P w) A (bU (.ref it)) Q E s:=by
 obtain⟨o,e1,e2,h⟩:=id y
 obtain⟨p,p1,_,n,F⟩:=C
 unfold bU
 refine ab (cf (name:=bL "__next__") y.typeIs cU (cg cU y.typeIs fS ?_ (fI _)))
 show wpAny _ _ (field (.ref it) 0 >>= _) _ _ _
 refine ab (cL e1 h (x:=.ref t) rfl ?_)
 show wpAny _ _ (if(Value.ref t==Value.none)=true then _ else _) _ _ _
 rw[if_neg (show ¬((Value.ref t==Value.none)=true)from λ z=>nomatch z)]
 show wpAny _ _ (field (.ref it) 1 >>= _) _ _ _
 refine ab (cL e1 h (x:=.int i 0) rfl ?_)
 show wpAny _ _ (fm (.ref t) >>= _) _ _ _
 refine ab (cT p1 F ?_)
 simp only[bH,hv]
 refine ab (iW e1 h (by simp) (ao ⟨v,rfl,ao (k _ ⟨_,cx _ e1 (Obj.isFreed_of_fields (jz h _)),(Obj.cls_mapFields ..).trans e2,by rw[jz h];simp[cR]⟩ (fM ..))⟩))
theorem aM5 {it t:Addr}{i:Nat}{l:Array Value}{Q:Value->ag->Prop}(C:A.handled=none)(y:s.heap.IsTupleIter it t i)(F:s.heap.IsTuple t l)(hv:l[i]?=none)
  (k:∀ h' e,iU it s.heap h'->(∃ o,h'.get? e=some o/\o.cls=.type "StopIteration")->E (.ref e) { s with heap:=h' }):wpAny (model P w) A (bU (.ref it)) Q E s:=by
 obtain⟨o,e1,e2,h⟩:=id y
 obtain⟨p,p1,_,n,G⟩:=F
 unfold bU
 refine ab (cf (name:=bL "__next__") y.typeIs cU (cg cU y.typeIs fS ?_ (fI _)))
 show wpAny _ _ (field (.ref it) 0 >>= _) _ _ _
 refine ab (cL e1 h (x:=.ref t) rfl ?_)
 show wpAny _ _ (if(Value.ref t==Value.none)=true then _ else _) _ _ _
 rw[if_neg (show ¬((Value.ref t==Value.none)=true)from λ z=>nomatch z)]
 show wpAny _ _ (field (.ref it) 1 >>= _) _ _ _
 refine ab (cL e1 h (x:=.int i 0) rfl ?_)
 show wpAny _ _ (fm (.ref t) >>= _) _ _ _
 refine ab (cT p1 G ?_)
 simp only[bH,hv]
 refine ab (hX (ab (iW e1 h (by simp) ?_)))
 show wpAny _ _ (newExc (.type "StopIteration") [] >>= _) _ _ (_:ag)
 refine ab ?_
 simp only[newExc,newTuple]
 refine ab (bf ?_ (by size_fits))
 refine ab (m:=f9 _ _) (iR (a:=Value.none) (by first|rfl|(simp only[f9];rfl)) (bf ?_ (by size_fits)))
 simp only[raiseNew]
 refine ab (wpAny_handled ?_)
 first|rw[show A.in1.handled=none from C]|rw[C]
 exact ab (ao (wpAny_throw (k _ _ (((fM ..).extBut.push _).push _) ⟨_,az _ rfl,rfl⟩)))
end
structure Dw (P:aJ)(w:World)(K:ae)(J:It)(it:Addr)(tn:Nat->Heap->Prop):Prop where
 obj:∀ i h,tn i h->∃ o,h.get? it=some o/\∀ v,o.data≠.cell v
 keep:∀ i h h',tn i h->(∀ o,h.get? it=some o->h'.get? it=some o)->tn i h'
 item:∀(X:Cx),X.prog=P->X.w=w->X.K=K->∀(A:aX) (i:Nat) (pins:List (Addr×Obj)) (s:ag) (σ:St) (H:Hp) (Q:Value->ag->Prop) (E:Value->ag->Prop),Inv X pins σ H s->tn i s.heap->J.go i H ->
  (∀ x u h' tk,RelV x u->J.yld i H x H->tn (i+1) h'->cn it s.heap h'->Q u { s with heap:=h',toks:=tk })->wpAny (model P w) A (bU (.ref it)) Q E s
 done:∀(X:Cx),X.prog=P->X.w=w->X.K=K->∀(A:aX) (i:Nat) (pins:List (Addr×Obj)) (s:ag) (σ:St) (H:Hp) (Q:Value->ag->Prop) (E:Value->ag->Prop),A.handled=none->Inv X pins σ H s->tn i s.heap->J.stop i H ->
  (∀ h' e,iU it s.heap h'->(∃ o,h'.get? e=some o/\o.cls=.type "StopIteration")->E (.ref e) { s with heap:=h' })->wpAny (model P w) A (bU (.ref it)) Q E s
theorem br2 {P:aJ}{w:World}{K:ae}(a it:Addr):Dw P w K (Itl K a) it (λ i h=>h.IsListIter it a i) where
 obj:=λ i h st=>by
  obtain⟨o,e,c,d⟩:=st
  exact⟨o,e,λ v z=>by rw[d]at z;cases z⟩
 keep:=λ i h h' st k=>st.at k
 item:=by
  intro X J hw G A i y s σ H Q E I st hg k
  subst J hw G
  obtain⟨Y,x,hq,hx⟩:=hg
  obtain⟨its,F,p,hz⟩:=I.list hq
  obtain⟨u,hu,ru⟩:=F.get hx
  exact wpAny_nextOf_list_item st p.isList (x:=u) (by simpa using hu) λ h' C sb=>k x u h' s.toks ru ⟨rfl,λ ys hy=>by rw[I.list_inj hy hq];exact hx⟩ C sb
 done:=by
  intro X J hw G A i y s σ H Q E Z I st hg k
  subst J hw G
  obtain⟨Y,hq,hx⟩:=hg
  obtain⟨its,F,p,hz⟩:=I.list hq
  have hl:=F.length
  exact wpAny_nextOf_list_end Z st p.isList (by simp;omega) k
theorem bH4 {P:aJ}{w:World}{K:ae}(a it:Addr):Dw P w K (Itt K a) it (λ i h=>h.IsTupleIter it a i) where
 obj:=λ i h st=>by
  obtain⟨o,e,c,d⟩:=st
  exact⟨o,e,λ v z=>by rw[d]at z;cases z⟩
 keep:=λ i h h' st k=>st.at k
 item:=by
  intro X J hw G A i y s σ H Q E I st hg k
  subst J hw G
  obtain⟨Y,x,hq,hx⟩:=hg
  obtain⟨its,F,p,hz⟩:=I.tuple hq
  obtain⟨u,hu,ru⟩:=F.get hx
  exact aD6 st (show s.heap.IsTuple a its.toArray from p) (v:=u) (by simpa using hu) λ h' C sb=>k x u h' s.toks ru ⟨rfl,λ ys hy=>by rw[I.tuple_inj hy hq];exact hx⟩ C sb
 done:=by
  intro X J hw G A i y s σ H Q E Z I st hg k
  subst J hw G
  obtain⟨Y,hq,hx⟩:=hg
  obtain⟨its,F,p,hz⟩:=I.tuple hq
  have hl:=F.length
  exact aM5 Z st (show s.heap.IsTuple a its.toArray from p) (by simp;omega) k
theorem bB2 {P:aJ}{w:World}{K:ae}(x:Str)(t:Tok)(it:Addr):Dw P w K (Its x) it (λ i h=>h.IsStrIter it (iX x) x t i) where
 obj:=λ i h st=>by
  obtain⟨o,e,c,d⟩:=st
  exact⟨o,e,λ v z=>by rw[d]at z;cases z⟩
 keep:=λ i h h' st k=>by
  obtain⟨o,ho,r⟩:=st
  exact⟨o,k _ ho,r⟩
 item:=by
  intro X J hw G A i F s σ H Q E I st hg k
  subst J hw G
  have C:i<x.cps.size:=hg
  have hc:x.cps[i]?=some x.cps[i]:=by simp[C]
  unfold iX at st k
  cases ha:x.cps.all (·<128)
  ·rw[ha]at st k
   exact wpAny_nextOf_wide_item st hc λ h' y Y=>k (.str ⟨#[x.cps[i]]⟩) _ h' (s.toks+1) ⟨_,rfl⟩ ⟨rfl,_,hc,rfl⟩ y Y
  ·rw[ha]at st k
   exact wpAny_nextOf_ascii_item st hc λ h' y Y=>k (.str ⟨#[x.cps[i]]⟩) _ h' (s.toks+1) ⟨_,rfl⟩ ⟨rfl,_,hc,rfl⟩ y Y
 done:=by
  intro X J hw G A i F s σ H Q E Z I st hg k
  subst J hw G
  have C:x.cps.size<=i:=hg
  have hc:x.cps[i]?=none:=by simp[C]
  unfold iX at st
  cases ha:x.cps.all (·<128)
  ·rw[ha]at st
   exact wpAny_nextOf_wide_end Z st hc k
  ·rw[ha]at st
   exact wpAny_nextOf_ascii_end Z st hc k
theorem Inv.turnedL {X:Cx}{h:List (Addr×Obj)}{σ:St}{H:Hp}{s:ag}{h':Heap}{t':Nat}{C:List Addr}(I:Inv X h σ H s)(f:∀ b∈C,FpOk X h H b)(k:∀ b o,b ∉ C->s.heap.get? b=some o->h'.get? b=some o):Inv X h σ H { s with heap:=h',toks:=t' }:=by
 have y:∀ b u,H b=some u->b ∉ C:=λ b u e z=>by rw[(f b z).1]at e;cases e
 refine I.step (g':=s.gens) (d':=s.drawn) (ch:=C) (λ b hb=>?_) (λ b o _ _ hc e _=>k b o hc e) (λ b o _ _ hc e _=>⟨o.slots,k b o hc e⟩) (λ _ _ _ _ n=>n)
  (λ b o hc e=>⟨o,k b o hc e⟩) (λ _ _ e=>e) (λ _ _ _ e=>e) (λ b ps e=>⟨#[],by rw[e];simp⟩) (λ m F=>?_) (λ b u e=>?_) I.bare
 ·obtain⟨f0,Z,f2,Y,J,f5⟩:=f b hb
  exact⟨Y,Z,J,f5⟩
 ·obtain⟨o,es,G,ho,r⟩:=F
  exact⟨o,es,G,k _ o (λ z=>(f _ z).2.1 rfl) ho,r⟩
 ·refine(I.hok b u e).stay (λ c v hc q=>k c v ?_ q) (λ _ q=>q) λ _ _ q=>q
  rcases hc with z|z
  ·rw[z];exact y b u e
  ·exact y c _ z
section
variable {X:Cx} {pins:List (Addr×Obj)} {σ:St} {H:Hp} {s:ag} {A:aX} {E:Value->ag->Prop} {J1 J2:It} {t1 t2:Nat->Heap->Prop} {z ti to i1 i2:Addr} {n:Nat} {a b:Value}
end
def Mkr (v:Value)(o:Obj)(h:Heap):Prop:=∀(P:aJ) (w:World) (A:aX) (E:Value->ag->Prop) (s:ag) (Q:Value->ag->Prop),(∀ b u,h.get? b=some u->s.heap.get? b=some u) ->
 Q (.ref s.heap.objs.size) { s with heap:=s.heap.push o }->wpAny (model P w) A (kt v) Q E s
def Sr (K:ae)(H:Hp)(x:V)(J:It):Prop:=(∃ a,x=.ref a/\(∃ xs,SqL K H a xs)/\J=Itl K a)\/(∃ a,x=.ref a/\(∃ xs,SqT K H a xs)/\J=Itt K a)\/∃ y,x=.str y/\J=Its y
theorem Sr.mk {X:Cx}{z:List (Addr×Obj)}{σ:St}{H:Hp}{s:ag}{x:V}{u:Value}{J:It}(I:Inv X z σ H s)(h:Sr X.K H x J)(r:RelV x u) :
  ∃(o:Obj) (C:Addr->Nat->Heap->Prop),o.isFreed=false/\Mkr u o s.heap/\(∀ it,Dw X.prog X.w X.K J it (C it))/\∀ it h',h'.get? it=some o->C it 0 h':=by
 rcases h with⟨a,e,⟨G,hq⟩,e'⟩|⟨a,e,⟨G,hq⟩,e'⟩|⟨y,e,e'⟩
 ·subst e e';cases r
  obtain⟨its,F,p,hz⟩:=I.list hq
  exact⟨_,λ it i h=>h.IsListIter it a i,rfl,λ P w A E s' Q hk q=>c7 (p.isList.at λ o e=>hk _ _ e) q,λ it=>br2 a it,λ it h' e=>⟨_,e,rfl,rfl⟩⟩
 ·subst e e';cases r
  obtain⟨its,F,p,hz⟩:=I.tuple hq
  exact⟨_,λ it i h=>h.IsTupleIter it a i,rfl,λ P w A E s' Q hk q=>jr (Heap.IsTuple.at (show s.heap.IsTuple a its.toArray from p) λ o e=>hk _ _ e) q,λ it=>bH4 a it,λ it h' e=>⟨_,e,rfl,rfl⟩⟩
 ·subst e e';obtain⟨t,rfl⟩:=r
  exact⟨_,λ it i h=>h.IsStrIter it (iX y) y t i,rfl,λ P w A E s' Q hk q=>wpAny_pyIter_strU q,λ it=>bB2 y t it,λ it h' e=>⟨_,e,rfl,rfl⟩⟩
end L2
end
noncomputable section
namespace L2
open PySem PySem.Spec PyProof.Rows Builtin
open AutoSeq1 (wpAny_loadPart')
section
variable {X:Cx} {pins:List (Addr×Obj)} {σ:St} {H:Hp} {s:ag} {A:aX} {E:Value->ag->Prop} {J1:It} {t1:Nat->Heap->Prop} {z it:Addr} {n:Nat} {old:Value}
end
end L2
end
noncomputable section
namespace L2
open PySem PySem.Spec PyProof.Rows Builtin
open AutoSeq1 (wpAny_loadPart')
theorem aF8:fillsNumberSlot (.type "tuple") "mul"=pure false :=
 PySem.fillsNumberSlot_seq (id := "tuple.__mul__") (r:=some (.builtin "tuple.__rmul__")) eT.lookup (by decide +kernel) gM.lookup (by decide +kernel)
theorem aO1:seqRepeat? (.type "tuple")=pure (some (.builtin "tuple.__mul__")):=by
 unfold seqRepeat?
 rw[j2 (T := "tuple") (name := "__mul__") (id := "tuple.__mul__") eT.lookup (by decide +kernel),j2 (T := "tuple") (name := "__rmul__") (id := "tuple.__rmul__") gM.lookup (by decide +kernel)]
 rfl
theorem ax3 (a:Int)(t:Tok)(l:Addr)(o:Obj)(y:Array Value)(n:Nat)(z:Option Addr)(sl:Array (Option Value)) :
  Meets (ko.«int.__rmul__» ⟨[.int a t,.ref l],[]⟩) (λ _ R s=>s.heap.get? l=some { cls:=.type "tuple",dict:=z,data:=.seq y n,slots:=sl }/\R (.ok (.ret Value.notImplemented)) s) :=
 .of_wp λ prog w A R s h=>by obtain⟨C,g,d,tk,os⟩:=s;obtain⟨hl,h⟩:=h;wp_walk;exact⟨_,rfl,h⟩
noncomputable def ao3 {α:Type}:Nat->List α->List α
 | 0,_=>[]
 | n+1,a=>a++ao3 n a
theorem aK3 {α:Type}(l:List α):∀(n:Nat) (h:Array α),(aI n l.toArray).foldl (·++·) h=h++(ao3 n l).toArray
 | 0,h=>by simp[ao3]
 | n+1,h=>by rw[bP,cJ,aK3 l n];simp[ao3]
theorem az5 {α:Type}(a:Array α):∀(n:Nat) (h:Array α),((aI n a).foldl (·++·) h).size=h.size+a.size*n
 | 0,h=>by simp
 | n+1,h=>by rw[bP,cJ,az5 a n,Array.size_append,Nat.mul_succ];omega
def TmA (items:Array Value)(k:Int)(l:Addr)(R:Value->ag->Prop)(s:ag):Prop :=
 ((items.isEmpty||k==1)=true->R (.ref l) s)/\((items.isEmpty||k==1)=false->R (.ref s.heap.objs.size) { s with heap:=s.heap.push { cls:=.type "tuple",data:=.seq ((aI k.toNat items).foldl (·++·) #[]) } })
theorem aU0 {P:aJ}{w:World}{A:aX}{E:Value->ag->Prop}{s:ag}{l:Addr}{y:Array Value}{k:Int}{t:Tok}{Q:Value->ag->Prop}(h0:0<=k)(Y:k<=1000000)(hz:y.size*k.toNat<=1000000)(hl:IsTup s.heap l y)
  (h:TmA y k l Q s):wpAny (model P w) A (call (.builtin "tuple.__mul__") [.ref l,.int k t]) Q E s:=by
 refine cg eT hl.typeIs PySem.F.entry_tuple_mul ?_ (PySem.F.args_tuple_mul_2 _ _)
 obtain⟨J,q2⟩:=h
 show wpAny _ _ (asIndex (.int k t) >>= _) _ _ _
 refine ab (ao ?_)
 rw[if_neg (by rw[decide_eq_false (by omega),decide_eq_false (by omega)];decide)]
 show wpAny _ _ (d5 (.ref l) >>= _) _ _ _
 refine ab (jj hl ?_)
 have C:(y.size:Int)*k<=1000000:=by
  have:((y.size*k.toNat:Nat):Int)<=1000000:=by omega
  rw[fJ,fN h0]at this
  exact this
 cases hb:(y.isEmpty||k==1)with
 | true =>
  rw[if_pos rfl]
  unfold kF
  refine ab (ab (g8 hl.typeIs (ao ?_)))
  rw[if_pos (by decide)]
  exact ab (hX (ao ⟨_,rfl,J hb⟩))
 | false =>
  rw[if_neg aL]
  have z:y.isEmpty=false:=by
   rw[fA]at hb;exact hb.1
  have q:=q2 hb
  show wpAny _ _ (if(decide (k<=0)||y.isEmpty)=true then _ else _) _ _ _
  by_cases hk:k<=0
  ·rw[if_pos (by rw[decide_eq_true hk];rfl)]
   have:k.toNat=0:=by omega
   rw[this]at q
   exact ab (bf (ao ⟨_,rfl,q⟩) (by size_fits))
  ·rw[if_neg (by rw[decide_eq_false hk,z];decide)]
   show wpAny _ _ (if(y.size:Int)*k > (2^63 - 1) / 8 then _ else _) _ _ _
   rw[if_neg (by omega)]
   show wpAny _ _ (if ga ((y.size:Int)*k)=true then _ else _) _ _ _
   rw[if_neg (by unfold ga;rw[decide_eq_false (by unfold aG;omega)];decide)]
   refine ab (bf (ao ⟨_,rfl,q⟩) ?_)
   show Array.size _<=aG
   rw[az5]
   show 0+_<=_
   rw[ic]
   have G:y.size*k.toNat<=aG:=am hz (by decide)
   exact G
theorem aI6 {α:Type}:∀ n,ao3 n ([]:List α)=[]
 | 0=>rfl
 | n+1=>by simp[ao3,aI6 n]
theorem bj3 {α:Type}(l:List α):ao3 1 l=l:=by simp[ao3]
theorem aJ7 {α:Type}(l:List α):∀ n,(ao3 n l).length=l.length*n
 | 0=>by simp[ao3]
 | n+1=>by simp[ao3,aJ7 l n,ke];omega
theorem Vals.repT {h:List V}{us:List Value}(r:Vals h us):∀ n,Vals (ao3 n h) (ao3 n us)
 | 0=>.nil
 | n+1=>r.append (Vals.repT r n)
def bW3 (K:ae):R2:=λ x y H Q=>∃ a xs n,x=.ref a/\y=.int n/\SqT K H a xs/\(0<=n/\n<=1000000/\xs.length*n.toNat<=1000000)/\∀ p H',ad9 H H'->SqT K H' p (ao3 n.toNat xs)->(H' p=some (.tup (ao3 n.toNat xs))\/(p=a/\ao3 n.toNat xs=xs))->Q (.ref p) H'
theorem bo8 {X:Cx}{K:ae}(hK:X.K=K):OpR X (cw .Mult) (bW3 K):=by
 subst hK
 intro F s σ H x y v u Q I rx J h
 obtain⟨a,C,n,rfl,rfl,ha,⟨h0,h1,hz⟩,q⟩:=h
 cases rx
 obtain⟨t,rfl⟩:=J
 obtain⟨its,r1,p1,Z⟩:=I.tuple ha
 have z:=r1.length
 obtain⟨⟨cls,G,data,sl⟩,ho,hc,n1,hd⟩:=id p1
 simp only at hc hd
 subst hc hd
 refine gd (T := "tuple") (U := "int") (by decide) p1.typeIs (λ s'=>hJ s' n t) aF8 jv eG aO1 jb.lookup
  (hU eG (hJ s n t) jc (iP _ _) (ax3 n t a default its.toArray n1 G sl) ⟨ho,⟨rfl,p1.typeIs,aU0 h0 h1 (by rw[ar,<-z];exact hz) p1 ⟨λ hb=>?_,λ hb=>?_⟩⟩⟩)
 ·have ex:ao3 n.toNat C=C:=by
   rw[bN]at hb
   rcases hb with hb|hb
   ·have Y:its=[]:=by simpa using hb
    have hx:C=[]:=r1.nil_iff.mp Y
    rw[hx,aI6]
   ·have:n=1:=by simpa using hb
    subst this
    exact bj3 _
  exact⟨.ref a,H,I,rfl,q a H (ad9.refl H) (by rw[ex];exact ha) (.inr ⟨rfl,ex⟩)⟩
 ·have hp:=I.hok.fresh (ak s.heap.objs.size)
  refine⟨.ref s.heap.objs.size,_,I.laid (t':=s.toks) (o:=.tup (ao3 n.toNat C)) (λ b ob q=>af _ q) (ak _) ?_,rfl,q _ _ ((ad9.refl H).new hp) (SqT.of zb) (.inl zb)⟩
  refine⟨by rw[aJ7];exact am hz (by decide),ao3 n.toNat its,r1.repT _,?_⟩
  rw[show(ao3 n.toNat its).toArray=(aI n.toNat its.toArray).foldl (·++·) #[]by rw[aK3];simp]
  exact⟨_,az _ rfl,rfl,_,rfl⟩
end L2
end
noncomputable section
namespace L2
open PySem PySem.Spec PyProof.Rows
section
variable {κ:Type} [DecidableEq κ]
noncomputable def az0 (kvs:List (κ×V))(k:κ):Option V:=(kvs.find? λ kv=>decide (kv.1=k)).map (·.2)
noncomputable def ap9 (kvs:List (κ×V))(k:κ)(v:V):List (κ×V) :=
 if(kvs.any λ kv=>decide (kv.1=k))=true then kvs.map (λ kv=>if kv.1=k then(kv.1,v)else kv)else kvs++[(k,v)]
theorem aj4 {p:κ×V}{r:List (κ×V)}{k:κ}(e:p.1=k):az0 (p::r) k=some p.2:=by simp[az0,c5,e]
theorem ak1 {p:κ×V}{r:List (κ×V)}{k:κ}(e:¬ p.1=k):az0 (p::r) k=az0 r k:=by simp[az0,c5,e]
theorem ar7 (k:κ):∀ h:List (κ×V),(h.any λ kv=>decide (kv.1=k))=(az0 h k).isSome
 | []=>rfl
 | p::r=>by
  rw[gD]
  by_cases e:p.1=k
  ·simp only[aj4 e,decide_eq_true e,Bool.true_or,f8]
  ·rw[ak1 e,decide_eq_false e,kO];exact ar7 k r
theorem qy (h:List (κ×V))(k:κ)(v:V):(ap9 h k v).length<=h.length+1:=by
 unfold ap9
 split
 ·rw[au];omega
 ·rw[aC,aQ,dN];omega
theorem aL8.isSome_eq {o:Option V}{u:Option Value}(r:aL8 o u):o.isSome=u.isSome:=by
 cases o with
 | none=>cases u with
  | none=>rfl
  | some _=>exact(show False from r).elim
 | some _=>cases u with
  | none=>exact(show False from r).elim
  | some _=>rfl
theorem aL8.getD {o:Option V}{u:Option Value}{d:V}{d':Value}(r:aL8 o u)(h:RelV d d'):RelV (o.getD d) (u.getD d'):=by
 cases o with
 | none=>cases u with
  | none=>exact h
  | some _=>exact(show False from r).elim
 | some _=>cases u with
  | none=>exact(show False from r).elim
  | some _=>exact r
theorem KV.val {y:List (κ×V)}{vs:List (κ×Value)}(r:KV y vs)(k:κ):aL8 (az0 y k) (i9 vs k):=by
 unfold KV at r
 induction r with
 | nil=>exact True.intro
 | @cons p q ps qs h t ih =>
  obtain⟨C,F⟩:=h
  by_cases e:p.1=k
  ·have e':q.1=k:=C.symm.trans e
   have b:i9 (q::qs) k=some q.2:=by simp[i9,c5,e']
   rw[aj4 e,b];exact F
  ·have e':¬ q.1=k:=λ z=>e (C.trans z)
   have b:i9 (q::qs) k=i9 qs k:=by simp[i9,c5,e']
   rw[ak1 e,b];exact ih
theorem KV.any {y:List (κ×V)}{vs:List (κ×Value)}(r:KV y vs)(k:κ):(y.any λ kv=>decide (kv.1=k))=vs.any λ kv=>decide (kv.1=k):=by
 unfold KV at r
 induction r with
 | nil=>rfl
 | cons h t ih=>rw[gD,gD,ih,h.1]
theorem KV.repl {C:List (κ×V)}{vs:List (κ×Value)}(r:KV C vs)(k:κ){y:V}{u:Value}(J:RelV y u) :
  KV (C.map λ kv=>if kv.1=k then(kv.1,y)else kv) (vs.map λ kv=>if kv.1=k then(kv.1,u)else kv):=by
 unfold KV at r ⊢
 induction r with
 | nil=>exact .nil
 | @cons p q ps qs h t ih =>
  rw[aH,aH]
  refine .cons ?_ ih
  obtain⟨F,G⟩:=h
  by_cases e:p.1=k
  ·rw[if_pos e,if_pos (F.symm.trans e)];exact⟨F,J⟩
  ·rw[if_neg e,if_neg (λ z=>e (F.trans z))];exact⟨F,G⟩
theorem KV.put {h:List (κ×V)}{vs:List (κ×Value)}(r:KV h vs)(k:κ){y:V}{u:Value}(z:RelV y u):KV (ap9 h k y) (stored vs k u):=by
 unfold ap9 stored
 rw[r.any k]
 by_cases e:(vs.any λ kv=>decide (kv.1=k))=true
 ·rw[if_pos e,if_pos e];exact r.repl k z
 ·rw[if_neg e,if_neg e];exact lj r ⟨rfl,z⟩
theorem KV.length {h:List (κ×V)}{vs:List (κ×Value)}(r:KV h vs):h.length=vs.length:=em r
end
theorem aF5 {P:aJ}{w:World}{k:Key}{u:Value}(r:RelV (kV k) u):(zy P w).is k u=true:=by
 cases k with
 | inl i=>obtain⟨t,e⟩:=(show ∃ t,u=Value.int i t from r);subst e;exact aF4 P w i t
 | inr x=>obtain⟨t,e⟩:=(show ∃ t,u=Value.str x t from r);subst e;exact aC8 P w x t
theorem aA4 {P:aJ}{w:World}:∀ {y:List Key} {us:List Value},Vals (y.map kV) us->ItemsAre (zy P w) y us
 | [],_,r=>by rw[bS]at r;cases r;exact .nil
 | k::y,_,r=>by
  rw[aH]at r
  cases r with
  | cons h t=>exact .cons (aF5 h) (aA4 t)
abbrev KT (H:Hp):List (List Key×V)->List (List Key×Addr×Value)->Prop:=fV λ p q=>p.1=q.1/\H q.2.1=some (.tup (p.1.map kV))/\RelV p.2 q.2.2
theorem KT.val {H:Hp}{y:List (List Key×V)}{C:List (List Key×Addr×Value)}(r:KT H y C)(k:List Key):aL8 (az0 y k) ((atKey C k).map (·.2)):=by
 induction r with
 | nil=>exact True.intro
 | @cons p q ps qs h t ih =>
  obtain⟨F,_,G⟩:=h
  by_cases e:p.1=k
  ·have e':q.1=k:=F.symm.trans e
   have b:atKey (q::qs) k=some q.2:=by simp[atKey,c5,e']
   rw[aj4 e,b];exact G
  ·have e':¬ q.1=k:=λ z=>e (F.trans z)
   have b:atKey (q::qs) k=atKey qs k:=by simp[atKey,c5,e']
   rw[ak1 e,b];exact ih
theorem KT.repl {H:Hp}{C:List (List Key×V)}{J:List (List Key×Addr×Value)}(r:KT H C J)(k:List Key){y:V}{u:Value}(Z:RelV y u) :
  KT H (C.map λ kv=>if kv.1=k then(kv.1,y)else kv) (J.map (putAt k u)):=by
 induction r with
 | nil=>exact .nil
 | @cons p q ps qs h t ih =>
  rw[aH,aH]
  refine .cons ?_ ih
  obtain⟨F,G,Y⟩:=h
  unfold putAt
  by_cases e:p.1=k
  ·rw[if_pos e,if_pos (F.symm.trans e)];exact⟨F,G,Z⟩
  ·rw[if_neg e,if_neg (λ z=>e (F.trans z))];exact⟨F,G,Y⟩
theorem KT.put {H:Hp}{h:List (List Key×V)}{z:List (List Key×Addr×Value)}(r:KT H h z)(k:List Key){b:Addr}{y:V}{u:Value}(hb:H b=some (.tup (k.map kV)))(C:RelV y u) :
  KT H (ap9 h k y) (storedH z k b u):=by
 have e:(h.any λ kv=>decide (kv.1=k))=(atKey z k).isSome:=by
  rw[ar7,(r.val k).isSome_eq,gr]
 unfold ap9 storedH
 rw[e]
 by_cases q:(atKey z k).isSome=true
 ·rw[if_pos q,if_pos q];exact r.repl k C
 ·rw[if_neg q,if_neg q];exact lj r ⟨rfl,hb,C⟩
theorem KT.keeps {H H':Hp}{h:List (List Key×V)}{y:List (List Key×Addr×Value)}(r:KT H h y)(C:∀ b ys,H b=some (.tup ys)->H' b=some (.tup ys)):KT H' h y :=
 fV.mapP r λ _ _ z=>⟨z.1,C _ _ z.2.1,z.2.2⟩
section
variable {P:aJ} {w:World} {H:Hp} {h:Heap} {a:Addr}
theorem bH8 {u:HO}(ok:HOk P w H h)(e:Rd H a u):ab6 P w H h a u:=e.ok ok
theorem aE2 {y:List (Key×V)}(ok:HOk P w H h)(e:Rd H a (.dK y)):y.length<=aG/\(a==cH)=false/\∃ vs,KV y vs/\h.DictOf (zy P w) a vs :=
 show ab6 P w H h a (.dK y)from bH8 ok e
theorem bO0 {y:List (Key×V)}(ok:HOk P w H h)(e:H a=some (.dK y)):y.length<=aG/\(a==cH)=false/\∃ vs,KV y vs/\h.DictOf (zy P w) a vs:=aE2 ok (.inl e)
theorem ar0 {y:List Key}(ok:HOk P w H h)(e:H a=some (.tup (y.map kV))):(fT (zy P w)).is h y a:=by
 obtain⟨_,its,r,o,F,z,n,C⟩:=(show ab6 P w H h a (.tup (y.map kV))from ok a _ e)
 exact⟨o,its.toArray,n,F,z,C,by simpa using aA4 r⟩
theorem aC5 {C:List (List Key×V)}(ok:HOk P w H h)(e:Rd H a (.dT C)):C.length<=aG/\(a==cH)=false /\
  ∃ F,KT H C F/\h.DictOfH (fT (zy P w)) a F:=by
 obtain⟨z,y,F,r,o,es,Y,h1,G,J,Z,h5⟩:=(show ab6 P w H h a (.dT C)from bH8 ok e)
 refine⟨z,y,F,r,o,es,Y,h1,G,J,Z,λ x hx=>?_,h5⟩
 have all:∀ {l:List (List Key×V)} {m:List (List Key×Addr×Value)},KT H l m->∀ x∈m,(fT (zy P w)).is h x.1 x.2.1:=by
  intro l m q
  induction q with
  | nil=>intro x hx;exact nomatch hx
  | @cons p q ps qs hq t ih =>
   intro x hx
   rcases aF.mp hx with e|hx
   ·subst e
    exact ar0 ok (by rw[<-hq.1];exact hq.2.1)
   ·exact ih x hx
 exact all r x hx
theorem bC4 {y:List (List Key×V)}(ok:HOk P w H h)(e:H a=some (.dT y)):y.length<=aG/\(a==cH)=false /\
  ∃ z,KT H y z/\h.DictOfH (fT (zy P w)) a z:=aC5 ok (.inl e)
end
def at5 (H:Hp)(a:Addr)(y:V)(r:Option V):Prop :=
 (∃ kvs k,Rd H a (.dK kvs)/\y=kV k/\r=az0 kvs k)\/∃ kvs k b,Rd H a (.dT kvs)/\y=.ref b/\H b=some (.tup (k.map kV))/\r=az0 kvs k
def bz7 (H:Hp)(a:Addr)(y v:V)(H':Hp):Prop :=
 (∃ kvs k,H a=some (.dK kvs)/\y=kV k/\kvs.length<aG/\H'=upd H a (.dK (ap9 kvs k v))) \/
 ∃ kvs k b,H a=some (.dT kvs)/\y=.ref b/\H b=some (.tup (k.map kV))/\kvs.length<aG/\H'=upd H a (.dT (ap9 kvs k v))
theorem at5.k {H:Hp}{a:Addr}{h:List (Key×V)}{k:Key}(e:H a=some (.dK h)):at5 H a (kV k) (az0 h k):=.inl ⟨h,k,.inl e,rfl,rfl⟩
theorem at5.t {H:Hp}{a b:Addr}{h:List (List Key×V)}{k:List Key}(e:H a=some (.dT h))(eb:H b=some (.tup (k.map kV))):at5 H a (.ref b) (az0 h k):=.inr ⟨h,k,b,.inl e,rfl,eb,rfl⟩
theorem bz7.k {H:Hp}{a:Addr}{h:List (Key×V)}{k:Key}{v:V}(e:H a=some (.dK h))(hl:h.length<aG):bz7 H a (kV k) v (upd H a (.dK (ap9 h k v))):=.inl ⟨h,k,e,rfl,hl,rfl⟩
theorem bz7.t {H:Hp}{a b:Addr}{h:List (List Key×V)}{k:List Key}{v:V}(e:H a=some (.dT h))(eb:H b=some (.tup (k.map kV)))(hl:h.length<aG) :
  bz7 H a (.ref b) v (upd H a (.dT (ap9 h k v))):=.inr ⟨h,k,b,e,rfl,eb,hl,rfl⟩
section
variable {X:Cx} {pins:List (Addr×Obj)} {σ:St} {H:Hp} {s:ag} {a:Addr} {y v:V} {u r:Value} {o:Option V} {A:aX} {E:Value->ag->Prop}
theorem Inv.big (I:Inv X pins σ H s):cH<s.heap.objs.size:=by
 have h:bw<s.heap.objs.size:=(I.mod.glob.keeps I.bk).lt
 exact eQ (by decide) h
theorem aA9 {Q:Value->ag->Prop}(hu:A.units+1<cLine)(I:Inv X pins σ H s)(g:at5 H a y (some v))(ry:RelV y u)(h:∀ w' s',Inv X pins σ H s'->RelV v w'->Q w' s') :
  wpAny (model X.prog X.w) A (g6 (.ref a) u) Q E s:=by
 rcases g with⟨Y,k,e,Z,l⟩|⟨Y,k,b,e,Z,eb,l⟩
 ·subst Z
  obtain⟨z,hd,vs,F,J⟩:=aE2 I.hok e
  obtain⟨w',hw,C⟩:=aL8.some_of (v:=v) (o:=i9 vs k) (by rw[l];exact F.val k)
  exact wpAny_getItem_of (aF5 ry) J.mapOf hw (h w' _ (I.tok _) C)
 ·subst Z
  cases(show u=Value.ref b from ry)
  obtain⟨z,hd,xs,F,J⟩:=aC5 I.hok e
  obtain⟨w',hw,C⟩:=aL8.some_of (v:=v) (o:=(atKey xs k).map (·.2)) (by rw[l];exact F.val k)
  obtain⟨p,hp,G⟩:=hZ.mp hw
  refine wpAny_getItem_heap (dE hu) (ar0 I.hok eb) J hp ?_
  rw[G]
  exact h w' _ (I.tok _) C
theorem ca5 {Q:Value->ag->Prop}(Z:A.units+1<cLine)(I:Inv X pins σ H s)(g:at5 H a y o)(Y:RelV y u)(h:∀ s',Inv X pins σ H s'->Q (.bool o.isSome) s') :
  wpAny (model X.prog X.w) A (cG .In u (.ref a)) Q E s:=by
 rcases g with⟨G,k,e,J,l⟩|⟨G,k,b,e,J,eb,l⟩
 ·subst J
  obtain⟨z,hd,vs,C,F⟩:=aE2 I.hok e
  refine wpAny_in_of (aF5 Y) hd F.mapOf ?_
  rw[<-(C.val k).isSome_eq,<-l]
  exact h _ (I.tok _)
 ·subst J
  cases(show u=Value.ref b from Y)
  obtain⟨z,hd,xs,C,F⟩:=aC5 I.hok e
  refine wpAny_in_heap (dE Z) (ar0 I.hok eb) hd F ?_
  have q:=(C.val k).isSome_eq
  rw[gr]at q
  rw[<-q,<-l]
  exact h _ (I.tok _)
theorem aV5 {Q:Value->ag->Prop}(Z:A.units+1<cLine)(I:Inv X pins σ H s)(g:at5 H a y o)(Y:RelV y u)(h:∀ s',Inv X pins σ H s'->Q (.bool (!o.isSome)) s') :
  wpAny (model X.prog X.w) A (cG .NotIn u (.ref a)) Q E s:=by
 rcases g with⟨G,k,e,J,l⟩|⟨G,k,b,e,J,eb,l⟩
 ·subst J
  obtain⟨z,hd,vs,C,F⟩:=aE2 I.hok e
  refine wpAny_notIn_of (aF5 Y) hd F.mapOf ?_
  rw[<-(C.val k).isSome_eq,<-l]
  exact h _ (I.tok _)
 ·subst J
  cases(show u=Value.ref b from Y)
  obtain⟨z,hd,xs,C,F⟩:=aC5 I.hok e
  refine wpAny_notIn_heap (dE Z) (ar0 I.hok eb) hd F ?_
  have q:=(C.val k).isSome_eq
  rw[gr]at q
  rw[<-q,<-l]
  exact h _ (I.tok _)
theorem aC0 {h':Heap}{t':Nat}{ob:HO}(I:Inv X pins σ H s)(mu:Mut (H a))(hs:cn a s.heap h')(h:∃ q,h'.get? a=some q)(new:ab6 X.prog X.w (upd H a ob) h' a ob) :
  Inv X pins σ (upd H a ob) { s with heap:=h',toks:=t' } :=
 I.write (x:=a) (e:=a) mu (.inl rfl) (λ b q hb z=>(hs.2 b hb).trans z) h new
theorem bm0 {P:aJ}{w:World}{H':Hp}{h':Heap}{h:List (Key×V)}{vs:List (Key×Value)}(z:h.length<=aG)(hd:(a==cH)=false)(y:KV h vs)(C:h'.DictOf (zy P w) a vs) :
  ab6 P w H' h' a (.dK h):=⟨z,hd,vs,y,C⟩
theorem ax9 {H':Hp}{Q:Unit->ag->Prop}(hu:A.units+1<cLine)(I:Inv X pins σ H s)(g:bz7 H a y v H')(ry:RelV y u)(rv:RelV v r)(h:∀ s',Inv X pins σ H' s'->Q () s') :
  wpAny (model X.prog X.w) A (setItem (.ref a) u r) Q E s:=by
 rcases g with⟨C,k,e,Z,l,Y⟩|⟨C,k,b,e,Z,eb,l,Y⟩
 ·subst Z Y
  obtain⟨z,hd,vs,F,J⟩:=bO0 I.hok e
  have hz:vs.length<=aG:=by rw[<-F.length];exact z
  have hl:(ap9 C k v).length<=aG:=by have:=qy C k v;omega
  refine wpAny_setItem_pairs (hsz:=hz) (aF5 ry) J λ h' G hs=>h _ ?_
  have he:∃ q,h'.get? a=some q:=let⟨q,_,_,hq,_⟩:=G;⟨q,hq⟩
  exact aC0 I (by rw[e];exact True.intro) hs he (bm0 hl hd (F.put k rv) G)
 ·subst Z Y
  cases(show u=Value.ref b from ry)
  obtain⟨z,hd,xs,F,J⟩:=bC4 I.hok e
  have hz:xs.length<=aG:=by rw[<-em F];exact z
  have hl:(ap9 C k v).length<=aG:=by have:=qy C k v;omega
  refine wpAny_setItem_heap (hsz:=hz) (dE hu) (ar0 I.hok eb) J λ h' G hs=>h _ ?_
  obtain⟨q,es,ep,hq,h2,h3,h4,_,h5⟩:=G
  refine aC0 I (by rw[e];exact True.intro) hs ⟨q,hq⟩ ⟨hl,hd,_,(F.put k eb rv).keeps λ c ys ec=>?_,q,es,ep,hq,h2,h3,h4,h5⟩
  rw[za (bq5 ec e (λ z=>nomatch z))]
  exact ec
end
section
variable {X:Cx} {pins:List (Addr×Obj)} {σ:St} {H:Hp} {s:ag} {a:Addr} {kvs:List (Key×V)} {k:Key} {u:Value} {A:aX} {E:Value->ag->Prop}
end
theorem am2 {X:Cx}{h:List (Addr×Obj)}{σ:St}{H:Hp}{s:ag}{a:Addr}{y:V}{o:Option V}(I:Inv X h σ H s)(g:at5 H a y o):s.TypeIs (.ref a) "dict":=by
 rcases g with⟨C,k,e,_,_⟩|⟨C,k,b,e,_,_,_⟩
 ·obtain⟨_,_,vs,_,z⟩:=aE2 I.hok e
  exact z.typeIs
 ·obtain⟨_,_,F,_,z⟩:=aC5 I.hok e
  exact z.typeIs
section
variable {X:Cx} {o i e value:Expr} {pos pos' tpos:Pos} {td ty tv:TE}
end
theorem aJ4 {P:aJ}{w:World}{H:Hp}(h:Heap)(hb:cH<h.objs.size):ab6 P w H (h.push { cls:=.type "dict",data:=.dict #[] }) h.objs.size (.dK []) :=
 ⟨cu _,beq_eq_false_iff_ne.mpr (bJ (aw hb)),[],.nil,Heap.DictOf.new h⟩
theorem bj6 {P:aJ}{w:World}{H:Hp}(h:Heap)(hb:cH<h.objs.size):ab6 P w H (h.push { cls:=.type "dict",data:=.dict #[] }) h.objs.size (.dT []) :=
 ⟨cu _,beq_eq_false_iff_ne.mpr (bJ (aw hb)),[],.nil,_,#[],0,az _ rfl,⟨rfl,rfl,rfl⟩,rfl,rfl,List.nodup_nil⟩
def bm4:TE:=λ _ H Q=>∀ p,H p=none->Q (.ref p) (upd H p (.dK []))
def bm2:TE:=λ _ H Q=>∀ p,H p=none->Q (.ref p) (upd H p (.dT []))
section
variable {X:Cx} {pos:Pos}
theorem aZ9:PE X (.Dict [] [] pos) bm4:=λ y s σ H Q I h =>
 j3 ⟨.ref s.heap.objs.size,_,I.laid (a:=s.heap.objs.size) (o:=.dK []) (t':=s.toks) (λ _ _ q=>af _ q) (ak _) (aJ4 s.heap I.big),rfl,h _ (I.hok.fresh (ak _))⟩
theorem bi0:PE X (.Dict [] [] pos) bm2:=λ y s σ H Q I h =>
 j3 ⟨.ref s.heap.objs.size,_,I.laid (a:=s.heap.objs.size) (o:=.dT []) (t':=s.toks) (λ _ _ q=>af _ q) (ak _) (bj6 s.heap I.big),rfl,h _ (I.hok.fresh (ak _))⟩
end
noncomputable def aW3:List (TE×TE)->St->Hp->(List (V×V)->Hp->Prop)->Prop
 | [],_,H,Q=>Q [] H
 | (tk,tv)::r,σ,H,Q=>tk σ H λ x H1=>tv σ H1 λ y H2=>aW3 r σ H2 λ ps H3=>Q ((x,y)::ps) H3
abbrev VV:List (V×V)->List (Value×Value)->Prop:=fV λ p q=>RelV p.1 q.1/\RelV p.2 q.2
def PPs (X:Cx)(pos:Pos)(keys:List (Option Expr))(values:List Expr)(trs:List (TE×TE)):Prop :=
 ∀(pins:List (Addr×Obj)) (s:ag) (σ:St) (H:Hp) (Q:List (V×V)->Hp->Prop),Inv X pins σ H s->aW3 trs σ H Q ->
  wpAny (model X.prog X.w) X.A (evalPairs (pairTrees keys values X.env pos)) (λ vs s'=>∃ ps H',Inv X pins σ H' s'/\VV ps vs/\Q ps H') X.xe s
theorem bv1 {X:Cx}{pos:Pos}:PPs X pos [] [] []:=λ y s σ H Q I h=>pairTrees_nil_walk ⟨[],H,I,.nil,h⟩
theorem bg6 {X:Cx}{pos:Pos}{k v:Expr}{J:List (Option Expr)}{vs:List Expr}{tk G:TE}{C:List (TE×TE)}(hk:PE X k tk)(hv:PE X v G)(hr:PPs X pos J vs C) :
  PPs X pos (some k::J) (v::vs) ((tk,G)::C):=λ z s σ H Q I h =>
 pairTrees_cons_walk (thn (hk z s σ H _ I h) λ u s1 ⟨x,H1,I1,rx,q1⟩=>thn (hv z s1 σ H1 _ I1 q1) λ w2 s2 ⟨y,H2,I2,Y,q2⟩ =>
  thn (hr z s2 σ H2 _ I2 q2) λ ws s3 ⟨ps,Z,I3,F,q3⟩=>⟨(x,y)::ps,Z,I3,.cons ⟨rx,Y⟩ F,q3⟩)
noncomputable def aB2 (kvs more:List (Key×V)):List (Key×V):=more.foldl (λ acc kv=>ap9 acc kv.1 kv.2) kvs
theorem KV.merge:∀ {y:List (Key×V)} {C:List (Key×Value)} {z:List (Key×V)} {vs:List (Key×Value)},KV y C->KV z vs->KV (aB2 z y) (merged vs C):=by
 intro y C z vs r
 unfold KV at r
 induction r generalizing z vs with
 | nil=>intro q;exact q
 | @cons p q ps qs h t ih =>
  intro r0
  have e:KV (ap9 z p.1 p.2) (stored vs q.1 q.2):=by
   have:=r0.put p.1 h.2
   rw[<-h.1];exact this
  exact ih e
theorem af0:∀(y h:List (Key×V)),(aB2 h y).length<=h.length+y.length
 | [],h=>by show h.length<=h.length+0;omega
 | p::r,h=>by
  have C:=af0 r (ap9 h p.1 p.2)
  have z:=qy h p.1 p.2
  show(aB2 (ap9 h p.1 p.2) r).length<=_
  rw[aQ];omega
theorem aq8 {P:aJ}{w:World}:∀ {y:List (Key×V)} {ws:List (Value×Value)},VV (y.map λ kv=>(kV kv.1,kv.2)) ws->∃ z,Carries (zy P w) ws z/\KV y z
 | [],_,r=>by rw[bS]at r;cases r;exact⟨[],True.intro,.nil⟩
 | p::y,_,r=>by
  rw[aH]at r
  cases r with
  | @cons a b as bs h t =>
   obtain⟨z,c,q⟩:=aq8 (P:=P) (w:=w) t
   obtain⟨F,C⟩:=b
   exact⟨(p.1,C)::z,⟨aF5 h.1,rfl,c⟩,.cons ⟨rfl,h.2⟩ q⟩
def bG1 (trs:List (TE×TE)):TE:=λ σ H Q=>∀ p,H p=none->aW3 trs σ (upd H p (.dK [])) λ ps H2=>H2 p=some (.dK [])/\∃ kvs:List (Key×V),ps=kvs.map (λ kv=>(kV kv.1,kv.2))/\kvs.length<=15/\Q (.ref p) (upd H2 p (.dK (aB2 [] kvs)))
theorem bp7 {X:Cx}{pos:Pos}{keys:List (Option Expr)}{y:List Expr}{C:List (TE×TE)}(h:PPs X pos keys y C)(F:keys.all (·.isSome)=true)(hl:keys.length=y.length)(h0:keys≠[])
  (a1:keys.length<=15):PE X (.Dict keys y pos) (bG1 C):=by
 intro Y s σ H Q I q
 have hn:=I.hok.fresh (ak s.heap.objs.size)
 have I1:=I.laid (a:=s.heap.objs.size) (o:=.dK []) (h':=s.heap.push { cls:=.type "dict",data:=.dict #[] }) (t':=s.toks) (λ _ _ q=>af _ q) (ak _) (aJ4 s.heap I.big)
 refine wpAny_Dict_walk (knd:=zy X.prog X.w) F hl h0 a1 (thn (h Y _ σ _ _ I1 (q _ hn)) λ ws s2 ⟨ps,H2,I2,Z,e,G,ep,lk,q2⟩=>?_)
 subst ep
 obtain⟨rs,c,rk⟩:=aq8 (P:=X.prog) (w:=X.w) Z
 obtain⟨z,hd,a2,r0,dd⟩:=bO0 I2.hok e
 cases r0
 refine⟨rs,c,dd,λ h' J hs=>⟨.ref s.heap.objs.size,_,?_,rfl,q2⟩⟩
 have hz:(aB2 [] G).length<=aG:=by
  have h1:=af0 G []
  rw[dN]at h1
  rw[dv];omega
 have he:∃ q,h'.get? s.heap.objs.size=some q:=let⟨q,_,_,hq,_⟩:=J;⟨q,hq⟩
 exact aC0 I2 (by rw[e];exact True.intro) hs he (bm0 hz hd (rk.merge .nil) J)
structure M1 (X:Cx)(o:Expr)(m:Str)(apos:Pos)(e:Expr)(cpos:Pos):Prop where
 base:dh o m X.env (eval o X.env)=eval o X.env
 few:((dS cpos (bn [e] X.env)).all (λ x=>!x.1)&&(kB cpos (iM [] X.env)).all (λ x=>x.1.isSome)
  && decide (([e]:List Expr).length+([]:List gj).length+(if([]:List gj).isEmpty then 0 else 1)<30))=true
 line:(apos.endLine==cpos.line)=true
 trees:dS cpos (bn [e] X.env)=[(false,eval e X.env)]
structure M2 (X:Cx)(o:Expr)(m:Str)(apos:Pos)(e f:Expr)(cpos:Pos):Prop where
 base:dh o m X.env (eval o X.env)=eval o X.env
 few:((dS cpos (bn [e,f] X.env)).all (λ x=>!x.1)&&(kB cpos (iM [] X.env)).all (λ x=>x.1.isSome)
  && decide (([e,f]:List Expr).length+([]:List gj).length+(if([]:List gj).isEmpty then 0 else 1)<30))=true
 line:(apos.endLine==cpos.line)=true
 trees:dS cpos (bn [e,f] X.env)=[(false,eval e X.env),(false,eval f X.env)]
def IsD (H:Hp)(a:Addr):Prop:=(∃ kvs,Rd H a (.dK kvs))\/∃ kvs,Rd H a (.dT kvs)
theorem bP0 {X:Cx}{y:List (Addr×Obj)}{σ:St}{H:Hp}{s:ag}{a:Addr}(I:Inv X y σ H s)(d:IsD H a) :
  s.TypeIs (.ref a) "dict"/\(∀ b,Value.ref a=.ref b->∃ ob,s.heap.get? b=some ob/\ob.dict=none)/\(a==cH)=false:=by
 rcases d with⟨C,e⟩|⟨C,e⟩
 ·obtain⟨_,hd,vs,_,h⟩:=aE2 I.hok e
  refine⟨h.typeIs,λ b q=>?_,hd⟩
  cases q
  obtain⟨ob,_,_,F,z,_⟩:=h
  exact⟨ob,F,z.2.1⟩
 ·obtain⟨_,hd,G,_,h⟩:=aC5 I.hok e
  refine⟨h.typeIs,λ b q=>?_,hd⟩
  cases q
  obtain⟨ob,_,_,F,z,_⟩:=h
  exact⟨ob,F,z.2.1⟩
section
variable {X:Cx} {pins:List (Addr×Obj)} {σ:St} {H:Hp} {s:ag} {a:Addr} {y d:V} {u r:Value} {o:Option V} {A:aX} {E:Value->ag->Prop}
theorem bF2 {Q:Value->ag->Prop}(hu:A.units+1<cLine)(I:Inv X pins σ H s)(g:at5 H a y o)(Z:RelV y u)(Y:RelV d r)(h:∀ w' s',Inv X pins σ H s'->RelV (o.getD d) w'->Q w' s') :
  wpAny (model X.prog X.w) A (call (.builtin "dict.get") [.ref a,u,r]) Q E s:=by
 rcases g with⟨G,k,e,J,l⟩|⟨G,k,b,e,J,eb,l⟩
 ·subst J
  obtain⟨z,hd,vs,C,F⟩:=aE2 I.hok e
  refine jN fc F.typeIs ie (gN _ _ _) (meets_dict_get_default (zy X.prog X.w) a (aF5 Z) hd r) ⟨_,F.mapOf,h _ _ (I.tok _) ?_⟩
  rw[l]
  exact(C.val k).getD Y
 ·subst J
  cases(show u=Value.ref b from Z)
  obtain⟨z,hd,xs,C,F⟩:=aC5 I.hok e
  refine jN fc F.typeIs ie (gN _ _ _) (meetsH_dict_get_default (fT (zy X.prog X.w)) a b hd r) ⟨dE hu,k,xs,ar0 I.hok eb,F,h _ _ (I.tok _) ?_⟩
  rw[l]
  exact(C.val k).getD Y
end
def bP1 (td ty tx:TE):TE:=λ σ H Q=>td σ H λ x H1=>∃ a,x=.ref a/\IsD H1 a/\ty σ H1 λ y H2=>tx σ H2 λ z H3=>∃ o,at5 H3 a y o/\Q (o.getD z) H3
section
variable {X:Cx} {o e f:Expr} {apos cpos:Pos} {td ty tx:TE}
theorem bf4 (hu:X.A.units+1<cLine)(ho:PE X o td)(Y:PE X e ty)(Z:PE X f tx)(m:M2 X o "get" apos e f cpos):PE X (.Call (.Attribute o "get" apos) [e,f] [] cpos) (bP1 td ty tx):=by
 intro C s σ H Q I h
 refine wpAny_Call_method m.base m.few m.line gO fc PySem.F.type_dict_get (thn (ho C s σ H _ I h) λ u s1 ⟨x,H1,J,rx,a,ex,d,q1⟩=>?_)
 subst ex
 obtain rfl:u=Value.ref a:=rx
 obtain⟨t1,t2,_⟩:=bP0 J d
 refine⟨t1,t2,?_⟩
 rw[m.trees]
 refine eN rfl (iO (fY (thn (Y C s1 σ H1 _ J q1) λ iv s2 ⟨y,H2,I2,ry,q2⟩ =>
  fY (thn (Z C s2 σ H2 _ I2 q2) λ fv s3 ⟨z,H3,I3,rz,ov,g,q3⟩=>jG ?_))))
 exact bF2 hu I3 g ry rz λ w' s4 I4 G=>⟨_,H3,I4,G,q3⟩
end
def DAt (h:Heap)(d:Addr)(es:Array gP)(ep:Nat):Prop:=∃ o,h.get? d=some o/\o.ExactDict/\o.data=.dict es ep
section
variable {P:aJ} {w:World} {A:aX} {E:Value->ag->Prop} {s:ag}
theorem az7 (d : Addr) (hd : (d == sysModules) = false) : MeetsIn P w (Builtin.«dict.items» ⟨[.ref d], []⟩) (λ _ R s => s.TypeIs (.ref d) "dict" /\
      R (.ok (.ret (.ref s.heap.objs.size))) { s with heap := s.heap.push { cls := .type "dict_items", data := .fields #[.ref d] } }) :=
  .of_wp λ A R s h => by
    unfold ko.«dict.items» Builtin.Dict.noArgs
    refine ab (ab (wpAny_notOrdered_dict h.1 ?_))
    show wpAny _ _ (pure d) _ _ s
    refine ao ?_
    show wpAny _ _ (iC d >>= _) _ _ s
    unfold iC
    rw[if_neg (by rw[hd]; exact aL)]
    exact ab (ao (ab (bf (ao ⟨_, rfl, h.2⟩))))
theorem aF3 {v d:Addr}{es:Array gP}{y:Nat}{Q:Value->ag->Prop}(hv:s.heap.IsItemsView v d)(Y:DAt s.heap d es y)
  (G:Q (.ref s.heap.objs.size) { s with heap:=s.heap.push { cls:=.type "dict_itemiterator",data:=.fields #[.none,.bool false,.ref d,.int 0 0,.int es.size 0,.int y 0,.none,.none] } }) :
  wpAny (model P w) A (kt (.ref v)) Q E s:=by
 obtain⟨ov,J,a2,Z⟩:=id hv
 obtain⟨o,z,b2,C⟩:=Y
 refine jO hv.typeIs ig (cg ig hv.typeIs F.entry_dict_items_iter ?_ (F.args_dict_items_iter_1 _))
 unfold ko.«dict_items.__iter__» kK
 refine ab (ao (ab (ab (cL J Z (x:=.ref d) rfl (ao (ab ?_))))))
 unfold j4
 refine ab (gu z C (ab (iq z C ?_)))
 have h:dP "dict_itemiterator"=true:=by decide
 simp only[h,if_true]
 refine bf (ao ⟨_,rfl, "dict_itemiterator",_,⟨_,az _ rfl,rfl⟩,bI.lookup,?_⟩)
  (by simp only[sizeOk,eA,ar,aC,aQ,dN,dv];omega)
 simpa [cR,eA]using G
theorem aE5 {it d:Addr}{i h:Nat}{es:Array gP}{x:gP}{ok G:Value}{Q:Option Value->ag->Prop}(y:d6 s.heap it d i es.size h ok G)
  (hm:DAt s.heap d es h) (hx:es[i]?=some x)
  (hQ:∀ h',jl h' it d (i+1) es.size h x.key x.val s.heap.objs.size->h'.get? s.heap.objs.size=some { cls:=.type "tuple",data:=.seq #[x.key,x.val] } ->
   (∀ b o,b≠it->s.heap.get? b=some o->h'.get? b=some o)->Q (some (.ref s.heap.objs.size)) { s with heap:=h' }) :
  wpAny (model P w) A (fg (.ref it)) Q E s:=by
 obtain⟨z,g,J,tk,os⟩:=s
 obtain⟨od,b1,b2,b3⟩:=hm
 have hT:kQ ⟨z,g,J,tk,os⟩ (.ref it) "dict_itemiterator":=⟨_,y,rfl⟩
 unfold fg
 refine ab (wpAny_attempt (cf (name:=bL "__next__") hT bI
  (cg bI hT ft ?_ (e9 _))))
 refine ab (ao (ab (ab ?_)))
 first|refine ab (cy hT (ao ?_))|refine ab (cY hT (ao ?_))
 refine ab (wpAny_fieldsOf y rfl ?_)
 have F:dP "dict_itemiterator"=true:=by decide
 simp only[F,if_true]
 show wpAny _ _ (if(Value.ref d==Value.none)=true then _ else _) _ _ _
 rw[if_neg (show ¬((Value.ref d==Value.none)=true)from aL)]
 refine ab (ao (ab (gu b1 b3 ?_)))
 rw[if_neg (by simp)]
 refine ab (ao (ab (iq b1 b3 ?_)))
 rw[if_neg (by simp)]
 refine ao ?_
 simp only[show ¬((i:Int)<0)from by omega,if_false,bH,hx]
 refine ab ?_
 first|refine ab (cy hT (ao ?_))|refine ab (cY hT (ao ?_))
 refine ab (eU hT ?_)
 show wpAny _ _ (setField (.ref it) 3 (cR ((i:Int)+1)) >>= _) _ _ ⟨z,g,J,tk,os⟩
 refine ab (dF y (by simp) λ C e1 s1=>?_)
 replace s1:cn it z C:=s1
 replace e1:d6 C it d (i+1) es.size h ok G:=by
  have e:((i+1:Nat):Int)=(i:Int)+1:=by omega
  unfold d6;rw[e];simpa [cR]using e1
 have T1:kQ ⟨C,g,J,tk,os⟩ (.ref it) "dict_itemiterator":=⟨_,e1,rfl⟩
 refine ab (cz (ab (eU T1 (ab (eU T1 ?_)))))
 show wpAny _ _ (eV (.ref it) 6 x.key x.val) _ _ ⟨C,g,J,tk,os⟩
 unfold eV
 refine ab (wpAny_newTuple ?_)
 have e2:d6 (C.push { cls:=.type "tuple",data:=.seq #[x.key,x.val] }) it d (i+1) es.size h ok G:=af _ e1
 generalize q2:C.push { cls:=.type "tuple",data:=.seq #[x.key,x.val] }=h2 at e2
 have z1:C.objs.size=z.objs.size:=s1.1
 have hil:it<z.objs.size:=ax y
 have t2:h2.get? z.objs.size=some { cls:=.type "tuple",data:=.seq #[x.key,x.val] }:=by rw[<-q2,<-z1];exact az _ rfl
 have k2:∀ b o,b≠it->z.get? b=some o->h2.get? b=some o:=λ b o hb e=>by rw[<-q2];exact af _ (s1.extBut b o hb e)
 show wpAny _ _ (eB (.ref it) >>= _) _ _ ⟨h2,g,J,tk,os⟩
 rw[z1]
 clear q2 e1 s1 T1 z1 C
 unfold eB
 refine ab (ab (cL e2 rfl (x:=.none) rfl (ao ?_)))
 simp only[if_true]
 refine ab (cL e2 rfl (x:=ok) rfl (ab (cL e2 rfl (x:=G) rfl ?_)))
 refine ab (dF e2 (by simp) λ Z e3 s3=>?_)
 replace s3:cn it h2 Z:=s3
 replace e3:d6 Z it d (i+1) es.size h x.key G:=e3
 refine ab (dF e3 (by simp) λ h4 e4 s4=>?_)
 replace s4:cn it Z h4:=s4
 replace e4:d6 h4 it d (i+1) es.size h x.key x.val:=e4
 refine ab (dF e4 (by simp) λ h5 e5 s5=>?_)
 replace s5:cn it h4 h5:=s5
 replace e5:jl h5 it d (i+1) es.size h x.key x.val z.objs.size:=e5
 refine ab (dF e5 (by simp) λ Y e6 s6=>?_)
 replace s6:cn it h5 Y:=s6
 replace e6:jl Y it d (i+1) es.size h x.key x.val z.objs.size:=e6
 have up:∀ b o,b≠it->h2.get? b=some o->Y.get? b=some o:=λ b o hb e=>s6.extBut b o hb (s5.extBut b o hb (s4.extBut b o hb (s3.extBut b o hb e)))
 exact ab (dw (ao (ao ⟨_,rfl,ao (hQ Y e6 (up _ _ (c6 hil) t2) λ b o hb e=>up b o hb (k2 b o hb e))⟩)))
theorem aD1 {it d:Addr}{i z:Nat}{es:Array gP}{ok J:Value}{Q:Option Value->ag->Prop}(Z:A.handled=none)(h:d6 s.heap it d i es.size z ok J)
  (Y:DAt s.heap d es z) (hx:es.size<=i) (G:∀ h',iU it s.heap h'->Q none { s with heap:=h' }):wpAny (model P w) A (fg (.ref it)) Q E s:=by
 obtain⟨od,C,b2,F⟩:=Y
 have hT:s.TypeIs (.ref it) "dict_itemiterator":=⟨_,h,rfl⟩
 unfold fg
 refine ab (wpAny_attempt (cf (name:=bL "__next__") hT bI
  (cg bI hT ft ?_ (e9 _))))
 refine ab (ao (ab (ab ?_)))
 first|refine ab (cy hT (ao ?_))|refine ab (cY hT (ao ?_))
 refine ab (wpAny_fieldsOf h rfl ?_)
 have y:dP "dict_itemiterator"=true:=by decide
 simp only[y,if_true]
 show wpAny _ _ (if(Value.ref d==Value.none)=true then _ else _) _ _ s
 rw[if_neg (show ¬((Value.ref d==Value.none)=true)from aL)]
 refine ab (ao (ab (gu C F ?_)))
 rw[if_neg (by simp)]
 refine ab (ao (ab (iq C F ?_)))
 rw[if_neg (by simp)]
 refine ao ?_
 simp only[show ¬((i:Int)<0)from by omega,if_false,bH,Array.getElem?_eq_none hx]
 refine ab ?_
 first|refine ab (cy hT (ao ?_))|refine ab (cY hT (ao ?_))
 show wpAny _ _ (setField (.ref it) 2 .none >>= _) _ _ s
 refine ab (iW h rfl (by simp) ?_)
 show wpAny _ _ (newExc (.type "StopIteration") [] >>= _) _ _ _
 refine ab ?_
 simp only[newExc,newTuple]
 refine ab (bf (ab (m:=f9 _ _) (iR (a:=Value.none) (by first|rfl|(simp only[f9];rfl)) ?_)) (by size_fits))
 refine bf ?_ (by size_fits)
 simp only[raiseNew]
 refine ab (wpAny_handled ?_)
 rw[show A.in1.handled=none from Z]
 refine ab (ao (wpAny_throw ?_))
 refine ab (wpAny_isInstance (T := "StopIteration") (b:=true) ⟨_,az _ rfl,rfl⟩ isSubtype_stop ?_)
 exact ao (G _ (((fM ..).extBut.push _).push _))
end
theorem am8:entryFor table "dict_itemiterator.__iter__"=some ko.«dict_keyiterator.__iter__»:=entryFor_alias (id' := "dict_keyiterator.__iter__") (by kernel_rfl) (by decide +kernel) (by decide +kernel) (by kernel_rfl)
structure DFz (H:Hp)(a:Addr)(o:Obj)(kvs:List (List Key×V)):Prop where
 at_:H a=some (.frz o (.dT kvs))
noncomputable def Jt (a:Addr)(o:Obj)(kvs:List (List Key×V)):It:=⟨λ i H=>DFz H a o kvs/\i<kvs.length,
 λ i H x H'=>∃ p b k v,kvs[i]?=some (k,v)/\H b=some (.tup (k.map kV))/\H p=none/\x=.ref p/\H'=upd H p (.tup [.ref b,v]),λ i H=>DFz H a o kvs/\kvs.length<=i⟩
theorem bj9 {P:aJ}{w:World}{H:Hp}{h:Heap}{a:Addr}{o:Obj}{C:List (List Key×V)}(ok:HOk P w H h)(z:DFz H a o C):(a==cH)=false/\∃ es F,DAt h a es F/\o.data=.dict es F/\es.size=C.length /\
  ∀(i:Nat) (k:List Key) (v:V),C[i]?=some (k,v)->∃ x b u,es[i]?=some x/\x.key=.ref b/\x.val=u/\RelV v u/\H b=some (.tup (k.map kV)):=by
 obtain⟨e,zz,y,G,r,o',es,F,h1,h2,Y,Z,h5⟩:=(show ab6 P w H h a (.frz o (.dT C))from ok a _ z.at_)
 rw[e]at h1;cases h1
 refine⟨y,es,F,⟨o,e,h2,Y⟩,Y,?_,λ i k v hi=>?_⟩
 ·have:=congrArg iK Z
  rw[au,dm]at this
  rw[this];exact(em r).symm
 ·have hl:=em r
  have hlt:i<G.length:=by rw[<-hl];exact(ac.mp hi).1
  have key:∀ {J:List (List Key×V)} {l₂:List (List Key×Addr×Value)} {i:Nat} {p:List Key×V} {q:List Key×Addr×Value},fV (λ(p:List Key×V) (q:List Key×Addr×Value)=>p.1=q.1/\H q.2.1=some (.tup (p.1.map kV))/\RelV p.2 q.2.2) J l₂->J[i]?=some p->l₂[i]?=some q->p.1=q.1/\H q.2.1=some (.tup (p.1.map kV))/\RelV p.2 q.2.2:=by
   intro J l₂ i p q r
   induction r generalizing i with
   | nil=>intro e;simp at e
   | cons h t ih =>
    intro e1 e2
    cases i with
    | zero=>simp at e1 e2;subst e1 e2;exact h
    | succ i=>exact ih (by simpa using e1) (by simpa using e2)
  obtain⟨q1,q2,q3⟩:=key r hi (ai hlt)
  have ex:es[i]?=some (entryOfKey (fT (zy P w)) G[i]):=by
   rw[<-iD,Z,aE,ai hlt];rfl
  exact⟨_,G[i].2.1,_,ex,rfl,rfl,q3,q2⟩
theorem aL9 {P:aJ}{w:World}{K:ae}{elts:List Expr}{ek:Nat}{epos:Pos}(a it:Addr)(o:Obj)(y:List (List Key×V))(ep:Nat)(Y:Array gP)(ho:o.data=.dict Y ep) :
  Turn P w K (.Tuple elts ek epos) (Jt a o y) [it] it (λ i h=>∃ ok G,d6 h it a i y.length ep ok G) where
 mem:=by simp
 obj:=λ i h st b hb=>by
  have e:b=it:=by simpa using hb
  subst e
  obtain⟨ok,G,e⟩:=st
  exact⟨_,e,λ v z=>by cases z⟩
 keep:=λ i h h' st k=>by
  obtain⟨ok,G,e⟩:=st
  exact⟨ok,G,k it (by simp) _ e⟩
 item:=by
  intro X hP hw hK hc i C s σ H E I hf st hg
  subst hP hw hK
  obtain⟨ok,G,hz⟩:=st
  obtain⟨fz,hlt⟩:=hg
  obtain⟨_,es,a3,da,od,hs,at_⟩:=bj9 I.hok fz
  rw[ho]at od;cases od
  obtain⟨x,b,u,ex,a2,ev,rv,hb⟩:=at_ i _ _ (ai hlt)
  subst ev
  have a5:d6 s.heap it a i Y.size ep ok G:=by rw[hs];exact hz
  refine aE5 a5 da ex λ h' z' T' kk=>⟨_,rfl,wpAny_letOwnedTupleGo_items (s:={ s with heap:=h' }) z' λ Z a4 J=>?_⟩
  replace J:cn it h' Z:=J
  rw[a2]at T'
  have lt:s.heap.objs.size≠it:=c6 (ax hz)
  have I1:Inv X C σ (upd H s.heap.objs.size (.tup [.ref b,y[i].2])) { s with heap:=s.heap.push { cls:=.type "tuple",data:=.seq #[.ref b,x.val] },toks:=s.toks } :=
   I.laid (λ b u e=>af _ e) (ak _) ⟨by simp[aG],[.ref b,x.val],.cons rfl (.cons rv .nil),_,az _ rfl,rfl,_,rfl⟩
  have a1:∀ c∈[it],FpOk X C (upd H s.heap.objs.size (.tup [.ref b,y[i].2])) c:=λ c hc=>by
   have q:=hf c hc
   have e:c=it:=by simpa using hc
   subst e
   exact⟨by rw[za lt.symm];exact q.1,q.2⟩
  have I2:Inv X C σ (upd H s.heap.objs.size (.tup [.ref b,y[i].2])) { s with heap:=Z,toks:=s.toks }:=by
   refine I1.turnedL (s:={ s with heap:=s.heap.push { cls:=.type "tuple",data:=.seq #[.ref b,x.val] },toks:=s.toks }) a1 λ c o hb e=>?_
   have hb:c≠it:=λ z=>hb (by simp[z])
   refine J.extBut _ _ hb ?_
   by_cases hcT:c=s.heap.objs.size
   ·subst hcT
    have:=az s.heap (o:={ cls:=.type "tuple",data:=.seq #[.ref b,x.val] }) rfl
    rw[show(s.heap.push { cls:=.type "tuple",data:=.seq #[.ref b,x.val] }).get? s.heap.objs.size=some o from e]at this
    cases this
    exact T'
   ·exact kk c o hb (by
     have e':(s.heap.push { cls:=.type "tuple",data:=.seq #[.ref b,x.val] }).get? c=some o:=e
     rw[Heap.get?_push_ne _ _ _ hcT]at e'
     exact e')
  exact⟨.ref s.heap.objs.size,_,I2,rfl,⟨_,b,y[i].1,y[i].2,ai hlt,hb,I.hok.fresh (ak _),rfl,rfl⟩,⟨_,_,by rw[<-hs];exact a4⟩,λ c hc=>(a1 c hc).1⟩
 done:=by
  intro X hP hw hK hc i C s σ H E I hf st hg
  subst hP hw hK
  obtain⟨ok,G,hz⟩:=st
  obtain⟨fz,a6⟩:=hg
  obtain⟨_,es,a3,da,od,hs,_⟩:=bj9 I.hok fz
  rw[ho]at od;cases od
  exact aD1 (I.ok.hd hc) (by rw[hs];exact hz) da (by omega) λ h' eb=>⟨rfl,I.turnedL (t':=s.toks) hf λ b o hb e=>eb b o (λ z=>hb (by simp[z])) e⟩
 self:=λ A i s Q E st h=>by
  obtain⟨ok,G,hz⟩:=st
  have hT:s.TypeIs (.ref it) "dict_itemiterator":=⟨_,hz,rfl⟩
  refine jO hT fB (cg fB hT am8 ?_ (F.args_dict_itemiterator_iter_1 _))
  show wpAny _ _ (ret (.ref it)) _ _ s
  exact ao ⟨_,rfl, "dict_itemiterator",_,hT,bI.lookup,h⟩
section
variable {X:Cx} {pins:List (Addr×Obj)} {σ:St} {H:Hp} {s:ag}
theorem HOk.tw {P:aJ}{w:World}{h:Heap}{a:Addr}{u v:HO}(ok:HOk P w H h)(G:H a=some u)(Z:∀ y,u≠.own y)(Y:∀ C,u≠.tup C)(new:ab6 P w H h a v):HOk P w (upd H a v) h:=λ b q e=>by
 have F:∀ c y,H c=some (.own y)->upd H a v c=some (.own y):=λ c y r=>by rw[za λ z=>by subst z;rw[G]at r;cases r;exact Z _ rfl];exact r
 have J:∀ c C,H c=some (.tup C)->upd H a v c=some (.tup C):=λ c C r=>by rw[za λ z=>by subst z;rw[G]at r;cases r;exact Y _ rfl];exact r
 by_cases hb:b=a
 ·subst hb;rw[zb]at e;cases e
  exact new.stay (λ _ _ _ r=>r) (λ c r=>F c _ r) J
 ·rw[za hb]at e
  exact(ok b q e).stay (λ _ _ _ r=>r) (λ c r=>F c _ r) J
theorem Inv.freeze {a:Addr}{o:Obj}{h:List (List Key×V)}(I:Inv X pins σ H s)(e:H a=some (.dT h))(ho:s.heap.get? a=some o):Inv X pins σ (upd H a (.frz o (.dT h))) s :=
 I.un (t':=s.toks) (Un.write (by rw[e];trivial) (.inl rfl) (λ _ _ _ q=>q) ⟨o,ho⟩) (I.hok.tw e (by nofun) (by nofun) ⟨ho,I.hok a _ e⟩)
theorem Inv.thaw {a:Addr}{o:Obj}{h:List (List Key×V)}(I:Inv X pins σ H s)(e:H a=some (.frz o (.dT h)))(h0:∀ o u,X.H₀ a≠some (.frz o u)):Inv X pins σ (upd H a (.dT h)) s:=by
 have y:∀ b,H b=none->upd H a (.dT h) b=none:=λ b n=>by rw[za λ z=>by subst z;rw[e]at n;cases n];exact n
 have B:=I.base
 refine⟨I.ok,I.os,I.bare,⟨B.keep,B.slot,λ b o q n hx=>y b (B.free b o q n hx),B.there,λ b C q=>?_,λ b ob u q=>?_,λ b ps q=>?_⟩,I.loc,I.cell,y _ I.free,λ x c q=>y _ (I.freeC x c q),λ p G=>?_,I.hok.tw e (by nofun) (by nofun) ?_,I.len⟩
 ·have r:=B.tups b C q
  rw[za λ z=>by subst z;rw[e]at r;cases r];exact r
 ·rw[za λ z=>by subst z;exact h0 _ _ q];exact B.frzs b ob u q
 ·obtain⟨m,r⟩:=B.tbls b ps q
  exact⟨m,by rw[za λ z=>by subst z;rw[e]at r;cases r];exact r⟩
 ·obtain⟨p1,F,p3⟩:=I.pin p G
  exact⟨p1,y _ F,p3⟩
 ·exact(show ab6 X.prog X.w H s.heap a (.frz o (.dT h))from I.hok a _ e).2
noncomputable def vwO (p a:Addr):HO:=.ext λ h=>h.IsItemsView p a
def bk3:V->List V->Hp->VK->Prop:=λ x xs H Q=>∃ a kvs,x=.ref a/\xs=[]/\H a=some (.dT kvs)/\∀ p,H p=none->Q (.ref p) (upd H p (vwO p a))
theorem be5:MtR X "dict.items" bk3:=by
 intro C s σ H x xs v us Q I rx J h
 obtain⟨a,Y,rfl,rfl,e,q⟩:=h
 cases rx
 cases J
 obtain⟨_,hd,ys,_,y⟩:=bC4 I.hok e
 refine jN gQ y.typeIs PySem.F.entry_dict_items (PySem.F.args_dict_items_1 _) (az7 a hd) ⟨y.typeIs,.ref s.heap.objs.size,_,I.laid (t':=s.toks) (o:=vwO s.heap.objs.size a) (λ b u r=>af _ r) (ak _) ?_,rfl,q _ (I.hok.fresh (ak _))⟩
 have z:(s.heap.push { cls:=.type "dict_items",data:=.fields #[.ref a] }).IsItemsView s.heap.objs.size a:=⟨_,az _ rfl,rfl,rfl⟩
 refine⟨z,⟨_,az _ rfl⟩,λ h1 h2 ⟨o,G,Z⟩ k=>⟨o,k _ G,Z⟩⟩
def aQ0 (K:ae)(to:TE):TI:=λ σ H R=>bT2 K "dict" bk3 to σ H λ x H'=>∃ p a kvs H1,x=.ref p/\H'=upd H1 p (vwO p a)/\H1 a=some (.dT kvs)/\H1 p=none/\∀ o,R (Jt a o kvs) (upd H' a (.frz o (.dT kvs)))
theorem be7 {elts:List Expr}{ek:Nat}{epos:Pos}{ob:Expr}{to:TE}{ap cp:Pos}(ho:PE X ob to)(hb:dh ob "items" X.env (eval ob X.env)=eval ob X.env)(hl:(ap.endLine==cp.line)=true) :
  PI X (.Tuple elts ek epos) (.Call (.Attribute ob "items" ap) [] [] cp) (aQ0 X.K to):=by
 intro J s σ H R I h
 have pe:=bk0 gO gQ PySem.F.type_dict_items be5 ho hb hl
 refine thn (pe J s σ H _ I h) λ v s1 ⟨x,H',C,r1,p,a,z,H1,ex,eH,e1,ep,q⟩=>?_
 subst ex
 cases r1
 have hv:s1.heap.IsItemsView p a:=(show ab6 X.prog X.w H' s1.heap p (vwO p a)from C.hok p _ (by rw[eH,zb])).1
 have ha:H' a=some (.dT z):=by rw[eH,za (zn e1 ep)];exact e1
 obtain⟨zz,y,xs,r,o,es,G,Y,h2,Z,h4,h5⟩:=(show ab6 X.prog X.w H' s1.heap a (.dT z)from C.hok a _ ha)
 have hsz:es.size=z.length:=by
  have:=congrArg iK h4
  rw[au,dm]at this
  rw[this];exact(em r).symm
 refine aF3 hv ⟨o,Y,h2,Z⟩ ?_
 have I2:=(C.freeze ha Y).kept (t':=s1.toks) (h':=s1.heap.push { cls:=.type "dict_itemiterator",data:=.fields #[.none,.bool false,.ref a,.int 0 0,.int es.size 0,.int G 0,.none,.none] }) λ b u r=>af _ r
 refine⟨s1.heap.objs.size,[s1.heap.objs.size],_,_,_,rfl,I2,aL9 a s1.heap.objs.size o z G es Z,⟨_,_,by rw[<-hsz];exact az _ rfl⟩,λ b hb=>?_,q o⟩
 have e:b=s1.heap.objs.size:=by simpa using hb
 subst e
 exact(C.freeze ha Y).fpOk (ak _) ((C.freeze ha Y).hok.fresh (ak _))
end
def bX9 (H:Hp)(kvs:List (List Key×V))(ys:List V)(D:Addr):Prop:=∀(j:Nat) (k:List Key) (v:V),j<ys.length->kvs[j]?=some (k,v)->∃ t,t≠D/\ys[j]?=some (.ref t)/\H t=some (.tup (k.map kV++[v]))
def teI (K:ae):TE:=tOp (bF5 K) (aZ8 0) (bW4 (an4 (aZ8 1) aQ9))
def gI (K:ae):TG:=bQ0 K 2 (bg4 (ao8 0) (bg4 (ao8 1) bT5))
theorem bG2 {K:ae}{a:Addr}{h:List (List Key×V)}{C:Hp}{σ:St}{Q:VK}(e:C a=some (.dT h))(ne:∀ kv∈h,kv.1≠[]/\kv.1.length<=1000)(hz:h.length<=1000000)
  (hQ:∀ D ys H2 o,ad9 C (upd H2 a (.dT h))->C D=none->D≠a->H2 D=some (.lst ys)->H2 a=some (.frz o (.dT h))->ys.length=h.length->bX9 H2 h ys D->Q (.ref D) H2) :
  tComp [none,none] (aQ0 K (tC (.ref a))) (gI K) bR1 (teI K) σ C Q:=by
 refine⟨.inr (.inr (.inl ⟨rfl,.inr ⟨h,e⟩⟩)),a,h,rfl,rfl,e,λ p hp=>⟨p,a,h,C,rfl,rfl,e,hp,λ o D hD=>?_⟩⟩
 generalize J:upd (upd C p (vwO p a)) a (.frz o (.dT h))=H2 at hD
 have ea:H2 a=some (.frz o (.dT h)):=by rw[<-J,zb]
 have aD:a≠D:=zn ea hD
 have a1:∀ b q,C b=some q->b≠a->H2 b=some q:=λ b q r z=>by rw[<-J,za z,za (zn r hp)];exact r
 refine⟨λ i m σ' H'=>m=h.length - i/\i<=h.length/\σ'.length=2/\(∀ b q,b≠D->H2 b=some q->H' b=some q)/\∃ ys,H' D=some (.lst ys)/\ys.length=i/\bX9 H' h ys D,⟨h.length,by simp,cu _,rfl,λ b q z r=>by rw[za z];exact r,[],zb,rfl,λ j k v hj=>absurd hj (Nat.not_lt_zero _)⟩,?_⟩
 rintro i m σ' H' ⟨rfl,hil,a6,kp,ys,hy,y,Y⟩
 have F:H' a=some (.frz o (.dT h)):=kp a _ aD ea
 rcases jP i h.length with hlt|hge
 ·refine .inr ⟨⟨⟨F⟩,hlt⟩,_,λ σ2 H3 n=>⟨h.length - (i+1),by omega,n⟩,?_⟩
  rintro x H3 ⟨p',b,k,v,hk,hb,a4,rfl,rfl⟩
  have k3:ad9 H' (upd H' p' (.tup [.ref b,v])):=(ad9.refl H').new a4
  refine⟨p',[.ref b,v],rfl,SqT.of zb,rfl,.ref b,[v],rfl,v,[],rfl,rfl,?_⟩
  show teI K _ _ _
  have h0:0 < σ'.length:=by omega
  have h1:1 < σ'.length:=by omega
  refine⟨.ref b,by rw[aR (by decide),aV h0],v,by rw[aV (by rw[a0];exact h1)],by show 1<=aG;rw[dv];omega,λ p2 a3=>?_⟩
  have k4:=k3.new (o:=.tup [v]) a3
  have a5:k≠[]:=(ne _ (aK hk)).1
  have a8:k.length<=1000:=(ne _ (aK hk)).2
  have a7:=k4 _ _ hb
  refine⟨b,p2,k.map kV,[v],rfl,rfl,SqT.of a7,SqT.of zb,?_,λ t H7 sm ht hn=>?_⟩
  ·rw[au,dv];show k.length+1<=_;omega
  ·have k7:ad9 H' H7:=λ c q r=>sm _ _ (k4 _ _ r)
   have Z:H7 t=some (.tup (k.map kV++[v])):=by
    rcases hn with hn|⟨_,hn⟩|⟨_,hn⟩
    ·exact hn
    ·cases hn
    ·exact absurd (List.map_eq_nil_iff.mp hn) a5
   have a2:t≠D:=bq5 Z (k7 _ _ hy) (by nofun)
   refine⟨ys,k7 _ _ hy,by rw[dv];omega,rfl,hlt,by rw[a0,a0];exact a6,λ c q z r=>by rw[za z];exact k7 _ _ (kp c q z r),ys++[.ref t],zb,by rw[aC,y];rfl,λ j k' v' hj G=>?_⟩
   rw[aC,y]at hj
   by_cases hji:j<i
   ·obtain⟨t',z1,z2,z3⟩:=Y j k' v' (by rw[y];exact hji) G
    exact⟨t',z1,by rw[aN (by rw[y];exact hji)];exact z2,by rw[za z1];exact k7 _ _ z3⟩
   ·have:j=i:=by simp at hj;omega
    subst this
    rw[hk]at G;cases G
    exact⟨t,a2,by rw[be (by rw[y];exact ak _),y,k6];rfl,by rw[za a2];exact Z⟩
 ·have:i=h.length:=by omega
  subst this
  refine .inl ⟨⟨⟨F⟩,ak _⟩,hQ D ys H' o (λ b q r=>?_) ?_ aD.symm hy F y Y⟩
  ·by_cases z:b=a
   ·subst z;rw[e]at r;cases r;exact zb
   ·have r2:=a1 b q r z
    rw[za z];exact kp b q (zn r2 hD) r2
  ·cases q:C D with
   | none=>rfl
   | some w=>have:=a1 D w q aD.symm;rw[hD]at this;cases this
theorem bL3 {X:Cx}{x y:Str}{ob:Expr}{to:TE}{scope:Scope}{p1 p2 p3 p4 p5 p6 p8 ap cp pos:Pos}{k2 k7:Nat}(Z:x≠y)(a2:zJ [x,y] [none,none] scope X.N X.env.scope=true)(F:X.calm=true)
  (hx:scope.names.lookup x=some .local) (hy:scope.names.lookup y=some .local) (a1:PE X ob to) (hb:dh ob "items" X.env (eval ob X.env)=eval ob X.env) (hl:(ap.endLine==cp.line)=true)
  (d1:(x==("__debug__":Str))=false) (d2:(y==("__debug__":Str))=false) (d3:(x==("__classdict__":Str))=false) (d4:(y==("__classdict__":Str))=false) :
  PE X (.ListComp (.BinOp (.Name x p1) .Add (.Tuple [.Name y p2] k2 p3) p4) [⟨.Tuple [.Name x p5,.Name y p6] k7 p8,.Call (.Attribute ob "items" ap) [] [] cp,[],0⟩] scope pos)
   (λ σ H Q=>tComp [none,none] (aQ0 X.K to) (gI X.K) bR1 (teI X.K) σ H λ v H'=>∃ a o G,H' a=some (.frz o (.dT G))/\(∀ o u,H a≠some (.frz o u))/\Q v (upd H' a (.dT G))):=by
 intro Y s σ H Q I h
 have base:=aE0 (X:=X) (pos:=pos) (scope:=scope) [x,y] [none,none] a2 (be7 (elts:=[.Name x p5,.Name y p6]) (ek:=k7) (epos:=p8) a1 hb hl) F (g:=gI X.K) (tc:=bR1) (te:=teI X.K) (ifs:=[]) (elt:=.BinOp (.Name x p1) .Add (.Tuple [.Name y p2] k2 p3) p4) (λ C cells s H ex=>by
  have J:∀ z,scope.names.lookup z=some .local->(dY scope X.env).names.lookup z=some .local:=λ z hz=>by
   have q:(dY scope X.env).names.lookup z=some (if(NameKind.local==NameKind.free&&X.env.scope.kind==.function&&X.env.kindOf z==some .cell)then NameKind.cell else NameKind.local):=zO (env:=X.env) hz
   rw[q];rfl
  have vx:Vis (dY scope X.env) x:=.inl (J x hx)
  have vy:Vis (dY scope X.env) y:=.inl (J y hy)
  have nd:[x,y].Nodup:=by simp[Z]
  refine⟨bk1 F (av5 (at4 (i:=0) nd rfl (.inl (J x hx)) (.inr (J x hx))) (av5 (at4 (i:=1) nd rfl (.inl (J y hy)) (.inr (J y hy))) aS5 rfl) rfl) rfl rfl,aT5,bK5 (aV7 rfl) (av8 (i:=0) rfl vx d1 d3) (bn8 (zC (av8 (i:=1) rfl vy d2 d4) ad2 rfl))⟩) (by intro _;rfl)
 exact thn (base Y s σ H _ I h) λ v s' ⟨z,H',I',r',a,o,G,e,nf,q⟩=>⟨z,_,I'.thaw e (λ o u r=>nf o u (I.base.frzs _ _ _ r)),r',q⟩
section
variable {prog:aJ} {w:World} {A:aX} {R:kY->ag->Prop} {I:Addr} {fp wr:List Addr} {n:Nat} {P:Nat->Value->Prop} {St:Nat->Heap->Prop} {kw:List (Str×Value)}
theorem aX8 (W:Walks prog w A.in1 I fp wr n P St)(bt:Nat->Nat->Bool)(a6:CmpOf prog w A.in1 .Gt P bt)(S:Addr)(a7:S ∉ fp) :
  ∀(k j:Nat) (s:ag) (vb:Value) (c:Nat),n - (j+1)=k->j+1<=n->St (j+1) s.heap->P (cb bt j) vb ->
  s.heap.get? S=some { cls:=.type "list",dict:=none,data:=.seq #[vb,vb] c,slots:=#[] } ->
  (∀ v h' tk,P (cb bt (n - 1)) v->(∀ b o,b ∉ wr->b≠S->s.heap.get? b=some o->h'.get? b=some o)->R (.ok (.ret v)) { s with heap:=h',toks:=tk }) ->
  fw (model prog w) A (.builtin "max.loop" ⟨[.ref I,.none,.ref S],kw⟩) R s:=by
 have a5:S ∉ wr:=λ h=>a7 (W.sub _ h)
 have Y:(toString "max"++toString ".loop":String) = "max.loop":=by decide
 intro k
 induction k with
 | zero =>
  intro j s vb c hk hj a4 Z hS hR
  have a8:j+1=n:=by omega
  refine dL gR ?_
  rw[cD cO _]
  show wpAny _ A.in1 (fm (.ref S) >>= _) _ _ s
  refine ab (cT hS rfl ?_)
  show wpAny _ A.in1 (tryCatch (fg (.ref I)) _ >>= _) _ _ s
  refine ab (cr (W.done s _ _ (a8▸a4) λ h' tk z=>?_))
  have G:=z S _ a5 hS
  show wpAny _ A.in1 (jY S (λ _=>#[]) >>= _) _ _ _
  refine ab ?_
  refine dM G rfl (ab (dw (ao ?_)))
  refine hR vb _ tk (by rw[<-a8];exact Z) λ b o y C e=>(bh _ _ (bJ C)).trans (z b o y e)
 | succ k ih =>
  intro j s vb c hk hj a4 Z hS hR
  have hlt:j+1<n:=by omega
  refine dL gR ?_
  rw[cD cO _]
  show wpAny _ A.in1 (fm (.ref S) >>= _) _ _ s
  refine ab (cT hS rfl ?_)
  show wpAny _ A.in1 (tryCatch (fg (.ref I)) _ >>= _) _ _ s
  refine ab (cr (W.item (j+1) s _ _ hlt a4 λ v h' tk hP a1 z=>?_))
  have G:=z S _ a5 hS
  show wpAny _ A.in1 (tryCatch (i6 [v,v] (richCompare .Gt v vb >>= _)) _ >>= _) _ _ _
  refine ab (cr (cz (ab (a6 (j+1) (cb bt j) v vb _ _ _ hP Z ?_))))
  refine ab (cz (bC ?_))
  refine ab (dw (ao ?_))
  cases hb:bt (j+1) (cb bt j)with
  | true =>
   simp only[if_true]
   refine ab ?_
   refine dM G rfl (ab (dw ?_))
   rw[Y]
   refine ao ⟨dj cO _,ih (j+1) _ v _ (by omega) hlt (W.frame _ _ _ a1 λ b a9 o e=>?_) (by simp only[cb,hb,if_true];exact hP) (cx _ G rfl)
    λ v' a2 F a3 J=>?_⟩
   ·exact(bh _ _ (λ h:S=b=>a7 (by rw[h];exact a9))).trans e
   ·exact hR v' a2 F a3 λ b o y C e=>J b o y C ((bh _ _ (bJ C)).trans (z b o y e))
  | false =>
   simp only[bz,if_false]
   refine ab (dw ?_)
   rw[Y]
   refine ao ⟨dj cO _,ih (j+1) _ vb c (by omega) hlt a1 (by simp only[cb,hb,bz,if_false];exact Z) G λ v' a2 F a3 J=>?_⟩
   exact hR v' a2 F a3 λ b o y C e=>J b o y C (z b o y e)
theorem aM0 (W:Walks prog w A.in1 I fp wr n P St)(bt:Nat->Nat->Bool)(J:CmpOf prog w A.in1 .Gt P bt)(S:Addr)(C:S ∉ fp){s:ag}{c:Nat}{d:Value}(a1:St 0 s.heap)
  (hS:s.heap.get? S=some { cls:=.type "list",dict:=none,data:=.seq #[] c,slots:=#[] })
  (h0:n=0->∀ h' tk,(∀ b o,b ∉ wr->b≠S->s.heap.get? b=some o->h'.get? b=some o)->R (.ok (.ret d)) { s with heap:=h',toks:=tk })
  (hR:0<n->∀ v h' tk,P (cb bt (n - 1)) v->(∀ b o,b ∉ wr->b≠S->s.heap.get? b=some o->h'.get? b=some o)->R (.ok (.ret v)) { s with heap:=h',toks:=tk }) :
  fw (model prog w) A (.builtin "max.loop" ⟨[.ref I,.none,.ref S],[(bL "default",d)]⟩) R s:=by
 have a5:S ∉ wr:=λ h=>C (W.sub _ h)
 have F:(toString "max"++toString ".loop":String) = "max.loop":=by decide
 refine dL gR ?_
 rw[cD cO _]
 show wpAny _ A.in1 (fm (.ref S) >>= _) _ _ s
 refine ab (cT hS rfl ?_)
 show wpAny _ A.in1 (tryCatch (fg (.ref I)) _ >>= _) _ _ s
 rcases jw n with hn|hn
 ·refine ab (cr (W.done s _ _ (hn▸a1) λ h' tk y=>?_))
  show wpAny _ A.in1 (rule _ >>= _) _ _ _
  refine ab (hX (ao ?_))
  exact h0 hn h' tk λ b o z _ e=>y b o z e
 ·refine ab (cr (W.item 0 s _ _ hn a1 λ v h' tk hP Z y=>?_))
  have Y:=y S _ a5 hS
  show wpAny _ A.in1 (jY S (λ _=>#[v,v]) >>= _) _ _ _
  refine ab ?_
  refine dM Y rfl ?_
  rw[F]
  refine ao ⟨dj cO _,aX8 W bt J S C _ 0 _ v _ rfl hn (W.frame _ _ _ Z λ b a7 o e=>?_) hP (cx _ Y rfl) λ v' a4 G a6 a2=>?_⟩
  ·exact(bh _ _ (λ h:S=b=>C (by rw[h];exact a7))).trans e
  ·exact hR hn v' a4 G a6 λ b o z a3 e=>a2 b o z a3 ((bh _ _ (bJ a3)).trans (y b o z e))
end
theorem aV4 (a d:Value):argsOk "max" ⟨[a],[(bL "default",d)]⟩:=by unfold argsOk;kernel_rfl
theorem al0 (val : Nat -> Int) : ∀ k j, j <= k -> val (cb (λ i j => decide (val i > val j)) k) ≥ val j
  | 0, j, h => by have : j = 0 := by omega
                  subst this; exact dz _
  | k + 1, j, h => by
    have ih := al0 val k
    unfold cb
    by_cases hb : val (k + 1) > val (cb (λ i j => decide (val i > val j)) k)
    · rw[if_pos (by simpa using hb)]
      by_cases hj : j = k + 1
      · subst hj; exact dz _
      · have := ih j (by omega); omega
    · rw[if_neg (by simpa using hb)]
      by_cases hj : j = k + 1
      · subst hj; omega
      · exact ih j (by omega)
def bw6 (K:ae):V->V->Hp->VK->Prop:=λ x d H Q=>∃ a ns,x=.ref a/\SqL K H a (ns.map V.int)/\(ns=[]->Q d H)/\∀ m∈ns,(∀ y∈ns,y<=m)->Q (.int m) H
theorem bb0 {X:Cx}{C:List (Addr×Obj)}{σ:St}{H:Hp}{s:ag}{x d:V}{u w':Value}{Q:VK}(hc:X.calm=true)(I:Inv X C σ H s)(rx:RelV x u)(rd:RelV d w')(h:bw6 X.K x d H Q) :
  wpAny (model X.prog X.w) X.A (call (.builtin "max") [u] [(bL "default",w')]) (EP X C σ Q) X.xe s:=by
 obtain⟨a,ns,rfl,hS,q0,qm⟩:=h
 cases rx
 obtain⟨its,rv,pl,hz⟩:=I.list hS
 have hl:=rv.length
 rw[au]at hl
 have Y:(toString "max"++toString ".loop":String) = "max.loop":=by decide
 refine kmb_tree F.kind_max F.plain_max F.entry_max (aV4 _ _) ?_
 show wpAny _ X.A.in1 (cK "max" ["key", "default"] 0 ⟨[],[(bL "default",w')]⟩ >>= _) _ _ s
 refine ab (iR (show cK "max" ["key", "default"] 0 ⟨[],[(bL "default",w')]⟩=pure [none,some w']from rfl) ?_)
 refine ab (ao ?_)
 refine ab (c7 pl.isList ?_)
 have a1:a<s.heap.objs.size:=by obtain⟨o,_,e,_⟩:=pl;exact ax e
 have W:=jx (prog:=X.prog) (w:=X.w) (A:=X.A.in1) (I.ok.hd hc) s.heap.objs.size a (aw a1) its.toArray
 refine ab (bf ?_)
 generalize J:s.heap.push _=h2
 have G:h2.objs.size=s.heap.objs.size+1:=by rw[<-J,bW]
 have a2:∀ b o,s.heap.get? b=some o->h2.get? b=some o:=λ b o e=>by rw[<-J];exact af _ e
 have a4:h2.objs.size ∉ [s.heap.objs.size,a]:=by
  rw[G]
  intro z
  rcases aF.mp z with z|z
  ·exact absurd z (jZ _)
  ·have z':s.heap.objs.size+1=a:=by simpa using z
   exact absurd (aq a1 (by rw[<-z'];exact c8 _)) (bu _)
 have a3:(h2.push { cls:=.type "list",data:=.seq ([]:List Value).toArray }).IsListIter s.heap.objs.size a 0/\(h2.push { cls:=.type "list",data:=.seq ([]:List Value).toArray }).IsList a its.toArray:=by
  refine⟨⟨_,af _ (by rw[<-J];exact az _ rfl),rfl,rfl⟩,?_⟩
  obtain⟨o,e,r⟩:=pl.isList
  exact⟨o,af _ (a2 _ _ e),r⟩
 let val:Nat->Int:=λ i=>ns.getD i 0
 have Z:∀ i v,its.toArray[i]?=some v->∃ t,v=Value.int (val i) t:=λ i v e=>by
  obtain⟨z,t,e1,e2⟩:=ah3 rv (i:=i) (v:=v) (by rw[bV]at e;exact e)
  refine⟨t,?_⟩
  rw[e2]
  show Value.int z t=Value.int (ns.getD i 0) t
  rw[aP,e1]
  rfl
 rw[Y]
 have nx:∀(h':Heap) (tk:Nat),(∀ b o,b ∉ [s.heap.objs.size]->b≠h2.objs.size->(h2.push { cls:=.type "list",data:=.seq ([]:List Value).toArray }).get? b=some o->h'.get? b=some o)->Inv X C σ H { s with heap:=h',toks:=tk }:=λ h' tk k=>I.kept λ b o e=>by
  refine k b o ?_ ?_ (af _ (a2 b o e))
  ·intro z
   have z':b=s.heap.objs.size:=by simpa using z
   exact absurd (ax e) (by rw[z'];exact bu _)
  ·intro z
   exact absurd (ax e) (by rw[z,G];exact Nat.not_lt.mpr (c8 _))
 refine ao ⟨dj cO _,aM0 (d:=w') W _ (CmpOf.ints_gt val Z) h2.objs.size a4 a3 (az _ rfl) (λ hn h' tk k=>?_) λ hn v h' tk hP k=>?_⟩
 ·have e:ns=[]:=by
   have:its.toArray.size=0:=hn
   have:its.length=0:=by simpa using this
   exact bG.mp (by omega)
  exact⟨d,H,nx h' tk k,rd,q0 e⟩
 ·obtain⟨z,t,e1,e2⟩:=ah3 rv (i:=cb (λ i j=>decide (val i > val j)) (its.toArray.size - 1)) (v:=v) (by rw[bV]at hP;exact hP)
  subst e2
  have hv:val (cb (λ i j=>decide (val i > val j)) (its.toArray.size - 1))=z:=by
   show ns.getD _ 0=z
   rw[aP,e1]
   rfl
  refine⟨.int z,H,nx h' tk k,⟨t,rfl⟩,qm z (aK e1) λ y hy=>?_⟩
  obtain⟨j,hj,e3⟩:=cE.mp hy
  have:=al0 val (its.toArray.size - 1) j (by simp only[ar];omega)
  rw[hv]at this
  have e4:val j=y:=by
   show ns.getD j 0=y
   rw[aP,ai hj]
   exact e3
  omega
def bS8 (K:ae)(ta td:TE):TE:=λ σ H Q=>ta σ H λ x H1=>td σ H1 λ d H2=>bw6 K x d H2 Q
theorem bs7 {X:Cx}{K:ae}{e J:Expr}{C G:TE}{p pos kp:Pos}(hK:X.K=K)(hc:X.calm=true)(hg:Gl X "max")(Y:X.mg "max"=none)(ha:PE X e C)(hd:PE X J G)
  (hs:bn [e] X.env=[(false,eval e X.env)]:=by rfl) :
  PE X (.Call (.Name "max" p) [e] [⟨some "default",J,kp⟩] pos) (bS8 K C G):=by
 subst hK
 intro y s σ H Q I h
 refine cc (ap3 I hg Y bK1 ?_)
 have h':an4 C aQ9 σ H (λ vs z=>match vs with|[x]=>G σ z λ d H2=>bw6 X.K x d H2 Q|_=>False):=h
 refine callWith_kw (env:=X.env) (thn ((zC ha ad2 hs) pos y s σ H _ I h') λ us s1 ⟨vs,z,Z,r1,F⟩=>?_) (by rw[hs];rfl) (by rw[hs];rfl)
 match vs,F,r1 with
 | [x],F,r1 =>
  obtain⟨u,rfl,ru⟩:=ag6 r1
  refine kws_cons (thn (hd y s1 σ z _ Z F) λ v s2 ⟨d,H2,I2,rd,q2⟩=>kws_nil ?_)
  exact bb0 hc I2 ru rd q2
end L2
end
noncomputable section
namespace DV
inductive D where
 | non|bl (b:Bool)|int (i:Int)|str (x:List Nat)|tup (l:List D)|ref (n:Nat)|fn (f:String)|clo (f:String) (cs:List D)
noncomputable instance:DecidableEq D:=λ a b=>gS (a=b)
noncomputable instance (x:D):Decidable (x=.non):=match x with
 | .non=>.isTrue rfl
 | .bl _=>.isFalse nofun
 | .int _=>.isFalse nofun
 | .str _=>.isFalse nofun
 | .tup _=>.isFalse nofun
 | .ref _=>.isFalse nofun
 | .fn _=>.isFalse nofun
 | .clo _ _=>.isFalse nofun
inductive O where
 | lst (l:List D)|ro (l:List D)|dic (l:List (D×D))|ins (c:String) (fs:List (String×D))|dit (l:List (D×D))
noncomputable instance:DecidableEq O:=λ a b=>gS (a=b)
noncomputable abbrev Sto:=List O
noncomputable def O.kd:O->Nat
 | .lst _=>0|.ro _=>1|.dic _=>2|.ins _ _=>3|.dit _=>4
inductive R (α:Type) where
 | ok (a:α) (s:Sto)|exc (e:D) (s:Sto)|bad
noncomputable abbrev M (α:Type):=Sto->R α
noncomputable def R.bind {α β:Type}(r:R α)(f:α->Sto->R β):R β:=match r with
 | .ok a s=>f a s
 | .exc e s=>.exc e s
 | .bad=>.bad
@[simp] theorem R.bind_ok {α β:Type} (a:α) (s:Sto) (f:α->Sto->R β):(R.ok a s).bind f=f a s:=rfl
@[simp] theorem R.bind_bad {α β:Type} (f:α->Sto->R β):(R.bad:R α).bind f=.bad:=rfl
@[simp] theorem R.bind_exc {α β:Type} (e:D) (s:Sto) (f:α->Sto->R β):(R.exc e s:R α).bind f=.exc e s:=rfl
theorem R.bind_inv {α β:Type}{r:R α}{f:α->Sto->R β}{b:β}{t:Sto}(h:r.bind f=.ok b t):∃ a s,r=.ok a s/\f a s=.ok b t:=by
 cases r with
 | ok a s=>exact⟨a,s,rfl,h⟩
 | exc e s=>cases h
 | bad=>cases h
@[simp] theorem R.bind_assoc {α β γ:Type} (r:R α) (f:α->Sto->R β) (g:β->Sto->R γ):(r.bind f).bind g=r.bind λ a s=>(f a s).bind g:=by cases r<;>rfl
mutual
noncomputable def D.bnd (n:Nat):D->Bool
 | .tup l=>D.bndL n l
 | .ref k=>decide (k<n)
 | .clo _ l=>D.bndL n l
 | _=>true
noncomputable def D.bndL (n:Nat):List D->Bool
 | []=>true
 | d::l=>D.bnd n d&&D.bndL n l
end
noncomputable def O.bnd (n:Nat):O->Bool
 | .lst l=>D.bndL n l
 | .ro l=>D.bndL n l
 | .dic l=>D.bndL n (l.map (·.1))&&D.bndL n (l.map (·.2))
 | .ins _ fs=>D.bndL n (fs.map (·.2))
 | .dit l=>D.bndL n (l.map (·.1))&&D.bndL n (l.map (·.2))
mutual
noncomputable def D.plain:D->Bool
 | .non=>true|.int _=>true|.str _=>true
 | .tup l=>D.plainL l
 | _=>false
noncomputable def D.plainL:List D->Bool
 | []=>true
 | d::l=>D.plain d&&D.plainL l
end
mutual
noncomputable def D.ncl:D->Bool
 | .tup l=>D.nclL l
 | .clo _ _=>false
 | _=>true
noncomputable def D.nclL:List D->Bool
 | []=>true
 | d::l=>D.ncl d&&D.nclL l
end
noncomputable def O.ncl:O->Bool
 | .lst l=>D.nclL l
 | .ro l=>D.nclL l
 | .dic l=>D.nclL (l.map (·.2))
 | .dit l=>D.nclL (l.map (·.2))
 | _=>false
noncomputable def D.key:D->Bool
 | .int _=>true|.str _=>true|_=>false
noncomputable def D.hdI:List D->Bool
 | .int _::_=>true|_=>false
noncomputable def D.keyS:D->Bool
 | .int _=>true|.str x=>decide (x.length<=1000)|_=>false
noncomputable def D.keyT:D->Bool
 | .tup l=>D.hdI l&&(l.all D.keyS&&decide (l.length<=1000))|_=>false
noncomputable def LIM:Nat:=1000000
@[irreducible] noncomputable def BIG:Nat:=2^60000
@[irreducible] noncomputable def DIVL:Nat:=2^4096
inductive BOp where
 | add|sub|mul|fdiv|mod|pow|shl|shr|band|bor
 deriving DecidableEq
inductive COp where
 | eq|ne|lt|le|gt|ge|isin|notin
 deriving DecidableEq
inductive Cn where
 | non|bl (b:Bool)|int (i:Int)|str (x:List Nat)
 deriving DecidableEq
noncomputable def Cn.d:Cn->D
 | .non=>.non|.bl b=>.bl b|.int i=>.int i|.str x=>.str x
inductive Bi where
 | len|abs|int|str|min2|max2|max3|min3|isInt|isBool|isStr|isTup|isList|ord
 deriving DecidableEq
inductive Mk where
 | tuple|list|all|any|sum|min|max|sorted|lenset
 deriving DecidableEq
inductive Mt where
 | append|pop|index|count|reverse|clear|bitlen|get1|get2|setdefault|update|split|partition
 deriving DecidableEq
inductive Tg where
 | one (i:Nat)|tup (is:List Nat)
 deriving DecidableEq
mutual
inductive E where
 | var (i:Nat)|cst (c:Cn)|glob (x:String)
 | bin (op:BOp) (a b:E)|neg (a:E)|not (a:E)
 | cmp (op:COp) (a b:E)|chain (o p:COp) (a b c:E)
 | isN (a:E)|notN (a:E)|isB (a:E) (b:Bool)|notB (a:E) (b:Bool)
 | and (a b:E)|or (a b:E)|ite (c a b:E)
 | tup (es:Es)|lst (es:Es)|dic (ks vs:Es)|dicT|get2 (o k d:E)
 | ix (a b:E)|slL (a lo:E)|slU (a hi:E)|slLU (a lo hi:E)|rev (a:E)
 | call (f:String) (as:As)|callC (f:String) (as:As)|callV (i:Nat) (es:Es)
 | bi (b:Bi) (es:Es)|mk (k:Mk) (l:L)|mkD (k:Mk) (l:L) (d:E)
 | meth (m:Mt) (o:E) (es:Es)|ext (o:E) (l:L)|extS (o e:E)|join (o e:E)|mks (k:Mk) (e:E)|mkDs (k:Mk) (e d:E)
inductive Es where
 | nil|cons (e:E) (es:Es)
inductive As where
 | nil|ex (e:E) (as:As)|lam (id:String) (caps:List Nat) (as:As)|fn (f:String) (as:As)
inductive I where
 | seq (e:E)|rng1 (a:E)|rng2 (a b:E)|rng3 (a b:E) (c:Int)|enum (it:I)|zip (a b:I)|items (e:E)
inductive L where
 | comp (tg:Tg) (it:I) (e:E) (caps:List (Option Nat))|compIf (tg:Tg) (it:I) (c e:E) (caps:List (Option Nat))|disp (es:Es)|seq (e:E)|itm (e:E)
end
mutual
inductive S where
 | asg (tg:Tg) (e:E)|setIx (o i e:E)|aug (i:Nat) (e:E)|ex (e:E)|ret (e:E)|retN
 | ite (c:E) (a b:Ss)|whl (c:E) (b:Ss)|for_ (tg:Tg) (it:I) (b:Ss)|pass|cont|brk|raise|und (i:Nat)
inductive Ss where
 | nil|cons (s:S) (ss:Ss)
end
noncomputable abbrev Env:=List (Option D)
noncomputable def ac9 (o:O):M D:=λ s=>.ok (.ref s.length) (s++[o])
noncomputable def pur (d:D):M D:=λ s=>.ok d s
noncomputable def bad {α:Type}:M α:=λ _=>.bad
noncomputable def mulOk (a b:Int):Bool:=decide (a.natAbs<2^64)||decide (b.natAbs<2^64)||(decide (a.natAbs<BIG)&&decide (b.natAbs<BIG))
noncomputable def rep:Nat->List Nat->List Nat
 | 0,_=>[]
 | n+1,a=>a++rep n a
noncomputable def aP2:Nat->List D->List D
 | 0,_=>[]
 | n+1,a=>a++aP2 n a
noncomputable def ag2:BOp->D->D->M D
 | .add,.int a,.int b=>pur (.int (a+b))
 | .add,.str a,.str b=>if a.length+b.length<=LIM then pur (.str (a++b))else bad
 | .add,.tup a,.tup b=>if a.length+b.length<=LIM then pur (.tup (a++b))else bad
 | .add,.ref a,.ref b=>λ s=>match s[a]?,s[b]? with
  | some (.lst l),some (.lst m)=>if l.length+m.length<=LIM then ac9 (.lst (l++m)) s else .bad
  | _,_=>.bad
 | .sub,.int a,.int b=>pur (.int (a - b))
 | .mul,.int a,.int b=>if mulOk a b then pur (.int (a*b))else bad
 | .mul,.str a,.int n=>if 0<=n/\n<=1000000/\a.length*n.toNat<=LIM then pur (.str (rep n.toNat a))else bad
 | .mul,.tup a,.int n=>if 0<=n/\n<=1000000/\a.length*n.toNat<=LIM then pur (.tup (aP2 n.toNat a))else bad
 | .mul,.ref a,.int n=>λ s=>match s[a]? with
  | some (.lst l)=>if 0<=n/\n<=1000000/\l.length*n.toNat<=LIM then ac9 (.lst (aP2 n.toNat l)) s else .bad
  | _=>.bad
 | .fdiv,.int a,.int b=>if 0<b/\b<(DIVL:Int)then pur (.int (a / b))else bad
 | .mod,.int a,.int b=>if 0<b then pur (.int (a % b))else bad
 | .pow,.int a,.int b=>if 0<=b/\b<=1000000/\a.natAbs<2^64 then pur (.int (a^b.toNat))else bad
 | .shl,.int a,.int b=>if 0<=b/\b<=1000000/\a.natAbs<2^64 then pur (.int (a*2^b.toNat))else bad
 | .shr,.int a,.int b=>if 0<=b then pur (.int (a / 2^b.toNat))else bad
 | _,_,_=>bad
noncomputable def kd (s:Sto):D->Nat
 | .non=>0|.bl _=>1|.int _=>1|.str _=>2|.tup _=>3
 | .ref r=>match s[r]? with|some (.lst _)=>4|_=>9
 | _=>9
noncomputable def aD2 (a b:Nat):Bool:=a==9||b==9||a==b
noncomputable def b2i (b:Bool):Int:=if b then 1 else 0
noncomputable def aS7:D->D->Option Bool
 | .non,.non=>some true
 | .bl a,.bl b=>some (a==b)
 | .int a,.int b=>some (a==b)
 | .bl a,.int b=>some (b2i a==b)
 | .int a,.bl b=>some (a==b2i b)
 | .str a,.str b=>some (a==b)
 | _,_=>none
noncomputable def ad1 (s:Sto)(a b:D):Option Bool:=match aS7 a b with
 | some z=>some z
 | none=>if aD2 (kd s a) (kd s b)then none else some false
noncomputable def eqL (f:D->D->Option Bool):List D->List D->Option Bool
 | [],[]=>some true
 | [],_::_=>some false
 | _::_,[]=>some false
 | a::l,b::m=>match f a b,eqL f l m with
  | some x,some y=>some (x&&y)
  | _,_=>none
noncomputable def eqv (s:Sto):Nat->D->D->Option Bool
 | 0,a,b=>ad1 s a b
 | n+1,a,b=>match a,b with
  | .tup l,.tup m=>eqL (eqv s n) l m
  | .ref x,.ref y=>match s[x]?,s[y]? with
   | some (.lst l),some (.lst m)=>if l.length=m.length then eqL (eqv s n) l m else some false
   | _,_=>none
  | a,b=>ad1 s a b
noncomputable def DEEP:Nat:=30
noncomputable def eqM (a b:D):M D:=λ s=>match eqv s DEEP a b with
 | some r=>.ok (.bl r) s
 | none=>.bad
noncomputable def inL (s:Sto)(x:D):List D->Option Bool
 | []=>some false
 | y::l=>match eqv s DEEP y x,inL s x l with
  | some a,some b=>some (a||b)
  | _,_=>none
noncomputable def look (k:D):List (D×D)->Option D
 | []=>none
 | (a,v)::l=>if a=k then some v else look k l
noncomputable def inM (a b:D):M Bool:=λ s=>match b with
 | .tup l=>match inL s a l with|some r=>.ok r s|none=>.bad
 | .ref r=>match s[r]? with
  | some (.lst l)=>match inL s a l with|some r=>.ok r s|none=>.bad
  | some (.dic l)=>if a.key then .ok (look a l).isSome s else .bad
  | some (.dit l)=>if a.keyT then .ok (look a l).isSome s else .bad
  | _=>.bad
 | .str y=>match a with|.str [c]=>.ok (decide (c∈y)) s|_=>.bad
 | _=>.bad
noncomputable def ql:COp->D->D->M D
 | .eq,a,b=>eqM a b
 | .ne,a,b=>λ s=>match eqv s DEEP a b with|some r=>.ok (.bl (!r)) s|none=>.bad
 | .lt,.int a,.int b=>pur (.bl (decide (a<b)))
 | .le,.int a,.int b=>pur (.bl (decide (a<=b)))
 | .gt,.int a,.int b=>pur (.bl (decide (b<a)))
 | .ge,.int a,.int b=>pur (.bl (decide (b<=a)))
 | .isin,a,b=>λ s=>(inM a b s).bind λ r s=>.ok (.bl r) s
 | .notin,a,b=>λ s=>(inM a b s).bind λ r s=>.ok (.bl (!r)) s
 | _,_,_=>bad
noncomputable def ixn (n:Nat)(i:Int):Option Nat:=if 0<=i then(if i<n then some i.toNat else none)else if -(n:Int)<=i then some (i+n).toNat else none
noncomputable def sbd (n:Nat)(i:Int):Nat:=if 0<=i then min i.toNat n else(i+n).toNat
noncomputable def loB (n:Nat):Option Int->Nat
 | none=>0
 | some i=>sbd n i
noncomputable def hiB (n:Nat):Option Int->Nat
 | none=>n
 | some i=>sbd n i
noncomputable def ai5 {α:Type}(l:List α)(lo hi:Option Int):List α:=(l.drop (loB l.length lo)).take (hiB l.length hi - loB l.length lo)
noncomputable def ixM (a b:D):M D:=λ s=>match a,b with
 | .tup l,.int i=>match(ixn l.length i).bind λ j=>l[j]? with|some d=>.ok d s|none=>.bad
 | .str l,.int i=>match(ixn l.length i).bind λ j=>l[j]? with|some c=>.ok (.str [c]) s|none=>.bad
 | .ref r,b=>match s[r]? with
  | some (.lst l)=>match b with
   | .int i=>match(ixn l.length i).bind λ j=>l[j]? with|some d=>.ok d s|none=>.bad
   | _=>.bad
  | some (.ro l)=>match b with
   | .int i=>match(ixn l.length i).bind λ j=>l[j]? with|some d=>.ok d s|none=>.bad
   | _=>.bad
  | some (.dic l)=>if b.key then match look b l with|some d=>.ok d s|none=>.bad else .bad
  | some (.dit l)=>if b.keyT then match look b l with|some d=>.ok d s|none=>.bad else .bad
  | _=>.bad
 | _,_=>.bad
noncomputable def slM (a:D)(lo hi:Option Int):M D:=λ s=>match a with
 | .tup l=>.ok (.tup (ai5 l lo hi)) s
 | .str l=>.ok (.str (ai5 l lo hi)) s
 | .ref r=>match s[r]? with
  | some (.lst l)=>ac9 (.lst (ai5 l lo hi)) s
  | _=>.bad
 | _=>.bad
noncomputable def bU0 (a:D):M D:=λ s=>match a with
 | .str l=>.ok (.str l.reverse) s
 | .ref r=>match s[r]? with
  | some (.lst l)=>ac9 (.lst l.reverse) s
  | _=>.bad
 | _=>.bad
noncomputable def aj2:List D->Option (List Bool)
 | []=>some []
 | .bl b::l=>(aj2 l).map (b::·)
 | _=>none
noncomputable def zZ:List D->Option (List Int)
 | []=>some []
 | .int i::l=>(zZ l).map (i::·)
 | _=>none
noncomputable def bm6:List D->Option (List (List Nat))
 | []=>some []
 | .str i::l=>(bm6 l).map (i::·)
 | _=>none
noncomputable def bA8 (d:D):M D:=λ s=>match d with
 | .tup l=>.ok (.int l.length) s
 | .str l=>.ok (.int l.length) s
 | .ref r=>match s[r]? with
  | some (.lst l)=>.ok (.int l.length) s
  | some (.ro l)=>.ok (.int l.length) s
  | _=>.bad
 | _=>.bad
noncomputable def isK (k:Nat)(d:D):M D:=λ s=>match d with
 | .non=>.ok (.bl false) s
 | .bl _=>.ok (.bl (k==1||k==2)) s
 | .int _=>.ok (.bl (k==1)) s
 | .str _=>.ok (.bl (k==3)) s
 | .tup _=>.ok (.bl (k==4)) s
 | .ref r=>match s[r]? with
  | some (.lst _)=>.ok (.bl (k==5)) s
  | _=>.bad
 | _=>.bad
noncomputable def bi1 (f:D->M D):List D->M D
 | [d]=>f d
 | _=>bad
noncomputable def bi:Bi->List D->M D
 | .len,l=>bi1 bA8 l
 | .abs,l=>λ s=>match zZ l with|some [i]=>.ok (.int (if i<0 then -i else i)) s|_=>.bad
 | .int,l=>λ s=>match aj2 l with|some [b]=>.ok (.int (if b then 1 else 0)) s|_=>.bad
 | .min2,l=>λ s=>match zZ l with|some [a,b]=>.ok (.int (if b<a then b else a)) s|_=>.bad
 | .max2,l=>λ s=>match zZ l with|some [a,b]=>.ok (.int (if b > a then b else a)) s|_=>.bad
 | .max3,l=>λ s=>match zZ l with|some [a,b,c]=>.ok (.int (max (max a b) c)) s|_=>.bad
 | .isInt,l=>bi1 (isK 1) l
 | .isBool,l=>bi1 (isK 2) l
 | .isStr,l=>bi1 (isK 3) l
 | .isTup,l=>bi1 (isK 4) l
 | .isList,l=>bi1 (isK 5) l
 | _,_=>bad
noncomputable def minI:List Int->Option Int
 | []=>none
 | a::l=>some (l.foldl min a)
noncomputable def bF7:List Int->Option Int
 | []=>none
 | a::l=>some (l.foldl max a)
noncomputable def ins (a:Int):List Int->List Int
 | []=>[a]
 | b::l=>if a<=b then a::b::l else b::ins a l
noncomputable def bI5:List Int->List Int
 | []=>[]
 | a::l=>ins a (bI5 l)
noncomputable def ca6 (is:List Int):Bool:=is.all (λ i=>decide (-1000000000<=i/\i<=1000000000))&&decide (is.length<=1000000)
noncomputable def mk:Mk->List D->M D
 | .tuple,l=>λ s=>.ok (.tup l) s
 | .list,l=>ac9 (.lst l)
 | .all,l=>λ s=>match aj2 l with|some bs=>.ok (.bl (bs.all id)) s|none=>.bad
 | .any,l=>λ s=>match aj2 l with|some bs=>.ok (.bl (bs.any id)) s|none=>.bad
 | .sum,l=>λ s=>match zZ l with|some is=>if ca6 is then .ok (.int is.sum) s else .bad|none=>.bad
 | .min,l=>λ s=>match(zZ l).bind minI with|some m=>.ok (.int m) s|none=>.bad
 | .max,l=>λ s=>match(zZ l).bind bF7 with|some m=>.ok (.int m) s|none=>.bad
 | .sorted,l=>λ s=>match zZ l with|some is=>ac9 (.lst ((bI5 is).map D.int)) s|none=>.bad
 | .lenset,l=>bad
noncomputable def mkD (k:Mk)(l:List D)(d:D):M D:=λ s=>match k with
 | .min=>match zZ l with|some is=>(match minI is with|some m=>.ok (.int m) s|none=>.ok d s)|none=>.bad
 | .max=>match zZ l with|some is=>(match bF7 is with|some m=>.ok (.int m) s|none=>.ok d s)|none=>.bad
 | _=>.bad
noncomputable def aq9 (k v:D)(l:List (D×D)):List (D×D):=if(look k l).isSome then l.map (λ p=>if p.1=k then(p.1,v)else p)else l++[(k,v)]
noncomputable def setIx (o i v:D):Sto->R Unit:=λ s=>match o with
 | .ref r=>match s[r]? with
  | some (.lst l)=>match i with
   | .int i=>match ixn l.length i with|some j=>.ok () (s.set r (.lst (l.set j v)))|none=>.bad
   | _=>.bad
  | some (.dic l)=>if i.key&&decide (l.length<LIM)then .ok () (s.set r (.dic (aq9 i v l)))else .bad
  | some (.dit l)=>if i.keyT&&decide (l.length<LIM)then .ok () (s.set r (.dit (aq9 i v l)))else .bad
  | _=>.bad
 | _=>.bad
noncomputable def bn5 (o k e:D):M D:=λ s=>match o with
 | .ref r=>match s[r]? with
  | some (.dit l)=>if k.keyT then .ok ((look k l).getD e) s else .bad
  | _=>.bad
 | _=>.bad
noncomputable def idx (s:Sto)(x:D):Nat->List D->Option Nat
 | _,[]=>none
 | n,y::l=>match eqv s DEEP y x with
  | some true=>some n
  | some false=>idx s x (n+1) l
  | none=>none
noncomputable def meth:Mt->D->List D->M D
 | .append,.ref r,[d]=>λ s=>match s[r]? with
  | some (.lst l)=>if l.length<LIM then .ok .non (s.set r (.lst (l++[d])))else .bad
  | _=>.bad
 | .pop,.ref r,[]=>λ s=>match s[r]? with
  | some (.lst l)=>match l.getLast? with|some d=>.ok d (s.set r (.lst l.dropLast))|none=>.bad
  | _=>.bad
 | .reverse,.ref r,[]=>λ s=>match s[r]? with
  | some (.lst l)=>.ok .non (s.set r (.lst l.reverse))
  | _=>.bad
 | .clear,.ref r,[]=>λ s=>match s[r]? with
  | some (.lst l)=>.ok .non (s.set r (.lst []))
  | _=>.bad
 | .index,.ref r,[d]=>λ s=>match s[r]? with
  | some (.lst l)=>match inL s d l,idx s d 0 l with|some true,some n=>.ok (.int n) s|_,_=>.bad
  | _=>.bad
 | _,_,_=>bad
noncomputable def ba9 (o:D)(l:List D):M D:=λ s=>match o with
 | .ref r=>match s[r]? with
  | some (.lst m)=>if m.length+l.length<=LIM then .ok .non (s.set r (.lst (m++l)))else .bad
  | _=>.bad
 | _=>.bad
noncomputable def bt7 (x y:D):M D:=λ s=>match x with
 | .str []=>match y with
  | .ref r=>match s[r]? with
   | some (.lst l)=>match bm6 l with
    | some ss=>if ss.flatten.length<=LIM then .ok (.str ss.flatten) s else .bad
    | none=>.bad
   | _=>.bad
  | _=>.bad
 | _=>.bad
noncomputable def extS (o d:D):M D:=λ s=>match d with
 | .ref k=>match s[k]? with
  | some (.lst l)=>ba9 o l s
  | _=>.bad
 | _=>.bad
structure Fns where
 call:String->List D->M D
 lam:String->List D->List D->M D
 con:String->Option D
noncomputable def aS2 (ρ:Env)(i:Nat):M D:=λ s=>match ρ[i]? with|some (some d)=>.ok d s|_=>.bad
noncomputable def af8 (ρ:Env):List Nat->Option (List D)
 | []=>some []
 | i::is=>match ρ[i]?,af8 ρ is with|some (some d),some l=>some (d::l)|_,_=>none
noncomputable def qg (ρ:Env)(caps:List (Option Nat)):Env:=caps.map λ o=>match o with|none=>none|some j=>(ρ[j]?).join
noncomputable def aD7 (ρ:Env)(i:Nat)(d:D):Option Env:=if i < ρ.length then some (ρ.set i (some d))else none
noncomputable def ae5 (ρ:Env)(i:Nat):Option Env:=if i < ρ.length then some (ρ.set i none)else none
noncomputable def al5 (ρ:Env):List Nat->List D->Option Env
 | [],[]=>some ρ
 | i::is,d::l=>(aD7 ρ i d).bind λ ρ=>al5 ρ is l
 | _,_=>none
noncomputable def ad0 (ρ:Env):Tg->D->Option Env
 | .one i,d=>aD7 ρ i d
 | .tup is,.tup l=>al5 ρ is l
 | _,_=>none
structure Sq where
 its:List D
 src:List Nat
noncomputable def ag8 (d:D):M Sq:=λ s=>match d with
 | .tup l=>.ok ⟨l,[]⟩ s
 | .str l=>.ok ⟨l.map λ c=>.str [c],[]⟩ s
 | .ref r=>match s[r]? with
  | some (.lst l)=>.ok ⟨l,[r]⟩ s
  | some (.ro l)=>.ok ⟨l,[]⟩ s
  | _=>.bad
 | _=>.bad
noncomputable def be9 (d:D):M Sq:=λ s=>match d with
 | .tup l=>.ok ⟨l,[]⟩ s
 | .str l=>.ok ⟨l.map λ c=>.str [c],[]⟩ s
 | .ref r=>match s[r]? with
  | some (.lst l)=>.ok ⟨l,[r]⟩ s
  | some (.ro l)=>.ok ⟨l,[]⟩ s
  | _=>.bad
 | _=>.bad
noncomputable def bc5 (d:D):M Sq:=λ s=>match d with
 | .tup l=>.ok ⟨l,[]⟩ s
 | .ref r=>match s[r]? with
  | some (.lst l)=>.ok ⟨l,[r]⟩ s
  | some (.ro l)=>.ok ⟨l,[]⟩ s
  | _=>.bad
 | _=>.bad
noncomputable def bS1 (p:D×D):D:=match p.1 with
 | .tup l=>.tup (l++[p.2])
 | _=>.non
noncomputable def bo0 (d:D):Sto->R (List D):=λ s=>match d with
 | .ref r=>match s[r]? with
  | some (.dit l)=>if l.length<=LIM then .ok (l.map bS1) s else .bad
  | _=>.bad
 | _=>.bad
noncomputable def bl1 (d:D):Sto->R (List D):=λ s=>match d with
 | .tup l=>.ok l s
 | .str l=>.ok (l.map λ c=>.str [c]) s
 | .ref r=>match s[r]? with
  | some (.lst l)=>.ok l s
  | some (.ro l)=>.ok l s
  | _=>.bad
 | _=>.bad
noncomputable def bA7 (d:D):Sto->R (List D):=λ s=>match d with
 | .ref r=>match s[r]? with
  | some (.lst l)=>.ok l s
  | _=>.bad
 | _=>.bad
noncomputable def W62:Int:=4611686018427387904
noncomputable def ae8 (a b:Int):List D:=(bB (b - a).toNat).map λ(k:Nat)=>.int (a+k)
noncomputable def ca7 (a b c:Int):List D:=if 0<c then(bB ((b - a+c - 1) / c).toNat).map λ(k:Nat)=>.int (a+c*k)else(bB ((a - b+(-c) - 1) / (-c)).toNat).map λ(k:Nat)=>.int (a+c*k)
noncomputable def bs3 (n:Nat):List D->List D
 | []=>[]
 | d::l=>.tup [.int n,d]::bs3 (n+1) l
noncomputable def bY3:List D->List D->List D
 | a::l,b::m=>.tup [a,b]::bY3 l m
 | _,_=>[]
noncomputable def chk (s0 s:Sto)(src:List Nat):Bool:=src.all λ r=>decide (s[r]?=s0[r]?)
noncomputable def tru {α:Type}(r:R D)(f:Bool->Sto->R α):R α:=r.bind λ d s=>match d with|.bl b=>f b s|_=>.bad
@[simp] theorem tru_bl {α:Type} (b:Bool) (s:Sto) (f:Bool->Sto->R α):tru (.ok (.bl b) s) f=f b s:=rfl
noncomputable def ae3 (ok:Sto->Bool)(g:D->Env->Sto->R (Option D×Env)):List D->Env->Sto->R (List D)
 | [],_,s=>if ok s then .ok [] s else .bad
 | d::l,ρ,s=>if ok s then(g d ρ s).bind λ p s=>(ae3 ok g l p.2 s).bind λ r s=>.ok (match p.1 with|some v=>v::r|none=>r) s else .bad
mutual
noncomputable def ev (F:Fns):E->Env->Sto->R D
 | .var i,ρ,s=>aS2 ρ i s
 | .cst c,_,s=>.ok c.d s
 | .glob x,_,s=>match F.con x with|some d=>.ok d s|none=>.bad
 | .bin op a b,ρ,s=>(ev F a ρ s).bind λ x s=>(ev F b ρ s).bind λ y s=>ag2 op x y s
 | .neg a,ρ,s=>(ev F a ρ s).bind λ x s=>match x with|.int i=>.ok (.int (-i)) s|_=>.bad
 | .not a,ρ,s=>tru (ev F a ρ s) λ b s=>.ok (.bl (!b)) s
 | .cmp op a b,ρ,s=>(ev F a ρ s).bind λ x s=>(ev F b ρ s).bind λ y s=>ql op x y s
 | .chain o p a b c,ρ,s=>(ev F a ρ s).bind λ x s=>(ev F b ρ s).bind λ y s=>tru (ql o x y s) λ k s=>if k then(ev F c ρ s).bind λ z s=>ql p y z s else .ok (.bl false) s
 | .isN a,ρ,s=>(ev F a ρ s).bind λ x s=>.ok (.bl (decide (x=.non))) s
 | .notN a,ρ,s=>(ev F a ρ s).bind λ x s=>.ok (.bl (!decide (x=.non))) s
 | .isB a b,ρ,s=>(ev F a ρ s).bind λ x s=>match x with|.bl c=>.ok (.bl (c==b)) s|_=>.bad
 | .notB a b,ρ,s=>(ev F a ρ s).bind λ x s=>match x with|.bl c=>.ok (.bl (!(c==b))) s|_=>.bad
 | .and a b,ρ,s=>tru (ev F a ρ s) λ c s=>if c then tru (ev F b ρ s) λ c s=>.ok (.bl c) s else .ok (.bl false) s
 | .or a b,ρ,s=>tru (ev F a ρ s) λ c s=>if c then .ok (.bl true) s else tru (ev F b ρ s) λ c s=>.ok (.bl c) s
 | .ite c a b,ρ,s=>tru (ev F c ρ s) λ k s=>if k then ev F a ρ s else ev F b ρ s
 | .tup es,ρ,s=>(evs F es ρ s).bind λ l s=>.ok (.tup l) s
 | .lst es,ρ,s=>(evs F es ρ s).bind λ l s=>ac9 (.lst l) s
 | .dic .nil .nil,ρ,s=>ac9 (.dic []) s
 | .dic (.cons k .nil) (.cons v .nil),ρ,s=>(ev F k ρ (s++[.dic []])).bind λ kd s1=>(ev F v ρ s1).bind λ vd s2=>if kd.key=true/\s2[s.length]?=some (.dic [])then .ok (.ref s.length) (s2.set s.length (.dic [(kd,vd)]))else .bad
 | .dic _ _,ρ,s=>.bad
 | .dicT,_,s=>ac9 (.dit []) s
 | .get2 o k d,ρ,s=>(ev F o ρ s).bind λ x s=>(ev F k ρ s).bind λ y s=>(ev F d ρ s).bind λ z s=>bn5 x y z s
 | .ix a b,ρ,s=>(ev F a ρ s).bind λ x s=>(ev F b ρ s).bind λ y s=>ixM x y s
 | .slL a lo,ρ,s=>(ev F a ρ s).bind λ x s=>(ev F lo ρ s).bind λ y s=>match y with|.int i=>slM x (some i) none s|_=>.bad
 | .slU a hi,ρ,s=>(ev F a ρ s).bind λ x s=>(ev F hi ρ s).bind λ y s=>match y with|.int i=>slM x none (some i) s|_=>.bad
 | .slLU a lo hi,ρ,s=>(ev F a ρ s).bind λ x s=>(ev F lo ρ s).bind λ y s=>match y with|.int i=>(ev F hi ρ s).bind (λ z s=>match z with|.int j=>slM x (some i) (some j) s|_=>.bad)|_=>.bad
 | .rev a,ρ,s=>(ev F a ρ s).bind λ x s=>bU0 x s
 | .call f as,ρ,s=>(aq4 F as ρ s).bind λ l s=>F.call f l s
 | .callC f as,ρ,s=>(aq4 F as ρ s).bind λ l s=>(F.call f l s).bind λ d s'=>if(d.ncl&&s'.all O.ncl)=true then .ok d s' else .bad
 | .callV i es,ρ,s=>(evs F es ρ s).bind λ l s=>match ρ[i]? with
  | some (some (.fn f))=>F.call f l s
  | some (some (.clo id cs))=>F.lam id cs l s
  | _=>.bad
 | .bi b es,ρ,s=>(evs F es ρ s).bind λ l s=>bi b l s
 | .mk k it,ρ,s=>(evL F it ρ s).bind λ q s=>mk k q s
 | .mkD k it d,ρ,s=>(evL F it ρ s).bind λ q s=>(ev F d ρ s).bind λ d s=>mkD k q d s
 | .meth m o es,ρ,s=>(ev F o ρ s).bind λ x s=>(evs F es ρ s).bind λ l s=>meth m x l s
 | .ext o it,ρ,s=>(ev F o ρ s).bind λ x s=>(evL F it ρ s).bind λ q s=>ba9 x q s
 | .extS o e,ρ,s=>(ev F o ρ s).bind λ x s=>(ev F e ρ s).bind λ y s=>extS x y s
 | .join o e,ρ,s=>(ev F o ρ s).bind λ x s=>(ev F e ρ s).bind λ y s=>bt7 x y s
 | .mks k e,ρ,s=>(ev F e ρ s).bind λ x s=>(bA7 x s).bind λ q s=>mk k q s
 | .mkDs k e d,ρ,s=>(ev F e ρ s).bind λ x s=>(ev F d ρ s).bind λ z s=>(bA7 x s).bind λ q s=>mkD k q z s
noncomputable def evs (F:Fns):Es->Env->Sto->R (List D)
 | .nil,_,s=>.ok [] s
 | .cons e es,ρ,s=>(ev F e ρ s).bind λ d s=>(evs F es ρ s).bind λ l s=>.ok (d::l) s
noncomputable def aq4 (F:Fns):As->Env->Sto->R (List D)
 | .nil,_,s=>.ok [] s
 | .ex e as,ρ,s=>(ev F e ρ s).bind λ d s=>(aq4 F as ρ s).bind λ l s=>.ok (d::l) s
 | .lam id caps as,ρ,s=>match af8 ρ caps with
  | some cs=>(aq4 F as ρ s).bind λ l s=>.ok (.clo id cs::l) s
  | none=>.bad
 | .fn f as,ρ,s=>(aq4 F as ρ s).bind λ l s=>.ok (.fn f::l) s
noncomputable def evI (F:Fns):I->Env->Sto->R Sq
 | .seq e,ρ,s=>(ev F e ρ s).bind λ d s=>ag8 d s
 | .rng1 a,ρ,s=>(ev F a ρ s).bind λ x s=>match x with|.int i=>if -W62<=i/\i<W62 then .ok ⟨ae8 0 i,[]⟩ s else .bad|_=>.bad
 | .rng2 a b,ρ,s=>(ev F a ρ s).bind λ x s=>(ev F b ρ s).bind λ y s=>match x,y with|.int i,.int j=>if(-W62<=i/\i<W62)/\-W62<=j/\j<W62 then .ok ⟨ae8 i j,[]⟩ s else .bad|_,_=>.bad
 | .rng3 a b c,ρ,s=>(ev F a ρ s).bind λ x s=>(ev F b ρ s).bind λ y s=>match x,y with|.int i,.int j=>if c=2/\(0<=i/\i<1048576)/\0<=j/\j<1048576 then .ok ⟨ca7 i j c,[]⟩ s else .bad|_,_=>.bad
 | .enum (.seq e),ρ,s=>(ev F e ρ s).bind λ d s=>(bc5 d s).bind λ q s=>.ok ⟨bs3 0 q.its,q.src⟩ s
 | .zip (.seq a) (.seq b),ρ,s=>(ev F a ρ s).bind λ x s=>(ev F b ρ s).bind λ y s=>(be9 x s).bind λ p s=>(be9 y s).bind λ q s=>.ok ⟨bY3 p.its q.its,p.src++q.src⟩ s
 | .enum _,_,_=>.bad
 | .zip _ _,_,_=>.bad
 | .items e,ρ,s=>.bad
noncomputable def evL (F:Fns):L->Env->Sto->R (List D)
 | .comp tg it e caps,ρ,s=>(evI F it ρ s).bind λ q s0=>if q.its.length<=LIM then ae3 (λ s=>chk s0 s q.src) (λ d ρ s=>match ad0 ρ tg d with
   | some ρ=>(ev F e ρ s).bind λ v s=>.ok (some v,ρ) s
   | none=>.bad) q.its (qg ρ caps) s0 else .bad
 | .compIf tg it c e caps,ρ,s=>(evI F it ρ s).bind λ q s0=>if q.its.length<=LIM then ae3 (λ s=>chk s0 s q.src) (λ d ρ s=>match ad0 ρ tg d with
   | some ρ=>tru (ev F c ρ s) λ k s=>if k then(ev F e ρ s).bind λ v s=>.ok (some v,ρ) s else .ok (none,ρ) s
   | none=>.bad) q.its (qg ρ caps) s0 else .bad
 | .disp es,ρ,s=>evs F es ρ s
 | .seq e,ρ,s=>(ev F e ρ s).bind λ d s=>bl1 d s
 | .itm e,ρ,s=>(ev F e ρ s).bind λ d s=>bo0 d s
end
inductive Ct where
 | next (ρ:Env)|ret (d:D)|cont (ρ:Env)|brk (ρ:Env)
noncomputable def aP1 (ok:Sto->Bool)(g:D->Env->Sto->R Ct):List D->Env->Sto->R Ct
 | [],ρ,s=>if ok s then .ok (.next ρ) s else .bad
 | d::l,ρ,s=>if ok s then(g d ρ s).bind λ c s=>match c with
   | .next ρ=>aP1 ok g l ρ s
   | .cont ρ=>aP1 ok g l ρ s
   | .brk ρ=>.ok (.next ρ) s
   | .ret d=>.ok (.ret d) s
  else .bad
noncomputable def qA (c:Env->Sto->R D)(g:Env->Sto->R Ct):Nat->Env->Sto->R Ct
 | 0,_,_=>.bad
 | n+1,ρ,s=>tru (c ρ s) λ b s=>if b then(g ρ s).bind λ c' s=>match c' with
   | .next ρ=>qA c g n ρ s
   | .cont ρ=>qA c g n ρ s
   | .brk ρ=>.ok (.next ρ) s
   | .ret d=>.ok (.ret d) s
  else .ok (.next ρ) s
open Classical in
noncomputable def whl (c:Env->Sto->R D)(g:Env->Sto->R Ct)(ρ:Env)(s:Sto):R Ct :=
 if h:∃ n,qA c g n ρ s≠.bad then qA c g h.choose ρ s else .bad
mutual
noncomputable def ex (F:Fns):S->Env->Sto->R Ct
 | .asg tg e,ρ,s=>(ev F e ρ s).bind λ d s=>match ad0 ρ tg d with|some ρ=>.ok (.next ρ) s|none=>.bad
 | .setIx o i e,ρ,s=>(ev F e ρ s).bind λ d s=>(ev F o ρ s).bind λ x s=>(ev F i ρ s).bind λ y s=>(setIx x y d s).bind λ _ s=>.ok (.next ρ) s
 | .aug i e,ρ,s=>(aS2 ρ i s).bind λ x s=>(ev F e ρ s).bind λ y s=>match x,y with
  | .int a,.int b=>match aD7 ρ i (.int (a+b))with|some ρ=>.ok (.next ρ) s|none=>.bad
  | _,_=>.bad
 | .ex e,ρ,s=>(ev F e ρ s).bind λ _ s=>.ok (.next ρ) s
 | .ret e,ρ,s=>(ev F e ρ s).bind λ d s=>.ok (.ret d) s
 | .retN,_,s=>.ok (.ret .non) s
 | .ite c a b,ρ,s=>tru (ev F c ρ s) λ k s=>if k then exs F a ρ s else exs F b ρ s
 | .whl c b,ρ,s=>whl (ev F c) (exs F b) ρ s
 | .for_ tg it b,ρ,s=>(evI F it ρ s).bind λ q s0=>aP1 (λ s=>chk s0 s q.src) (λ d ρ s=>match ad0 ρ tg d with
   | some ρ=>exs F b ρ s
   | none=>.bad) q.its ρ s0
 | .pass,ρ,s=>.ok (.next ρ) s
 | .cont,ρ,s=>.ok (.cont ρ) s
 | .brk,ρ,s=>.ok (.brk ρ) s
 | .raise,_,_=>.bad
 | .und i,ρ,s=>match ae5 ρ i with|some ρ=>.ok (.next ρ) s|none=>.bad
noncomputable def exs (F:Fns):Ss->Env->Sto->R Ct
 | .nil,ρ,s=>.ok (.next ρ) s
 | .cons st ss,ρ,s=>(ex F st ρ s).bind λ c s=>match c with|.next ρ=>exs F ss ρ s|c=>.ok c s
end
structure Df where
 name:String
 ps:Nat
 vs:Nat
 body:Ss
structure Lm where
 id:String
 ps:Nat
 cs:Nat
 body:E
structure Pr where
 df:String->Option Df
 lm:String->Option Lm
 con:String->Option D
noncomputable def at9 (st st':Sto):Bool:=(bB st.length).all λ i=>decide (st'[i]?=st[i]?)||(match st'[i]? with|some o=>o.bnd st.length|none=>false)
noncomputable def zK (st:Sto)(d:D)(st':Sto):R D :=
 if at9 st st' then
  match d with
  | .ref r=>if r<st.length then .ok d (st'.take st.length)else match st'[r]? with
   | some o=>if o.bnd st.length then .ok (.ref st.length) (st'.take st.length++[o])else .ok d st'
   | none=>.bad
  | d=>if d.bnd st.length then .ok d (st'.take st.length)else .ok d st'
 else .ok d st'
noncomputable def aa1 (P:Pr):Nat->Fns
 | 0=>⟨λ _ _ _=>.bad,λ _ _ _ _=>.bad,P.con⟩
 | n+1=>⟨λ f l s=>match P.df f with
   | some d=>if l.length=d.ps then(exs (aa1 P n) d.body (l.map some++aI d.vs none) s).bind λ c s'=>match c with
     | .ret v=>zK s v s'
     | .next _=>zK s .non s'
     | _=>.bad else .bad
   | none=>.bad,
  λ id cs l s=>match P.lm id with
   | some d=>if l.length=d.ps/\cs.length=d.cs/\(D.nclL l&&D.nclL cs&&s.all O.ncl)=true then(ev (aa1 P n) d.body (l.map some++cs.map some) s).bind λ v s'=>zK s v s' else .bad
   | none=>.bad,P.con⟩
def KP (s s':Sto):Prop:=∀(i:Nat) (o:O),s[i]?=some o->∃ o',s'[i]?=some o'/\o'.kd=o.kd
theorem KP.refl (s:Sto):KP s s:=λ i o h=>⟨o,h,rfl⟩
theorem KP.trans {a b c:Sto}(h:KP a b)(g:KP b c):KP a c:=λ i o e=>by
 obtain⟨z,e1,k1⟩:=h i o e
 obtain⟨y,e2,k2⟩:=g i z e1
 exact⟨y,e2,k2.trans k1⟩
theorem KP.app (s t:Sto):KP s (s++t):=λ i o e=>⟨o,by rw[aN (ac.mp e).1];exact e,rfl⟩
theorem KP.set {s:Sto}{r:Nat}{o y:O}(h:s[r]?=some y)(k:o.kd=y.kd):KP s (s.set r o):=λ i u e=>by
 by_cases z:r=i
 ·subst z
  rw[h]at e;cases e
  exact⟨o,aV (ac.mp h).1,k⟩
 ·exact⟨u,by rw[aR z];exact e,rfl⟩
def KR {α:Type}(s:Sto)(r:R α):Prop:=∀ a s',r=.ok a s'->KP s s'
theorem KR.bad {α:Type}{s:Sto}:KR s (.bad:R α):=λ _ _ h=>by cases h
theorem KR.ok {α:Type}{s:Sto}{a:α}:KR s (.ok a s):=λ _ _ h=>by cases h;exact KP.refl _
theorem KR.bind {α β:Type}{s:Sto}{r:R α}{f:α->Sto->R β}(h:KR s r)(g:∀ a s1,KR s1 (f a s1)):KR s (r.bind f):=λ b s' e=>by
 obtain⟨a,s1,e1,e2⟩:=R.bind_inv e
 exact(h a s1 e1).trans (g a s1 b s' e2)
theorem KR.tru {α:Type}{s:Sto}{r:R D}{f:Bool->Sto->R α}(h:KR s r)(g:∀ a s1,KR s1 (f a s1)):KR s (tru r f):=KR.bind h λ a s1=>by
 cases a with
 | bl b=>exact g b s1
 | _=>exact KR.bad
theorem KR.if {α:Type}{s:Sto}{c:Prop}[Decidable c]{a b:R α}(h:KR s a)(g:KR s b):KR s (if c then a else b):=by split;exact h;exact g
theorem KR.al {s:Sto}{o:O}:KR s (ac9 o s):=λ _ _ h=>by cases h;exact KP.app _ _
theorem KR.pu {s:Sto}{d:D}:KR s (pur d s):=λ _ _ h=>by cases h;exact KP.refl _
theorem KR.bd {s:Sto}:KR s ((DV.bad:M D) s):=λ _ _ h=>by cases h
theorem KR.im {s:Sto}{c:Prop}{_:Decidable c}{d:D}:KR s ((if c then pur d else DV.bad:M D) s):=by split;exact KR.pu;exact KR.bd
theorem KR.ia {s:Sto}{c:Prop}{_:Decidable c}{o:O}:KR s (if c then ac9 o s else .bad):=KR.if KR.al KR.bd
theorem bi5 (op:BOp)(x y:D)(s:Sto):KR s (ag2 op x y s):=by
 cases op with
 | add=>cases x with
  | int a=>cases y with
   | int b=>exact KR.pu
   | _=>exact KR.bd
  | str a=>cases y with
   | str b=>exact KR.im
   | _=>exact KR.bd
  | tup a=>cases y with
   | tup b=>exact KR.im
   | _=>exact KR.bd
  | ref a=>cases y with
   | ref b =>
    show KR s (match s[a]?,s[b]? with|some (.lst l),some (.lst m)=>if l.length+m.length<=LIM then ac9 (.lst (l++m)) s else .bad|_,_=>.bad)
    split
    ·exact KR.ia
    ·exact KR.bd
   | _=>exact KR.bd
  | _=>exact KR.bd
 | sub=>cases x with
  | int a=>cases y with
   | int b=>exact KR.pu
   | _=>exact KR.bd
  | _=>exact KR.bd
 | mul=>cases x with
  | int a=>cases y with
   | int b=>exact KR.im
   | _=>exact KR.bd
  | str a=>cases y with
   | int b=>exact KR.im
   | _=>exact KR.bd
  | tup a=>cases y with
   | int b=>exact KR.im
   | _=>exact KR.bd
  | ref a=>cases y with
   | int n =>
    show KR s (match s[a]? with|some (.lst l)=>if 0<=n/\n<=1000000/\l.length*n.toNat<=LIM then ac9 (.lst (aP2 n.toNat l)) s else .bad|_=>.bad)
    split
    ·exact KR.ia
    ·exact KR.bd
   | _=>exact KR.bd
  | _=>exact KR.bd
 | fdiv=>cases x with
  | int a=>cases y with
   | int b=>exact KR.im
   | _=>exact KR.bd
  | _=>exact KR.bd
 | mod=>cases x with
  | int a=>cases y with
   | int b=>exact KR.im
   | _=>exact KR.bd
  | _=>exact KR.bd
 | pow=>cases x with
  | int a=>cases y with
   | int b=>exact KR.im
   | _=>exact KR.bd
  | _=>exact KR.bd
 | shl=>cases x with
  | int a=>cases y with
   | int b=>exact KR.im
   | _=>exact KR.bd
  | _=>exact KR.bd
 | shr=>cases x with
  | int a=>cases y with
   | int b=>exact KR.im
   | _=>exact KR.bd
  | _=>exact KR.bd
 | _=>exact KR.bd
theorem aU4 (op:COp)(x y:D)(s:Sto):KR s (ql op x y s):=by
 have z:∀ a b:D,KR s (inM a b s):=λ a b=>by
  intro r s' h
  unfold inM at h
  split at h
  ·split at h<;>cases h;exact KP.refl _
  ·split at h
   ·split at h<;>cases h;exact KP.refl _
   ·split at h<;>cases h;exact KP.refl _
   ·split at h<;>cases h;exact KP.refl _
   ·cases h
  ·split at h<;>cases h;exact KP.refl _
  ·cases h
 cases op with
 | isin=>exact KR.bind (z x y) λ _ _=>KR.ok
 | notin=>exact KR.bind (z x y) λ _ _=>KR.ok
 | eq=>intro a s' h;change eqM x y s=_ at h;unfold eqM at h;split at h<;>cases h;exact KP.refl _
 | ne =>
  intro a s' h
  change(match eqv s DEEP x y with|some r=>R.ok (D.bl (!r)) s|none=>.bad)=_ at h
  split at h<;>cases h;exact KP.refl _
 | _ =>
  intro a s' h
  cases x with
  | int i=>(cases y with
   | int j=>cases h;exact KP.refl _
   | _=>cases h)
  | _=>cases h
theorem bT3 (x y:D)(s:Sto):KR s (ixM x y s):=by
 intro a s' h
 unfold ixM at h
 repeat' split at h
 all_goals first|(cases h;exact KP.refl _;done)|(cases h;done)
theorem by6 (x:D)(z y:Option Int)(s:Sto):KR s (slM x z y s):=by
 intro a s' h
 unfold slM at h
 repeat' split at h
 all_goals first|(cases h;exact KP.refl _;done)|(cases h;exact KP.app _ _;done)|(cases h;done)
theorem bs0 (x:D)(s:Sto):KR s (bl1 x s):=by
 intro a s' h
 unfold bl1 at h
 repeat' split at h
 all_goals first|(cases h;exact KP.refl _;done)|(cases h;done)
theorem aR3 (x:D)(s:Sto):KR s (bA7 x s):=by
 intro a s' h
 unfold bA7 at h
 repeat' split at h
 all_goals first|(cases h;exact KP.refl _;done)|(cases h;done)
theorem bp6 (x:D)(s:Sto):KR s (ag8 x s):=by
 intro a s' h
 unfold ag8 at h
 repeat' split at h
 all_goals first|(cases h;exact KP.refl _;done)|(cases h;done)
theorem aJ5 (x:D)(s:Sto):KR s (be9 x s):=by
 intro a s' h
 unfold be9 at h
 repeat' split at h
 all_goals first|(cases h;exact KP.refl _;done)|(cases h;done)
theorem bh0 (x:D)(s:Sto):KR s (bc5 x s):=by
 intro a s' h
 unfold bc5 at h
 repeat' split at h
 all_goals first|(cases h;exact KP.refl _;done)|(cases h;done)
theorem bq9 (x y:D)(s:Sto):KR s (bt7 x y s):=by
 intro a s' h
 unfold bt7 at h
 repeat' split at h
 all_goals first|(cases h;exact KP.refl _;done)|(cases h;done)
theorem bU1 (b:Bi)(l:List D)(s:Sto):KR s (bi b l s):=by
 have k1:∀ f:D->M D,(∀ d,KR s (f d s))->KR s (bi1 f l s):=λ f y=>by
  cases l with
  | nil=>exact KR.bad
  | cons d t=>(cases t with
   | nil=>exact y d
   | cons _ _=>exact KR.bad)
 have k2:∀ k d,KR s (isK k d s):=λ k d=>by
  intro a s' h
  unfold isK at h
  repeat' split at h
  all_goals first|(cases h;exact KP.refl _;done)|(cases h;done)
 have z:∀ d,KR s (bA8 d s):=λ d=>by
  intro a s' h
  unfold bA8 at h
  repeat' split at h
  all_goals first|(cases h;exact KP.refl _;done)|(cases h;done)
 cases b with
 | len=>exact k1 _ z
 | isInt=>exact k1 _ (k2 1)
 | isBool=>exact k1 _ (k2 2)
 | isStr=>exact k1 _ (k2 3)
 | isTup=>exact k1 _ (k2 4)
 | isList=>exact k1 _ (k2 5)
 | _ =>
  intro a s' h
  unfold bi at h
  first|(cases h;done)|(simp only at h;split at h<;>first|(cases h;exact KP.refl _;done)|(cases h;done))
theorem bI6 (k:Mk)(l:List D)(s:Sto):KR s (mk k l s):=by
 cases k with
 | tuple=>exact KR.ok
 | list=>exact KR.al
 | lenset=>exact KR.bad
 | _ =>
  intro a s' h
  unfold mk at h
  simp only at h
  repeat' split at h
  all_goals first|(cases h;exact KP.refl _;done)|(cases h;exact KP.app _ _;done)|(cases h;done)
theorem bn1 (k:Mk)(l:List D)(d:D)(s:Sto):KR s (mkD k l d s):=by
 intro a s' h
 unfold mkD at h
 repeat' split at h
 all_goals first|(cases h;exact KP.refl _;done)|(cases h;done)
theorem bp8 (m:Mt)(o:D)(l:List D)(s:Sto):KR s (meth m o l s):=by
 intro a s' h
 unfold meth at h
 repeat' split at h
 all_goals first|(cases h;done)|(cases h;exact KP.refl _;done)|(rename_i e _;cases h;exact KP.set e rfl;done)|(rename_i e _ _ _;cases h;exact KP.set e rfl;done)|(rename_i e;cases h;exact KP.set e rfl;done)|(rename_i e _ _;cases h;exact KP.set e rfl;done)
theorem aQ4 (o:D)(l:List D)(s:Sto):KR s (ba9 o l s):=by
 intro a s' h
 unfold ba9 at h
 repeat' split at h
 all_goals first|(cases h;done)|(rename_i e _;cases h;exact KP.set e rfl;done)
theorem bd9 (o i v:D)(s:Sto):KR s (setIx o i v s):=by
 intro a s' h
 unfold setIx at h
 cases o with
 | ref r =>
  simp only at h
  cases e:s[r]? with
  | none=>rw[e]at h;cases h
  | some ob =>
   rw[e]at h
   cases ob with
   | lst l =>
    cases i with
    | int k=>simp only at h;split at h<;>cases h;exact KP.set e rfl
    | _=>cases h
   | dic l=>simp only at h;split at h<;>cases h;exact KP.set e rfl
   | dit l=>simp only at h;split at h<;>cases h;exact KP.set e rfl
   | _=>cases h
 | _=>cases h
theorem by1 (o k e:D)(s:Sto):KR s (bn5 o k e s):=by
 intro a s' h
 unfold bn5 at h
 repeat' split at h
 all_goals first|(cases h;exact KP.refl _;done)|(cases h;done)
theorem bv7 (d:D)(s:Sto):KR s (bo0 d s):=by
 intro a s' h
 unfold bo0 at h
 repeat' split at h
 all_goals first|(cases h;exact KP.refl _;done)|(cases h;done)
structure FK (F:Fns):Prop where
 call:∀ f l s,KR s (F.call f l s)
 lam:∀ id cs l s,KR s (F.lam id cs l s)
theorem at2 {ok:Sto->Bool}{g:D->Env->Sto->R (Option D×Env)}(hg:∀ d ρ s,KR s (g d ρ s)):∀(l:List D) (ρ:Env) (s:Sto),KR s (ae3 ok g l ρ s)
 | [],ρ,s=>KR.if KR.ok KR.bad
 | d::l,ρ,s=>KR.if (KR.bind (hg d ρ s) λ p s1=>KR.bind (at2 hg l p.2 s1) λ r s2=>KR.ok) KR.bad
section
variable {F:Fns} (hF:FK F)
theorem aQ7 (ρ:Env)(i:Nat)(s:Sto):KR s (aS2 ρ i s):=by
 intro a s' h
 unfold aS2 at h
 split at h<;>cases h;exact KP.refl _
include hF
mutual
theorem ze:∀(e:E) (ρ:Env) (s:Sto),KR s (ev F e ρ s)
 | .var i,ρ,s=>aQ7 ρ i s
 | .cst c,ρ,s=>KR.ok
 | .glob x,ρ,s=>by
  intro a s' h
  change(match F.con x with|some d=>R.ok d s|none=>.bad)=_ at h
  split at h<;>cases h;exact KP.refl _
 | .bin op a b,ρ,s=>KR.bind (ze a ρ s) λ x s=>KR.bind (ze b ρ s) λ y s=>bi5 op x y s
 | .neg a,ρ,s=>KR.bind (ze a ρ s) λ x s=>by
  cases x with
  | int i=>exact KR.ok
  | _=>exact KR.bad
 | .not a,ρ,s=>KR.tru (ze a ρ s) λ b s=>KR.ok
 | .cmp op a b,ρ,s=>KR.bind (ze a ρ s) λ x s=>KR.bind (ze b ρ s) λ y s=>aU4 op x y s
 | .chain o p a b c,ρ,s=>KR.bind (ze a ρ s) λ x s=>KR.bind (ze b ρ s) λ y s=>KR.tru (aU4 o x y s) λ k s=>KR.if (KR.bind (ze c ρ s) λ z s=>aU4 p y z s) KR.ok
 | .isN a,ρ,s=>KR.bind (ze a ρ s) λ x s=>KR.ok
 | .notN a,ρ,s=>KR.bind (ze a ρ s) λ x s=>KR.ok
 | .isB a b,ρ,s=>KR.bind (ze a ρ s) λ x s=>by
  cases x with
  | bl i=>exact KR.ok
  | _=>exact KR.bad
 | .notB a b,ρ,s=>KR.bind (ze a ρ s) λ x s=>by
  cases x with
  | bl i=>exact KR.ok
  | _=>exact KR.bad
 | .and a b,ρ,s=>KR.tru (ze a ρ s) λ c s=>KR.if (KR.tru (ze b ρ s) λ c s=>KR.ok) KR.ok
 | .or a b,ρ,s=>KR.tru (ze a ρ s) λ c s=>KR.if KR.ok (KR.tru (ze b ρ s) λ c s=>KR.ok)
 | .ite c a b,ρ,s=>KR.tru (ze c ρ s) λ k s=>KR.if (ze a ρ s) (ze b ρ s)
 | .tup es,ρ,s=>KR.bind (ag0 es ρ s) λ l s=>KR.ok
 | .lst es,ρ,s=>KR.bind (ag0 es ρ s) λ l s=>KR.al
 | .dic .nil .nil,ρ,s=>KR.al
 | .dic (.cons k .nil) (.cons v .nil),ρ,s=>by
  intro a s' h
  obtain⟨kd,s1,e1,h⟩:=R.bind_inv (show(ev F k ρ (s++[.dic []])).bind _=_ from h)
  obtain⟨C,s2,e2,h⟩:=R.bind_inv h
  split at h
  case isFalse=>cases h
  rename_i hc
  cases h
  exact((KP.app _ _).trans ((ze k ρ _ _ _ e1).trans (ze v ρ _ _ _ e2))).trans (KP.set hc.2 rfl)
 | .dic .nil (.cons _ _),ρ,s=>KR.bad
 | .dic (.cons _ .nil) .nil,ρ,s=>KR.bad
 | .dic (.cons _ .nil) (.cons _ (.cons _ _)),ρ,s=>KR.bad
 | .dic (.cons _ (.cons _ _)) _,ρ,s=>KR.bad
 | .dicT,ρ,s=>KR.al
 | .get2 o k d,ρ,s=>KR.bind (ze o ρ s) λ x s=>KR.bind (ze k ρ s) λ y s=>KR.bind (ze d ρ s) λ z s=>by1 x y z s
 | .ix a b,ρ,s=>KR.bind (ze a ρ s) λ x s=>KR.bind (ze b ρ s) λ y s=>bT3 x y s
 | .slL a lo,ρ,s=>KR.bind (ze a ρ s) λ x s=>KR.bind (ze lo ρ s) λ y s=>by
  cases y with
  | int i=>exact by6 _ _ _ _
  | _=>exact KR.bad
 | .slU a hi,ρ,s=>KR.bind (ze a ρ s) λ x s=>KR.bind (ze hi ρ s) λ y s=>by
  cases y with
  | int i=>exact by6 _ _ _ _
  | _=>exact KR.bad
 | .slLU a lo hi,ρ,s=>KR.bind (ze a ρ s) λ x s=>KR.bind (ze lo ρ s) λ y s=>by
  cases y with
  | int i =>
   refine KR.bind (ze hi ρ s) λ z s=>?_
   cases z with
   | int j=>exact by6 _ _ _ _
   | _=>exact KR.bad
  | _=>exact KR.bad
 | .rev a,ρ,s=>KR.bind (ze a ρ s) λ x s=>by
  cases x with
  | str l=>exact KR.ok
  | ref r =>
   intro a s' h
   unfold bU0 at h
   repeat' split at h
   all_goals first|(cases h;exact KP.refl _;done)|(cases h;exact KP.app _ _;done)|(cases h;done)
  | _=>exact KR.bad
 | .call f as,ρ,s=>KR.bind (ak6 as ρ s) λ l s=>hF.call f l s
 | .callC f as,ρ,s=>KR.bind (ak6 as ρ s) λ l s=>KR.bind (hF.call f l s) λ d s'=>KR.if KR.ok KR.bad
 | .callV i es,ρ,s=>KR.bind (ag0 es ρ s) λ l s=>by
  intro a s' h
  split at h
  ·exact hF.call _ _ _ _ _ h
  ·exact hF.lam _ _ _ _ _ _ h
  ·cases h
 | .bi b es,ρ,s=>KR.bind (ag0 es ρ s) λ l s=>bU1 b l s
 | .mk k it,ρ,s=>KR.bind (aI3 it ρ s) λ q s=>bI6 k q s
 | .mkD k it d,ρ,s=>KR.bind (aI3 it ρ s) λ q s=>KR.bind (ze d ρ s) λ d s=>bn1 k q d s
 | .meth m o es,ρ,s=>KR.bind (ze o ρ s) λ x s=>KR.bind (ag0 es ρ s) λ l s=>bp8 m x l s
 | .ext o it,ρ,s=>KR.bind (ze o ρ s) λ x s=>KR.bind (aI3 it ρ s) λ q s=>aQ4 x q s
 | .extS o e,ρ,s=>KR.bind (ze o ρ s) λ x s=>KR.bind (ze e ρ s) λ y s=>by
  intro a s' h
  unfold extS at h
  repeat' split at h
  all_goals first|(cases h;done)|exact aQ4 _ _ _ _ _ h
 | .join o e,ρ,s=>KR.bind (ze o ρ s) λ x s=>KR.bind (ze e ρ s) λ y s=>bq9 x y s
 | .mks k e,ρ,s=>KR.bind (ze e ρ s) λ x s=>KR.bind (aR3 x s) λ q s=>bI6 k q s
 | .mkDs k e d,ρ,s=>KR.bind (ze e ρ s) λ x s=>KR.bind (ze d ρ s) λ z s=>KR.bind (aR3 x s) λ q s=>bn1 k q z s
theorem ag0:∀(es:Es) (ρ:Env) (s:Sto),KR s (evs F es ρ s)
 | .nil,ρ,s=>KR.ok
 | .cons e es,ρ,s=>KR.bind (ze e ρ s) λ d s=>KR.bind (ag0 es ρ s) λ l s=>KR.ok
theorem ak6:∀(y:As) (ρ:Env) (s:Sto),KR s (aq4 F y ρ s)
 | .nil,ρ,s=>KR.ok
 | .ex e y,ρ,s=>KR.bind (ze e ρ s) λ d s=>KR.bind (ak6 y ρ s) λ l s=>KR.ok
 | .lam id caps y,ρ,s=>by
  intro a s' h
  change(match af8 ρ caps with|some cs=>(aq4 F y ρ s).bind λ l s=>R.ok (D.clo id cs::l) s|none=>.bad)=_ at h
  split at h
  ·exact KR.bind (ak6 y ρ s) (λ l s=>KR.ok) _ _ h
  ·cases h
 | .fn f y,ρ,s=>KR.bind (ak6 y ρ s) λ l s=>KR.ok
theorem aW0:∀(it:I) (ρ:Env) (s:Sto),KR s (evI F it ρ s)
 | .seq e,ρ,s=>KR.bind (ze e ρ s) λ d s=>bp6 d s
 | .rng1 a,ρ,s=>KR.bind (ze a ρ s) λ x s=>by
  cases x with
  | int i=>exact KR.if KR.ok KR.bad
  | _=>exact KR.bad
 | .rng2 a b,ρ,s=>KR.bind (ze a ρ s) λ x s=>KR.bind (ze b ρ s) λ y s=>by
  cases x with
  | int i=>(cases y with
   | int j=>exact KR.if KR.ok KR.bad
   | _=>exact KR.bad)
  | _=>exact KR.bad
 | .rng3 a b c,ρ,s=>KR.bind (ze a ρ s) λ x s=>KR.bind (ze b ρ s) λ y s=>by
  cases x with
  | int i=>(cases y with
   | int j=>exact KR.if KR.ok KR.bad
   | _=>exact KR.bad)
  | _=>exact KR.bad
 | .enum (.seq e),ρ,s=>KR.bind (ze e ρ s) λ d s=>KR.bind (bh0 d s) λ q s=>KR.ok
 | .zip (.seq a) (.seq b),ρ,s=>KR.bind (ze a ρ s) λ x s=>KR.bind (ze b ρ s) λ y s=>KR.bind (aJ5 x s) λ p s=>KR.bind (aJ5 y s) λ q s=>KR.ok
 | .enum (.rng1 _),ρ,s=>KR.bad
 | .enum (.rng2 _ _),ρ,s=>KR.bad
 | .enum (.rng3 _ _ _),ρ,s=>KR.bad
 | .enum (.enum _),ρ,s=>KR.bad
 | .enum (.zip _ _),ρ,s=>KR.bad
 | .enum (.items _),ρ,s=>KR.bad
 | .zip (.rng1 _) _,ρ,s=>KR.bad
 | .zip (.rng2 _ _) _,ρ,s=>KR.bad
 | .zip (.rng3 _ _ _) _,ρ,s=>KR.bad
 | .zip (.enum _) _,ρ,s=>KR.bad
 | .zip (.zip _ _) _,ρ,s=>KR.bad
 | .zip (.items _) _,ρ,s=>KR.bad
 | .zip (.seq _) (.rng1 _),ρ,s=>KR.bad
 | .zip (.seq _) (.rng2 _ _),ρ,s=>KR.bad
 | .zip (.seq _) (.rng3 _ _ _),ρ,s=>KR.bad
 | .zip (.seq _) (.enum _),ρ,s=>KR.bad
 | .zip (.seq _) (.zip _ _),ρ,s=>KR.bad
 | .zip (.seq _) (.items _),ρ,s=>KR.bad
 | .items e,ρ,s=>KR.bad
theorem aI3:∀(it:L) (ρ:Env) (s:Sto),KR s (evL F it ρ s)
 | .comp tg it e caps,ρ,s=>KR.bind (aW0 it ρ s) λ q s0=>KR.if (at2 (λ d ρ s=>by
   intro a s' h
   split at h
   ·exact KR.bind (ze e _ s) (λ v s=>KR.ok) _ _ h
   ·cases h) _ _ _) KR.bad
 | .compIf tg it c e caps,ρ,s=>KR.bind (aW0 it ρ s) λ q s0=>KR.if (at2 (λ d ρ s=>by
   intro a s' h
   split at h
   ·exact KR.tru (ze c _ s) (λ k s=>KR.if (KR.bind (ze e _ s) λ v s=>KR.ok) KR.ok) _ _ h
   ·cases h) _ _ _) KR.bad
 | .disp es,ρ,s=>ag0 es ρ s
 | .seq e,ρ,s=>KR.bind (ze e ρ s) λ d s=>bs0 d s
 | .itm e,ρ,s=>KR.bind (ze e ρ s) λ d s=>bv7 d s
end
theorem aF7 {ok:Sto->Bool}{g:D->Env->Sto->R Ct}(hg:∀ d ρ s,KR s (g d ρ s)):∀(l:List D) (ρ:Env) (s:Sto),KR s (aP1 ok g l ρ s)
 | [],ρ,s=>KR.if KR.ok KR.bad
 | d::l,ρ,s=>KR.if (KR.bind (hg d ρ s) λ c s=>by
   cases c with
   | next ρ=>exact aF7 hg l ρ s
   | cont ρ=>exact aF7 hg l ρ s
   | brk ρ=>exact KR.ok
   | ret d=>exact KR.ok) KR.bad
theorem aC2 {c:Env->Sto->R D}{g:Env->Sto->R Ct}(hc:∀ ρ s,KR s (c ρ s))(hg:∀ ρ s,KR s (g ρ s)):∀(n:Nat) (ρ:Env) (s:Sto),KR s (qA c g n ρ s)
 | 0,ρ,s=>KR.bad
 | n+1,ρ,s=>KR.tru (hc ρ s) λ b s=>KR.if (KR.bind (hg ρ s) λ h s=>by
   cases h with
   | next ρ=>exact aC2 hc hg n ρ s
   | cont ρ=>exact aC2 hc hg n ρ s
   | brk ρ=>exact KR.ok
   | ret d=>exact KR.ok) KR.ok
mutual
theorem bV3:∀(st:S) (ρ:Env) (s:Sto),KR s (ex F st ρ s)
 | .asg tg e,ρ,s=>KR.bind (ze hF e ρ s) λ d s=>by
  intro a s' h
  split at h<;>cases h;exact KP.refl _
 | .setIx o i e,ρ,s=>KR.bind (ze hF e ρ s) λ d s=>KR.bind (ze hF o ρ s) λ x s=>KR.bind (ze hF i ρ s) λ y s=>KR.bind (bd9 x y d s) λ _ s=>KR.ok
 | .aug i e,ρ,s=>KR.bind (aQ7 ρ i s) λ x s=>KR.bind (ze hF e ρ s) λ y s=>by
  intro a s' h
  repeat' split at h
  all_goals first|(cases h;exact KP.refl _;done)|(cases h;done)
 | .ex e,ρ,s=>KR.bind (ze hF e ρ s) λ d s=>KR.ok
 | .ret e,ρ,s=>KR.bind (ze hF e ρ s) λ d s=>KR.ok
 | .retN,ρ,s=>KR.ok
 | .ite c a b,ρ,s=>KR.tru (ze hF c ρ s) λ k s=>KR.if (ap4 a ρ s) (ap4 b ρ s)
 | .whl c b,ρ,s=>by
  intro r s' h
  change whl (ev F c) (exs F b) ρ s=_ at h
  unfold whl at h
  split at h
  ·exact aC2 hF (λ ρ s=>ze hF c ρ s) (λ ρ s=>ap4 b ρ s) _ ρ s _ _ h
  ·cases h
 | .for_ tg it b,ρ,s=>KR.bind (aW0 hF it ρ s) λ q s0=>aF7 hF (λ d ρ s=>by
   intro a s' h
   split at h
   ·exact ap4 b _ _ _ _ h
   ·cases h) _ _ _
 | .pass,ρ,s=>KR.ok
 | .cont,ρ,s=>KR.ok
 | .brk,ρ,s=>KR.ok
 | .raise,ρ,s=>KR.bad
 | .und i,ρ,s=>by
  intro a s' h
  change(match ae5 ρ i with|some ρ=>R.ok (Ct.next ρ) s|none=>.bad)=_ at h
  split at h<;>cases h;exact KP.refl _
theorem ap4:∀(h:Ss) (ρ:Env) (s:Sto),KR s (exs F h ρ s)
 | .nil,ρ,s=>KR.ok
 | .cons st h,ρ,s=>KR.bind (bV3 st ρ s) λ c s=>by
  cases c with
  | next ρ=>exact ap4 h ρ s
  | _=>exact KR.ok
end
end
theorem at6 {s st:Sto}{d:D}(h:KP s st):KR s (zK s d st):=by
 have tk:∀ t,KP s (st.take s.length++t):=λ t i o e=>by
  obtain⟨F,e',k⟩:=h i o e
  have z:=(ac.mp e).1
  have C:=(ac.mp e').1
  refine⟨F,?_,k⟩
  rw[aN (by rw[bF];omega),jA,if_pos z];exact e'
 have y:KP s (st.take s.length):=by have:=tk [];rwa [aZ]at this
 intro a s' e
 unfold zK at e
 repeat' split at e
 all_goals first|(cases e;exact y;done)|(cases e;exact tk _;done)|(cases e;exact h;done)|(cases e;done)
theorem ak0 (P:Pr):∀ n,FK (aa1 P n)
 | 0=>⟨λ _ _ _=>KR.bad,λ _ _ _ _=>KR.bad⟩
 | n+1=>by
  refine⟨λ f l s=>?_,λ id cs l s=>?_⟩
  ·intro a s' h
   unfold aa1 at h
   simp only at h
   split at h
   case h_2=>cases h
   split at h
   case isFalse=>cases h
   obtain⟨c,s1,e1,h⟩:=R.bind_inv h
   have k1:=ap4 (ak0 P n) _ _ _ _ _ e1
   cases c with
   | ret v=>exact at6 k1 _ _ h
   | next ρ=>exact at6 k1 _ _ h
   | _=>cases h
  ·intro a s' h
   unfold aa1 at h
   simp only at h
   split at h
   case h_2=>cases h
   split at h
   case isFalse=>cases h
   obtain⟨v,s1,e1,h⟩:=R.bind_inv h
   exact at6 (ze (ak0 P n) _ _ _ _ _ e1) _ _ h
end DV
end
open DV renaming Sto->lr,D->lu,Env->lw,ev->lx,R->lz,LIM->lB,eqv->lC,aa1->lE,tru->lF,DEEP->lG,aq9->lH,eqL->lJ,rep->lK,kd->lL,ad1->lM,ad0->lN,Pr->lO,O->lP,look->lQ,Es->lR,ai5->lS,Fns->lU,evs->lV,af8->lW,Bi->lX,Tg->lY,Ct->lZ,aP2->l6,ac9->l7,sbd->l8,chk->l9,zZ->mf,E->mq,loB->mr,inL->mw,ixn->mx,As->mz,minI->mB,aD2->mD,aj2->mF,ae8->mG,aD7->mH,ae3->mJ,aq4->mK,M->mM,Sq->mN,qg->mO,mk->mP,Lm->mQ,Df->mR,COp->mT,hiB->mU,slM->mV,al5->mW,meth->mY,Mk->mZ,Mt->m4,Ss->m5,aS7->m6,pur->m7,inM->m8,bi1->m9,aP1->ng,mkD->nh,bi->ni,BOp->nj,isK->nk,W62->nr,S->nu,bF7->nv,evI->nw,evL->ny,exs->nA,ae5->nB,at9->nD
open DV.D renaming bndL->lv,bnd->ly,hdI->lD,keyS->lI,nclL->my,ncl->nn
open DV.O renaming bnd->lA,ncl->nq
noncomputable section
namespace L2
theorem fb {α:Type}{d:α}{s:lr}{p:Prop}(h:(DV.R.bad:lz α)=.ok d s):p:=nomatch h
open PySem PySem.Spec PyProof.Rows
structure LamI where
 qual:Str
 params:bp
 body:Expr
 scope:Scope
 ps:List Str
 fr:List Str
 nm:Option (Str×Pos)
def CloAt (H:Hp)(f:Addr)(J:LamI)(cap:List V)(clos:List (Str×Addr)):Prop:=match J.nm with
 | none=>ax8 H f J.qual J.params J.body J.scope J.fr cap clos
 | some p=>ao2 H f p.1 J.qual J.params [.Return (some J.body) p.2] J.scope J.fr cap clos
def af7 (H:Hp)(f:Addr)(J:LamI)(clos:List (Str×Addr)):Prop:=match J.nm with
 | none=>∃ pm c' ctv,H f=some (as5 f (bX "<lambda>" J.qual J.params J.body J.scope clos pm (.ref c') ctv))/\H c'=some (z0 c' J.qual)
 | some p=>∃ doc pm c' ctv,H f=some (as5 f (cM p.1 J.qual J.params [.Return (some J.body) p.2] J.scope clos .none .none doc pm none (.ref c') ctv))/\H c'=some (z0 c' J.qual)
structure Gm where
 K:ae
 fa:String->Option Addr
 lg:String->LamI->Prop
 T:List (Addr×Str)
variable (Γ:Gm)
mutual
noncomputable def RV (φ:Nat->Addr)(H:Hp):lu->V->Prop
 | .non,v=>v=.non
 | .bl b,v=>v=.bl b
 | .int i,v=>v=.int i
 | .str x,v=>v=.str ⟨x.toArray⟩/\x.length<=lB
 | .tup l,v=>∃ a xs,v=.ref a/\(SqT Γ.K H a xs/\(lD l=true->H a=some (.tup xs)))/\RVL φ H l xs
 | .ref n,v=>v=.ref (φ n)
 | .fn f,v=>∃ a,Γ.fa f=some a/\v=.ref a
 | .clo id cs,v=>∃ f cap J clos,v=.ref f/\Γ.lg id J/\CloAt H f J cap clos/\cap.length=J.fr.length/\RVL φ H cs cap
noncomputable def RVL (φ:Nat->Addr)(H:Hp):List lu->List V->Prop
 | [],xs=>xs=[]
 | d::l,xs=>∃ x r,xs=x::r/\RV φ H d x/\RVL φ H l r
end
noncomputable def bR0:HO->Bool
 | .tup _=>true
 | .frz _ _=>true
 | .ext _=>true
 | _=>false
def Kp (H H':Hp):Prop:=∀ b o,H b=some o->bR0 o=true->H' b=some o
theorem Kp.refl (H:Hp):Kp H H:=λ _ _ h _=>h
theorem Kp.trans {H y H2:Hp}(a:Kp H y)(b:Kp y H2):Kp H H2:=λ c o h f=>b c o (a c o h f) f
theorem Kp.new {H y:Hp}{p:Addr}{o:HO}(a:Kp H y)(h:y p=none):Kp H (upd y p o):=λ c u e f=>by
 have e1:=a c u e f
 rw[za (zn e1 h)];exact e1
theorem Kp.put {H y:Hp}{p:Addr}{o u:HO}(a:Kp H y)(h:y p=some u)(C:bR0 u=false):Kp H (upd y p o):=λ c v e f=>by
 have e1:=a c v e f
 rw[za (λ z=>by subst z;rw[h]at e1;cases e1;rw[C]at f;cases f)];exact e1
theorem Kp.sqT {K:ae}{H H':Hp}{a:Addr}{y:List V}(e:Kp H H')(h:SqT K H a y):SqT K H' a y:=by
 rcases h with(h|⟨o,h⟩)|h
 ·exact .inl (.inl (e _ _ h rfl))
 ·exact .inl (.inr ⟨o,e _ _ h rfl⟩)
 ·exact .inr h
theorem ax8.kp {H H':Hp}{f:Addr}{qual:Str}{params:bp}{body:Expr}{scope:Scope}{fr:List Str}{cap:List V}{y:List (Str×Addr)}(h:ax8 H f qual params body scope fr cap y)(e:Kp H H'):ax8 H' f qual params body scope fr cap y:=by
 obtain⟨J,c',C,h1,F,G,Y,h5,Z⟩:=h
 refine⟨J,c',C,e _ _ h1 rfl,e _ _ F rfl,λ x c q=>?_,Y,h5,λ i x v a b=>?_⟩
 ·obtain⟨o,v,z,d⟩:=G x c q
  exact⟨o,v,e _ _ z rfl,d⟩
 ·obtain⟨c,o,u,z1,z2,z3⟩:=Z i x v a b
  exact⟨c,o,u,z1,e _ _ z2 rfl,z3⟩
theorem ao2.kp {H H':Hp}{f:Addr}{name qual:Str}{params:bp}{body:List Stmt}{scope:Scope}{fr:List Str}{cap:List V}{y:List (Str×Addr)}(h:ao2 H f name qual params body scope fr cap y)(e:Kp H H'):ao2 H' f name qual params body scope fr cap y:=by
 obtain⟨C,Y,c',F,h1,G,J,Z,h5,h6⟩:=h
 refine⟨C,Y,c',F,e _ _ h1 rfl,e _ _ G rfl,λ x c q=>?_,Z,h5,λ i x v a b=>?_⟩
 ·obtain⟨o,v,z,d⟩:=J x c q
  exact⟨o,v,e _ _ z rfl,d⟩
 ·obtain⟨c,o,u,z1,z2,z3⟩:=h6 i x v a b
  exact⟨c,o,u,z1,e _ _ z2 rfl,z3⟩
theorem CloAt.kp {H H':Hp}{f:Addr}{J:LamI}{cap:List V}{y:List (Str×Addr)}(h:CloAt H f J cap y)(e:Kp H H'):CloAt H' f J cap y:=by
 unfold CloAt at h ⊢
 cases q:J.nm with
 | none=>rw[q]at h;exact ax8.kp h e
 | some p=>rw[q]at h;exact ao2.kp h e
theorem af7.kp {H H':Hp}{f:Addr}{J:LamI}{y:List (Str×Addr)}(h:af7 H f J y)(e:Kp H H'):af7 H' f J y:=by
 unfold af7 at h ⊢
 cases q:J.nm with
 | none =>
  rw[q]at h
  obtain⟨G,F,z,Z,C⟩:=h
  exact⟨G,F,z,e _ _ Z rfl,e _ _ C rfl⟩
 | some p =>
  rw[q]at h
  obtain⟨Y,G,F,z,Z,C⟩:=h
  exact⟨Y,G,F,z,e _ _ Z rfl,e _ _ C rfl⟩
theorem CloAt.fn {K:ae}{H:Hp}{f:Addr}{J:LamI}{cap:List V}{y:List (Str×Addr)}(h:CloAt H f J cap y):bz8 K H f:=by
 unfold CloAt at h
 cases q:J.nm with
 | none=>rw[q]at h;obtain⟨G,F,z,C,_⟩:=h;exact .inl ⟨_,C⟩
 | some p=>rw[q]at h;exact ao2.fn h
structure Gw (φ:Nat->Addr)(n:Nat)(H:Hp)(φ':Nat->Addr)(H':Hp):Prop where
 map:∀ i,i<n->φ' i=φ i
 kp:Kp H H'
variable {Γ:Gm}
mutual
theorem RV.monoW {φ φ':Nat->Addr}{n:Nat}{H H':Hp}(g:Gw φ n H φ' H'):∀(d:lu) (v:V),d.bnd n=true->RV Γ φ H d v->RV Γ φ' H' d v
 | .non,_,_,h=>by unfold RV at h ⊢;exact h
 | .bl _,_,_,h=>by unfold RV at h ⊢;exact h
 | .int _,_,_,h=>by unfold RV at h ⊢;exact h
 | .str _,_,_,h=>by unfold RV at h ⊢;exact h
 | .tup l,_,b,h=>by
  unfold RV at h ⊢
  unfold ly at b
  obtain⟨a,C,e,q,r⟩:=h
  exact⟨a,C,e,⟨g.kp.sqT q.1,λ z=>g.kp _ _ (q.2 z) rfl⟩,RVL.monoW g l C b r⟩
 | .ref k,_,b,h=>by
  unfold RV at h ⊢
  unfold ly at b
  rw[g.map k (of_decide_eq_true b)];exact h
 | .fn _,_,_,h=>by unfold RV at h ⊢;exact h
 | .clo id cs,_,b,h=>by
  unfold RV at h ⊢
  unfold ly at b
  obtain⟨f,cap,J,y,e,Z,F,G,Y⟩:=h
  exact⟨f,cap,J,y,e,Z,F.kp g.kp,G,RVL.monoW g cs cap b Y⟩
theorem RVL.monoW {φ φ':Nat->Addr}{n:Nat}{H H':Hp}(g:Gw φ n H φ' H'):∀(l:List lu) (y:List V),lv n l=true->RVL Γ φ H l y->RVL Γ φ' H' l y
 | [],_,_,h=>by unfold RVL at h ⊢;exact h
 | d::l,_,b,h=>by
  unfold RVL at h ⊢
  unfold lv at b
  rw[aj]at b
  obtain⟨x,r,e,q,t⟩:=h
  exact⟨x,r,e,RV.monoW g d x b.1 q,RVL.monoW g l r b.2 t⟩
end
mutual
theorem zm {n m:Nat}(h:n<=m):∀ d:lu,d.bnd n=true->d.bnd m=true
 | .non,_=>rfl
 | .bl _,_=>rfl
 | .int _,_=>rfl
 | .str _,_=>rfl
 | .tup l,b=>by unfold ly at b ⊢;exact aa3 h l b
 | .ref k,b=>by unfold ly at b ⊢;exact decide_eq_true (aq (of_decide_eq_true b) h)
 | .fn _,_=>rfl
 | .clo _ l,b=>by unfold ly at b ⊢;exact aa3 h l b
theorem aa3 {n m:Nat}(h:n<=m):∀ l:List lu,lv n l=true->lv m l=true
 | [],_=>rfl
 | d::l,b=>by
  unfold lv at b ⊢
  rw[aj]at b ⊢
  exact⟨zm h d b.1,aa3 h l b.2⟩
end
theorem aa2 {n:Nat}:∀ {l:List lu},lv n l=true↔∀ d∈l,d.bnd n=true
 | []=>by unfold lv;simp
 | d::l=>by
  unfold lv
  rw[aj,aa2 (l:=l)]
  simp
theorem zu {n:Nat}{l m:List lu}(h:lv n l=true)(h':lv n m=true):lv n (l++m)=true :=
 aa2.mpr λ d hd=>(bj.mp hd).elim (aa2.mp h d) (aa2.mp h' d)
theorem aJ6 {n:Nat}{l m:List lu}(h:lv n l=true)(s:∀ d∈m,d∈l):lv n m=true:=aa2.mpr λ d hd=>aa2.mp h d (s d hd)
theorem ak2 {n:Nat}{l:List lu}{i:Nat}{d:lu}(h:lv n l=true)(e:l[i]?=some d):d.bnd n=true:=aa2.mp h d (aK e)
section
variable {φ:Nat->Addr} {H:Hp}
theorem RVL.nil:RVL Γ φ H [] []:=by unfold RVL;rfl
theorem RVL.cons {d:lu}{l:List lu}{x:V}{h:List V}(a:RV Γ φ H d x)(b:RVL Γ φ H l h):RVL Γ φ H (d::l) (x::h):=by unfold RVL;exact⟨x,h,rfl,a,b⟩
theorem RVL.unnil {y:List V}(h:RVL Γ φ H [] y):y=[]:=by unfold RVL at h;exact h
theorem RVL.uncons {d:lu}{l:List lu}{y:List V}(h:RVL Γ φ H (d::l) y):∃ x r,y=x::r/\RV Γ φ H d x/\RVL Γ φ H l r:=by unfold RVL at h;exact h
theorem RVL.length:∀ {l:List lu} {y:List V},RVL Γ φ H l y->y.length=l.length
 | [],_,h=>by rw[h.unnil];rfl
 | d::l,_,h=>by
  obtain⟨x,r,rfl,_,t⟩:=h.uncons
  rw[aQ,aQ,RVL.length t]
theorem RVL.get:∀ {l:List lu} {z:List V} {i:Nat} {d:lu},RVL Γ φ H l z->l[i]?=some d->∃ x,z[i]?=some x/\RV Γ φ H d x
 | [],_,_,_,_,e=>by simp at e
 | d::l,_,0,d',h,e=>by
  obtain⟨x,r,rfl,q,t⟩:=h.uncons
  have e':d=d':=by simpa using e
  subst e'
  exact⟨x,rfl,q⟩
 | d::l,_,i+1,_,h,e=>by
  obtain⟨x,r,rfl,q,t⟩:=h.uncons
  obtain⟨y,e1,e2⟩:=RVL.get (i:=i) t (by simpa using e)
  exact⟨y,by simpa using e1,e2⟩
theorem RVL.append:∀ {l m:List lu} {y ys:List V},RVL Γ φ H l y->RVL Γ φ H m ys->RVL Γ φ H (l++m) (y++ys)
 | [],_,_,_,h,h'=>by rw[h.unnil];exact h'
 | d::l,_,_,_,h,h'=>by
  obtain⟨x,r,rfl,q,t⟩:=h.uncons
  exact .cons q (RVL.append t h')
theorem RVL.drop:∀ {l:List lu} {y:List V} (n:Nat),RVL Γ φ H l y->RVL Γ φ H (l.drop n) (y.drop n)
 | _,_,0,h=>h
 | [],_,n+1,h=>by rw[h.unnil];exact .nil
 | d::l,_,n+1,h=>by
  obtain⟨x,r,rfl,q,t⟩:=h.uncons
  exact RVL.drop n t
theorem RVL.take:∀ {l:List lu} {y:List V} (n:Nat),RVL Γ φ H l y->RVL Γ φ H (l.take n) (y.take n)
 | _,_,0,h=>.nil
 | [],_,n+1,h=>by rw[h.unnil];exact .nil
 | d::l,_,n+1,h=>by
  obtain⟨x,r,rfl,q,t⟩:=h.uncons
  exact .cons q (RVL.take n t)
theorem RVL.set:∀ {l:List lu} {y:List V} {d:lu} {x:V} (i:Nat),RVL Γ φ H l y->RV Γ φ H d x->RVL Γ φ H (l.set i d) (y.set i x)
 | [],_,_,_,_,h,_=>by rw[h.unnil];exact .nil
 | d::l,_,_,_,0,h,q=>by
  obtain⟨x,r,rfl,_,t⟩:=h.uncons
  exact .cons q t
 | d::l,_,_,_,i+1,h,q=>by
  obtain⟨x,r,rfl,z,t⟩:=h.uncons
  exact .cons z (RVL.set i t q)
theorem RVL.reverse:∀ {l:List lu} {y:List V},RVL Γ φ H l y->RVL Γ φ H l.reverse y.reverse
 | [],_,h=>by rw[h.unnil];exact .nil
 | d::l,_,h=>by
  obtain⟨x,r,rfl,q,t⟩:=h.uncons
  rw[eO,eO]
  exact(RVL.reverse t).append (.cons q .nil)
theorem RV.intE {i:Int}{v:V}(h:RV Γ φ H (.int i) v):v=.int i:=by unfold RV at h;exact h
theorem RV.blE {i:Bool}{v:V}(h:RV Γ φ H (.bl i) v):v=.bl i:=by unfold RV at h;exact h
theorem RV.nonE {v:V}(h:RV Γ φ H .non v):v=.non:=by unfold RV at h;exact h
theorem RV.strE {x:List Nat}{v:V}(h:RV Γ φ H (.str x) v):v=.str ⟨x.toArray⟩:=by unfold RV at h;exact h.1
theorem RV.strL {x:List Nat}{v:V}(h:RV Γ φ H (.str x) v):x.length<=lB:=by unfold RV at h;exact h.2
theorem RV.tupE {l:List lu}{v:V}(h:RV Γ φ H (.tup l) v):∃ a y,v=.ref a/\SqT Γ.K H a y/\RVL Γ φ H l y:=by unfold RV at h;obtain⟨a,y,e,q,r⟩:=h;exact⟨a,y,e,q.1,r⟩
theorem RV.tupZ {l:List lu}{v:V}(h:RV Γ φ H (.tup l) v):∃ a y,(v=.ref a/\(lD l=true->H a=some (.tup y)))/\SqT Γ.K H a y/\RVL Γ φ H l y:=by unfold RV at h;obtain⟨a,y,e,q,r⟩:=h;exact⟨a,y,⟨e,q.2⟩,q.1,r⟩
theorem RVL.tonil {l:List lu}(h:RVL Γ φ H l []):l=[]:=bG.mp h.length.symm
theorem RV.tupK {l:List lu}{v:V}(h:RV Γ φ H (.tup l) v)(z:lD l=true):∃ a y,v=.ref a/\H a=some (.tup y)/\RVL Γ φ H l y:=by unfold RV at h;obtain⟨a,y,e,q,r⟩:=h;exact⟨a,y,e,q.2 z,r⟩
theorem RV.refE {n:Nat}{v:V}(h:RV Γ φ H (.ref n) v):v=.ref (φ n):=by unfold RV at h;exact h
theorem RV.intI {i:Int}:RV Γ φ H (.int i) (.int i):=by unfold RV;rfl
theorem RV.blI {i:Bool}:RV Γ φ H (.bl i) (.bl i):=by unfold RV;rfl
theorem RV.nonI:RV Γ φ H .non .non:=by unfold RV;rfl
theorem RV.strI {x:List Nat}(h:x.length<=lB):RV Γ φ H (.str x) (.str ⟨x.toArray⟩):=by unfold RV;exact⟨rfl,h⟩
theorem RV.tupI {l:List lu}{a:Addr}{y:List V}(h:H a=some (.tup y))(q:RVL Γ φ H l y):RV Γ φ H (.tup l) (.ref a):=by unfold RV;exact⟨a,y,rfl,⟨SqT.of h,λ _=>h⟩,q⟩
theorem RV.tupC {l:List lu}{a:Addr}{y:List V}(h:SqT Γ.K H a y)(z:lD l=true->H a=some (.tup y))(q:RVL Γ φ H l y):RV Γ φ H (.tup l) (.ref a):=by unfold RV;exact⟨a,y,rfl,⟨h,z⟩,q⟩
theorem RV.refI {n:Nat}:RV Γ φ H (.ref n) (.ref (φ n)):=by unfold RV;rfl
end
theorem bs8 {n:Nat}{l:List lu}(h:lD (l6 n l)=true):lD l=true:=by
 cases n with
 | zero=>cases h
 | succ n =>
  cases l with
  | nil => 
   have:∀ k,l6 k ([]:List lu)=[]:=λ k=>by
    induction k with
    | zero=>rfl
    | succ k ih=>show[]++l6 k []=[];rw[ih];rfl
   rw[this]at h;cases h
  | cons a l =>
   have e:l6 (n+1) (a::l)=a::(l++l6 n (a::l)):=rfl
   rw[e]at h
   cases a with
   | int _=>rfl
   | _=>cases h
theorem aP8 {α:Type}{l:List α}{y C:Option Int}(h:(lS l y C).length=l.length):lS l y C=l:=by
 unfold lS at h ⊢
 rw[bF,fi]at h
 by_cases z:l=[]
 ·subst z;simp
 ·have F:=jd.mpr z
  have e1:mr l.length y=0:=by omega
  rw[e1]at h ⊢
  rw[eW]
  exact eX (by omega)
def SqF (K:ae)(H:Hp)(a:Addr)(xs:List V):Prop:=SqL K H a xs/\∀ H',Kp H H'->SqL K H' a xs
noncomputable def az8:lu->Option Key
 | .int i=>some (.inl i)
 | .str x=>some (.inr ⟨x.toArray⟩)
 | _=>none
noncomputable def zL:List lu->Option (List Key)
 | []=>some []
 | d::l=>match az8 d,zL l with
  | some k,some r=>some (k::r)
  | _,_=>none
noncomputable def bA9:lu->Option (List Key)
 | .tup l=>if(lD l&&(l.all lI&&decide (l.length<=1000)))=true then zL l else none
 | _=>none
noncomputable def RVD {κ:Type}(kf:lu->Option κ)(Γ:Gm)(φ:Nat->Addr)(H:Hp):List (lu×lu)->List (κ×V)->Prop
 | [],kvs=>kvs=[]
 | (d,e)::l,kvs=>∃ k v r,kvs=(k,v)::r/\kf d=some k/\RV Γ φ H e v/\RVD kf Γ φ H l r
variable (Γ)
noncomputable def RO (φ:Nat->Addr)(H:Hp)(a:Addr):lP->Prop
 | .lst l=>∃ xs,H a=some (.lst xs)/\RVL Γ φ H l xs
 | .ro l=>∃ xs,SqF Γ.K H a xs/\RVL Γ φ H l xs
 | .dic l=>∃ kvs,H a=some (.dK kvs)/\RVD az8 Γ φ H l kvs
 | .dit l=>∃ kvs,H a=some (.dT kvs)/\RVD bA9 Γ φ H l kvs
 | .ins _ _=>False
noncomputable abbrev okd:lP->Nat:=DV.O.kd
noncomputable def isMut:lP->Bool
 | .ro _=>false
 | _=>true
structure Rp (φ:Nat->Addr)(H:Hp)(s:lr):Prop where
 inj:∀(i j:Nat) (o o':lP),s[i]?=some o->s[j]?=some o'->isMut o=true->isMut o'=true->φ i=φ j->i=j
 obj:∀(i:Nat) (o:lP),s[i]?=some o->RO Γ φ H (φ i) o
 wf:∀(i:Nat) (o:lP),s[i]?=some o->o.bnd s.length=true
 tab:TabsH Γ.T H
structure RE (φ:Nat->Addr)(H:Hp)(n:Nat)(ρ:lw)(σ:St):Prop where
 len:ρ.length=σ.length
 val:∀(i:Nat) (d:lu),ρ[i]?=some (some d)->d.bnd n=true/\∃ v,σ[i]?=some (some v)/\RV Γ φ H d v
structure Gr (φ:Nat->Addr)(s:lr)(H:Hp)(φ':Nat->Addr)(s':lr)(H':Hp):Prop where
 w:Gw φ s.length H φ' H'
 le:s.length<=s'.length
 new:∀ i:Nat,s.length<=i->i<s'.length->H (φ' i)=none
 kd:∀(i:Nat) (o o':lP),s[i]?=some o->s'[i]?=some o'->okd o'=okd o
 st:∀ b,H b≠none->H' b≠none
 fr:∀ b o,H b=some o->(∀ ps,o≠.tbl ps)->(∀(i:Nat) (ob:lP),s[i]?=some ob->isMut ob=true->φ i≠b)->H' b=some o
variable {Γ}
theorem bs1 {o y:lP}(h:okd y=okd o)(m:isMut y=true):isMut o=true:=by
 cases o with
 | ro _=>cases y with
  | ro _=>cases m
  | _=>cases h
 | _=>rfl
theorem Gr.mu {φ φ':Nat->Addr}{s s':lr}{H H':Hp}(g:Gr φ s H φ' s' H')(i:Nat)(o h:lP)(e:s[i]?=some o)(e':s'[i]?=some h)(m:isMut h=true):isMut o=true:=bs1 (g.kd i o h e e') m
theorem Gr.refl (φ:Nat->Addr)(s:lr)(H:Hp):Gr φ s H φ s H:=⟨⟨λ _ _=>rfl,Kp.refl H⟩,ak _,λ i z y=>absurd y (by omega),λ i o C e e'=>by rw[e]at e';cases e';rfl,λ _ h=>h,λ _ _ h _ _=>h⟩
theorem Gr.trans {φ φ1 φ2:Nat->Addr}{s s1 s2:lr}{H G H2:Hp}(a:Gr φ s H φ1 s1 G)(b:Gr φ1 s1 G φ2 s2 H2)(_h:s.length<=s1.length):Gr φ s H φ2 s2 H2:=by
 refine⟨⟨λ i y=>(b.w.map i (aq y a.le)).trans (a.w.map i y),a.w.kp.trans b.w.kp⟩,am a.le b.le,λ i h1 Z=>?_,λ i o o' e e'=>?_,λ c h=>b.st c (a.st c h),λ c o h J ne=>?_⟩
 ·by_cases y:i<s1.length
  ·rw[b.w.map i y];exact a.new i h1 y
  ·have e:=b.new i (by omega) Z
   cases q:H (φ2 i)with
   | none=>rfl
   | some o=>exact absurd e (a.st _ (by rw[q];simp))
 ·have hl:i<s1.length:=aq (ac.mp e).1 a.le
  obtain⟨C,e1⟩:∃ C,s1[i]?=some C:=⟨s1[i],ai hl⟩
  exact(b.kd i C o' e1 e').trans (a.kd i o C e e1)
 ·refine b.fr c o (a.fr c o h J ne) J λ i ob e m z=>?_
  by_cases y:i<s.length
  ·obtain⟨F,Y⟩:∃ F,s[i]?=some F:=⟨s[i],ai y⟩
   exact ne i F Y (a.mu i F ob Y e m) (by rw[<-a.w.map i y];exact z)
  ·have:=a.new i (by omega) (ac.mp e).1
   rw[z,h]at this;cases this
theorem RV.mono {φ φ':Nat->Addr}{s s':lr}{H H':Hp}(g:Gr φ s H φ' s' H')(d:lu)(v:V)(b:d.bnd s.length=true)(h:RV Γ φ H d v):RV Γ φ' H' d v:=RV.monoW g.w d v b h
theorem RVL.mono {φ φ':Nat->Addr}{s s':lr}{H H':Hp}(g:Gr φ s H φ' s' H')(d:List lu)(v:List V)(b:lv s.length d=true)(h:RVL Γ φ H d v):RVL Γ φ' H' d v:=RVL.monoW g.w d v b h
theorem RE.mono {φ φ':Nat->Addr}{s s':lr}{H H':Hp}{ρ:lw}{σ:St}(h:RE Γ φ H s.length ρ σ)(g:Gr φ s H φ' s' H')(hn:s.length<=s'.length):RE Γ φ' H' s'.length ρ σ :=
 ⟨h.len,λ i d e=>by
  obtain⟨b,v,e1,e2⟩:=h.val i d e
  exact⟨zm hn d b,v,e1,RV.mono g d v b e2⟩⟩
def ad6 (Γ:Gm)(φ:Nat->Addr)(s:lr)(H:Hp)(d:lu)(s':lr)(Q:VK):Prop :=
 ∀ v φ' H',Gr φ s H φ' s' H'->s.length<=s'.length->d.bnd s'.length=true->RV Γ φ' H' d v->Rp Γ φ' H' s'->Q v H'
theorem ad6.trans {φ φ1:Nat->Addr}{s s1 s':lr}{H y:Hp}{d:lu}{Q:VK}(h:ad6 Γ φ s H d s' Q)(g:Gr φ s H φ1 s1 y)(l:s.length<=s1.length):ad6 Γ φ1 s1 y d s' Q :=
 λ v φ' H' g' z b r p=>h v φ' H' (g.trans g' l) (am l z) b r p
theorem ad6.here {φ:Nat->Addr}{s:lr}{H:Hp}{d:lu}{Q:VK}{v:V}(h:ad6 Γ φ s H d s Q)(p:Rp Γ φ H s)(b:d.bnd s.length=true)(r:RV Γ φ H d v):Q v H :=
 h v φ H (Gr.refl φ s H) (ak _) b r p
theorem RVD.monoW {κ:Type}{z:lu->Option κ}{φ φ':Nat->Addr}{n:Nat}{H H':Hp}(g:Gw φ n H φ' H'):∀(l:List (lu×lu)) (y:List (κ×V)),lv n (l.map (·.2))=true->RVD z Γ φ H l y->RVD z Γ φ' H' l y
 | [],_,_,h=>h
 | (d,e)::l,_,b,h=>by
  obtain⟨k,v,r,e1,e2,C,F⟩:=h
  rw[aH]at b
  unfold lv at b
  rw[aj]at b
  exact⟨k,v,r,e1,e2,RV.monoW g e v b.1 C,RVD.monoW g l r b.2 F⟩
theorem RO.mono {φ φ':Nat->Addr}{n:Nat}{H H':Hp}{a:Addr}{o:lP}(h:RO Γ φ H a o)(g:Gw φ n H φ' H')(b:o.bnd n=true)(hl:isMut o=true->∀ u,H a=some u->H' a=some u):RO Γ φ' H' a o:=by
 cases o with
 | lst l =>
  unfold lA at b
  obtain⟨z,e,r⟩:=h
  exact⟨z,hl rfl _ e,RVL.monoW g l z b r⟩
 | ro l =>
  unfold lA at b
  obtain⟨z,e,r⟩:=h
  exact⟨z,⟨e.2 _ g.kp,λ H2 k=>e.2 _ (g.kp.trans k)⟩,RVL.monoW g l z b r⟩
 | dic l =>
  unfold lA at b
  rw[aj]at b
  obtain⟨y,e,r⟩:=h
  exact⟨y,hl rfl _ e,RVD.monoW g l y b.2 r⟩
 | dit l =>
  unfold lA at b
  rw[aj]at b
  obtain⟨y,e,r⟩:=h
  exact⟨y,hl rfl _ e,RVD.monoW g l y b.2 r⟩
 | ins _ _=>exact h.elim
theorem RO.there {φ:Nat->Addr}{H:Hp}{a:Addr}{o:lP}(h:RO Γ φ H a o)(m:isMut o=true):∃ u,H a=some u/\bR0 u=false/\∀ ps,u≠.tbl ps:=by
 cases o with
 | lst l=>obtain⟨y,e,_⟩:=h;exact⟨_,e,rfl,by nofun⟩
 | ro l=>cases m
 | dic l=>obtain⟨y,e,_⟩:=h;exact⟨_,e,rfl,by nofun⟩
 | dit l=>obtain⟨y,e,_⟩:=h;exact⟨_,e,rfl,by nofun⟩
 | ins _ _=>exact h.elim
theorem Rp.addr {φ:Nat->Addr}{H:Hp}{s:lr}(p:Rp Γ φ H s){i:Nat}{l:List lu}(e:s[i]?=some (.lst l)):∃ h,H (φ i)=some (.lst h)/\RVL Γ φ H l h:=p.obj i _ e
theorem zX {n m:Nat}(h:n<=m)(o:lP)(b:o.bnd n=true):o.bnd m=true:=by
 cases o with
 | lst l=>unfold lA at b ⊢;exact aa3 h l b
 | ro l=>unfold lA at b ⊢;exact aa3 h l b
 | dic l =>
  unfold lA at b ⊢
  rw[aj]at b ⊢
  exact⟨aa3 h _ b.1,aa3 h _ b.2⟩
 | dit l =>
  unfold lA at b ⊢
  rw[aj]at b ⊢
  exact⟨aa3 h _ b.1,aa3 h _ b.2⟩
 | ins c l=>unfold lA at b ⊢;exact aa3 h _ b
theorem TabsH.keepF {T:List (Addr×Str)}{H H':Hp}(h:TabsH T H)(k:∀ b o,(bR0 o=true\/∃ ps,o=.tbl ps)->H b=some o->H' b=some o):TabsH T H':=λ y hy=>by
 obtain⟨ps,e,t,c⟩:=h y hy
 refine⟨ps,k _ _ (.inr ⟨_,rfl⟩) e,t,λ pos C q=>?_⟩
 obtain⟨z,e1,e2⟩:=c pos C q
 exact⟨z,e1,k _ _ (.inl rfl) e2⟩
theorem Rp.new {φ:Nat->Addr}{H:Hp}{s:lr}{p:Addr}{u:HO}{o:lP}(r:Rp Γ φ H s)(C:H p=none)(hb:o.bnd s.length=true)
  (ho:∀ φ' H',Gw φ s.length H φ' H'->H' p=some u->RO Γ φ' H' p o):Gr φ s H (λ i=>if i=s.length then p else φ i) (s++[o]) (upd H p u)/\Rp Γ (λ i=>if i=s.length then p else φ i) (upd H p u) (s++[o]):=by
 have g:Gw φ s.length H (λ i=>if i=s.length then p else φ i) (upd H p u):=⟨λ i y=>if_neg (aw y),(Kp.refl H).new C⟩
 have key:∀ i z,(s++[o])[i]?=some z->(i<s.length/\s[i]?=some z)\/(i=s.length/\z=o):=λ i z e=>by
  rcases eY i s.length with h|h|h
  ·rw[aN h]at e;exact .inl ⟨h,e⟩
  ·subst h;simp at e;exact .inr ⟨rfl,e.symm⟩
  ·rw[cV (by simp;omega)]at e;cases e
 refine⟨⟨g,by simp,λ i h1 h2=>?_,λ i o1 o2 e1 e2=>?_,λ b hb=>?_,λ b ob hb _ _=>by rw[za (zn hb C)];exact hb⟩,λ i j Y J G ej mi Z e=>?_,λ i z e=>?_,λ i z e=>?_,r.tab.new C⟩
 ·rw[aC,dU]at h2
  rw[if_pos (by omega)];exact C
 ·rcases key i o2 e2 with⟨_,e⟩|⟨y,_⟩
  ·rw[e1]at e;cases e;rfl
  ·have:=(ac.mp e1).1;omega
 ·unfold upd;split
  ·simp
  ·exact hb
 ·rcases key i Y G with⟨y,G⟩|⟨y,rfl⟩<;>rcases key j J ej with⟨hj,ej⟩|⟨hj,ej'⟩
  ·rw[if_neg (aw y),if_neg (aw hj)]at e
   exact r.inj i j Y J G ej mi Z e
  ·rw[if_neg (aw y),if_pos hj]at e
   obtain⟨u,F,_,_⟩:=(r.obj i Y G).there mi
   rw[e,C]at F;cases F
  ·rw[if_neg (aw hj),if_pos y]at e
   obtain⟨u,F,_,_⟩:=(r.obj j J ej).there Z
   rw[<-e,C]at F;cases F
  ·rw[y,hj]
 ·rcases key i z e with⟨y,e⟩|⟨y,rfl⟩
  ·show RO Γ _ _ (if i=s.length then p else φ i) z
   rw[if_neg (aw y)]
   exact(r.obj i z e).mono g (r.wf i z e) λ _ v hv=>by rw[za (zn hv C)];exact hv
  ·show RO Γ _ _ (if i=s.length then p else φ i) z
   rw[if_pos y]
   exact ho _ _ g zb
 ·rw[aC,dU]
  rcases key i z e with⟨y,e⟩|⟨y,rfl⟩
  ·exact zX (c8 _) _ (r.wf i z e)
  ·exact zX (c8 _) _ hb
theorem Rp.set {φ:Nat->Addr}{H:Hp}{s:lr}{k:Nat}{u:HO}{o C:lP}(r:Rp Γ φ H s)(hk:s[k]?=some C)(J:isMut C=true)(hb:o.bnd s.length=true)
  (ho:∀ H',Gw φ s.length H φ H'->H' (φ k)=some u->RO Γ φ H' (φ k) o) (a1:okd o=okd C:=by rfl):Gr φ s H φ (s.set k o) (upd H (φ k) u)/\Rp Γ φ (upd H (φ k) u) (s.set k o):=by
 obtain⟨v0,F,f0,a2⟩:=(r.obj k C hk).there J
 have Z:k<s.length:=(ac.mp hk).1
 have g:Gw φ s.length H φ (upd H (φ k) u):=⟨λ _ _=>rfl,(Kp.refl H).put F f0⟩
 have key:∀ i y,(s.set k o)[i]?=some y->(i≠k/\s[i]?=some y)\/(i=k/\y=o):=λ i y e=>by
  by_cases h:i=k
  ·subst h;rw[aV Z]at e;exact .inr ⟨rfl,(ay e).symm⟩
  ·rw[aR (bJ h)]at e;exact .inl ⟨h,e⟩
 have mm:∀ i y,(s.set k o)[i]?=some y->isMut y=true->∃ G,s[i]?=some G/\isMut G=true:=λ i y e m=>by
  rcases key i y e with⟨_,e⟩|⟨h,_⟩
  ·exact⟨y,e,m⟩
  ·exact⟨C,by rw[h];exact hk,J⟩
 refine⟨⟨g,by simp,λ i h1 h2=>by rw[a0]at h2;omega,λ i o1 Y e1 e2=>?_,λ b hb=>?_,λ b ob hb nt ne=>by rw[za (bJ (ne k C hk J))];exact hb⟩,λ i j oi oj ei ej mi mj e=>?_,λ i y e=>?_,λ i y e=>?_,r.tab.keepF λ b v hv q=>?_⟩
 ·rcases key i Y e2 with⟨_,e⟩|⟨h,rfl⟩
  ·rw[e1]at e;cases e;rfl
  ·subst h;rw[hk]at e1;cases e1;exact a1
 ·unfold upd;split
  ·simp
  ·exact hb
 ·obtain⟨o1,e1,m1⟩:=mm i oi ei mi
  obtain⟨Y,e2,m2⟩:=mm j oj ej mj
  exact r.inj i j o1 Y e1 e2 m1 m2 e
 ·rcases key i y e with⟨h,e⟩|⟨h,rfl⟩
  ·refine(r.obj i y e).mono g (r.wf i y e) λ m v hv=>?_
   rw[za λ z=>h (r.inj i k y C e hk m J z)];exact hv
  ·subst h
   exact ho _ g zb
 ·rw[a0]
  rcases key i y e with⟨_,e⟩|⟨_,rfl⟩
  ·exact r.wf i y e
  ·exact hb
 ·rw[za λ z=>by
   subst z;rw[F]at q;cases q
   rcases hv with h|⟨ps,h⟩
   ·rw[f0]at h;cases h
   ·exact a2 _ h]
  exact q
theorem Rp.same {φ:Nat->Addr}{H H':Hp}{s:lr}(r:Rp Γ φ H s)(e:ad9 H H'):Gr φ s H φ s H'/\Rp Γ φ H' s:=by
 have g:Gw φ s.length H φ H':=⟨λ _ _=>rfl,λ b o h _=>e b o h⟩
 exact⟨⟨g,ak _,λ i C y=>absurd y (by omega),λ i o F e e'=>by rw[e]at e';cases e';rfl,λ b hb=>by
  cases q:H b with
  | none=>exact absurd q hb
  | some o=>rw[e b o q];simp,λ b o h _ _=>e b o h⟩,r.inj,λ i o h=>(r.obj i o h).mono g (r.wf i o h) λ _ u z=>e _ u z,r.wf,r.tab.same e⟩
section
variable {φ:Nat->Addr} {H:Hp} {s:lr} {Q:VK}
theorem ad6.alloc {l:List lu}{y:List V}(h:ad6 Γ φ s H (.ref s.length) (s++[.lst l]) Q)(r:Rp Γ φ H s)(hl:RVL Γ φ H l y)(hb:lv s.length l=true){p:Addr}(C:H p=none):Q (.ref p) (upd H p (.lst y)):=by
 obtain⟨g,z⟩:=r.new (o:=.lst l) (u:=.lst y) C hb λ φ' H' g e=>⟨y,e,RVL.monoW g l y hb hl⟩
 have:=h (.ref p) _ _ g (by simp) (by unfold ly;simp) (by unfold RV;simp) z
 exact this
theorem ad6.tup {l:List lu}{y:List V}(h:ad6 Γ φ s H (.tup l) s Q)(r:Rp Γ φ H s)(hl:RVL Γ φ H l y)(hb:lv s.length l=true){p:Addr}(C:H p=none):Q (.ref p) (upd H p (.tup y)):=by
 obtain⟨g,z⟩:=r.same (H':=upd H p (.tup y)) ((ad9.refl H).new C)
 exact h _ _ _ g (ak _) (by unfold ly;exact hb) (RV.tupI zb (RVL.mono g l y hb hl)) z
theorem ad6.put {k:Nat}{l l0:List lu}{y:List V}{d:lu}{v:V}(h:ad6 Γ φ s H d (s.set k (.lst l)) Q)(r:Rp Γ φ H s)(hk:s[k]?=some (.lst l0))(hl:RVL Γ φ H l y)(hb:lv s.length l=true)
  (hd:d.bnd s.length=true) (hv:RV Γ φ H d v):Q v (upd H (φ k) (.lst y)):=by
 obtain⟨g,z⟩:=r.set (o:=.lst l) (u:=.lst y) hk rfl hb λ H' g e=>⟨y,e,RVL.monoW g l y hb hl⟩
 exact h _ _ _ g (by simp) (by rw[a0];exact hd) (RV.mono g d v hd hv) z
end
variable {Γ:Gm}
theorem keyOf_inj {a b:lu}{k:Key}(ha:az8 a=some k)(hb:az8 b=some k):a=b:=by
 cases a with
 | int i =>
  cases ha
  cases b with
  | int j=>cases hb;rfl
  | str y=>cases hb
  | _=>cases hb
 | str x =>
  cases ha
  cases b with
  | int j=>cases hb
  | str y =>
   have h:=ay hb
   injection h with h
   injection h with h
   have z:y=x:=by simpa using h
   rw[z]
  | _=>cases hb
 | _=>cases ha
theorem aj8 {d:lu}(h:d.key=true):∃ k,az8 d=some k:=by
 cases d with
 | int i=>exact⟨_,rfl⟩
 | str x=>exact⟨_,rfl⟩
 | _=>cases h
theorem ay9 {φ:Nat->Addr}{H:Hp}{d:lu}{k:Key}{v:V}(h:az8 d=some k)(r:RV Γ φ H d v):v=kV k:=by
 cases d with
 | int i=>cases h;exact r.intE
 | str x=>cases h;exact r.strE
 | _=>cases h
def bD3 {κ:Type}(kf:lu->Option κ):Prop:=∀ {a b:lu} {k:κ},kf a=some k->kf b=some k->a=b
theorem ar2:∀ {a b:List lu} {k:List Key},zL a=some k->zL b=some k->a=b
 | [],[],k,_,_=>rfl
 | [],y::b,k,ha,hb=>by
  cases ha
  unfold zL at hb
  split at hb<;>cases hb
 | x::a,[],k,ha,hb=>by
  cases hb
  unfold zL at ha
  split at ha<;>cases ha
 | x::a,y::b,k,ha,hb=>by
  unfold zL at ha hb
  split at ha
  ·rename_i k1 r1 e1 e2
   cases ha
   split at hb
   ·rename_i k2 C h z
    cases hb
    rw[keyOf_inj e1 h,ar2 e2 z]
   ·cases hb
  ·cases ha
theorem ag4 {d:lu}{k:List Key}(h:bA9 d=some k):∃ l,d=.tup l/\(lD l=true/\l.all lI=true/\l.length<=1000)/\zL l=some k:=by
 cases d with
 | tup l =>
  have h:(if(lD l&&(l.all lI&&decide (l.length<=1000)))=true then zL l else none)=some k:=h
  by_cases z:(lD l&&(l.all lI&&decide (l.length<=1000)))=true
  ·rw[if_pos z]at h;rw[aj,aj]at z;exact⟨l,rfl,⟨z.1,z.2.1,of_decide_eq_true z.2.2⟩,h⟩
  ·rw[if_neg z]at h;cases h
 | _=>cases h
theorem keyT_inj:bD3 bA9:=λ ha hb=>by
 obtain⟨l,rfl,_,y⟩:=ag4 ha
 obtain⟨m,rfl,_,h⟩:=ag4 hb
 rw[ar2 y h]
theorem aP6 {d:lu}(h:d.keyS=true):∃ k,az8 d=some k:=by
 cases d with
 | int i=>exact⟨_,rfl⟩
 | str x=>exact⟨_,rfl⟩
 | _=>cases h
theorem an0:∀ {l:List lu},l.all lI=true->∃ k,zL l=some k
 | [],_=>⟨[],rfl⟩
 | d::l,h=>by
  rw[fx,aj]at h
  obtain⟨k,hk⟩:=aP6 h.1
  obtain⟨r,hr⟩:=an0 h.2
  exact⟨k::r,by unfold zL;rw[hk,hr]⟩
theorem af3 {d:lu}(h:d.keyT=true):∃ k,bA9 d=some k:=by
 cases d with
 | tup l =>
  have h:(lD l&&(l.all lI&&decide (l.length<=1000)))=true:=h
  have h':=h
  rw[aj,aj]at h'
  obtain⟨k,hk⟩:=an0 h'.2.1
  exact⟨k,by show(if(lD l&&(l.all lI&&decide (l.length<=1000)))=true then zL l else none)=some k;rw[if_pos h];exact hk⟩
 | _=>cases h
theorem aR7 {φ:Nat->Addr}{H:Hp}:∀ {l:List lu} {k:List Key} {y:List V},zL l=some k->RVL Γ φ H l y->y=k.map kV
 | [],k,y,h,r=>by cases h;exact r.unnil
 | d::l,k,y,h,r=>by
  unfold zL at h
  split at h
  ·rename_i k1 r1 e1 e2
   cases h
   obtain⟨x,ys,rfl,C,z⟩:=r.uncons
   rw[ay9 e1 C,aR7 e2 z,aH]
  ·cases h
theorem au4 {φ:Nat->Addr}{H:Hp}{d:lu}{k:List Key}{v:V}(h:bA9 d=some k)(r:RV Γ φ H d v):∃ b,v=.ref b/\H b=some (.tup (k.map kV)):=by
 obtain⟨l,rfl,z,hk⟩:=ag4 h
 obtain⟨a,F,e,y,C⟩:=r.tupK z.1
 rw[aR7 hk C]at y
 exact⟨a,e,y⟩
theorem bK7 {φ:Nat->Addr}{H:Hp}{d:lu}{k:Key}(h:az8 d=some k)(hl:d.keyS=true):RV Γ φ H d (kV k):=by
 cases d with
 | int i=>cases h;exact RV.intI
 | str x=>cases h;exact RV.strI (am (of_decide_eq_true hl) (by decide))
 | _=>cases h
theorem aW5 {φ:Nat->Addr}{H:Hp}:∀ {l:List lu} {k:List Key},zL l=some k->l.all lI=true->RVL Γ φ H l (k.map kV)
 | [],k,h,_=>by cases h;exact .nil
 | d::l,k,h,z=>by
  unfold zL at h
  rw[fx,aj]at z
  split at h
  ·rename_i k1 r1 e1 e2
   cases h
   exact .cons (bK7 e1 z.1) (aW5 e2 z.2)
  ·cases h
theorem ar1:∀ {l:List lu} {k:List Key},zL l=some k->k.length=l.length
 | [],k,h=>by cases h;rfl
 | d::l,k,h=>by
  unfold zL at h
  split at h
  ·rename_i k1 r1 e1 e2
   cases h
   rw[aQ,aQ,ar1 e2]
  ·cases h
theorem bc8 {d:lu}{k:List Key}(h:bA9 d=some k):k≠[]/\k.length<=1000:=by
 obtain⟨l,rfl,z,hk⟩:=ag4 h
 have:=ar1 hk
 refine⟨λ e=>?_,by omega⟩
 subst e
 have hl:l=[]:=bG.mp this.symm
 subst hl
 cases z.1
section
variable {κ:Type} [DecidableEq κ] {kf:lu->Option κ}
theorem RVD.val {φ:Nat->Addr}{H:Hp}{d:lu}{k:κ}(C:bD3 kf)(hk:kf d=some k):∀ {l:List (lu×lu)} {y:List (κ×V)},RVD kf Γ φ H l y->(lQ d l=none/\az0 y k=none)\/∃ e v,lQ d l=some e/\az0 y k=some v/\RV Γ φ H e v/\e∈l.map (·.2)
 | [],y,h=>by
  have h:y=[]:=h
  subst h
  exact .inl ⟨rfl,rfl⟩
 | (a,e)::l,y,h=>by
  obtain⟨F,v,r,rfl,e2,J,Z⟩:=h
  by_cases z:a=d
  ·subst z
   rw[hk]at e2;cases e2
   exact .inr ⟨e,v,by unfold lQ;rw[if_pos rfl],aj4 rfl,J,by simp⟩
  ·have Y:¬ F=k:=λ q=>z (C e2 (by rw[q];exact hk))
   have G:lQ d ((a,e)::l)=lQ d l:=by
    conv=>lhs;unfold lQ
    rw[if_neg z]
   rw[G,ak1 (show ¬(F,v).1=k from Y)]
   rcases RVD.val C hk Z with q|⟨e',v',q1,q2,q3,q4⟩
   ·exact .inl q
   ·exact .inr ⟨e',v',q1,q2,q3,by simp at q4 ⊢;exact .inr q4⟩
theorem RVD.repl {φ:Nat->Addr}{H:Hp}{d e:lu}{k:κ}{v:V}(C:bD3 kf)(hk:kf d=some k)(hv:RV Γ φ H e v):∀ {l:List (lu×lu)} {y:List (κ×V)},RVD kf Γ φ H l y->RVD kf Γ φ H (l.map λ p=>if p.1=d then(p.1,e)else p) (y.map λ kv=>if kv.1=k then(kv.1,v)else kv)
 | [],y,h=>by
  have h:y=[]:=h
  subst h;exact(rfl:([]:List (κ×V))=[])
 | (a,e0)::l,y,h=>by
  obtain⟨G,v0,r,rfl,e2,J,F⟩:=h
  rw[aH,aH]
  by_cases z:a=d
  ·subst z
   rw[hk]at e2;cases e2
   rw[if_pos rfl,if_pos rfl]
   exact⟨k,v,_,rfl,hk,hv,RVD.repl C hk hv F⟩
  ·have Y:¬ G=k:=λ q=>z (C e2 (by rw[q];exact hk))
   rw[if_neg z,if_neg Y]
   exact⟨G,v0,_,rfl,e2,J,RVD.repl C hk hv F⟩
theorem RVD.snoc {φ:Nat->Addr}{H:Hp}{d e:lu}{k:κ}{v:V}(C:bD3 kf)(hk:kf d=some k)(hv:RV Γ φ H e v):∀ {l:List (lu×lu)} {y:List (κ×V)},RVD kf Γ φ H l y->RVD kf Γ φ H (l++[(d,e)]) (y++[(k,v)])
 | [],y,h=>by
  have h:y=[]:=h
  subst h;exact⟨k,v,[],rfl,hk,hv,rfl⟩
 | (a,e0)::l,y,h=>by
  obtain⟨G,v0,r,rfl,e2,z,F⟩:=h
  exact⟨G,v0,_,rfl,e2,z,RVD.snoc C hk hv F⟩
theorem RVD.put {φ:Nat->Addr}{H:Hp}{d e:lu}{k:κ}{v:V}{l:List (lu×lu)}{y:List (κ×V)}(z:bD3 kf)(hk:kf d=some k)(hv:RV Γ φ H e v)(h:RVD kf Γ φ H l y):RVD kf Γ φ H (lH d e l) (ap9 y k v):=by
 unfold lH ap9
 rw[ar7]
 rcases h.val z hk with⟨C,q2⟩|⟨e',v',C,q2,_⟩
 ·rw[C,q2];exact h.snoc z hk hv
 ·rw[C,q2];exact h.repl z hk hv
theorem RVD.get {φ:Nat->Addr}{H:Hp}:∀ {l:List (lu×lu)} {y:List (κ×V)} {i:Nat} {d e:lu},RVD kf Γ φ H l y->l[i]?=some (d,e)->∃ k v,y[i]?=some (k,v)/\kf d=some k/\RV Γ φ H e v
 | [],_,_,_,_,_,h=>by cases h
 | (a,b)::l,y,0,d,e,h,q=>by
  obtain⟨k,v,r,rfl,e2,z,C⟩:=h
  cases q
  exact⟨k,v,rfl,e2,z⟩
 | (a,b)::l,y,i+1,d,e,h,q=>by
  obtain⟨k,v,r,rfl,e2,z,C⟩:=h
  exact RVD.get (i:=i) C (show l[i]?=some (d,e)from q)
theorem RVD.keys {φ:Nat->Addr}{H:Hp}:∀ {l:List (lu×lu)} {y:List (κ×V)},RVD kf Γ φ H l y->∀ kv∈y,∃ d,kf d=some kv.1
 | [],y,h,kv,hk=>by
  have h:y=[]:=h
  subst h;cases hk
 | (a,b)::l,y,h,kv,hk=>by
  obtain⟨k,v,r,rfl,e2,F,C⟩:=h
  rcases aF.mp hk with z|z
  ·subst z;exact⟨a,e2⟩
  ·exact RVD.keys C kv z
theorem RVD.length {φ:Nat->Addr}{H:Hp}:∀ {l:List (lu×lu)} {y:List (κ×V)},RVD kf Γ φ H l y->y.length=l.length
 | [],y,h=>by
  have h:y=[]:=h
  subst h;rfl
 | (a,e)::l,y,h=>by
  obtain⟨F,v,r,rfl,e2,C,z⟩:=h
  rw[aQ,aQ,RVD.length z]
end
theorem aI7 {n:Nat}{d e:lu}{l:List (lu×lu)}(h:(DV.O.dic l).bnd n=true)(hd:d.bnd n=true)(z:e.bnd n=true):(DV.O.dic (lH d e l)).bnd n=true:=by
 unfold lA at h ⊢
 rw[aj]at h ⊢
 obtain⟨G,F⟩:=h
 have g1:=aa2.mp G
 have C:=aa2.mp F
 unfold lH
 refine⟨aa2.mpr λ x hx=>?_,aa2.mpr λ x hx=>?_⟩
 ·obtain⟨p,y,rfl⟩:=aO.mp hx
  split at y
  ·obtain⟨q,hq,rfl⟩:=aO.mp y
   split
   ·exact g1 _ (aS (f:=(·.1)) hq)
   ·exact g1 _ (aS (f:=(·.1)) hq)
  ·rcases bj.mp y with q|q
   ·exact g1 _ (aS (f:=(·.1)) q)
   ·rw[aU.mp q];exact hd
 ·obtain⟨p,y,rfl⟩:=aO.mp hx
  split at y
  ·obtain⟨q,hq,rfl⟩:=aO.mp y
   split
   ·exact z
   ·exact C _ (aS (f:=(·.2)) hq)
  ·rcases bj.mp y with q|q
   ·exact C _ (aS (f:=(·.2)) q)
   ·rw[aU.mp q];exact z
theorem ba3 {n:Nat}{d e:lu}{l:List (lu×lu)}(h:(DV.O.dit l).bnd n=true)(hd:d.bnd n=true)(y:e.bnd n=true):(DV.O.dit (lH d e l)).bnd n=true:=aI7 h hd y
theorem aj6 {f:lu->lu->Option Bool}{a b:lu}{l m:List lu}{z:Bool}(h:lJ f (a::l) (b::m)=some z):∃ x y,f a b=some x/\lJ f l m=some y/\z=(x&&y):=by
 unfold lJ at h
 cases e1:f a b with
 | none=>rw[e1]at h;cases h
 | some x =>
  cases e2:lJ f l m with
  | none=>rw[e1,e2]at h;cases h
  | some y=>rw[e1,e2]at h;exact⟨x,y,rfl,rfl,(ay h).symm⟩
theorem aW7 {f:lu->lu->Option Bool}:∀ {l m:List lu} {z:Bool},lJ f l m=some z->∃ e:Nat->Bool,(∀ j d d',l[j]?=some d->m[j]?=some d'->f d d'=some (e j))/\((l.length==m.length)&&(bB (min l.length m.length)).all e)=z
 | [],[],z,h=>by
  unfold lJ at h
  cases h
  exact⟨λ _=>true,λ j d d' h=>by simp at h,by simp⟩
 | [],b::m,z,h=>by
  unfold lJ at h
  cases h
  exact⟨λ _=>true,λ j d d' h=>by simp at h,by simp⟩
 | a::l,[],z,h=>by
  unfold lJ at h
  cases h
  exact⟨λ _=>true,λ j d d' G C=>by simp at C,by simp⟩
 | a::l,b::m,z,h=>by
  obtain⟨x,y,e1,e2,J⟩:=aj6 h
  obtain⟨e,G,C⟩:=aW7 e2
  refine⟨λ j=>match j with|0=>x|j+1=>e j,λ j d d' g1 F=>?_,?_⟩
  ·cases j with
   | zero=>simp at g1 F;subst g1;subst F;exact e1
   | succ j=>exact G j d d' (by simpa using g1) (by simpa using F)
  ·rw[aQ,aQ,show min (l.length+1) (m.length+1)=min l.length m.length+1 by omega,List.range_succ_eq_map,fx,List.all_map,J,<-C]
   have:((l.length+1==m.length+1)=(l.length==m.length)):=by
    by_cases q:l.length=m.length
    ·simp[q]
    ·have:¬ l.length+1=m.length+1:=by omega
     simp[q]
   rw[this]
   show((l.length==m.length)&&(x&&(bB _).all e))=_
   cases x<;>cases(l.length==m.length)<;>simp
section
variable {X:Cx} {pins:List (Addr×Obj)} {σ:St} {H:Hp} {sh:ag} {φ:Nat->Addr} {s:lr}
theorem al1 (I:Inv X pins σ H sh){a:Addr}{y ys:List V}(h:H a=some (.lst y))(h':SqT X.K H a ys):False:=by
 rcases h' with(z|⟨o,z⟩)|⟨o,its,n,hk,_⟩
 ·rw[h]at z;cases z
 ·rw[h]at z;cases z
 ·have:=(I.bs a o (I.mod.kin a o hk)).2
  rw[h]at this;cases this
theorem rv_two (I:Inv X pins σ H sh)(hK:X.K=Γ.K)(R:Rp Γ φ H s){a b:lu}{x:V}(F:RV Γ φ H a x)(y:RV Γ φ H b x)(n1:lL s a≠9)(z:lL s b≠9):a=b\/∃ l m p G,a=.tup l/\b=.tup m/\x=.ref p/\RVL Γ φ H l G/\RVL Γ φ H m G:=by
 have C:∀ {r:Nat},lL s (.ref r)≠9->∃ l,s[r]?=some (.lst l):=λ {r} h=>by
  have h:(match s[r]? with|some (DV.O.lst l)=>4|_=>9:Nat)≠9:=h
  cases hs:s[r]? with
  | none=>rw[hs]at h;exact absurd rfl h
  | some o =>
   rw[hs]at h
   cases o with
   | lst l=>exact⟨l,rfl⟩
   | _=>exact absurd rfl h
 cases a with
 | non=>have e:=F.nonE;subst e;cases b with
  | non=>exact .inl rfl
  | bl _=>cases y.blE
  | int _=>cases y.intE
  | str _=>cases y.strE
  | tup _=>obtain⟨_,_,e,_⟩:=y.tupE;cases e
  | ref _=>cases y.refE
  | fn _=>exact absurd rfl z
  | clo _ _=>exact absurd rfl z
 | bl p=>have e:=F.blE;subst e;cases b with
  | non=>cases y.nonE
  | bl _=>cases y.blE;exact .inl rfl
  | int _=>cases y.intE
  | str _=>cases y.strE
  | tup _=>obtain⟨_,_,e,_⟩:=y.tupE;cases e
  | ref _=>cases y.refE
  | fn _=>exact absurd rfl z
  | clo _ _=>exact absurd rfl z
 | int p=>have e:=F.intE;subst e;cases b with
  | non=>cases y.nonE
  | bl _=>cases y.blE
  | int _=>cases y.intE;exact .inl rfl
  | str _=>cases y.strE
  | tup _=>obtain⟨_,_,e,_⟩:=y.tupE;cases e
  | ref _=>cases y.refE
  | fn _=>exact absurd rfl z
  | clo _ _=>exact absurd rfl z
 | str p=>have e:=F.strE;subst e;cases b with
  | non=>cases y.nonE
  | bl _=>cases y.blE
  | int _=>cases y.intE
  | str q =>
   have e':p.toArray=q.toArray:=Str.mk.inj (V.str.inj y.strE)
   have a1:p=q:=by simpa using congrArg jC e'
   subst a1;exact .inl rfl
  | tup _=>obtain⟨_,_,e,_⟩:=y.tupE;cases e
  | ref _=>cases y.refE
  | fn _=>exact absurd rfl z
  | clo _ _=>exact absurd rfl z
 | tup l =>
  obtain⟨p,G,e,J,d1⟩:=F.tupE;subst e;cases b with
  | non=>cases y.nonE
  | bl _=>cases y.blE
  | int _=>cases y.intE
  | str _=>cases y.strE
  | tup m =>
   obtain⟨p',ys,e,q2,Z⟩:=y.tupE
   cases e
   rw[<-hK]at J q2
   rw[I.tuple_inj q2 J]at Z
   exact .inr ⟨l,m,p,G,rfl,rfl,rfl,d1,Z⟩
  | ref r =>
   cases y.refE
   obtain⟨m,Y⟩:=C z
   obtain⟨ys,hy,_⟩:=R.addr Y
   rw[<-hK]at J
   exact(al1 I hy J).elim
  | fn _=>exact absurd rfl z
  | clo _ _=>exact absurd rfl z
 | ref r =>
  have e:=F.refE;subst e
  obtain⟨l,hl⟩:=C n1
  obtain⟨G,hx,_⟩:=R.addr hl
  cases b with
  | non=>cases y.nonE
  | bl _=>cases y.blE
  | int _=>cases y.intE
  | str _=>cases y.strE
  | tup m =>
   obtain⟨p',ys,e,q2,Z⟩:=y.tupE
   cases e
   rw[<-hK]at q2
   exact(al1 I hx q2).elim
  | ref r' =>
   obtain⟨m,Y⟩:=C z
   have e:φ r=φ r':=V.ref.inj y.refE
   rw[R.inj r r' _ _ hl Y rfl rfl e]
   exact .inl rfl
  | fn _=>exact absurd rfl z
  | clo _ _=>exact absurd rfl z
 | fn _=>exact absurd rfl n1
 | clo _ _=>exact absurd rfl n1
theorem qu {a b:lu}{z:Bool}(h:lM s a b=some z):m6 a b=some z\/(m6 a b=none/\mD (lL s a) (lL s b)=false/\z=false):=by
 unfold lM at h
 cases e:m6 a b with
 | some w=>rw[e]at h;exact .inl h
 | none =>
  rw[e]at h
  cases q:mD (lL s a) (lL s b)with
  | true=>rw[q]at h;cases h
  | false=>rw[q]at h;exact .inr ⟨rfl,rfl,(ay h).symm⟩
theorem be6 {a b:lu}{z:Bool}(h:m6 a b=some z):lL s a≠9/\lL s b≠9:=by
 cases a<;>cases b<;>first|(cases h;done)|(constructor<;>(intro z;cases z))
theorem af6 {a b:lu}{z:Bool}(h:lM s a b=some z):lL s a≠9/\lL s b≠9:=by
 rcases qu h with h|⟨_,h,_⟩
 ·exact be6 h
 ·unfold mD at h
  simp only[fA,beq_eq_false_iff_ne]at h
  exact⟨h.1.1,h.1.2⟩
theorem aG2 {a:lu}{z:Bool}(h:lM s a a=some z):z=true:=by
 rcases qu h with h|⟨_,h,_⟩
 ·cases a<;>cases h<;>first|rfl|exact beq_self_eq_true _
 ·unfold mD at h;simp at h
theorem aH8 (I:Inv X pins σ H sh)(hK:X.K=Γ.K)(R:Rp Γ φ H s):∀(n:Nat) (a b:lu) (x:V) (z:Bool),lC s n a b=some z->RV Γ φ H a x->RV Γ φ H b x->z=true:=by
 have F:∀(a b:lu) (x:V) (z:Bool),lM s a b=some z->RV Γ φ H a x->RV Γ φ H b x->z=true:=by
  intro a b x z h C y
  rcases rv_two I hK R C y (af6 h).1 (af6 h).2 with e|⟨l,m,_,_,rfl,rfl,_⟩
  ·subst e;exact aG2 h
  ·rcases qu h with h|⟨_,h,_⟩
   ·cases h
   ·unfold mD at h;simp[lL]at h
 intro n
 induction n with
 | zero=>intro a b x z h;unfold lC at h;exact F a b x z h
 | succ n ih =>
  have Y:∀(l m:List lu) (G:List V) (z:Bool),lJ (lC s n) l m=some z->RVL Γ φ H l G->RVL Γ φ H m G->z=true:=by
   intro l
   induction l with
   | nil =>
    intro m G z h C y
    cases m with
    | nil=>unfold lJ at h;exact(ay h).symm
    | cons b m=>obtain⟨x,r,e,_⟩:=y.uncons;rw[C.unnil]at e;cases e
   | cons a l ihl =>
    intro m G z h C y
    cases m with
    | nil=>obtain⟨x,r,e,_⟩:=C.uncons;rw[y.unnil]at e;cases e
    | cons b m =>
     obtain⟨p,q,e1,e2,ez⟩:=aj6 h
     obtain⟨v,r,rfl,g1,g2⟩:=C.uncons
     obtain⟨v',r',e,g3,g4⟩:=y.uncons
     cases e
     rw[ez,ih a b v p e1 g1 g3,ihl m r q e2 g2 g4];rfl
  intro a b x z h C y
  unfold lC at h
  split at h
  ·rename_i l m
   obtain⟨a,G,rfl,q1,d1⟩:=C.tupE
   obtain⟨b,ys,e,q2,J⟩:=y.tupE
   cases e
   rw[<-hK]at q1 q2
   rw[I.tuple_inj q2 q1]at J
   exact Y l m G z h d1 J
  ·rename_i p q
   split at h
   ·rename_i l m hl hm
    obtain⟨G,e1,d1⟩:=R.addr hl
    obtain⟨ys,e2,J⟩:=R.addr hm
    have e:=C.refE.symm.trans y.refE
    have e':φ p=φ q:=V.ref.inj e
    rw[e',e2]at e1
    have e3:ys=G:=by injection (ay e1)
    subst e3
    split at h
    ·exact Y l m ys z h d1 J
    ·rename_i Z;exact absurd (d1.length.symm.trans J.length) Z
   ·cases h
  ·exact F a b x z h C y
end
variable {Γ:Gm}
inductive Vw (sh:ag):Nat->Value->Prop where
 | non:Vw sh 0 .none
 | bl (b:Bool):Vw sh 1 (.bool b)
 | int (i:Int) (t:Tok):Vw sh 1 (.int i t)
 | str (x:Str) (t:Tok):Vw sh 2 (.str x t)
 | tup {l:Addr} {items:Array Value} (h:sh.heap.IsTuple l items):Vw sh 3 (.ref l)
 | lst {l:Addr} {items:Array Value} (h:sh.heap.IsList l items):Vw sh 4 (.ref l)
theorem Vw.eq {A:aX}{C:ag}{k F:Nat}{u v:Value}(a:Vw C k u)(b:Vw C F v)(z:k≠F)(y:A.units<cLine):ii A C u v false:=by
 cases a with
 | non=>cases b with
  | non=>exact absurd rfl z
  | bl b=>exact SeqAt.EqAt.none_bool b
  | int i t=>exact SeqAt.EqAt.none_int i t
  | str x t=>exact SeqAt.EqAt.none_str x t
  | tup h=>exact SeqAt.EqAt.none_tuple h y
  | lst h=>exact SeqAt.EqAt.none_list h y
 | bl a=>cases b with
  | non=>exact SeqAt.EqAt.bool_none a
  | bl b=>exact absurd rfl z
  | int i t=>exact absurd rfl z
  | str x t=>exact SeqAt.EqAt.bool_str a x t
  | tup h=>exact SeqAt.EqAt.bool_tuple a h y
  | lst h=>exact SeqAt.EqAt.bool_list a h y
 | int a q=>cases b with
  | non=>exact SeqAt.EqAt.int_none a q
  | bl b=>exact absurd rfl z
  | int i t=>exact absurd rfl z
  | str x t=>exact jo a q x t
  | tup h=>exact SeqAt.EqAt.int_tuple a q h y
  | lst h=>exact SeqAt.EqAt.int_list a q h y
 | str a q=>cases b with
  | non=>exact SeqAt.EqAt.str_none a q
  | bl b=>exact SeqAt.EqAt.str_bool a q b
  | int i t=>exact jp a q i t
  | str x t=>exact absurd rfl z
  | tup h=>exact SeqAt.EqAt.str_tuple a q h y
  | lst h=>exact SeqAt.EqAt.str_list a q h y
 | tup g=>cases b with
  | non=>exact SeqAt.EqAt.tuple_none g y
  | bl b=>exact SeqAt.EqAt.tuple_bool b g y
  | int i t=>exact SeqAt.EqAt.tuple_int i t g y
  | str x t=>exact SeqAt.EqAt.tuple_str x t g y
  | tup h=>exact absurd rfl z
  | lst h=>exact SeqAt.EqAt.tuple_list g h y
 | lst g=>cases b with
  | non=>exact SeqAt.EqAt.list_none g y
  | bl b=>exact SeqAt.EqAt.list_bool b g y
  | int i t=>exact SeqAt.EqAt.list_int i t g y
  | str x t=>exact SeqAt.EqAt.list_str x t g y
  | tup h=>exact SeqAt.EqAt.list_tuple g h y
  | lst h=>exact absurd rfl z
theorem Vw.rc {A:aX}{C:ag}{k F:Nat}{u v:Value}(a:Vw C k u)(b:Vw C F v)(z:k≠F)(y:A.units<cLine):lq A C u v false:=by
 cases a with
 | non=>cases b with
  | non=>exact absurd rfl z
  | bl b=>exact SeqAt.RcAt.none_bool b
  | int i t=>exact SeqAt.RcAt.none_int i t
  | str x t=>exact SeqAt.RcAt.none_str x t
  | tup h=>exact SeqAt.RcAt.none_tuple h y
  | lst h=>exact SeqAt.RcAt.none_list h y
 | bl a=>cases b with
  | non=>exact SeqAt.RcAt.bool_none a
  | bl b=>exact absurd rfl z
  | int i t=>exact absurd rfl z
  | str x t=>exact SeqAt.RcAt.bool_str a x t
  | tup h=>exact SeqAt.RcAt.bool_tuple a h y
  | lst h=>exact SeqAt.RcAt.bool_list a h y
 | int a q=>cases b with
  | non=>exact SeqAt.RcAt.int_none a q
  | bl b=>exact absurd rfl z
  | int i t=>exact absurd rfl z
  | str x t=>exact SeqAt.RcAt.int_str a q x t
  | tup h=>exact SeqAt.RcAt.int_tuple a q h y
  | lst h=>exact SeqAt.RcAt.int_list a q h y
 | str a q=>cases b with
  | non=>exact SeqAt.RcAt.str_none a q
  | bl b=>exact SeqAt.RcAt.str_bool a q b
  | int i t=>exact SeqAt.RcAt.str_int a q i t
  | str x t=>exact absurd rfl z
  | tup h=>exact SeqAt.RcAt.str_tuple a q h y
  | lst h=>exact SeqAt.RcAt.str_list a q h y
 | tup g=>cases b with
  | non=>exact SeqAt.RcAt.tuple_none g y
  | bl b=>exact SeqAt.RcAt.tuple_bool b g y
  | int i t=>exact SeqAt.RcAt.tuple_int i t g y
  | str x t=>exact SeqAt.RcAt.tuple_str x t g y
  | tup h=>exact absurd rfl z
  | lst h=>exact SeqAt.RcAt.tuple_list g h y
 | lst g=>cases b with
  | non=>exact SeqAt.RcAt.list_none g y
  | bl b=>exact SeqAt.RcAt.list_bool b g y
  | int i t=>exact SeqAt.RcAt.list_int i t g y
  | str x t=>exact SeqAt.RcAt.list_str x t g y
  | tup h=>exact SeqAt.RcAt.list_tuple g h y
  | lst h=>exact absurd rfl z
theorem Vw.ne {A:aX}{C:ag}{k F:Nat}{u v:Value}(a:Vw C k u)(b:Vw C F v)(z:k≠F)(y:A.units<cLine):k8 A C u v true:=by
 cases a with
 | non=>cases b with
  | non=>exact absurd rfl z
  | bl b=>exact SeqAt.RcNeAt.none_bool b
  | int i t=>exact SeqAt.RcNeAt.none_int i t
  | str x t=>exact SeqAt.RcNeAt.none_str x t
  | tup h=>exact SeqAt.RcNeAt.none_tuple h y
  | lst h=>exact SeqAt.RcNeAt.none_list h y
 | bl a=>cases b with
  | non=>exact SeqAt.RcNeAt.bool_none a
  | bl b=>exact absurd rfl z
  | int i t=>exact absurd rfl z
  | str x t=>exact SeqAt.RcNeAt.bool_str a x t
  | tup h=>exact SeqAt.RcNeAt.bool_tuple a h y
  | lst h=>exact SeqAt.RcNeAt.bool_list a h y
 | int a q=>cases b with
  | non=>exact SeqAt.RcNeAt.int_none a q
  | bl b=>exact absurd rfl z
  | int i t=>exact absurd rfl z
  | str x t=>exact SeqAt.RcNeAt.int_str a q x t
  | tup h=>exact SeqAt.RcNeAt.int_tuple a q h y
  | lst h=>exact SeqAt.RcNeAt.int_list a q h y
 | str a q=>cases b with
  | non=>exact SeqAt.RcNeAt.str_none a q
  | bl b=>exact SeqAt.RcNeAt.str_bool a q b
  | int i t=>exact SeqAt.RcNeAt.str_int a q i t
  | str x t=>exact absurd rfl z
  | tup h=>exact SeqAt.RcNeAt.str_tuple a q h y
  | lst h=>exact SeqAt.RcNeAt.str_list a q h y
 | tup g=>cases b with
  | non=>exact SeqAt.RcNeAt.tuple_none g y
  | bl b=>exact SeqAt.RcNeAt.tuple_bool b g y
  | int i t=>exact SeqAt.RcNeAt.tuple_int i t g y
  | str x t=>exact SeqAt.RcNeAt.tuple_str x t g y
  | tup h=>exact absurd rfl z
  | lst h=>exact SeqAt.RcNeAt.tuple_list g h y
 | lst g=>cases b with
  | non=>exact SeqAt.RcNeAt.list_none g y
  | bl b=>exact SeqAt.RcNeAt.list_bool b g y
  | int i t=>exact SeqAt.RcNeAt.list_int i t g y
  | str x t=>exact SeqAt.RcNeAt.list_str x t g y
  | tup h=>exact SeqAt.RcNeAt.list_tuple g h y
  | lst h=>exact absurd rfl z
theorem bC8 (a b:List Nat):((⟨a.toArray⟩:Str)==⟨b.toArray⟩)=(a==b):=by
 by_cases e:a=b
 ·subst e;simp
 ·have:(⟨a.toArray⟩:Str)≠⟨b.toArray⟩:=λ q=>e (by simpa using congrArg (λ z=>z.cps.toList) q)
  rw[beq_eq_false_iff_ne.mpr this,beq_eq_false_iff_ne.mpr e]
structure Cmp (A:aX)(sh:ag)(u v:Value)(z:Bool):Prop where
 rc:lq A sh u v z
 ne:k8 A sh u v (!z)
section
variable {X:Cx} {pins:List (Addr×Obj)} {σ:St} {H:Hp} {sh:ag} {φ:Nat->Addr} {s:lr}
theorem bO2 (I:Inv X pins σ H sh)(z:X.K=Γ.K)(R:Rp Γ φ H s){d:lu}{x:V}{u:Value}(h:RV Γ φ H d x)(r:RelV x u)(hk:lL s d≠9):Vw sh (lL s d) u:=by
 cases d with
 | non=>have e:=h.nonE;subst e;cases r;exact .non
 | bl b=>have e:=h.blE;subst e;cases r;exact .bl b
 | int i=>have e:=h.intE;subst e;obtain⟨t,rfl⟩:=r;exact .int i t
 | str y=>have e:=h.strE;subst e;obtain⟨t,rfl⟩:=r;exact .str _ t
 | tup l =>
  obtain⟨a,C,e,q,_⟩:=h.tupE
  subst e;cases r
  rw[<-z]at q
  obtain⟨its,_,t,_⟩:=I.tuple q
  exact .tup t
 | ref n =>
  have e:=h.refE;subst e;cases r
  have hk:(match s[n]? with|some (DV.O.lst l)=>4|_=>9:Nat)≠9:=hk
  show Vw sh (match s[n]? with|some (DV.O.lst l)=>4|_=>9:Nat) _
  cases hs:s[n]? with
  | none=>rw[hs]at hk;exact absurd rfl hk
  | some o =>
   rw[hs]at hk
   cases o with
   | lst l =>
    obtain⟨C,e,_⟩:=R.addr hs
    obtain⟨its,_,t,_⟩:=I.list (SqL.of e)
    exact .lst t.isList
   | _=>exact absurd rfl hk
 | fn _=>exact absurd rfl hk
 | clo _ _=>exact absurd rfl hk
theorem ay5 (I:Inv X pins σ H sh)(Z:X.K=Γ.K)(R:Rp Γ φ H s){a b:lu}{x y:V}{u v:Value}{A:aX}{z:Bool}(h:lM s a b=some z)(G:RV Γ φ H a x)(F:RV Γ φ H b y)(r1:RelV x u)(C:RelV y v)(J:A.units<cLine) :
  ii A sh u v z/\Cmp A sh u v z:=by
 rcases qu h with h|⟨_,hn,hz⟩
 ·cases a<;>cases b<;>try cases h
  ·cases G.nonE;cases F.nonE;cases r1;cases C
   exact⟨ir _,SeqAt.RcAt.none_none,SeqAt.RcNeAt.none_none⟩
  ·cases G.blE;cases F.blE;cases r1;cases C
   exact⟨SeqAt.EqAt.bool_bool _ _,SeqAt.RcAt.bool_bool _ _,SeqAt.RcNeAt.bool_bool _ _⟩
  ·cases G.blE;cases F.intE;cases r1;obtain⟨t',rfl⟩:=C
   exact⟨SeqAt.EqAt.bool_int _ _ _,SeqAt.RcAt.bool_int _ _ _,SeqAt.RcNeAt.bool_int _ _ _⟩
  ·cases G.intE;cases F.blE;obtain⟨t,rfl⟩:=r1;cases C
   exact⟨SeqAt.EqAt.int_bool _ _ _,SeqAt.RcAt.int_bool _ _ _,SeqAt.RcNeAt.int_bool _ _ _⟩
  ·cases G.intE;cases F.intE;obtain⟨t,rfl⟩:=r1;obtain⟨t',rfl⟩:=C
   exact⟨SeqAt.EqAt.int_int _ _ _ _,SeqAt.RcAt.int_int _ _ _ _,SeqAt.RcNeAt.int_int _ _ _ _⟩
  ·cases G.strE;cases F.strE;obtain⟨t,rfl⟩:=r1;obtain⟨t',rfl⟩:=C
   rw[<-bC8]
   exact⟨SeqAt.EqAt.str_str _ _ _ _,SeqAt.RcAt.str_str _ _ _ _,SeqAt.RcNeAt.str_str _ _ _ _⟩
 ·subst hz
  unfold mD at hn
  simp only[fA,beq_eq_false_iff_ne]at hn
  have Y:=bO2 I Z R G r1 hn.1.1
  have w2:=bO2 I Z R F C hn.1.2
  exact⟨Y.eq w2 hn.2 J,Y.rc w2 hn.2 J,Y.ne w2 hn.2 J⟩
theorem aY4 (I:Inv X pins σ H sh)(hK:X.K=Γ.K)(R:Rp Γ φ H s):∀(n:Nat) (a b:lu) (x y:V) (u v:Value) (A:aX) (z:Bool),lC s n a b=some z->RV Γ φ H a x->RV Γ φ H b y->RelV x u->RelV y v->Room n A ->
  ii A sh u v z/\Cmp A sh u v z:=by
 intro n
 induction n with
 | zero=>intro a b x y u v A z h h1 h2 r1 r2 hr;unfold lC at h;exact ay5 I hK R h h1 h2 r1 r2 hr.units0
 | succ n ih =>
  have C:∀ {l m:List lu} {xs ys:List V} {its its':List Value} {A:aX} {e:Nat->Bool},RVL Γ φ H l xs->RVL Γ φ H m ys->Vals xs its->Vals ys its'->Room n A->(∀ j d d',l[j]?=some d->m[j]?=some d'->lC s n d d'=some (e j)) ->
    ∀ j (h1:j<its.toArray.size) (h2:j<its'.toArray.size),ii A sh its.toArray[j] its'.toArray[j] (e j):=by
   intro l m xs ys its its' A e d1 J Y Z hr he j h1 h2
   have l1:=Y.length
   have l2:=Z.length
   have e1:=d1.length
   have e2:=J.length
   have a4:j<its.length:=by simpa using h1
   have a3:j<its'.length:=by simpa using h2
   have hj:j<l.length:=by omega
   have a2:j<m.length:=by omega
   obtain⟨x,ex,dx⟩:=d1.get (ai hj)
   obtain⟨y,ey,dy⟩:=J.get (ai a2)
   obtain⟨u,eu,ru⟩:=Y.get ex
   obtain⟨w,ew,a5⟩:=Z.get ey
   have g1:its.toArray[j]=u:=by
    have:=ai a4
    rw[eu]at this
    simpa using(ay this).symm
   have g2:its'.toArray[j]=w:=by
    have:=ai a3
    rw[ew]at this
    simpa using(ay this).symm
   rw[g1,g2]
   exact(ih _ _ x y u w A (e j) (he j _ _ (ai hj) (ai a2)) dx dy ru a5 hr).1
  intro a b x y u v A z h h1 h2 r1 r2 hr
  have hz:=h
  unfold lC at h
  split at h
  ·rename_i l m
   obtain⟨p,xs,ex,q1,d1⟩:=id h1.tupE
   obtain⟨q,ys,ey,q2,J⟩:=id h2.tupE
   subst ex;subst ey
   cases r1;cases r2
   rw[<-hK]at q1 q2
   obtain⟨its,Y,t1,_⟩:=I.tuple q1
   obtain⟨its',Z,t2,_⟩:=I.tuple q2
   obtain⟨e,he,F⟩:=aW7 h
   have l1:=Y.length
   have l2:=Z.length
   have e1:=d1.length
   have e2:=J.length
   have sz:((bB (min its.toArray.size its'.toArray.size)).all e&&its.toArray.size==its'.toArray.size)=z:=by
    rw[<-F,Bool.and_comm,show its.toArray.size=l.length by simp;omega,show its'.toArray.size=m.length by simp;omega]
   have key:=SeqAt.RcAt.tuples (A:=A) (s:=sh) (e:=e) t1 t2 hr.units0 (C d1 J Y Z hr.in1 he)
   have G:=SeqAt.RcNeAt.tuples (A:=A) (s:=sh) (e:=e) t1 t2 hr.units0 (C d1 J Y Z hr.in1 he)
   rw[sz]at key G
   refine⟨?_,key,G⟩
   by_cases hab:p=q
   ·subst hab
    rw[aH8 I hK R _ _ _ _ _ hz h1 h2]
    exact ir _
   ·exact jB hab key
  ·rename_i p q
   split at h
   ·rename_i l m hl hm
    obtain⟨xs,e1,d1⟩:=R.addr hl
    obtain⟨ys,e2,J⟩:=R.addr hm
    have ex:=h1.refE
    have ey:=h2.refE
    subst ex;subst ey
    cases r1;cases r2
    obtain⟨its,Y,t1,_⟩:=I.list (SqL.of e1)
    obtain⟨its',Z,t2,_⟩:=I.list (SqL.of e2)
    have l1:=Y.length
    have l2:=Z.length
    have c1:=d1.length
    have c2:=J.length
    have fin:Cmp A sh (.ref (φ p)) (.ref (φ q)) z:=by
     split at h
     ·rename_i a1
      obtain⟨e,he,F⟩:=aW7 h
      have sz:(bB its.toArray.size).all e=z:=by
       rw[<-F,show its.toArray.size=l.length by simp;omega,a1]
       simp
      have key:=SeqAt.RcAt.lists (A:=A) (s:=sh) (e:=e) t1.isList t2.isList (by simp;omega) hr.units0 (C d1 J Y Z hr.in1 he)
      have G:=SeqAt.RcNeAt.lists (A:=A) (s:=sh) (e:=e) t1.isList t2.isList (by simp;omega) hr.units0 (C d1 J Y Z hr.in1 he)
      rw[sz]at key G
      exact⟨key,G⟩
     ·rename_i a1
      cases h
      have hs:(its.toArray.size != its'.toArray.size)=true:=by simp;omega
      exact⟨SeqAt.RcAt.lists_lengths t1.isList t2.isList hs hr.units0,SeqAt.RcNeAt.lists_lengths t1.isList t2.isList hs hr.units0⟩
    refine⟨?_,fin⟩
    by_cases hab:φ p=φ q
    ·rw[aH8 I hK R _ _ _ _ _ hz RV.refI (by rw[hab];exact RV.refI),hab]
     exact ir _
    ·exact jB hab fin.rc
   ·cases h
  ·exact ay5 I hK R h h1 h2 r1 r2 hr.units0
end
variable {Γ:Gm} {X:Cx}
noncomputable def bT8:nj->Operator
 | .add=>.Add|.sub=>.Sub|.mul=>.Mult|.fdiv=>.FloorDiv|.mod=>.Mod|.pow=>.Pow|.shl=>.LShift|.shr=>.RShift|.band=>.BitAnd|.bor=>.BitOr
noncomputable def ap2:mT->CmpOp
 | .eq=>.Eq|.ne=>.NotEq|.lt=>.Lt|.le=>.LtE|.gt=>.Gt|.ge=>.GtE|.isin=>.In|.notin=>.NotIn
def rOp (Γ:Gm)(f:lu->lu->lr->lz lu):R2:=λ x y H Q=>∃ φ s a b d s',Rp Γ φ H s/\RV Γ φ H a x/\RV Γ φ H b y/\a.bnd s.length=true/\b.bnd s.length=true/\f a b s=.ok d s'/\ad6 Γ φ s H d s' Q
theorem zT {d e:lu}{s t:lr}(h:m7 d s=.ok e t):d=e/\s=t:=by
 unfold m7 at h
 cases h
 exact⟨rfl,rfl⟩
theorem zR {o:lP}{e:lu}{s t:lr}(h:l7 o s=.ok e t):e=.ref s.length/\t=s++[o]:=by
 unfold l7 at h
 cases h
 exact⟨rfl,rfl⟩
theorem bA2 (a b:List Nat):(⟨a.toArray⟩:Str)++⟨b.toArray⟩=⟨(a++b).toArray⟩:=by
 show Str.append _ _=_
 unfold Str.append
 simp
theorem qa:lB<=aG:=by rw[dv];decide
theorem bt0:OpR X (cw .Mult) (rI (λ i j=>DV.mulOk i j=true) λ i j=>.int (i*j)):=opI λ i j _ _ _ _ _ hc q=>mul_int q (by
 unfold DV.mulOk at hc
 simp only[bN,aj,decide_eq_true_eq]at hc
 rcases hc with(h|h)|⟨y,z⟩
 ·exact bP7.ok (.inl (by omega))
 ·exact bP7.ok (.inr (by omega))
 ·unfold DV.BIG at y z
  exact IntMulOk.of_le (m:=60000) (n:=60000) (intBits_le_iff.mpr y) (intBits_le_iff.mpr z) (by decide))
theorem aL2 (l:List Nat):∀(n:Nat) (h:Array Nat),(aI n l.toArray).foldl (·++·) h=h++(lK n l).toArray
 | 0,h=>by simp[lK]
 | n+1,h=>by
  rw[bP,cJ,aL2 l n]
  simp[lK,jq]
theorem bw3 (l:List Nat):lK 1 l=l:=by simp[lK]
theorem aY0:∀ n,lK n []=[]
 | 0=>rfl
 | n+1=>by simp[lK,aY0 n]
theorem rep_len (l:List Nat):∀ n,(lK n l).length=l.length*n
 | 0=>by simp[lK]
 | n+1=>by simp[lK,rep_len l n,ke];omega
theorem bs4:OpR X (cw .Mult) (λ x y H Q=>∃(l:List Nat) (n:Int),x=.str ⟨l.toArray⟩/\y=.int n/\(0<=n/\n<=1000000/\l.length*n.toNat<=lB)/\Q (.str ⟨(lK n.toNat l).toArray⟩) H):=by
 intro F s σ H x y v u Q I rx J h
 obtain⟨l,n,rfl,rfl,⟨h0,h1,G⟩,q⟩:=h
 obtain⟨t,rfl⟩:=rx
 obtain⟨t',rfl⟩:=J
 have z:(⟨l.toArray⟩:Str).length=l.length:=by show l.toArray.size=_;simp
 have hL:=qa
 have Y:=am1
 refine SB.mul ⟨?_,λ hn _=>?_,λ hn _=>?_⟩ λ t2 k=>?_
 ·rw[decide_eq_false (by omega),decide_eq_false (by omega)];rfl
 ·rw[z]
  have C:1<=n:=by omega
  intro Z
  have h3:(l.length:Int)*n<=1000000:=by
   have:((l.length*n.toNat:Nat):Int)<=(lB:Nat):=Int.ofNat_le.mpr G
   rw[fJ,fN h0]at this
   have e:((lB:Nat):Int)=1000000:=by unfold lB;rfl
   omega
  have h4:(l.length:Int)<=1000000:=by
   have:(l.length:Int)*1<=(l.length:Int)*n:=fC C (by omega)
   omega
  have h5:(1000000:Int)<=(2^63 - 1) / n:=by
   rw[Int.le_ediv_iff_mul_le (by omega)]
   have:(1000000:Int)*n<=1000000*1000000:=fC h1 (by omega)
   omega
  omega
 ·rw[z]
  unfold kL
  exact decide_eq_false (by omega)
 ·have e:Txt.mul ⟨l.toArray⟩ n=⟨(lK n.toNat l).toArray⟩:=by
   unfold Txt.mul
   split
   ·have:n.toNat=0:=by omega
    rw[this];rfl
   ·split
    ·rename_i hc
     rw[bN]at hc
     rcases hc with hc|hc
     ·have:n=1:=by simpa using hc
      subst this
      show(⟨l.toArray⟩:Str)=⟨(lK 1 l).toArray⟩
      rw[bw3]
     ·have:l=[]:=by
       have:=eq_of_beq hc
       rw[z]at this
       exact bG.mp this
      subst this
      rw[aY0]
    ·show(⟨(aI n.toNat l.toArray).foldl (·++·) #[]⟩:Str)=_
     rw[aL2];simp
  rw[e]
  exact⟨.str _,H,I.tok _,⟨_,rfl⟩,q⟩
theorem al3 {n:Nat}{l:List lu}(h:lv n l=true):∀ k,lv n (l6 k l)=true
 | 0=>rfl
 | k+1=>zu h (al3 h k)
theorem RVL.repD {φ:Nat->Addr}{H:Hp}{l:List lu}{y:List V}(h:RVL Γ φ H l y):∀ k,RVL Γ φ H (l6 k l) (ao3 k y)
 | 0=>RVL.nil
 | k+1=>h.append (RVL.repD h k)
theorem aA6 {α:Type}(h:List α):∀ k,ao3 k h=(aI k h).flatten
 | 0=>rfl
 | k+1=>by rw[bP,dX,<-aA6 h k];rfl
theorem bN7 (hK:X.K=Γ.K)(op:nj):OpR X (cw (bT8 op)) (rOp Γ (DV.ag2 op)):=by
 intro F s σ H x y v u Q I Y J h
 obtain⟨φ,st,a,b,d,a1,R,ha,hb,na,nb,C,q⟩:=h
 cases op with
 | add =>
  cases a with
  | int a =>
   cases b with
   | int b =>
    change(m7 _) st=_ at C
    obtain⟨rfl,rfl⟩:=zT C
    have ex:=ha.intE;have G:=hb.intE;subst ex;subst G
    exact bL0 F s σ H _ _ v u Q I Y J ⟨_,_,rfl,rfl,q.here R rfl RV.intI⟩
   | _=>exact fb C
  | str a =>
   cases b with
   | str b =>
    change(if _ then _ else _:mM lu) st=_ at C
    split at C
    ·rename_i hl
     obtain⟨rfl,rfl⟩:=zT C
     have ex:=ha.strE;have G:=hb.strE;subst ex;subst G
     refine aM3 F s σ H _ _ v u Q I Y J ⟨_,_,rfl,rfl,?_,?_⟩
     ·show a.toArray.size+b.toArray.size<=_
      simp only[ar]
      exact am hl qa
     ·rw[bA2];exact q.here R rfl (RV.strI (by rw[aC];exact hl))
    ·exact fb C
   | _=>exact fb C
  | tup a =>
   cases b with
   | tup b =>
    change(if _ then _ else _:mM lu) st=_ at C
    split at C
    ·rename_i hl
     obtain⟨rfl,rfl⟩:=zT C
     obtain⟨p,xs,⟨rfl,z1⟩,Z,d1⟩:=ha.tupZ
     obtain⟨p',ys,⟨rfl,z2⟩,h2,d2⟩:=hb.tupZ
     refine aV7 hK F s σ H _ _ v u Q I Y J ⟨p,p',xs,ys,rfl,rfl,Z,h2,?_,λ t H' e ht hn=>?_⟩
     ·rw[d1.length,d2.length];exact am hl qa
     ·obtain⟨g,r'⟩:=R.same e
      unfold ly at na nb
      refine q _ _ _ g (ak _) (by unfold ly;exact zu na nb) (RV.tupC ht (λ z=>?_) ((RVL.mono g _ _ na d1).append (RVL.mono g _ _ nb d2))) r'
      rcases hn with hn|⟨rfl,rfl⟩|⟨rfl,rfl⟩
      ·exact hn
      ·rw[d2.tonil,aZ]at z;rw[aZ];exact e _ _ (z1 z)
      ·rw[d1.tonil]at z;exact e _ _ (z2 z)
    ·exact fb C
   | _=>exact fb C
  | ref a =>
   cases b with
   | ref b =>
    change(match st[a]?,st[b]? with|some (DV.O.lst l),some (DV.O.lst m)=>if l.length+m.length<=lB then l7 (.lst (l++m)) st else .bad|_,_=>.bad:lz lu)=_ at C
    split at C
    ·rename_i l m Z h2
     split at C
     ·rename_i hl
      obtain⟨rfl,rfl⟩:=zR C
      obtain⟨xs,e1,d1⟩:=R.addr Z
      obtain⟨ys,e2,d2⟩:=R.addr h2
      have ex:=ha.refE;have G:=hb.refE;subst ex;subst G
      have b1:=R.wf _ _ Z
      have b2:=R.wf _ _ h2
      unfold lA at b1 b2
      refine bB7 F s σ H _ _ v u Q I Y J ⟨φ a,φ b,xs,ys,rfl,rfl,e1,e2,?_,λ p hp=>?_⟩
      ·rw[d1.length,d2.length];exact am hl qa
      ·exact q.alloc R (d1.append d2) (zu b1 b2) hp
     ·exact fb C
    ·exact fb C
   | _=>exact fb C
  | _=>exact fb C
 | sub =>
  cases a with
  | int a =>
   cases b with
   | int b =>
    change(m7 _) st=_ at C
    obtain⟨rfl,rfl⟩:=zT C
    have ex:=ha.intE;have G:=hb.intE;subst ex;subst G
    exact bL1 F s σ H _ _ v u Q I Y J ⟨_,_,rfl,rfl,q.here R rfl RV.intI⟩
   | _=>exact fb C
  | _=>exact fb C
 | mul =>
  cases a with
  | int a =>
   cases b with
   | int b =>
    change(if _ then _ else _:mM lu) st=_ at C
    split at C
    ·rename_i hc
     obtain⟨rfl,rfl⟩:=zT C
     have ex:=ha.intE;have G:=hb.intE;subst ex;subst G
     exact bt0 F s σ H _ _ v u Q I Y J ⟨_,_,rfl,rfl,hc,q.here R rfl RV.intI⟩
    ·exact fb C
   | _=>exact fb C
  | str a =>
   cases b with
   | int b =>
    change(if _ then _ else _:mM lu) st=_ at C
    split at C
    ·rename_i hc
     obtain⟨rfl,rfl⟩:=zT C
     have ex:=ha.strE;have G:=hb.intE;subst ex;subst G
     exact bs4 F s σ H _ _ v u Q I Y J ⟨_,_,rfl,rfl,hc,q.here R rfl (RV.strI (by rw[rep_len];exact hc.2.2))⟩
    ·exact fb C
   | _=>exact fb C
  | tup a =>
   cases b with
   | int b =>
    change(if _ then _ else _:mM lu) st=_ at C
    split at C
    ·rename_i hc
     obtain⟨rfl,rfl⟩:=zT C
     obtain⟨p,xs,⟨rfl,z1⟩,Z,d1⟩:=ha.tupZ
     have G:=hb.intE;subst G
     refine bo8 hK F s σ H _ _ v u Q I Y J ⟨p,xs,_,rfl,rfl,Z,⟨hc.1,hc.2.1,by rw[d1.length];exact hc.2.2⟩,λ t H' e ht hn=>?_⟩
     obtain⟨g,r'⟩:=R.same e
     unfold ly at na
     refine q _ _ _ g (ak _) (by unfold ly;exact al3 na _) (RV.tupC ht (λ z=>?_) (RVL.repD (RVL.mono g _ _ na d1) _)) r'
     rcases hn with hn|⟨rfl,ex⟩
     ·exact hn
     ·rw[ex];exact e _ _ (z1 (bs8 z))
    ·exact fb C
   | _=>exact fb C
  | ref a =>
   cases b with
   | int b =>
    change(match st[a]? with|some (DV.O.lst l)=>if 0<=b/\b<=1000000/\l.length*b.toNat<=lB then l7 (.lst (l6 b.toNat l)) st else .bad|_=>.bad:lz lu)=_ at C
    split at C
    ·rename_i l Z
     split at C
     ·rename_i hc
      obtain⟨rfl,rfl⟩:=zR C
      obtain⟨xs,e1,d1⟩:=R.addr Z
      have ex:=ha.refE;have G:=hb.intE;subst ex;subst G
      have b1:=R.wf _ _ Z
      unfold lA at b1
      refine bM8 F s σ H _ _ v u Q I Y J ⟨φ a,b,xs,rfl,rfl,e1,by omega,by omega,?_,λ p hp=>?_⟩
      ·rw[d1.length];exact am hc.2.2 qa
      ·rw[<-aA6];exact q.alloc R (RVL.repD d1 _) (al3 b1 _) hp
     ·exact fb C
    ·exact fb C
   | _=>exact fb C
  | _=>exact fb C
 | fdiv =>
  cases a with
  | int a =>
   cases b with
   | int b =>
    change(if _ then _ else _:mM lu) st=_ at C
    split at C
    ·rename_i hc
     obtain⟨rfl,rfl⟩:=zT C
     have ex:=ha.intE;have G:=hb.intE;subst ex;subst G
     refine bj2 F s σ H _ _ v u Q I Y J ⟨_,_,rfl,rfl,⟨hc.1,?_⟩,q.here R rfl RV.intI⟩
     have:=hc.2
     unfold DV.DIVL at this
     simpa using this
    ·exact fb C
   | _=>exact fb C
  | _=>exact fb C
 | mod =>
  cases a with
  | int a =>
   cases b with
   | int b =>
    change(if _ then _ else _:mM lu) st=_ at C
    split at C
    ·rename_i hc
     obtain⟨rfl,rfl⟩:=zT C
     have ex:=ha.intE;have G:=hb.intE;subst ex;subst G
     exact bO4 F s σ H _ _ v u Q I Y J ⟨_,_,rfl,rfl,hc,q.here R rfl RV.intI⟩
    ·exact fb C
   | _=>exact fb C
  | _=>exact fb C
 | pow =>
  cases a with
  | int a =>
   cases b with
   | int b =>
    change(if _ then _ else _:mM lu) st=_ at C
    split at C
    ·rename_i hc
     obtain⟨rfl,rfl⟩:=zT C
     have ex:=ha.intE;have G:=hb.intE;subst ex;subst G
     exact bE8 F s σ H _ _ v u Q I Y J ⟨_,_,rfl,rfl,hc,q.here R rfl RV.intI⟩
    ·exact fb C
   | _=>exact fb C
  | _=>exact fb C
 | shl =>
  cases a with
  | int a =>
   cases b with
   | int b =>
    change(if _ then _ else _:mM lu) st=_ at C
    split at C
    ·rename_i hc
     obtain⟨rfl,rfl⟩:=zT C
     have ex:=ha.intE;have G:=hb.intE;subst ex;subst G
     exact bM3 F s σ H _ _ v u Q I Y J ⟨_,_,rfl,rfl,hc,q.here R rfl RV.intI⟩
    ·exact fb C
   | _=>exact fb C
  | _=>exact fb C
 | shr =>
  cases a with
  | int a =>
   cases b with
   | int b =>
    change(if _ then _ else _:mM lu) st=_ at C
    split at C
    ·rename_i hc
     obtain⟨rfl,rfl⟩:=zT C
     have ex:=ha.intE;have G:=hb.intE;subst ex;subst G
     exact bM7 F s σ H _ _ v u Q I Y J ⟨_,_,rfl,rfl,hc,q.here R rfl RV.intI⟩
    ·exact fb C
   | _=>exact fb C
  | _=>exact fb C
 | band=>exact fb C
 | bor=>exact fb C
variable {Γ:Gm} {X:Cx} {pins:List (Addr×Obj)} {σ:St} {H:Hp} {sh:ag} {φ:Nat->Addr} {s:lr}
theorem aK5 {n:Nat}{a b:lu}{z:Bool}(h:lC s n a b=some z):lL s a≠9:=by
 cases n with
 | zero=>unfold lC at h;exact(af6 h).1
 | succ n =>
  unfold lC at h
  split at h
  ·simp[lL]
  ·split at h
   ·rename_i y _;simp[lL,y]
   ·cases h
  ·exact(af6 h).1
theorem aS1 (I:Inv X pins σ H sh)(F:X.K=Γ.K)(R:Rp Γ φ H s):∀(n:Nat) (a b c:lu) (x:V) (p q:Bool),RV Γ φ H a x->RV Γ φ H b x->lC s n a c=some p->lC s n b c=some q->p=q:=by
 intro n
 induction n with
 | zero =>
  intro a b c x p q y h e1 e2
  rcases rv_two I F R y h (aK5 e1) (aK5 e2)with e|⟨l,m,_,_,rfl,rfl,_⟩
  ·subst e;rw[e1]at e2;exact ay e2
  ·unfold lC at e1 e2
   have:lM s (.tup l) c=lM s (.tup m) c:=by unfold lM;cases c<;>rfl
   rw[this,e2]at e1;exact(ay e1).symm
 | succ n ih =>
  have C:∀(l m k:List lu) (z:List V) (p q:Bool),RVL Γ φ H l z->RVL Γ φ H m z->lJ (lC s n) l k=some p->lJ (lC s n) m k=some q->p=q:=by
   intro l
   induction l with
   | nil =>
    intro m k z p q y h e1 e2
    have:=y.unnil;subst this
    have J:m=[]:=by have:=h.length;exact bG.mp this.symm
    subst J
    rw[e1]at e2;exact ay e2
   | cons a l ihl =>
    intro m k z p q y h e1 e2
    obtain⟨x,r,rfl,g1,G⟩:=y.uncons
    cases m with
    | nil=>have:=h.unnil;cases this
    | cons b m =>
     obtain⟨x',r',e,g3,g4⟩:=h.uncons
     cases e
     cases k with
     | nil=>unfold lJ at e1 e2;rw[<-ay e1,<-ay e2]
     | cons c k =>
      obtain⟨p1,p2,a1,a2,a3⟩:=aj6 e1
      obtain⟨q1,q2,Y,b2,b3⟩:=aj6 e2
      rw[a3,b3,ih a b c x p1 q1 g1 g3 a1 Y,ihl m k r p2 q2 G g4 a2 b2]
  intro a b c x p q y h e1 e2
  rcases rv_two I F R y h (aK5 e1) (aK5 e2)with e|⟨l,m,_,z,rfl,rfl,_,d1,Z⟩
  ·subst e;rw[e1]at e2;exact ay e2
  ·cases c with
   | tup k=>unfold lC at e1 e2;exact C l m k z p q d1 Z e1 e2
   | _ =>
    unfold lC at e1 e2
    simp only at e1 e2
    have e3:lM s (.tup l)=lM s (.tup m):=by funext c;unfold lM;cases c<;>rfl
    rw[e3]at e1
    exact ay (e1.symm.trans e2)
theorem bo3 {x:lu}:∀ {l:List lu} {z:Bool},mw s x l=some z->∃ e:Nat->Bool,(∀ j d,l[j]?=some d->lC s lG d x=some (e j))/\(z=true↔∃ j,j<l.length/\e j=true)
 | [],z,h=>by
  unfold mw at h
  cases h
  exact⟨λ _=>true,λ j d h=>by simp at h,by simp⟩
 | y::l,z,h=>by
  unfold mw at h
  cases e1:lC s lG y x with
  | none=>rw[e1]at h;cases h
  | some a =>
   cases e2:mw s x l with
   | none=>rw[e1,e2]at h;cases h
   | some b =>
    rw[e1,e2]at h
    obtain⟨e,F,C⟩:=bo3 e2
    refine⟨λ j=>match j with|0=>a|j+1=>e j,λ j d g=>?_,?_⟩
    ·cases j with
     | zero=>simp at g;subst g;exact e1
     | succ j=>exact F j d (by simpa using g)
    ·have hz:(a||b)=z:=ay h
     rw[<-hz,bN,C]
     constructor
     ·rintro(q|⟨j,hj,q⟩)
      ·exact⟨0,by simp,q⟩
      ·exact⟨j+1,by simpa using hj,q⟩
     ·rintro⟨j,hj,q⟩
      cases j with
      | zero=>exact .inl q
      | succ j=>exact .inr ⟨j,by simpa using hj,q⟩
theorem bk9 (I:Inv X pins σ H sh)(hK:X.K=Γ.K)(R:Rp Γ φ H s){x:lu}{xv:V}{xu:Value}(hx:RV Γ φ H x xv)(rx:RelV xv xu){l:List lu}{ys:List V}{its:List Value}(hl:RVL Γ φ H l ys)(hv:Vals ys its){z:Bool}(h:mw s x l=some z){A:aX}(hr:Room lG A) :
  ∃ e:Value->Bool,(∀ y,y∈its.toArray->ii A sh y xu (e y))/\its.toArray.any e=z:=by
 obtain⟨e,h1,h2⟩:=bo3 h
 have len:its.length=l.length:=by rw[<-hv.length];exact hl.length
 have C:∀ j u,its[j]?=some u->∃ d y,l[j]?=some d/\ys[j]?=some y/\RV Γ φ H d y/\RelV y u:=λ j u g=>by
  have hj:j<l.length:=by rw[<-len];exact(ac.mp g).1
  obtain⟨y,g1,Z⟩:=hl.get (ai hj)
  obtain⟨u',F,J⟩:=hv.get g1
  rw[g]at F;cases F
  exact⟨_,y,ai hj,g1,Z,J⟩
 classical
 let f:Value->Bool:=λ u=>decide (∃ j,its[j]?=some u/\e j=true)
 have Y:∀ j u,its[j]?=some u->f u=e j:=λ j u g=>by
  obtain⟨d,y,g1,Z,F,J⟩:=C j u g
  cases q:e j with
  | true=>exact decide_eq_true ⟨j,g,q⟩
  | false =>
   refine decide_eq_false λ⟨k,g',q'⟩=>?_
   obtain⟨d',y',k1,k2,k3,k4⟩:=C k u g'
   have ey:y'=y:=k4.inj J
   subst ey
   have:=aS1 I hK R _ d d' x _ _ _ F k3 (h1 j d g1) (h1 k d' k1)
   rw[q,q']at this;cases this
 refine⟨f,λ u hu=>?_,?_⟩
 ·obtain⟨j,hj,g⟩:=cE.mp (by simpa using hu:u∈its)
  have g':its[j]?=some u:=by rw[ai hj,g]
  obtain⟨d,y,g1,Z,F,J⟩:=C j u g'
  rw[Y j u g']
  exact(aY4 I hK R _ d x y xv u xu A _ (h1 j d g1) F hx J rx hr).1
 ·have e1:its.toArray.any f=true↔z=true:=by
   rw[h2,List.any_toArray,j0]
   constructor
   ·rintro⟨u,hu,q⟩
    obtain⟨j,hj,g⟩:=cE.mp hu
    have g':its[j]?=some u:=by rw[ai hj,g]
    exact⟨j,by omega,by rw[<-Y j u g'];exact q⟩
   ·rintro⟨j,hj,q⟩
    have G:j<its.length:=by omega
    exact⟨its[j],j5 G,by rw[Y j _ (ai G)];exact q⟩
  cases z<;>cases q:its.toArray.any f
  ·rfl
  ·have:=e1.mp q;cases this
  ·rw[q]at e1;have:=e1.mpr rfl;cases this
  ·rfl
variable {Γ:Gm} {X:Cx}
theorem aa0 {α β:Type}{r:lz α}{f:α->lr->lz β}{b:β}{t:lr}(h:r.bind f=.ok b t):∃ a s,r=.ok a s/\f a s=.ok b t:=DV.R.bind_inv h
theorem bn0 (hK:X.K=Γ.K)(hr:Room (lG+1) X.A)(neg:Bool){F:List (Addr×Obj)}{sh:ag}{σ:St}{H:Hp}{x y:V}{v u:Value}{φ:Nat->Addr}{st Y:lr}{a b:lu}{z:Bool}
  (I:Inv X F σ H sh) (J:RelV x v) (ry:RelV y u) (R:Rp Γ φ H st) (ha:RV Γ φ H a x) (hb:RV Γ φ H b y) (h:m8 a b st=.ok z Y) :
  Y=st/\∀ Q:Value->ag->Prop,(∀ a2,Inv X F σ H a2->Q (.bool (if neg then !z else z)) a2)->wpAny (model X.prog X.w) X.A (cG (if neg then .NotIn else .In) v u) Q X.xe sh:=by
 unfold m8 at h
 cases b with
 | tup l =>
  simp only at h
  cases e:mw st a l with
  | none=>rw[e]at h;cases h
  | some w =>
   rw[e]at h
   cases h
   obtain⟨p,ys,rfl,q,d⟩:=hb.tupE
   cases ry
   rw[<-hK]at q
   obtain⟨its,rv,t,_⟩:=I.tuple q
   obtain⟨f,h1,Z⟩:=bk9 I hK R ha J d rv e (A:=X.A.in1) hr.in1
   refine⟨rfl,λ Q hq=>?_⟩
   cases neg with
   | false=>exact SeqAt.in_tupleAt f t h1 (by rw[Z];exact hq _ I)
   | true=>exact SeqAt.notIn_tupleAt f t h1 (by rw[Z];exact hq _ I)
 | str y0 =>
  simp only at h
  split at h
  case h_2=>exact fb h
  rename_i c
  cases h
  refine⟨rfl,λ Q hq=>?_⟩
  have e1:=ha.strE
  have e2:=hb.strE
  subst e1 e2
  obtain⟨t1,rfl⟩:=J
  obtain⟨t2,rfl⟩:=ry
  have a3:=kU (⟨y0.toArray⟩:Str) c
  cases neg with
  | false=>exact in_str (by rw[show(⟨[c].toArray⟩:Str)=⟨#[c]⟩from rfl,a3];simpa using hq _ I)
  | true=>exact notIn_str (by rw[show(⟨[c].toArray⟩:Str)=⟨#[c]⟩from rfl,a3];simpa using hq _ I)
 | ref r =>
  simp only at h
  cases hs:st[r]? with
  | none=>rw[hs]at h;cases h
  | some o =>
   rw[hs]at h
   cases o with
   | lst l =>
    simp only at h
    cases e:mw st a l with
    | none=>rw[e]at h;cases h
    | some w =>
     rw[e]at h
     cases h
     obtain⟨ys,e1,d⟩:=R.addr hs
     have ey:=hb.refE;subst ey
     cases ry
     obtain⟨its,rv,t,_⟩:=I.list (SqL.of e1)
     obtain⟨f,h1,Z⟩:=bk9 I hK R ha J d rv e (A:=X.A.in1) hr.in1
     refine⟨rfl,λ Q hq=>?_⟩
     cases neg with
     | false=>exact SeqAt.in_listAt f t.isList h1 (by rw[Z];exact hq _ I)
     | true=>exact SeqAt.notIn_listAt f t.isList h1 (by rw[Z];exact hq _ I)
   | dic l =>
    simp only at h
    split at h
    case isFalse=>exact fb h
    rename_i C
    cases h
    obtain⟨k,hk⟩:=aj8 C
    obtain⟨G,e1,d⟩:=R.obj r _ hs
    have ey:=hb.refE;subst ey
    cases ry
    have ex:=ay9 hk ha;subst ex
    have ez:(lQ a l).isSome=(az0 G k).isSome:=by
     rcases d.val keyOf_inj hk with⟨q1,q2⟩|⟨_,_,q1,q2,_⟩<;>rw[q1,q2]<;>rfl
    refine⟨rfl,λ Q hq=>?_⟩
    rw[ez]at hq
    cases neg with
    | false=>exact ca5 (aF9 hr) I (at5.k e1) J hq
    | true=>exact aV5 (aF9 hr) I (at5.k e1) J hq
   | dit l =>
    simp only at h
    split at h
    case isFalse=>exact fb h
    rename_i C
    cases h
    obtain⟨k,hk⟩:=af3 C
    obtain⟨G,e1,d⟩:=R.obj r _ hs
    have ey:=hb.refE;subst ey
    cases ry
    obtain⟨kb,ex,a1⟩:=au4 hk ha;subst ex
    have ez:(lQ a l).isSome=(az0 G k).isSome:=by
     rcases d.val keyT_inj hk with⟨q1,q2⟩|⟨_,_,q1,q2,_⟩<;>rw[q1,q2]<;>rfl
    refine⟨rfl,λ Q hq=>?_⟩
    rw[ez]at hq
    cases neg with
    | false=>exact ca5 (aF9 hr) I (at5.t e1 a1) J hq
    | true=>exact aV5 (aF9 hr) I (at5.t e1 a1) J hq
   | ro l=>exact fb h
   | ins c l=>exact fb h
 | _=>exact fb h
theorem ar6 {op:mT}{a b d:lu}{st y:lr}(ho:op=.lt\/op=.le\/op=.gt\/op=.ge)(h:DV.ql op a b st=.ok d y):∃ i j,a=.int i/\b=.int j:=by
 rcases ho with rfl|rfl|rfl|rfl <;>
 (cases a with
 | int i =>
  (cases b with
  | int j=>exact⟨i,j,rfl,rfl⟩
  | _=>cases h)
 | _=>cases h)
theorem aT6 (hK:X.K=Γ.K)(hr:Room (lG+1) X.A)(op:mT):OpR X (cG (ap2 op)) (rOp Γ (DV.ql op)):=by
 intro F s σ H x y v u Q I Y J h
 obtain⟨φ,st,a,b,d,G,R,ha,hb,na,nb,C,q⟩:=h
 cases op with
 | eq =>
  have C:DV.eqM a b st=.ok d G:=C
  unfold DV.eqM at C
  cases e:lC st lG a b with
  | none=>rw[e]at C;cases C
  | some z =>
   rw[e]at C;cases C
   exact(aY4 I hK R _ a b x y v u X.A z e ha hb Y J (hr.mono (by omega))).2.rc X.prog X.w X.xe _ ⟨.bl z,H,I,rfl,q.here R rfl RV.blI⟩
 | ne =>
  have C:(match lC st lG a b with|some r=>.ok (.bl (!r)) st|none=>.bad:lz lu)=.ok d G:=C
  cases e:lC st lG a b with
  | none=>rw[e]at C;cases C
  | some z =>
   rw[e]at C;cases C
   exact(aY4 I hK R _ a b x y v u X.A z e ha hb Y J (hr.mono (by omega))).2.ne X.prog X.w X.xe _ ⟨.bl (!z),H,I,rfl,q.here R rfl RV.blI⟩
 | lt =>
  obtain⟨i,j,rfl,rfl⟩:=ar6 (.inl rfl) C
  cases C
  have ex:=ha.intE;have Z:=hb.intE;subst ex;subst Z
  exact bW5 F s σ H _ _ v u Q I Y J ⟨_,_,rfl,rfl,q.here R rfl RV.blI⟩
 | le =>
  obtain⟨i,j,rfl,rfl⟩:=ar6 (.inr (.inl rfl)) C
  cases C
  have ex:=ha.intE;have Z:=hb.intE;subst ex;subst Z
  exact bX1 F s σ H _ _ v u Q I Y J ⟨_,_,rfl,rfl,q.here R rfl RV.blI⟩
 | gt =>
  obtain⟨i,j,rfl,rfl⟩:=ar6 (.inr (.inr (.inl rfl))) C
  cases C
  have ex:=ha.intE;have Z:=hb.intE;subst ex;subst Z
  exact bU7 F s σ H _ _ v u Q I Y J ⟨_,_,rfl,rfl,q.here R rfl RV.blI⟩
 | ge =>
  obtain⟨i,j,rfl,rfl⟩:=ar6 (.inr (.inr (.inr rfl))) C
  cases C
  have ex:=ha.intE;have Z:=hb.intE;subst ex;subst Z
  exact bR9 F s σ H _ _ v u Q I Y J ⟨_,_,rfl,rfl,q.here R rfl RV.blI⟩
 | isin =>
  have C:(m8 a b st).bind (λ r s=>.ok (.bl r) s)=.ok d G:=C
  obtain⟨z,s1,e1,e2⟩:=aa0 C
  obtain⟨rfl,w⟩:=bn0 hK hr false I Y J R ha hb e1
  cases e2
  exact w _ λ s' I'=>⟨.bl z,H,I',rfl,q.here R rfl RV.blI⟩
 | notin =>
  have C:(m8 a b st).bind (λ r s=>.ok (.bl (!r)) s)=.ok d G:=C
  obtain⟨z,s1,e1,e2⟩:=aa0 C
  obtain⟨rfl,w⟩:=bn0 hK hr true I Y J R ha hb e1
  cases e2
  exact w _ λ s' I'=>⟨.bl (!z),H,I',rfl,q.here R rfl RV.blI⟩
theorem aY5 {φ:Nat->Addr}{H:Hp}{l:List lu}{y:List V}{i:Int}{d:lu}(h:RVL Γ φ H l y)(e:((mx l.length i).bind λ j=>l[j]?)=some d):∃ v,atI y i=some v/\RV Γ φ H d v:=by
 cases hj:mx l.length i with
 | none=>rw[hj]at e;cases e
 | some j =>
  rw[hj]at e
  obtain⟨v,e1,e2⟩:=h.get (show l[j]?=some d from e)
  refine⟨v,?_,e2⟩
  unfold atI
  have:ixN y.length i=some j:=by rw[h.length];exact hj
  rw[this];exact e1
theorem aF0 {l:List lu}{i:Int}{d:lu}(e:((mx l.length i).bind λ j=>l[j]?)=some d):d∈l:=by
 cases hj:mx l.length i with
 | none=>rw[hj]at e;cases e
 | some j=>rw[hj]at e;exact aK (show l[j]?=some d from e)
theorem bX6 (hK:X.K=Γ.K)(hu:X.A.units+1<cLine):IxR X (rOp Γ DV.ixM):=by
 intro C F G s σ H x y v u Q I rx ry h hs
 obtain⟨φ,st,a,b,d,a3,R,ha,hb,na,nb,z,q⟩:=h
 unfold DV.ixM at z
 cases a with
 | tup l =>
  cases b with
  | int i =>
   simp only at z
   split at z
   ·rename_i d' e
    cases z
    obtain⟨p,xs,rfl,h1,d1⟩:=ha.tupE
    have J:=hb.intE;subst J
    obtain⟨w,e1,e2⟩:=aY5 d1 e
    unfold ly at na
    exact bx7 hK C F G s σ H _ _ v u Q I rx ry ⟨p,xs,i,w,rfl,rfl,h1,e1,q.here R (aa2.mp na _ (aF0 e)) e2⟩ hs
   ·exact fb z
  | _=>exact fb z
 | str l =>
  cases b with
  | int i =>
   simp only at z
   split at z
   ·rename_i c e
    cases z
    have hl:=ha.strL
    have ex:=ha.strE;have J:=hb.intE;subst ex;subst J
    exact bJ7 C F G s σ H _ _ v u Q I rx ry ⟨⟨l.toArray⟩,i,c,rfl,rfl,by show l.toArray.size<=_;rw[ar];exact am hl qa,e,q.here R rfl (RV.strI (by simp;decide))⟩ hs
   ·exact fb z
  | _=>exact fb z
 | ref r =>
  have ex:=ha.refE;subst ex
  simp only at z
  cases hsr:st[r]? with
  | none=>rw[hsr]at z;cases z
  | some o =>
   rw[hsr]at z
   cases o with
   | lst l =>
    cases b with
    | int i =>
     simp only at z
     split at z
     ·rename_i d' e
      cases z
      have J:=hb.intE;subst J
      obtain⟨xs,e1,d1⟩:=R.addr hsr
      obtain⟨w,e2,e3⟩:=aY5 d1 e
      have wf:=R.wf _ _ hsr
      unfold lA at wf
      exact aG9 hK C F G s σ H _ _ v u Q I rx ry ⟨φ r,xs,i,w,rfl,rfl,SqL.of e1,e2,q.here R (aa2.mp wf _ (aF0 e)) e3⟩ hs
     ·exact fb z
    | _=>exact fb z
   | ro l =>
    cases b with
    | int i =>
     simp only at z
     split at z
     ·rename_i d' e
      cases z
      have J:=hb.intE;subst J
      obtain⟨xs,e1,d1⟩:=R.obj _ _ hsr
      obtain⟨w,e2,e3⟩:=aY5 d1 e
      have wf:=R.wf _ _ hsr
      unfold lA at wf
      exact aG9 hK C F G s σ H _ _ v u Q I rx ry ⟨φ r,xs,i,w,rfl,rfl,e1.1,e2,q.here R (aa2.mp wf _ (aF0 e)) e3⟩ hs
     ·exact fb z
    | _=>exact fb z
   | dic l =>
    simp only at z
    split at z
    case isFalse=>exact fb z
    rename_i Y
    obtain⟨k,hk⟩:=aj8 Y
    obtain⟨a2,e1,d1⟩:=R.obj r _ hsr
    have J:=ay9 hk hb;subst J
    cases rx
    rcases d1.val keyOf_inj hk with⟨q1,_⟩|⟨e,v',q1,q2,q3,q4⟩
    ·rw[q1]at z;cases z
    ·rw[q1]at z
     cases z
     have wf:=R.wf _ _ hsr
     unfold lA at wf
     rw[aj]at wf
     have g:at5 H (φ r) (kV k) (some v'):=by rw[<-q2];exact at5.k e1
     exact kx (am2 I g) gf.lookup (aA9 hu I g ry λ w' s' I' Z=>⟨v',H,I',Z,q.here R (aa2.mp wf.2 _ q4) q3⟩) hs
   | dit l =>
    simp only at z
    split at z
    case isFalse=>exact fb z
    rename_i Y
    obtain⟨k,hk⟩:=af3 Y
    obtain⟨a2,e1,d1⟩:=R.obj r _ hsr
    obtain⟨kb,J,a1⟩:=au4 hk hb;subst J
    cases rx
    rcases d1.val keyT_inj hk with⟨q1,_⟩|⟨e,v',q1,q2,q3,q4⟩
    ·rw[q1]at z;cases z
    ·rw[q1]at z
     cases z
     have wf:=R.wf _ _ hsr
     unfold lA at wf
     rw[aj]at wf
     have g:at5 H (φ r) (.ref kb) (some v'):=by rw[<-q2];exact at5.t e1 a1
     exact kx (am2 I g) gf.lookup (aA9 hu I g ry λ w' s' I' Z=>⟨v',H,I',Z,q.here R (aa2.mp wf.2 _ q4) q3⟩) hs
   | ins c l=>cases b<;>cases z
 | _=>cases b<;>cases z
theorem aS3 (n d:Nat)(i:Int):HT.sIx n d (some i)=l8 n i:=by
 show(if i<0 then(i+(n:Int)).toNat else min i.toNat n)=_
 unfold l8
 by_cases h:i<0
 ·rw[if_pos h,if_neg (by omega)]
 ·rw[if_neg h,if_pos (by omega)]
theorem bl8 {φ:Nat->Addr}{H:Hp}{l:List lu}{C:List V}(h:RVL Γ φ H l C)(z y:Option Int):RVL Γ φ H (lS l z y) (aM8 C z y):=by
 unfold lS aM8
 have e1:HT.sIx C.length 0 z=mr l.length z:=by
  cases z with
  | none=>rfl
  | some i=>rw[aS3,h.length];rfl
 have e2:HT.sIx C.length C.length y=mU l.length y:=by
  cases y with
  | none=>exact h.length
  | some i=>rw[aS3,h.length];rfl
 rw[e1,e2]
 exact(h.drop _).take _
theorem aH7 {α:Type}{l:List α}{y h:Option Int}:∀ d∈lS l y h,d∈l:=λ d hd=>iY (iZ hd)
theorem bi3 {α:Type}(l:List α)(y h:Option Int):(lS l y h).length<=l.length:=by
 unfold lS
 rw[bF,fi]
 omega
theorem bV6 (y z:Option Int)(n:Nat):bD y z 1 n=(bB (mU n z - mr n y)).map (mr n y+·):=by
 rw[<-sliceRange_one]
 unfold bD
 have cl:∀ i:Int,max 0 (min (if i<0 then i+(n:Int)else i) (n:Int))=((l8 n i:Nat):Int):=λ i=>by
  unfold l8
  by_cases h:i<0
  ·rw[if_pos h,if_neg (by omega)];omega
  ·rw[if_neg h,if_pos (by omega)];omega
 simp only[show((1:Int) > 0)=True by simp,if_true]
 cases y<;>cases z<;>simp only[cl,mr,mU]<;>rfl
theorem aI0 {l:List Nat}:∀(a k:Nat),a+k<=l.length->((bB k).map (a+·)).filterMap (λ x=>l.toArray[x]?)=(l.drop a).take k
 | a,0,_=>by simp
 | a,k+1,h=>by
  rw[List.range_succ,fK,List.filterMap_append,aI0 a k (by omega)]
  have hk:a+k<l.length:=by omega
  rw[List.take_add_one,List.getElem?_drop]
  simp[hk]
theorem aY1 (l:List Nat)(y h:Option Int):fH ⟨l.toArray⟩ y h=⟨(lS l y h).toArray⟩:=by
 unfold fH
 have hn:(⟨l.toArray⟩:Str).length=l.length:=by show l.toArray.size=_;simp
 rw[hn,bV6]
 have hb:mU l.length h<=l.length:=by
  cases h with
  | none=>exact ak _
  | some i=>show l8 l.length i<=_;unfold l8;split<;>omega
 have ha:mr l.length y<=l.length:=by
  cases y with
  | none=>exact cu _
  | some i=>show l8 l.length i<=_;unfold l8;split<;>omega
 unfold lS
 generalize mU l.length h=b at *
 generalize mr l.length y=a at *
 by_cases hc:((1:Int)==1&&((bB (b - a)).map (a+·)).length==l.length)=true
 ·rw[if_pos hc]
  have:b - a=l.length:=by simpa using hc
  have h0:a=0\/l.length=0:=by omega
  rcases h0 with h0|h0
  ·subst h0
   rw[this];simp
  ·have:l=[]:=bG.mp h0
   subst this;simp
 ·rw[if_neg hc]
  by_cases hab:a<=b
  ·have e:=aI0 (l:=l) a (b - a) (by omega)
   show(⟨(iV (λ x=>l.toArray[x]?) _).toArray⟩:Str)=_
   rw[e]
  ·rw[show b - a=0 by omega];simp
def rSl (Γ:Gm):V->Option Int->Option Int->Hp->VK->Prop:=λ x lo hi H Q=>∃ φ s a d s',Rp Γ φ H s/\RV Γ φ H a x/\a.bnd s.length=true/\mV a lo hi s=.ok d s'/\ad6 Γ φ s H d s' Q
theorem bM5 (hK:X.K=Γ.K):SlR X (rSl Γ):=by
 intro y s σ H x v vl vu F G sl Q I rx hs Z pu h
 obtain⟨φ,st,a,d,a1,R,ha,J,C,q⟩:=h
 unfold mV at C
 cases a with
 | tup l =>
  cases C
  obtain⟨p,Y,⟨rfl,z1⟩,h1,d1⟩:=ha.tupZ
  unfold ly at J
  refine bs9 hK y s σ H _ v vl vu F G sl Q I rx hs Z pu ⟨p,Y,rfl,h1,λ t H' e ht hn=>?_⟩
  obtain⟨g,r'⟩:=R.same e
  have d2:=bl8 (RVL.mono g _ _ J d1) F G
  refine q _ _ _ g (ak _) (by unfold ly;exact aJ6 J aH7) (RV.tupC ht (λ z=>?_) d2) r'
  rcases hn with hn|⟨rfl,ex⟩
  ·exact hn
  ·rw[ex]
   refine e _ _ (z1 ?_)
   have hl:(lS l F G).length=l.length:=by rw[<-d2.length,ex,d1.length]
   rwa [aP8 hl]at z
 | str l =>
  cases C
  have hl:=ha.strL
  have ex:=ha.strE;subst ex
  refine bL6 y s σ H _ v vl vu F G sl Q I rx hs Z pu ⟨_,rfl,by show l.toArray.size<=_;rw[ar];exact am hl qa,?_⟩
  rw[aY1]
  exact q.here R rfl (RV.strI (am (bi3 l F G) hl))
 | ref r =>
  have ex:=ha.refE;subst ex
  simp only at C
  cases hsr:st[r]? with
  | none=>rw[hsr]at C;cases C
  | some o =>
   rw[hsr]at C
   cases o with
   | lst l =>
    obtain⟨rfl,rfl⟩:=zR C
    obtain⟨Y,e1,d1⟩:=R.addr hsr
    have wf:=R.wf _ _ hsr
    unfold lA at wf
    exact bb1 hK y s σ H _ v vl vu F G sl Q I rx hs Z pu ⟨φ r,Y,rfl,SqL.of e1,λ p hp=>q.alloc R (bl8 d1 F G) (aJ6 wf aH7) hp⟩
   | _=>exact fb C
 | _=>exact fb C
variable {Γ:Gm} {X:Cx}
def rCl (Γ:Gm)(f:List lu->lr->lz lu):List V->Hp->VK->Prop:=λ xs H Q=>∃ φ s l d s',Rp Γ φ H s/\RVL Γ φ H l xs/\lv s.length l=true/\f l s=.ok d s'/\ad6 Γ φ s H d s' Q
theorem RVL.one {φ:Nat->Addr}{H:Hp}{d:lu}{y:List V}(h:RVL Γ φ H [d] y):∃ x,y=[x]/\RV Γ φ H d x:=by
 obtain⟨x,r,rfl,C,z⟩:=h.uncons
 rw[z.unnil];exact⟨x,rfl,C⟩
noncomputable def biN:lX->Option (String×Nat)
 | .len=>some ("len",1)|.abs=>some ("abs",1)|.min2=>some ("min",2)|.max2=>some ("max",2)|_=>none
theorem zM:∀ {l:List lu} {is:List Int},mf l=some is->l=is.map DV.D.int
 | [],is,h=>by unfold mf at h;cases h;rfl
 | d::l,is,h=>by
  cases d with
  | int i =>
   have h:(mf l).map (i::·)=some is:=h
   cases e:mf l with
   | none=>rw[e]at h;cases h
   | some m=>rw[e]at h;cases h;rw[zM e];rfl
  | _=>cases h
theorem ak8:∀ {l:List lu} {is:List Bool},mF l=some is->l=is.map DV.D.bl
 | [],is,h=>by unfold mF at h;cases h;rfl
 | d::l,is,h=>by
  cases d with
  | bl i =>
   have h:(mF l).map (i::·)=some is:=h
   cases e:mF l with
   | none=>rw[e]at h;cases h
   | some m=>rw[e]at h;cases h;rw[ak8 e];rfl
  | _=>cases h
theorem RVL.ints {φ:Nat->Addr}{H:Hp}:∀ {is:List Int} {y:List V},RVL Γ φ H (is.map DV.D.int) y->y=is.map V.int
 | [],_,h=>h.unnil
 | i::is,_,h=>by
  obtain⟨x,r,rfl,C,z⟩:=RVL.uncons h
  rw[C.intE,RVL.ints z];rfl
theorem RVL.bls {φ:Nat->Addr}{H:Hp}:∀ {is:List Bool} {y:List V},RVL Γ φ H (is.map DV.D.bl) y->y=is.map V.bl
 | [],_,h=>h.unnil
 | i::is,_,h=>by
  obtain⟨x,r,rfl,C,z⟩:=RVL.uncons h
  rw[C.blE,RVL.bls z];rfl
theorem aV3 {f:lu->mM lu}{l:List lu}{s s':lr}{d:lu}(h:m9 f l s=.ok d s'):∃ a,l=[a]/\f a s=.ok d s':=by
 match l,h with
 | [a],h=>exact⟨a,rfl,h⟩
 | [],h=>exact fb h
 | _::_::_,h=>exact fb h
theorem bg5 (F:X.K=Γ.K)(hc:X.calm=true){b:lX}{G:String}{k:Nat}(hn:biN b=some (G,k)):ac2 X (.builtin G) (rCl Γ (ni b)):=by
 intro y s σ H Z us Q I r h
 obtain⟨φ,st,l,d,C,R,hl,nl,z,q⟩:=h
 cases b with
 | len =>
  cases hn
  have z:m9 DV.bA8 l st=.ok d C:=z
  obtain⟨a,rfl,hg⟩:=aV3 z
  clear z
  obtain⟨x,rfl,hx⟩:=hl.one
  unfold DV.bA8 at hg
  cases a with
  | tup l =>
   cases hg
   obtain⟨p,ys,rfl,Y,d1⟩:=hx.tupE
   refine ao1 F y s σ H _ us Q I r ⟨p,ys,rfl,.inr Y,?_⟩
   rw[d1.length];exact q.here R rfl RV.intI
  | str l =>
   cases hg
   have J:=hx.strL
   have e:=hx.strE;subst e
   refine aw6 y s σ H _ us Q I r ⟨_,rfl,by show l.toArray.size<=_;rw[ar];exact am J qa,?_⟩
   show Q (.int ((l.toArray.size:Nat):Int)) H
   rw[ar]
   exact q.here R rfl RV.intI
  | ref n =>
   have e:=hx.refE;subst e
   simp only at hg
   cases hs:st[n]? with
   | none=>rw[hs]at hg;cases hg
   | some o =>
    rw[hs]at hg
    cases o with
    | lst l =>
     cases hg
     obtain⟨ys,e1,d1⟩:=R.addr hs
     refine ao1 F y s σ H _ us Q I r ⟨φ n,ys,rfl,.inl (SqL.of e1),?_⟩
     rw[d1.length];exact q.here R rfl RV.intI
    | ro l =>
     cases hg
     obtain⟨ys,e1,d1⟩:=R.obj _ _ hs
     refine ao1 F y s σ H _ us Q I r ⟨φ n,ys,rfl,.inl e1.1,?_⟩
     rw[d1.length];exact q.here R rfl RV.intI
    | dic l=>exact fb hg
    | dit l=>exact fb hg
    | ins c l=>exact fb hg
  | _=>exact fb hg
 | abs =>
  cases hn
  have z:(match mf l with|some [i]=>.ok (.int (if i<0 then -i else i)) st|_=>.bad:lz lu)=.ok d C:=z
  split at z
  ·rename_i i e
   cases z
   have:=zM e;subst this
   have:=RVL.ints hl;subst this
   exact bd7 y s σ H _ us Q I r ⟨i,rfl,q.here R rfl RV.intI⟩
  ·exact fb z
 | min2 =>
  cases hn
  have z:(match mf l with|some [a,b]=>.ok (.int (if b<a then b else a)) st|_=>.bad:lz lu)=.ok d C:=z
  split at z
  ·rename_i a b e
   cases z
   have:=zM e;subst this
   have:=RVL.ints hl;subst this
   exact aR1 hc y s σ H _ us Q I r ⟨_,_,rfl,q.here R rfl RV.intI⟩
  ·exact fb z
 | max2 =>
  cases hn
  have z:(match mf l with|some [a,b]=>.ok (.int (if b > a then b else a)) st|_=>.bad:lz lu)=.ok d C:=z
  split at z
  ·rename_i a b e
   cases z
   have:=zM e;subst this
   have:=RVL.ints hl;subst this
   exact aT0 hc y s σ H _ us Q I r ⟨_,_,rfl,q.here R rfl RV.intI⟩
  ·exact fb z
 | _=>cases hn
theorem bL5:ac2 X (.type "int") (rCl Γ (ni .int)):=by
 intro z s σ H F us Q I r h
 obtain⟨φ,st,l,d,C,R,hl,G,y,q⟩:=h
 have y:(match mF l with|some [b]=>.ok (.int (if b then 1 else 0)) st|_=>.bad:lz lu)=.ok d C:=y
 split at y
 ·rename_i b e
  cases y
  have:=ak8 e;subst this
  have:=RVL.bls hl;subst this
  exact aQ1 z s σ H _ us Q I r (.inr ⟨b,rfl,q.here R rfl RV.intI⟩)
 ·exact fb y
noncomputable def ao4:Nat->String
 | 1 => "int" | 2 => "bool" | 3 => "str" | 4 => "tuple" | _ => "list"
theorem bv9 {K:ae}(k:Nat)(hk:1<=k/\k<=5):cS K (.type "NoneType") (.type (ao4 k))=some false/\cS K (.type "bool") (.type (ao4 k))=some (k==1||k==2) /\
  cS K (.type "int") (.type (ao4 k))=some (k==1)/\cS K (.type "str") (.type (ao4 k))=some (k==3)/\cS K (.type "tuple") (.type (ao4 k))=some (k==4)/\cS K (.type "list") (.type (ao4 k))=some (k==5):=by
 obtain⟨y,z⟩:=hk
 rcases(by omega:k=1\/k=2\/k=3\/k=4\/k=5)with h|h|h|h|h<;>subst h<;>refine⟨?_,?_,?_,?_,?_,?_⟩<;>with_unfolding_all rfl
theorem aO6 {y:List (Addr×Obj)}{σ:St}{H:Hp}{s:ag}{A:aX}{E:Value->ag->Prop}{Q:Value->ag->Prop}{c:Value}{b:Bool}{a:Addr}{F:List V}(I:Inv X y σ H s)(G:SqT X.K H a F)(e:cS X.K (.type "tuple") c=some b)
  (h:∀ tk,Q (.bool b) { s with toks:=tk }):wpAny (model X.prog X.w) A (call (.builtin "isinstance") [.ref a,c]) Q E s:=by
 obtain⟨its,_,⟨o,g1,C,_⟩,_⟩:=I.tuple G
 exact bM js I.kIn ⟨o,g1,C⟩ e (λ z=>nomatch z) h
theorem bI8 (Y:X.K=Γ.K){k:Nat}(hk:1<=k/\k<=5):ac2 X (.builtin "isinstance") (λ C H Q=>∃ x,C=[x,.ty (ao4 k)]/\rCl Γ (m9 (nk k)) [x] H Q):=by
 intro G s σ H C us Q I r h
 obtain⟨x,rfl,φ,st,l,d,y,R,hl,nl,z,q⟩:=h
 obtain⟨a,rfl,hg⟩:=aV3 z
 clear z
 obtain⟨u,w',rfl,r1,Z⟩:=bw0 r
 cases Z
 obtain⟨x',e',hx⟩:=hl.one
 cases e'
 obtain⟨J,k1,k2,k3,k4,k5⟩:=bv9 (K:=X.K) k hk
 unfold nk at hg
 cases a with
 | non=>cases hg;have e:=hx.nonE;subst e;exact qp I r1 .non J λ tk=>⟨.bl _,H,I.tok _,rfl,q.here R rfl RV.blI⟩
 | bl b=>cases hg;have e:=hx.blE;subst e;exact qp I r1 (.bl b) k1 λ tk=>⟨.bl _,H,I.tok _,rfl,q.here R rfl RV.blI⟩
 | int b=>cases hg;have e:=hx.intE;subst e;exact qp I r1 (.int b) k2 λ tk=>⟨.bl _,H,I.tok _,rfl,q.here R rfl RV.blI⟩
 | str b=>cases hg;have e:=hx.strE;subst e;exact qp I r1 (.str _) k3 λ tk=>⟨.bl _,H,I.tok _,rfl,q.here R rfl RV.blI⟩
 | tup l =>
  cases hg
  obtain⟨p,ys,rfl,F,d1⟩:=hx.tupE
  cases r1
  rw[<-Y]at F
  exact aO6 I F k4 λ tk=>⟨.bl _,H,I.tok _,rfl,q.here R rfl RV.blI⟩
 | ref n =>
  have e:=hx.refE;subst e
  have hg:(match st[n]? with|some (.lst _)=>.ok (.bl (k==5)) st|_=>.bad:lz lu)=.ok d y:=hg
  cases hs:st[n]? with
  | none=>rw[hs]at hg;cases hg
  | some o =>
   rw[hs]at hg
   cases o with
   | lst l =>
    cases hg
    obtain⟨ys,e1,d1⟩:=R.addr hs
    exact qp I r1 (.lst e1) k5 λ tk=>⟨.bl _,H,I.tok _,rfl,q.here R rfl RV.blI⟩
   | _=>exact fb hg
 | _=>exact fb hg
variable {X:Cx}
theorem bq3 {bs:List Bool}{its:List Value}(r:Vals (bs.map V.bl) its){i:Nat}{v:Value}(h:its[i]?=some v):∃ z,bs[i]?=some z/\v=Value.bool z:=by
 induction bs generalizing its i with
 | nil=>rw[bS]at r;cases r;simp at h
 | cons b bs ih =>
  rw[aH]at r
  cases r with
  | cons r1 r2 =>
   cases i with
   | zero =>
    cases r1
    have:_=v:=ay h
    exact⟨b,rfl,this.symm⟩
   | succ i=>exact ih r2 h
theorem aT7 {bs:List Bool}:(bB bs.length).all (λ i=>bs.getD i false)=bs.all id:=by
 rw[fL,aW,aW]
 constructor
 ·intro h b hb
  obtain⟨i,y,e⟩:=cE.mp hb
  have:=h i (cj.mpr y)
  rw[aP,ai y]at this
  rw[<-e];exact this
 ·intro h i y
  have y:=cj.mp y
  rw[aP,ai y]
  exact h _ (j5 y)
theorem aU5 {K:ae}(hc:X.calm=true)(Z:X.K=K):ac2 X (.builtin "all") (λ J H Q=>∃(a:Addr) (bs:List Bool),J=[.ref a]/\SqL K H a (bs.map V.bl)/\Q (.bl (bs.all id)) H):=by
 subst Z
 intro Y s σ H J us Q I r h
 obtain⟨a,bs,rfl,hS,q⟩:=h
 obtain⟨u,rfl,ru⟩:=ag6 r
 cases ru
 obtain⟨its,G,F,hz⟩:=I.list hS
 have hl:=G.length
 rw[au]at hl
 refine call_all_walk (c7 F.isList ?_)
 have C:a<s.heap.objs.size:=by obtain⟨o,_,e,_⟩:=F;exact ax e
 have W:=jx (prog:=X.prog) (w:=X.w) (A:=X.A.in1) (I.ok.hd hc) s.heap.objs.size a (aw C) its.toArray
 refine⟨_,_,_,_,_,_,λ i=>bs.getD i false,rfl,W,⟨⟨_,az _ rfl,rfl,rfl⟩,?_⟩,λ i v s' Q' E' y hQ=>?_,λ h' tk k=>?_⟩
 ·obtain⟨o,e,r⟩:=F.isList
  exact⟨o,af _ e,r⟩
 ·obtain⟨z,e1,e2⟩:=bq3 G (i:=i) (v:=v) (by have y:its.toArray[i]?=some v:=y;rw[bV]at y;exact y)
  subst e2
  refine bC ?_
  have:bs.getD i false=z:=by rw[aP,e1];rfl
  rw[<-this];exact hQ
 ·have es:its.toArray.size=bs.length:=by rw[ar];omega
  rw[es,aT7]
  refine⟨.bl (bs.all id),H,I.kept (h':=h') (t':=tk) λ b o q=>k b o ?_ (af _ q),rfl,q⟩
  intro z
  have z':b=s.heap.objs.size:=by simpa using z
  exact absurd (ax q) (by rw[z'];exact bu _)
noncomputable def sgV (x:List Nat):List V:=x.map λ c=>.str ⟨#[c]⟩
theorem bq2 {vs:List V}{y:List Value}(hl:vs.length=y.length)(h:∀(i:Nat) (x:V) (u:Value),vs[i]?=some x->y[i]?=some u->RelV x u):Vals vs y:=by
 induction vs generalizing y with
 | nil=>cases y with
  | nil=>exact .nil
  | cons _ _=>cases hl
 | cons v vs ih=>cases y with
  | nil=>cases hl
  | cons a y=>exact .cons (h 0 v a rfl rfl) (ih (by simpa using hl) λ i x u e1 e2=>h (i+1) x u e1 e2)
theorem aq6 {x:List Nat}{y:Array Value}(h:ItemsOf (SignAt ⟨x.toArray⟩) y x.length):Vals (sgV x) y.toList:=by
 have hl:(sgV x).length=y.toList.length:=by unfold sgV;rw[au];simpa using h.1.symm
 refine bq2 hl λ i v u e1 e2=>?_
 obtain⟨c,t,z,C⟩:=h.2 i u (by rw[<-iD];exact e2)
 unfold sgV at e1
 rw[aE]at e1
 have z:x[i]?=some c:=by simpa using z
 rw[z]at e1
 cases e1
 exact⟨t,C⟩
theorem aE4 (hc:X.calm=true):ac2 X (.type "tuple") (λ G H Q=>∃ x:List Nat,G=[.str ⟨x.toArray⟩]/\x.length<=lB/\∀ l,H l=none->Q (.ref l) (upd H l (.tup (sgV x)))):=by
 intro y s σ H G us Q I r h
 obtain⟨x,rfl,hl,q⟩:=h
 obtain⟨u,rfl,Y⟩:=ag6 r
 obtain⟨t,rfl⟩:=Y
 have hz:(sgV x).length<=aG:=by unfold sgV;rw[au];exact am hl qa
 refine call_tuple_str (I.ok.hd hc) _ t (λ h' tk z kp C=>?_) (by show x.toArray.size<=_;rw[ar];exact am hl qa)
 have C:ItemsOf (SignAt ⟨x.toArray⟩) z x.length:=by simpa using C
 have J:=aq6 C
 have F:Inv X y σ H { s with heap:=h',toks:=tk }:=I.kept (t':=tk) kp
 have I2:Inv X y σ (upd H h'.objs.size (.tup (sgV x))) { s with heap:=h'.push { cls:=.type "tuple",data:=.seq z },toks:=tk } :=
  F.laid (t':=tk) (λ b o e=>af _ e) (ak _) (show ab6 X.prog X.w _ _ _ (.tup (sgV x))from⟨hz,z.toList,J,jV _ _⟩)
 exact⟨.ref h'.objs.size,_,I2,rfl,q _ (F.hok.fresh (ak _))⟩
theorem aN0 (hc:X.calm=true):ac2 X (.type "list") (λ C H Q=>∃ x:List Nat,C=[.str ⟨x.toArray⟩]/\x.length<=lB/\∀ l,H l=none->Q (.ref l) (upd H l (.lst (sgV x)))):=by
 intro F s σ H C us Q I r h
 obtain⟨x,rfl,hl,q⟩:=h
 obtain⟨u,rfl,Y⟩:=ag6 r
 obtain⟨t,rfl⟩:=Y
 have hz:(sgV x).length<=aG:=by unfold sgV;rw[au];exact am hl qa
 refine call_list_str (I.ok.hd hc) _ t (λ h' tk y J kp e z=>?_) (by show x.toArray.size<=_;rw[ar];exact am hl qa)
 have z:ItemsOf (SignAt ⟨x.toArray⟩) y x.length:=by simpa using z
 have G:=aq6 z
 exact⟨.ref s.heap.objs.size,_,I.laid (t':=tk) kp (ak _) (show ab6 X.prog X.w _ h' _ (.lst (sgV x))from⟨hz,y.toList,J,G,e⟩),rfl,q _ (I.hok.fresh (ak _))⟩
section
variable {Γ:Gm} {φ φ':Nat->Addr} {H H' H1 H2 H3:Hp} {clos:List (Str×Addr)} {s s':lr}
theorem zI (hc:Cells clos H){a:Addr}{u:HO}(e:H a=some u)(h:∀ o,u≠.frz o (.own a)):isC clos a≠true:=λ z=>by
 obtain⟨o,v,q,_⟩:=hc.at z
 rw[e]at q;cases q;exact h o rfl
theorem SqT.dropC {K:ae}{a:Addr}{y:List V}(hc:Cells clos H)(h:SqT K H a y):SqT K (ab5 clos H) a y:=by
 rcases h with(h|⟨o,h⟩)|h
 ·exact .inl (.inl (by rw[ab5.ne (zI hc h (λ _ z=>by cases z))];exact h))
 ·exact .inl (.inr ⟨o,by rw[ab5.ne (zI hc h (λ _ z=>by cases z))];exact h⟩)
 ·exact .inr h
theorem SqL.dropC {K:ae}{a:Addr}{y:List V}(hc:Cells clos H)(h:SqL K H a y):SqL K (ab5 clos H) a y:=by
 rcases h with(h|⟨o,h⟩)|h
 ·exact .inl (.inl (by rw[ab5.ne (zI hc h (λ _ z=>by cases z))];exact h))
 ·exact .inl (.inr ⟨o,by rw[ab5.ne (zI hc h (λ _ z=>by cases z))];exact h⟩)
 ·exact .inr h
theorem SqF.dropC {K:ae}{a:Addr}{y:List V}(hc:Cells clos H)(h:SqF K H a y):SqF K (ab5 clos H) a y:=by
 refine⟨SqL.dropC hc h.1,λ H2 k=>?_⟩
 have hk:Kp H (λ b=>if isC clos b=true then H b else H2 b):=λ b o e f=>by
  by_cases z:isC clos b=true
  ·show(if isC clos b=true then H b else H2 b)=_;rw[if_pos z];exact e
  ·show(if isC clos b=true then H b else H2 b)=_
   rw[if_neg z]
   exact k b o (by rw[ab5.ne z];exact e) f
 have q:=h.2 _ hk
 have at_:∀ u,(if isC clos a=true then H a else H2 a)=some u->(∀ o,u≠.frz o (.own a))->H2 a=some u:=λ u e C=>by
  by_cases z:isC clos a=true
  ·rw[if_pos z]at e
   exact absurd z (zI hc e C)
  ·rw[if_neg z]at e;exact e
 rcases q with(q|⟨o,q⟩)|q
 ·exact .inl (.inl (at_ _ q (λ _ z=>by cases z)))
 ·exact .inl (.inr ⟨o,at_ _ q (λ _ z=>by cases z)⟩)
 ·exact .inr q
mutual
theorem RV.dropC (hc:Cells clos H):∀(d:lu) (v:V),d.ncl=true->RV Γ φ H d v->RV Γ φ (ab5 clos H) d v
 | .non,_,_,h=>by unfold RV at h ⊢;exact h
 | .bl _,_,_,h=>by unfold RV at h ⊢;exact h
 | .int _,_,_,h=>by unfold RV at h ⊢;exact h
 | .str _,_,_,h=>by unfold RV at h ⊢;exact h
 | .tup l,_,n,h=>by
  unfold RV at h ⊢
  unfold nn at n
  obtain⟨a,y,e,q,r⟩:=h
  exact⟨a,y,e,⟨SqT.dropC hc q.1,λ z=>by rw[ab5.ne (zI hc (q.2 z) (λ _ z=>by cases z))];exact q.2 z⟩,RVL.dropC hc l y n r⟩
 | .ref k,_,_,h=>by unfold RV at h ⊢;exact h
 | .fn _,_,_,h=>by unfold RV at h ⊢;exact h
 | .clo id cs,_,n,h=>by unfold nn at n;cases n
theorem RVL.dropC (hc:Cells clos H):∀(l:List lu) (y:List V),my l=true->RVL Γ φ H l y->RVL Γ φ (ab5 clos H) l y
 | [],_,_,h=>by unfold RVL at h ⊢;exact h
 | d::l,_,n,h=>by
  unfold my at n
  rw[aj]at n
  obtain⟨x,r,e,C,z⟩:=h.uncons
  subst e
  exact .cons (RV.dropC hc d x n.1 C) (RVL.dropC hc l r n.2 z)
end
theorem RVD.dropC {κ:Type}{z:lu->Option κ}(hc:Cells clos H):∀(l:List (lu×lu)) (y:List (κ×V)),my (l.map (·.2))=true->RVD z Γ φ H l y->RVD z Γ φ (ab5 clos H) l y
 | [],_,_,h=>h
 | (d,e)::l,_,n,h=>by
  obtain⟨k,v,r,e1,e2,C,F⟩:=h
  rw[aH]at n
  unfold my at n
  rw[aj]at n
  exact⟨k,v,r,e1,e2,RV.dropC hc e v n.1 C,RVD.dropC hc l r n.2 F⟩
theorem RO.dropC {a:Addr}{o:lP}(hc:Cells clos H)(h:RO Γ φ H a o)(n:o.ncl=true):RO Γ φ (ab5 clos H) a o:=by
 cases o with
 | lst l =>
  obtain⟨y,e,r⟩:=h
  exact⟨y,by rw[ab5.ne (zI hc e (λ _ z=>by cases z))];exact e,RVL.dropC hc l y n r⟩
 | ro l =>
  obtain⟨y,e,r⟩:=h
  exact⟨y,SqF.dropC hc e,RVL.dropC hc l y n r⟩
 | dic l =>
  obtain⟨y,e,r⟩:=h
  exact⟨y,by rw[ab5.ne (zI hc e (λ _ z=>by cases z))];exact e,RVD.dropC hc l y n r⟩
 | dit l =>
  obtain⟨y,e,r⟩:=h
  exact⟨y,by rw[ab5.ne (zI hc e (λ _ z=>by cases z))];exact e,RVD.dropC hc l y n r⟩
 | ins _ _=>exact h.elim
theorem TabsH.dropC {T:List (Addr×Str)}(hc:Cells clos H)(h:TabsH T H):TabsH T (ab5 clos H):=λ y hy=>by
 obtain⟨ps,e,t,c⟩:=h y hy
 refine⟨ps,by rw[ab5.ne (zI hc e (λ _ z=>by cases z))];exact e,t,λ pos F q=>?_⟩
 obtain⟨C,e1,e2⟩:=c pos F q
 exact⟨C,e1,by rw[ab5.ne (zI hc e2 (λ _ z=>by unfold z0 at z;cases z))];exact e2⟩
theorem Rp.dropC (hc:Cells clos H)(r:Rp Γ φ H s)(n:s.all nq=true):Rp Γ φ (ab5 clos H) s :=
 ⟨r.inj,λ i o e=>RO.dropC hc (r.obj i o e) (aW.mp n o (aK e)),r.wf,TabsH.dropC hc r.tab⟩
theorem Gr.caught {N:List Str}{kd:Str->Option bR}{σ:St}(y:Caught clos N kd σ H1 H2)(g:Gr φ s H2 φ' s' H3):Gr φ s H1 φ' s' (ab5 clos H3):=by
 have h:∀ b o,H1 b=some o->isC clos b≠true:=λ b o e z=>by rw[y.free b z]at e;cases e
 have up:∀ b o,H1 b=some o->H2 b=some o:=λ b o e=>by rw[y.ne b (h b o e)];exact e
 refine⟨⟨g.w.map,λ b o e f=>?_⟩,g.le,λ i G C=>?_,g.kd,λ b e=>?_,λ b o e J F=>?_⟩
 ·rw[ab5.ne (h b o e)];exact g.w.kp b o (up b o e) f
 ·have:=g.new i G C
  by_cases z:isC clos (φ' i)=true
  ·exact y.free _ z
  ·rw[<-y.ne _ z];exact this
 ·cases q:H1 b with
  | none=>exact absurd q e
  | some o =>
   rw[ab5.ne (h b o q)]
   exact g.st b (by rw[up b o q];simp)
 ·rw[ab5.ne (h b o e)];exact g.fr b o (up b o e) J F
theorem aV6 (h:∀ b,isC clos b=true->H' b=none):ad9 H' (Put clos H H'):=λ b o e=>by
 rw[Put.ne (λ z=>by rw[h b z]at e;cases e)];exact e
theorem Gr.put (hc:Cells clos H)(y:∀ b,isC clos b=true->H' b=none)(J:∀ b o,Γ.K.lookup b=some o->H b=none)(G:Rp Γ φ' H' s')(g:Gr φ s (ab5 clos H) φ' s' H'):Gr φ s H φ' s' (Put clos H H'):=by
 refine⟨⟨g.w.map,λ b o e f=>?_⟩,g.le,λ i h1 F=>?_,g.kd,λ b e=>?_,λ b o e nt Y=>?_⟩
 ·by_cases z:isC clos b=true
  ·rw[Put.cell z];exact e
  ·rw[Put.ne z];exact g.w.kp b o (by rw[ab5.ne z];exact e) f
 ·have hd:=g.new i h1 F
  by_cases z:isC clos (φ' i)=true
  ·have hg:=y _ z
   obtain⟨o,Z⟩:∃ o,s'[i]?=some o:=⟨s'[i],ai F⟩
   have h:=G.obj i o Z
   cases o with
   | lst l=>obtain⟨C,e,_⟩:=h;rw[hg]at e;cases e
   | ro l =>
    obtain⟨C,e,_⟩:=h
    rcases e.1 with(e|⟨_,e⟩)|⟨ob,its,n,e,_⟩
    ·rw[hg]at e;cases e
    ·rw[hg]at e;cases e
    ·exact J _ _ e
   | dic l=>obtain⟨C,e,_⟩:=h;rw[hg]at e;cases e
   | dit l=>obtain⟨C,e,_⟩:=h;rw[hg]at e;cases e
   | ins _ _=>exact h.elim
  ·rw[ab5.ne z]at hd;exact hd
 ·by_cases z:isC clos b=true
  ·rw[Put.cell z];exact e
  ·rw[Put.ne z];exact g.st b (by rw[ab5.ne z];exact e)
 ·by_cases z:isC clos b=true
  ·rw[Put.cell z];exact e
  ·rw[Put.ne z];exact g.fr b o (by rw[ab5.ne z];exact e) nt Y
theorem bb8 {T:List (Addr×Str)}{cells:List (Str×Addr)}{P:Addr}{q:Str}{params:bp}{body:Expr}{scope:Scope}{pos:Pos}{σ:St}{H:Hp}{Q:VK}(hT:TabsH T H)(nd:(T.map (·.1)).Nodup)(hm:(P,q)∈T)
  (go:∀(f:Addr) (H':Hp),aU6 H H'->(∀ b,H b≠none->H' b≠none)->TabsH T H'->H f=none->(∃ Z C J,H' f=some (as5 f (bX "<lambda>" q params body scope (ad3 cells scope.names []) Z (.ref C) J))/\H' C=some (z0 C q))->Q (.ref f) H') :
  bY5 cells P q params body scope pos σ H Q:=by
 obtain⟨ps,Y,ht,hc⟩:=hT _ hm
 refine⟨ps,Y,ht,λ hn C f Z J n1 n2 ne=>?_,λ cv e=>?_⟩
 ·have cP:C≠P:=λ z=>by rw[z,Y]at n1;cases n1
  have fP:f≠P:=λ z=>by rw[z,Y]at n2;cases n2
  have F:∀ b,b≠P->H b≠none->∀ o1 o2 o3,upd (upd (upd H P o1) C o2) f o3 b=H b:=λ b z1 z2 o1 o2 o3=>by
   rw[za λ z=>by subst z;exact z2 n2,za λ z=>by subst z;exact z2 n1,za z1]
  refine go f _ (λ b o d e=>?_) (λ b hb=>?_) (λ y hy=>?_) n2 ⟨Z,C,J,zb,by rw[za ne,zb]⟩
  ·rw[F b (λ z=>by subst z;rw[Y]at e;cases e;exact d _ rfl) (by rw[e];simp)];exact e
  ·by_cases z:b=P
   ·subst z;rw[za (bJ fP),za (bJ cP),zb];simp
   ·rw[F b z hb];exact hb
  ·by_cases z:y.1=P
   ·have ey:y=(P,q):=by
     have:∀(l:List (Addr×Str)),(l.map (·.1)).Nodup->y∈l->(P,q)∈l->y=(P,q):=by
      intro l
      induction l with
      | nil=>intro _ h;simp at h
      | cons a l ih =>
       intro hn h1 h2
       rw[aH,dI]at hn
       rcases aF.mp h1 with e1|h1<;>rcases aF.mp h2 with e2|h2
       ·rw[e1,e2]
       ·exact absurd (by rw[<-e1,z];exact aS (f:=(·.1)) h2) hn.1
       ·exact absurd (by rw[<-e2,<-z];exact aS (f:=(·.1)) h1) hn.1
       ·exact ih hn.2 h1 h2
     exact this T nd hy hm
    subst ey
    refine⟨_,by rw[za (bJ fP),za (bJ cP),zb],?_,λ G cv e=>?_⟩
    ·rw[eh];exact TriplesOk_snoc _ _ _ _ ht
    ·rw[eh]at e
     rcases codeAmong_add _ ht e with e'|e'
     ·obtain⟨c2,e1,e2⟩:=hc G cv e'
      exact⟨c2,e1,by rw[F c2 (λ z=>by subst z;rw[Y]at e2;unfold z0 at e2;cases e2) (by rw[e2];simp)];exact e2⟩
     ·exact⟨C,e',by rw[za ne,zb]⟩
   ·obtain⟨qs,e1,e2,e3⟩:=hT y hy
    refine⟨qs,by rw[F y.1 z (by rw[e1];simp)];exact e1,e2,λ G cv e=>?_⟩
    obtain⟨c2,e4,e5⟩:=e3 G cv e
    exact⟨c2,e4,by rw[F c2 (λ z=>by subst z;rw[Y]at e5;unfold z0 at e5;cases e5) (by rw[e5];simp)];exact e5⟩
 ·obtain⟨C,e1,e2⟩:=hc pos cv e
  refine⟨C,e1,λ f Z J n=>go f _ (.of ((ad9.refl H).new n)) (λ b hb=>by
   by_cases z:b=f
   ·subst z;rw[zb];simp
   ·rw[za z];exact hb) (hT.new n) n ⟨Z,C,J,zb,?_⟩⟩
  rw[za (zn e2 n)];exact e2
theorem bp1 {P:aJ}{w:World}{K:ae}{mg:Str->Option Value}{base:Heap}{k:Nat}{f:Addr}{N ps fr:List Str}{name qual:Str}{params:bp}{body:List Stmt}{scope:Scope}{h:List (Str×Addr)}{cap:List V}{sp:Sp}
  (S:LamScope N ps fr scope) (len:∀ vs H Q E,sp vs H Q E->vs.length=ps.length) (a4:cap.length=fr.length)
  (F:∀(Y pm:Value) (c':Addr) (Z:Value) (us:List Value),us.length=ps.length->fy (cM name qual params body scope h .none .none Y pm none (.ref c') Z) ⟨us,[]⟩=pure (ps.zip us))
  (G:∀(A:aX) (outer:List Env) (s:ag) (H:Hp) (cd:Value) (vs:List V) (Q:VK),Room k (A.deeper (dD qual scope s.heap.objs.size f cd (aM (s.heap.objs.size+1) scope.names h)))->ao2 H f name qual params body scope fr cap h->(∀ b o,K.lookup b=some o->H b=none)->sp vs H Q E0 ->
   ∃ t,PSs (aG3 P w K mg base N qual scope f cd h A outer s H) body t/\t { nx:=λ _ H'=>(∀ b,isC h b=true->H' b=none)->Q .non (Put h H H'),rt:=λ v H'=>(∀ b,isC h b=true->H' b=none)->Q v (Put h H H') } (vs.map some++cap.map some) (ab5 h H)) :
  ClOk P w K mg base (k+1) (λ H=>ao2 H f name qual params body scope fr cap h) f sp:=by
 refine⟨λ A outer s H us vs Q hr C hR r a1=>?_⟩
 have hl:=len _ _ _ _ a1
 obtain⟨Y,pm,c',Z,h1,h2,h3,h4,h5,h6⟩:=id hR
 have a3:s.heap.NoLimit:=C.mod.nolimit.keeps λ b o e=>(C.bs b o e).1
 refine iA hr.depth (av3 C.hok h1) rfl S.co S.gen rfl (aA2 C.hok h2) ?_
 rw[F Y pm c' Z us (by rw[<-r.length];exact hl)]
 refine ao (aq3 S.kind (λ y hy=>?_) λ env he s1 x=>?_)
 ·rcases S.par y.1 (eD (show(y.1,y.2)∈ps.zip us from hy)).1 with q|q
  ·exact .inl q
  ·exact .inr ⟨q,zN q⟩
 ·subst he
  refine⟨a3.keeps x.toInCall.keep,codeAny_func ?_⟩
  obtain⟨t,ht,hq⟩:=G A outer s H (.ref c') vs Q (hr.deeper _) hR (λ b o e=>(C.bs b o (C.mod.kin b o e)).2) a1
  have I:=aX0 S hr.hd C hl a4 r h3 h4 h5 h6 x
  refine cI (ht [] s1 _ _ _ I hq) (λ fl s' hs=>?_) λ e s' hs=>hs.elim
  have fin:∀ {σ':St} {H':Hp} {v:V} {u:Value},Inv (aG3 P w K mg base N qual scope f (.ref c') h A outer s H) [] σ' H' s'->RelV v u->((∀ b,isC h b=true->H' b=none)->Q v (Put h H H'))->CE outer P w H s Q u s':=λ {σ' H' v u} J rv q=>by
   obtain⟨un,a5⟩:=aW8 C.hok h3 C.frf J.base J.hok
   have a2:∀ b,isC h b=true->H' b=none:=λ b y=>by
    obtain⟨o,v,z,_⟩:=h3.at y
    exact(show Un (frs outer) [] (ab5 h H) H' s.heap s'.heap from J.base).free b o (C.hok b _ z).1 (ab5.cell y) (by simp)
   exact⟨v,_,J.os,J.bare,un,a5,rv,q a2⟩
  cases fl with
  | ret u =>
   obtain⟨v,σ',H',J,rv,q⟩:=hs
   exact fin J rv q
  | next =>
   obtain⟨σ',H',J,q⟩:=hs
   exact fin (v:=V.non) (u:=Value.none) J rfl q
  | brk =>
   obtain⟨_,_,_,q⟩:=hs
   exact bE q
  | cont =>
   obtain⟨_,_,_,q⟩:=hs
   exact bE q
theorem bs5 {P:aJ}{w:World}{K:ae}{mg:Str->Option Value}{base:Heap}{k:Nat}{f:Addr}{N ps fr:List Str}{qual:Str}{params:bp}{body:Expr}{scope:Scope}{h:List (Str×Addr)}{cap:List V}{sp:Sp}
  (S:LamScope N ps fr scope) (len:∀ vs H Q E,sp vs H Q E->vs.length=ps.length) (a3:cap.length=fr.length)
  (F:∀(pm:Value) (c':Addr) (Y:Value) (us:List Value),us.length=ps.length->fy (bX "<lambda>" qual params body scope h pm (.ref c') Y) ⟨us,[]⟩=pure (ps.zip us))
  (G:∀(A:aX) (outer:List Env) (s:ag) (H:Hp) (cd:Value) (vs:List V) (Q:VK),Room k (A.deeper (dD qual scope s.heap.objs.size f cd (aM (s.heap.objs.size+1) scope.names h)))->ax8 H f qual params body scope fr cap h->(∀ b o,K.lookup b=some o->H b=none)->sp vs H Q E0 ->
   ∃ t,PE (aG3 P w K mg base N qual scope f cd h A outer s H) body t/\t (vs.map some++cap.map some) (ab5 h H) λ v H'=>(∀ b,isC h b=true->H' b=none)->Q v (Put h H H')) :
  ClOk P w K mg base (k+1) (λ H=>ax8 H f qual params body scope fr cap h) f sp:=by
 refine⟨λ A outer s H us vs Q hr C hR r Z=>?_⟩
 have hl:=len _ _ _ _ Z
 obtain⟨pm,c',Y,h1,h2,h3,h4,h5,h6⟩:=id hR
 have a2:s.heap.NoLimit:=C.mod.nolimit.keeps λ b o e=>(C.bs b o e).1
 refine PySem.W.kla_callFunE hr.depth (av3 C.hok h1) rfl S.co S.gen rfl (aA2 C.hok h2) ?_
 rw[F pm c' Y us (by rw[<-r.length];exact hl)]
 refine ao (aq3 S.kind (λ y hy=>?_) λ env he s1 x=>?_)
 ·rcases S.par y.1 (eD (show(y.1,y.2)∈ps.zip us from hy)).1 with q|q
  ·exact .inl q
  ·exact .inr ⟨q,zN q⟩
 ·subst he
  refine⟨a2.keeps x.toInCall.keep,PySem.W.kla_codeExpr ?_⟩
  obtain⟨t,ht,hq⟩:=G A outer s H (.ref c') vs Q (hr.deeper _) hR (λ b o e=>(C.bs b o (C.mod.kin b o e)).2) Z
  have I:=aX0 S hr.hd C hl a3 r h3 h4 h5 h6 x
  refine cI (ht [] s1 _ _ _ I hq) (λ u s' hs=>?_) λ e s' hs=>hs.elim
  obtain⟨v,H',J,rv,q⟩:=hs
  obtain⟨un,a4⟩:=aW8 C.hok h3 C.frf J.base J.hok
  have a1:∀ b,isC h b=true->H' b=none:=λ b y=>by
   obtain⟨o,v,z,_⟩:=h3.at y
   exact(show Un (frs outer) [] (ab5 h H) H' s.heap s'.heap from J.base).free b o (C.hok b _ z).1 (ab5.cell y) (by simp)
  exact⟨v,_,J.os,J.bare,un,a4,rv,q a1⟩
theorem Rp.sameT {φ:Nat->Addr}{H H':Hp}{s:lr}(r:Rp Γ φ H s)(e:aU6 H H')(st:∀ b,H b≠none->H' b≠none)(tb:TabsH Γ.T H'):Gr φ s H φ s H'/\Rp Γ φ H' s:=by
 have kp:Kp H H':=λ b o h f=>e b o (λ ps z=>by subst z;cases f) h
 have G:Gw φ s.length H φ H':=⟨λ _ _=>rfl,kp⟩
 refine⟨⟨G,ak _,λ i h1 Y=>absurd Y (by omega),λ i o o' e e'=>by rw[e]at e';cases e';rfl,st,λ b o h C _=>e b o C h⟩,r.inj,λ i o F=>?_,r.wf,tb⟩
 exact(r.obj i o F).mono G (r.wf i o F) λ m u J=>by
  obtain⟨Z,y,_,C⟩:=(r.obj i o F).there m
  rw[J]at y;cases y
  exact e _ _ C J
theorem Cells.kp {H H':Hp}(h:Cells clos H)(k:Kp H H'):Cells clos H':=λ x c e=>by
 obtain⟨o,v,q,d⟩:=h x c e
 exact⟨o,v,k _ _ q rfl,d⟩
noncomputable def PVp (Γ : Gm) (cells : List (Str × Addr)) (N : List Str) (σ : St) (φ : Nat -> Addr) (H : Hp) (d : DV.D) (v : V) : Prop := RV Γ φ H d v \/ ∃ id cs, d = .clo id cs /\ ∃ f J, v = .ref f /\ Γ.lg id J /\ af7 H f J (ad3 cells J.scope.names []) /\
      cs.length = J.fr.length /\ (∀ x, J.scope.names.lookup x = some .free -> ∃ c, cells.lookup x = some c) /\
      ∃ cap, RVL Γ φ H cs cap /\ ∀(i : Nat) (x : Str) (v : V), J.fr[i]? = some x -> cap[i]? = some v -> J.scope.names.lookup x = some .free /\ ∃ j : Nat, N[j]? = some x /\ σ[j]? = some (some v)
inductive PVL (Γ:Gm)(cells:List (Str×Addr))(N:List Str)(σ:St)(φ:Nat->Addr)(H:Hp):List lu->List V->Prop where
 | nil:PVL Γ cells N σ φ H [] []
 | cons {d v l vs} (a:PVp Γ cells N σ φ H d v) (b:PVL Γ cells N σ φ H l vs):PVL Γ cells N σ φ H (d::l) (v::vs)
theorem PVp.mono {cells:List (Str×Addr)}{N:List Str}{σ:St}{φ φ':Nat->Addr}{s s':lr}{H H':Hp}(g:Gr φ s H φ' s' H'){d:lu}{v:V}(b:d.bnd s.length=true)(h:PVp Γ cells N σ φ H d v):PVp Γ cells N σ φ' H' d v:=by
 rcases h with h|⟨id,cs,rfl,h⟩
 ·exact .inl (RV.mono g _ _ b h)
 ·obtain⟨f,J,e,G,y,z,F,cap,C,h7⟩:=h
  unfold ly at b
  exact .inr ⟨id,cs,rfl,f,J,e,G,y.kp g.w.kp,z,F,cap,RVL.mono g cs cap b C,h7⟩
theorem PVp.caught {cells:List (Str×Addr)}{N:List Str}{kd:Str->Option bR}{σ:St}{φ:Nat->Addr}{n:Nat}{C H2:Hp}(G:Caught cells N kd σ C H2)(Y:∀ x c,cells.lookup x=some c->kd x=some .cell\/kd x=some .free){d:lu}{v:V}(b:d.bnd n=true)(h:PVp Γ cells N σ φ C d v):RV Γ φ H2 d v:=by
 have gw:Gw φ n C φ H2:=⟨λ _ _=>rfl,λ b o e _=>G.same b o e⟩
 rcases h with h|⟨id,cs,rfl,h⟩
 ·exact RV.monoW gw _ _ b h
 ·obtain⟨f,J,e,h1,z,h4,F,cap,Z,h7⟩:=h
  unfold ly at b
  unfold RV
  have y:∀(i:Nat) (x:Str) (v:V),J.fr[i]?=some x->cap[i]?=some v->J.scope.names.lookup x=some .free/\(kd x=some .cell\/kd x=some .free)/\∃ j:Nat,N[j]?=some x/\σ[j]?=some (some v):=λ i x v e1 e2=>by
   obtain⟨q1,q2⟩:=h7 i x v e1 e2
   obtain⟨c,q3⟩:=F x q1
   exact⟨q1,Y x c q3,q2⟩
  have hat:CloAt H2 f J cap (ad3 cells J.scope.names []):=by
   unfold CloAt
   unfold af7 at z
   cases q:J.nm with
   | none=>rw[q]at z;exact bc2 G z F y
   | some p=>rw[q]at z;exact bh6 G z F y
  exact⟨f,cap,J,_,e,h1,hat,by rw[Z.length,h4],RVL.monoW gw cs cap b Z⟩
theorem PVL.caught {cells:List (Str×Addr)}{N:List Str}{kd:Str->Option bR}{σ:St}{φ:Nat->Addr}{n:Nat}{z H2:Hp}(C:Caught cells N kd σ z H2)(y:∀ x c,cells.lookup x=some c->kd x=some .cell\/kd x=some .free){l:List lu}{vs:List V}(h:PVL Γ cells N σ φ z l vs)(b:lv n l=true):RVL Γ φ H2 l vs:=by
 induction h with
 | nil=>exact .nil
 | cons a _ ih =>
  unfold lv at b
  rw[aj]at b
  exact .cons (a.caught C y b.1) (ih b.2)
end
variable {Γ:Gm} {X:Cx}
def TEv (Γ:Gm)(m:lw->lr->lz lu):TE:=λ σ H Q=>∃ φ ρ s d s',RE Γ φ H s.length ρ σ/\Rp Γ φ H s/\m ρ s=.ok d s'/\ad6 Γ φ s H d s' Q
def bG0 (Γ:Gm)(φ:Nat->Addr)(s:lr)(H:Hp)(l:List lu)(s':lr)(Q:List V->Hp->Prop):Prop :=
 ∀ vs φ' H',Gr φ s H φ' s' H'->s.length<=s'.length->lv s'.length l=true->RVL Γ φ' H' l vs->Rp Γ φ' H' s'->Q vs H'
def TAv (Γ:Gm)(m:lw->lr->lz (List lu)):TA:=λ σ H Q=>∃ φ ρ s l s',RE Γ φ H s.length ρ σ/\Rp Γ φ H s/\m ρ s=.ok l s'/\bG0 Γ φ s H l s' Q
def aJ9 (Γ:Gm)(φ:Nat->Addr)(s:lr)(H:Hp)(b:Bool)(s':lr)(Q:Bool->Hp->Prop):Prop :=
 ∀ φ' H',Gr φ s H φ' s' H'->s.length<=s'.length->Rp Γ φ' H' s'->Q b H'
def TTv (Γ:Gm)(m:lw->lr->lz lu):TT:=λ σ H Q=>∃ φ ρ s b s',RE Γ φ H s.length ρ σ/\Rp Γ φ H s/\m ρ s=.ok (.bl b) s'/\aJ9 Γ φ s H b s' Q
theorem PE.imp {e:Expr}{t t':TE}(h:PE X e t)(i:∀ σ H Q,t' σ H Q->t σ H Q):PE X e t':=λ y s σ H Q I q=>h y s σ H Q I (i σ H Q q)
theorem PT.imp {e:Expr}{t t':TT}(h:PT X e t)(i:∀ σ H Q,t' σ H Q->t σ H Q):PT X e t':=λ y s σ H Q I q=>h y s σ H Q I (i σ H Q q)
theorem PA.imp {e:List Expr}{t t':TA}(h:PA X e t)(i:∀ σ H Q,t' σ H Q->t σ H Q):PA X e t':=λ pos y s σ H Q I q=>h pos y s σ H Q I (i σ H Q q)
theorem aJ9.trans {φ φ1:Nat->Addr}{s s1 s':lr}{H y:Hp}{b:Bool}{Q:Bool->Hp->Prop}(h:aJ9 Γ φ s H b s' Q)(g:Gr φ s H φ1 s1 y)(l:s.length<=s1.length):aJ9 Γ φ1 s1 y b s' Q :=
 λ φ' H' g' z p=>h φ' H' (g.trans g' l) (am l z) p
theorem bO3 (i:Nat){σ:St}{H:Hp}{Q:VK}(h:TEv Γ (λ ρ s=>DV.aS2 ρ i s) σ H Q):aZ8 i σ H Q:=by
 obtain⟨φ,ρ,s,d,s',E,R,y,q⟩:=h
 simp only[DV.aS2]at y
 split at y
 ·rename_i d' e
  cases y
  obtain⟨b,v,e1,e2⟩:=E.val i _ e
  exact⟨v,e1,q.here R b e2⟩
 ·exact fb y
theorem az6 {c:lu}{v:V}(hb:∀ n,c.bnd n=true)(hv:∀ φ H,RV Γ φ H c v){σ:St}{H:Hp}{Q:VK}(h:TEv Γ (λ ρ s=>.ok c s) σ H Q):tC v σ H Q:=by
 obtain⟨φ,ρ,s,d,s',E,R,y,q⟩:=h
 cases y
 exact q.here R (hb _) (hv _ _)
theorem bb4 {C J:lw->lr->lz lu}{f:lu->lu->lr->lz lu}{σ:St}{H:Hp}{Q:VK}(h:TEv Γ (λ ρ s=>(C ρ s).bind λ x s=>(J ρ s).bind λ y s=>f x y s) σ H Q):tOp (rOp Γ f) (TEv Γ C) (TEv Γ J) σ H Q:=by
 obtain⟨φ,ρ,s,d,s',E,R,z,q⟩:=h
 obtain⟨x,s1,e1,z⟩:=aa0 z
 obtain⟨y,s2,e2,z⟩:=aa0 z
 refine⟨φ,ρ,s,x,s1,E,R,e1,λ Z φ1 H1 g1 l1 G r1 R1=>?_⟩
 refine⟨φ1,ρ,s1,y,s2,E.mono g1 l1,R1,e2,λ v2 φ2 H2 F Y b2 r2 R2=>?_⟩
 exact⟨φ2,s2,x,y,d,s',R2,RV.mono F x Z G r1,r2,zm Y x G,b2,z,q.trans (g1.trans F l1) (am l1 Y)⟩
theorem bS3 {m:lw->lr->lz lu}{f:lu->lr->lz lu}{r:V->Hp->VK->Prop}{σ:St}{H:Hp}{Q:VK}(h:TEv Γ (λ ρ s=>(m ρ s).bind λ x s=>f x s) σ H Q)
  (hr:∀ φ s x d s' v H',Rp Γ φ H' s->RV Γ φ H' x v->x.bnd s.length=true->f x s=.ok d s'->ad6 Γ φ s H' d s' Q->r v H' Q):tUn r (TEv Γ m) σ H Q:=by
 obtain⟨φ,ρ,s,d,s',E,R,y,q⟩:=h
 obtain⟨x,s1,e1,y⟩:=aa0 y
 exact⟨φ,ρ,s,x,s1,E,R,e1,λ F φ1 C g1 l1 z r1 R1=>hr φ1 s1 x d s' F C R1 r1 z y (q.trans g1 l1)⟩
theorem zD {α:Type}{r:lz lu}{f:Bool->lr->lz α}{a:α}{t:lr}(h:lF r f=.ok a t):∃ b s,r=.ok (.bl b) s/\f b s=.ok a t:=by
 unfold lF at h
 obtain⟨d,s,e,h⟩:=aa0 h
 cases d with
 | bl b=>exact⟨b,s,e,h⟩
 | _=>exact fb h
theorem aH5 {m:lw->lr->lz lu}{σ:St}{H:Hp}{Q:Bool->Hp->Prop}(h:TTv Γ m σ H Q):tB (TEv Γ m) σ H Q:=by
 obtain⟨φ,ρ,s,b,s',E,R,y,q⟩:=h
 refine⟨φ,ρ,s,.bl b,s',E,R,y,λ v φ' H' g l C r z=>?_⟩
 exact⟨b,r.blE,q φ' H' g l z⟩
theorem aX5 {m:lw->lr->lz lu}{σ:St}{H:Hp}{Q:Bool->Hp->Prop}(h:TTv Γ m σ H Q):bv5 (TEv Γ m) σ H Q:=aH5 h
theorem bB5 {m:lw->lr->lz lu}{σ:St}{H:Hp}{Q:Bool->Hp->Prop}(h:TTv Γ (λ ρ s=>lF (m ρ s) λ b s=>.ok (.bl (!b)) s) σ H Q):bZ5 (TTv Γ m) σ H Q:=by
 obtain⟨φ,ρ,s,b,s',E,R,y,q⟩:=h
 obtain⟨c,s1,e1,y⟩:=zD y
 cases y
 exact⟨φ,ρ,s,c,_,E,R,e1,q⟩
theorem bm9 {z C:lw->lr->lz lu}{σ:St}{H:Hp}{Q:Bool->Hp->Prop}(h:TTv Γ (λ ρ s=>lF (z ρ s) λ c s=>if c then lF (C ρ s) λ c s=>.ok (.bl c) s else .ok (.bl false) s) σ H Q):bY6 (TTv Γ z) (TTv Γ C) σ H Q:=by
 obtain⟨φ,ρ,s,b,s',E,R,y,q⟩:=h
 obtain⟨c,s1,e1,y⟩:=zD y
 refine⟨φ,ρ,s,c,s1,E,R,e1,λ φ1 F g1 l1 R1=>?_⟩
 cases c with
 | true =>
  rw[if_pos rfl]at y ⊢
  obtain⟨G,s2,e2,y⟩:=zD y
  cases y
  exact⟨φ1,ρ,s1,_,_,E.mono g1 l1,R1,e2,q.trans g1 l1⟩
 | false =>
  rw[if_neg aL]at y ⊢
  cases y
  exact q φ1 F g1 l1 R1
theorem bH5 {z C:lw->lr->lz lu}{σ:St}{H:Hp}{Q:Bool->Hp->Prop}(h:TTv Γ (λ ρ s=>lF (z ρ s) λ c s=>if c then .ok (.bl true) s else lF (C ρ s) λ c s=>.ok (.bl c) s) σ H Q):tOr (TTv Γ z) (TTv Γ C) σ H Q:=by
 obtain⟨φ,ρ,s,b,s',E,R,y,q⟩:=h
 obtain⟨c,s1,e1,y⟩:=zD y
 refine⟨φ,ρ,s,c,s1,E,R,e1,λ φ1 F g1 l1 R1=>?_⟩
 cases c with
 | true =>
  rw[if_pos rfl]at y ⊢
  cases y
  exact q φ1 F g1 l1 R1
 | false =>
  rw[if_neg aL]at y ⊢
  obtain⟨G,s2,e2,y⟩:=zD y
  cases y
  exact⟨φ1,ρ,s1,_,_,E.mono g1 l1,R1,e2,q.trans g1 l1⟩
theorem bJ9 {m:lw->lr->lz lu}{σ:St}{H:Hp}{Q:VK}(h:TEv Γ (λ ρ s=>lF (m ρ s) λ b s=>.ok (.bl (!b)) s) σ H Q):bN0 (TEv Γ m) σ H Q:=by
 obtain⟨φ,ρ,s,d,s',E,R,y,q⟩:=h
 obtain⟨c,s1,e1,y⟩:=zD y
 cases y
 exact⟨φ,ρ,s,.bl c,_,E,R,e1,λ v φ1 z g l b r R1=>⟨c,r.blE,q _ φ1 z g l rfl RV.blI R1⟩⟩
theorem bk2 {z C:lw->lr->lz lu}{σ:St}{H:Hp}{Q:VK}(h:TEv Γ (λ ρ s=>lF (z ρ s) λ c s=>if c then lF (C ρ s) λ c s=>.ok (.bl c) s else .ok (.bl false) s) σ H Q):bN6 (TEv Γ z) (TEv Γ C) σ H Q:=by
 obtain⟨φ,ρ,s,d,s',E,R,y,q⟩:=h
 obtain⟨c,s1,e1,y⟩:=zD y
 refine⟨φ,ρ,s,.bl c,s1,E,R,e1,λ v φ1 F g1 l1 G r1 R1=>⟨c,r1.blE,?_⟩⟩
 cases c with
 | true =>
  rw[if_pos rfl]at y ⊢
  obtain⟨c,s2,e2,y⟩:=zD y
  cases y
  exact⟨φ1,ρ,s1,.bl c,_,E.mono g1 l1,R1,e2,q.trans g1 l1⟩
 | false =>
  rw[if_neg aL]at y ⊢
  cases y
  exact q _ φ1 F g1 l1 rfl RV.blI R1
theorem bE7 {z C:lw->lr->lz lu}{σ:St}{H:Hp}{Q:VK}(h:TEv Γ (λ ρ s=>lF (z ρ s) λ c s=>if c then .ok (.bl true) s else lF (C ρ s) λ c s=>.ok (.bl c) s) σ H Q):bX8 (TEv Γ z) (TEv Γ C) σ H Q:=by
 obtain⟨φ,ρ,s,d,s',E,R,y,q⟩:=h
 obtain⟨c,s1,e1,y⟩:=zD y
 refine⟨φ,ρ,s,.bl c,s1,E,R,e1,λ v φ1 F g1 l1 G r1 R1=>⟨c,r1.blE,?_⟩⟩
 cases c with
 | true =>
  rw[if_pos rfl]at y ⊢
  cases y
  exact q _ φ1 F g1 l1 rfl RV.blI R1
 | false =>
  rw[if_neg aL]at y ⊢
  obtain⟨c,s2,e2,y⟩:=zD y
  cases y
  exact⟨φ1,ρ,s1,.bl c,_,E.mono g1 l1,R1,e2,q.trans g1 l1⟩
theorem bN4 {mc z C:lw->lr->lz lu}{σ:St}{H:Hp}{Q:VK}(h:TEv Γ (λ ρ s=>lF (mc ρ s) λ k s=>if k then z ρ s else C ρ s) σ H Q):tIf (TTv Γ mc) (TEv Γ z) (TEv Γ C) σ H Q:=by
 obtain⟨φ,ρ,s,d,s',E,R,y,q⟩:=h
 obtain⟨c,s1,e1,y⟩:=zD y
 refine⟨φ,ρ,s,c,s1,E,R,e1,λ φ1 F g1 l1 R1=>?_⟩
 cases c with
 | true =>
  rw[if_pos rfl]at y ⊢
  exact⟨φ1,ρ,s1,d,s',E.mono g1 l1,R1,y,q.trans g1 l1⟩
 | false =>
  rw[if_neg aL]at y ⊢
  exact⟨φ1,ρ,s1,d,s',E.mono g1 l1,R1,y,q.trans g1 l1⟩
theorem aJ0 {ma Z mc:lw->lr->lz lu}{f g:lu->lu->lr->lz lu}{σ:St}{H:Hp}{Q:VK}(h:TEv Γ (λ ρ s=>(ma ρ s).bind λ x s=>(Z ρ s).bind λ y s=>lF (f x y s) λ k s=>if k then(mc ρ s).bind λ z s=>g y z s else .ok (.bl false) s) σ H Q) :
  aV9 (rOp Γ f) (rOp Γ g) (TEv Γ ma) (TEv Γ Z) (TEv Γ mc) σ H Q:=by
 obtain⟨φ,ρ,s,d,s',E,R,C,q⟩:=h
 obtain⟨x,s1,e1,C⟩:=aa0 C
 obtain⟨y,s2,e2,C⟩:=aa0 C
 obtain⟨c,s3,e3,C⟩:=zD C
 refine⟨φ,ρ,s,x,s1,E,R,e1,λ v1 φ1 H1 g1 l1 b1 r1 R1=>?_⟩
 refine⟨φ1,ρ,s1,y,s2,E.mono g1 l1,R1,e2,λ v2 φ2 H2 g2 Y J r2 R2=>?_⟩
 refine⟨φ2,s2,x,y,.bl c,s3,R2,RV.mono g2 x v1 b1 r1,r2,zm Y x b1,J,e3,λ v3 φ3 H3 g3 F b3 r3 R3=>⟨c,r3.blE,?_⟩⟩
 have G:=(g1.trans g2 l1).trans g3 (am l1 Y)
 have L:=am (am l1 Y) F
 cases c with
 | true =>
  rw[if_pos rfl]at C ⊢
  obtain⟨z,s4,e4,C⟩:=aa0 C
  refine⟨φ3,ρ,s3,z,s4,E.mono G L,R3,e4,λ v4 φ4 H4 g4 l4 b4 r4 R4=>?_⟩
  exact⟨φ4,s4,y,z,d,s',R4,RV.mono (g3.trans g4 F) y v2 J r2,r4,zm (am F l4) y J,b4,C,q.trans (G.trans g4 L) (am L l4)⟩
 | false =>
  rw[if_neg aL]at C ⊢
  cases C
  exact q _ φ3 H3 G L rfl RV.blI R3
theorem aL3 {σ:St}{H:Hp}{Q:List V->Hp->Prop}(h:TAv Γ (λ ρ s=>.ok [] s) σ H Q):aQ9 σ H Q:=by
 obtain⟨φ,ρ,s,d,s',E,R,y,q⟩:=h
 cases y
 exact q [] φ H (Gr.refl _ _ _) (ak _) rfl .nil R
theorem bv4 {m:lw->lr->lz lu}{J:lw->lr->lz (List lu)}{σ:St}{H:Hp}{Q:List V->Hp->Prop}(h:TAv Γ (λ ρ s=>(m ρ s).bind λ d s=>(J ρ s).bind λ l s=>.ok (d::l) s) σ H Q):an4 (TEv Γ m) (TAv Γ J) σ H Q:=by
 obtain⟨φ,ρ,s,l,s',E,R,z,q⟩:=h
 obtain⟨x,s1,e1,z⟩:=aa0 z
 obtain⟨y,s2,e2,z⟩:=aa0 z
 cases z
 refine⟨φ,ρ,s,x,s1,E,R,e1,λ G φ1 H1 g1 l1 F r1 R1=>?_⟩
 refine⟨φ1,ρ,s1,y,_,E.mono g1 l1,R1,e2,λ Z φ2 H2 C Y b2 r2 R2=>?_⟩
 refine q (G::Z) φ2 H2 (g1.trans C l1) (am l1 Y) ?_ (.cons (RV.mono C x G F r1) r2) R2
 unfold lv
 rw[zm Y x F,b2];rfl
theorem aC1 {z:lw->lr->lz (List lu)}{f:List lu->lr->lz lu}{σ:St}{H:Hp}{Q:VK}(h:TEv Γ (λ ρ s=>(z ρ s).bind λ l s=>f l s) σ H Q):tCB (rCl Γ f) (TAv Γ z) σ H Q:=by
 obtain⟨φ,ρ,s,d,s',E,R,y,q⟩:=h
 obtain⟨l,s1,e1,y⟩:=aa0 y
 exact⟨φ,ρ,s,l,s1,E,R,e1,λ vs φ1 F g1 l1 C r1 R1=>⟨φ1,s1,l,d,s',R1,r1,C,y,q.trans g1 l1⟩⟩
theorem bE0 {m:lw->lr->lz lu}{ml mh:lw->lr->lz lu}{σ:St}{H:Hp}{Q:VK} :
  (TEv Γ (λ ρ s=>(m ρ s).bind λ x s=>(ml ρ s).bind λ y s=>match y with|.int i=>mV x (some i) none s|_=>.bad) σ H Q->tSl (rSl Γ) (TEv Γ m) (aU2 (TEv Γ ml)) aC9 σ H Q) /\
  (TEv Γ (λ ρ s=>(m ρ s).bind λ x s=>(mh ρ s).bind λ y s=>match y with|.int i=>mV x none (some i) s|_=>.bad) σ H Q->tSl (rSl Γ) (TEv Γ m) aC9 (aU2 (TEv Γ mh)) σ H Q) /\
  (TEv Γ (λ ρ s=>(m ρ s).bind λ x s=>(ml ρ s).bind λ y s=>match y with|.int i=>(mh ρ s).bind (λ z s=>match z with|.int j=>mV x (some i) (some j) s|_=>.bad)|_=>.bad) σ H Q->tSl (rSl Γ) (TEv Γ m) (aU2 (TEv Γ ml)) (aU2 (TEv Γ mh)) σ H Q):=by
 refine⟨λ h=>?_,λ h=>?_,λ h=>?_⟩
 ·obtain⟨φ,ρ,s,d,s',E,R,C,q⟩:=h
  obtain⟨x,s1,e1,C⟩:=aa0 C
  obtain⟨y,s2,e2,C⟩:=aa0 C
  refine⟨φ,ρ,s,x,s1,E,R,e1,λ Y φ1 H1 g1 l1 J r1 R1=>?_⟩
  refine⟨φ1,ρ,s1,y,s2,E.mono g1 l1,R1,e2,λ v2 φ2 H2 G F b2 Z R2=>?_⟩
  cases y with
  | int i=>exact⟨i,Z.intE,φ2,s2,x,d,s',R2,RV.mono G x Y J r1,zm F x J,C,q.trans (g1.trans G l1) (am l1 F)⟩
  | _=>exact fb C
 ·obtain⟨φ,ρ,s,d,s',E,R,C,q⟩:=h
  obtain⟨x,s1,e1,C⟩:=aa0 C
  obtain⟨y,s2,e2,C⟩:=aa0 C
  refine⟨φ,ρ,s,x,s1,E,R,e1,λ Y φ1 H1 g1 l1 J r1 R1=>?_⟩
  refine⟨φ1,ρ,s1,y,s2,E.mono g1 l1,R1,e2,λ v2 φ2 H2 G F b2 Z R2=>?_⟩
  cases y with
  | int i=>exact⟨i,Z.intE,φ2,s2,x,d,s',R2,RV.mono G x Y J r1,zm F x J,C,q.trans (g1.trans G l1) (am l1 F)⟩
  | _=>exact fb C
 ·obtain⟨φ,ρ,s,d,s',E,R,C,q⟩:=h
  obtain⟨x,s1,e1,C⟩:=aa0 C
  obtain⟨y,s2,e2,C⟩:=aa0 C
  refine⟨φ,ρ,s,x,s1,E,R,e1,λ Y φ1 H1 g1 l1 J r1 R1=>?_⟩
  refine⟨φ1,ρ,s1,y,s2,E.mono g1 l1,R1,e2,λ v2 φ2 H2 G F b2 Z R2=>?_⟩
  cases y with
  | int i =>
   obtain⟨z,s3,e3,C⟩:=aa0 C
   refine⟨i,Z.intE,φ2,ρ,s2,z,s3,E.mono (g1.trans G l1) (am l1 F),R2,e3,λ v3 φ3 H3 g3 l3 b3 r3 R3=>?_⟩
   cases z with
   | int j=>exact⟨j,r3.intE,φ3,s3,x,d,s',R3,RV.mono (G.trans g3 F) x Y J r1,zm (am F l3) x J,C,q.trans ((g1.trans G l1).trans g3 (am l1 F)) (am (am l1 F) l3)⟩
   | _=>exact fb C
  | _=>exact fb C
variable {Γ:Gm} {X:Cx}
def aq7 (Γ:Gm)(J:It)(φ0:Nat->Addr)(H0:Hp)(s0:lr)(q:mN):Prop :=
 ∀ φ H s,Gr φ0 s0 H0 φ s H->s0.length<=s.length->Rp Γ φ H s->l9 s0 s q.src=true->∀ i:Nat,
  (i<q.its.length->J.go i H/\∀ x H',J.yld i H x H'->ad9 H H'/\∀ d,q.its[i]?=some d->RV Γ φ H' d x)/\(q.its.length<=i->J.stop i H)
def TIv (Γ:Gm)(m:lw->lr->lz mN):TI:=λ σ H R=>∃ φ ρ s q s',RE Γ φ H s.length ρ σ/\Rp Γ φ H s/\m ρ s=.ok q s' /\
 ∀ J φ' H',Gr φ s H φ' s' H'->s.length<=s'.length->lv s'.length q.its=true->Rp Γ φ' H' s'->aq7 Γ J φ' H' s' q->R J H'
theorem PI.imp {tg e:Expr}{t t':TI}(h:PI X tg e t)(i:∀ σ H R,t' σ H R->t σ H R):PI X tg e t':=λ y s σ H R I q=>h y s σ H R I (i σ H R q)
theorem PI.or {tg e:Expr}{t t':TI}(h:PI X tg e t)(h':PI X tg e t'):PI X tg e (λ σ H R=>t σ H R\/t' σ H R):=λ y s σ H R I q=>q.elim (h y s σ H R I) (h' y s σ H R I)
theorem bf8 {φ0:Nat->Addr}{H0:Hp}{s0:lr}{a:Addr}{z:List V}{l:List lu}(h:SqT Γ.K H0 a z)(hl:RVL Γ φ0 H0 l z)(hb:lv s0.length l=true):aq7 Γ (Itt Γ.K a) φ0 H0 s0 ⟨l,[]⟩:=by
 intro φ H s g _ R _ i
 have h':=g.w.kp.sqT h
 have C:=RVL.mono g l z hb hl
 refine⟨λ hlt=>⟨⟨z,z[i]'(by rw[C.length];exact hlt),h',ai _⟩,λ x H' y=>?_⟩,λ F=>⟨z,h',by rw[C.length];exact F⟩⟩
 obtain⟨e,y⟩:=y
 subst e
 refine⟨ad9.refl _,λ d hd=>?_⟩
 obtain⟨v,e1,e2⟩:=C.get hd
 rw[y z h']at e1;cases e1
 exact e2
theorem bt9 {φ0:Nat->Addr}{H0:Hp}{s0:lr}{a:Addr}{z:List V}{l:List lu}(h:SqF Γ.K H0 a z)(hl:RVL Γ φ0 H0 l z)(hb:lv s0.length l=true):aq7 Γ (Itl Γ.K a) φ0 H0 s0 ⟨l,[]⟩:=by
 intro φ H s g _ R _ i
 have h':=h.2 _ g.w.kp
 have C:=RVL.mono g l z hb hl
 refine⟨λ hlt=>⟨⟨z,z[i]'(by rw[C.length];exact hlt),h',ai _⟩,λ x H' y=>?_⟩,λ F=>⟨z,h',by rw[C.length];exact F⟩⟩
 obtain⟨e,y⟩:=y
 subst e
 refine⟨ad9.refl _,λ d hd=>?_⟩
 obtain⟨v,e1,e2⟩:=C.get hd
 rw[y z h']at e1;cases e1
 exact e2
theorem bj4 {φ0:Nat->Addr}{H0:Hp}{s0:lr}{r:Nat}{l:List lu}(hr:s0[r]?=some (.lst l)):aq7 Γ (Itl Γ.K (φ0 r)) φ0 H0 s0 ⟨l,[r]⟩:=by
 intro φ H s g _ R F i
 have z:r<s0.length:=(ac.mp hr).1
 have hs:s[r]?=some (.lst l):=by
  unfold l9 at F
  simp only[fx,List.all_nil,gE,decide_eq_true_eq]at F
  rw[F];exact hr
 obtain⟨C,e,h⟩:=R.addr hs
 rw[g.w.map r z]at e
 have h':SqL Γ.K H (φ0 r) C:=SqL.of e
 refine⟨λ hlt=>⟨⟨C,C[i]'(by rw[h.length];exact hlt),h',ai _⟩,λ x H' y=>?_⟩,λ G=>⟨C,h',by rw[h.length];exact G⟩⟩
 obtain⟨e,y⟩:=y
 subst e
 refine⟨ad9.refl _,λ d hd=>?_⟩
 obtain⟨v,e1,e2⟩:=h.get hd
 rw[y C h']at e1;cases e1
 exact e2
theorem bb6 {φ0:Nat->Addr}{H0:Hp}{s0:lr}{l:List Nat}:aq7 Γ (Its ⟨l.toArray⟩) φ0 H0 s0 ⟨l.map λ c=>.str [c],[]⟩:=by
 intro φ H s g _ R _ i
 have hsz:(⟨l.toArray⟩:Str).cps.size=l.length:=by simp
 refine⟨λ hlt=>?_,λ h=>?_⟩
 ·simp only[au]at hlt
  refine⟨show i<(⟨l.toArray⟩:Str).cps.size by rw[hsz];exact hlt,λ x H' y=>?_⟩
  obtain⟨e,c,hc,rfl⟩:=y
  subst e
  refine⟨ad9.refl _,λ d hd=>?_⟩
  have z:l[i]?=some c:=by simpa using hc
  rw[aE,z]at hd
  cases hd
  exact RV.strI (by simp;decide)
 ·simp only[au]at h
  show(⟨l.toArray⟩:Str).cps.size<=i
  rw[hsz];exact h
theorem bb9 {φ0:Nat->Addr}{H0:Hp}{s0:lr}{a b:Int}:aq7 Γ (Itr a (b - a).toNat) φ0 H0 s0 ⟨mG a b,[]⟩:=by
 intro φ H s g _ R _ i
 have hn:(mG a b).length=(b - a).toNat:=by simp[mG]
 refine⟨λ hlt=>⟨show i<(b - a).toNat by rw[<-hn];exact hlt,λ x H' y=>?_⟩,λ h=>show(b - a).toNat<=i by rw[<-hn];exact h⟩
 obtain⟨e,rfl⟩:=y
 subst e
 refine⟨ad9.refl _,λ d hd=>?_⟩
 simp only[mG]at hd hlt
 rw[aE,fO (by simpa using hlt)]at hd
 cases hd
 exact RV.intI
theorem br1 {m:lw->lr->lz lu}{σ:St}{H:Hp}{R:It->Hp->Prop}(h:TIv Γ (λ ρ s=>(m ρ s).bind λ x s=>match x with|.int i=>if -nr<=i/\i<nr then .ok ⟨mG 0 i,[]⟩ s else .bad|_=>.bad) σ H R) :
  bF6 (an4 (TEv Γ m) aQ9) σ H R:=by
 obtain⟨φ,ρ,s,q,s',E,P,y,k⟩:=h
 obtain⟨x,s1,e1,y⟩:=aa0 y
 refine⟨φ,ρ,s,x,s1,E,P,e1,λ v φ1 C g l b r F=>?_⟩
 cases x with
 | int i =>
  simp only at y
  split at y
  ·rename_i z
   cases y
   have hw:nr=2^62:=by decide
   rw[hw]at z
   refine⟨i,by rw[r.intE],z.1,z.2,k _ φ1 C g l ?_ F ?_⟩
   ·refine aa2.mpr λ d hd=>?_
    simp only[mG,aO]at hd
    obtain⟨_,_,rfl⟩:=hd
    rfl
   ·have:=bb9 (Γ:=Γ) (φ0:=φ1) (H0:=C) (s0:=s') (a:=0) (b:=i)
    rwa [jQ]at this
  ·exact fb y
 | _=>exact fb y
theorem bC1 {m:lw->lr->lz lu}{σ:St}{H:Hp}{R:It->Hp->Prop}(h:TIv Γ (λ ρ s=>(m ρ s).bind λ d s=>DV.ag8 d s) σ H R) :
  bV0 Γ.K (TEv Γ m) σ H R\/br8 Γ.K (TEv Γ m) σ H R\/bX7 (TEv Γ m) σ H R:=by
 obtain⟨φ,ρ,s,q,s',E,P,y,k⟩:=h
 obtain⟨x,s1,e1,y⟩:=aa0 y
 unfold DV.ag8 at y
 cases x with
 | tup l =>
  cases y
  refine .inl ⟨φ,ρ,s,_,_,E,P,e1,λ v φ1 C g l b r z=>?_⟩
  obtain⟨a,G,rfl,Y,d1⟩:=r.tupE
  unfold ly at b
  exact⟨a,rfl,⟨G,Y⟩,k _ φ1 C g l b z (bf8 Y d1 b)⟩
 | str l =>
  cases y
  refine .inr (.inr ⟨φ,ρ,s,_,_,E,P,e1,λ v φ1 C g F b r z=>?_⟩)
  refine⟨_,r.strE,k _ φ1 C g F ?_ z bb6⟩
  refine aa2.mpr λ d hd=>?_
  simp only[aO]at hd
  obtain⟨_,_,rfl⟩:=hd
  rfl
 | ref r =>
  simp only at y
  cases hs:s1[r]? with
  | none=>rw[hs]at y;cases y
  | some o =>
   rw[hs]at y
   cases o with
   | lst l =>
    cases y
    refine .inr (.inl ⟨φ,ρ,s,_,_,E,P,e1,λ v φ1 C g F b J z=>?_⟩)
    have e:=J.refE;subst e
    obtain⟨G,e2,d1⟩:=z.addr hs
    have wf:=z.wf _ _ hs
    unfold lA at wf
    exact⟨φ1 r,rfl,⟨G,SqL.of e2⟩,k _ φ1 C g F wf z (bj4 hs)⟩
   | ro l =>
    cases y
    refine .inr (.inl ⟨φ,ρ,s,_,_,E,P,e1,λ v φ1 C g F b J z=>?_⟩)
    have e:=J.refE;subst e
    obtain⟨G,e2,d1⟩:=z.obj _ _ hs
    have wf:=z.wf _ _ hs
    unfold lA at wf
    exact⟨φ1 r,rfl,⟨G,e2.1⟩,k _ φ1 C g F wf z (bt9 e2 d1 wf)⟩
   | dic l=>exact fb y
   | dit l=>exact fb y
   | ins c l=>exact fb y
 | _=>exact fb y
variable {Γ:Gm} {X:Cx}
noncomputable def bP6:List Nat->TGs
 | []=>bT5
 | i::is=>bg4 (ao8 i) (bP6 is)
noncomputable def gOf (K:ae):lY->TG
 | .one i=>ao8 i
 | .tup is=>bQ0 K is.length (bP6 is)
theorem bm8 {φ:Nat->Addr}{H:Hp}{n:Nat}{ρ ρ':lw}{σ:St}{i:Nat}{d:lu}{v:V}(E:RE Γ φ H n ρ σ)(r:RV Γ φ H d v)(b:d.bnd n=true)(h:mH ρ i d=some ρ'):RE Γ φ H n ρ' (σ.set i (some v)):=by
 unfold mH at h
 split at h
 ·rename_i y
  cases h
  refine⟨by rw[a0,a0];exact E.len,λ j e hj=>?_⟩
  by_cases hij:j=i
  ·subst hij
   rw[aV y]at hj
   cases hj
   exact⟨b,v,by rw[aV (by rw[<-E.len];exact y)],r⟩
  ·rw[aR (bJ hij)]at hj
   obtain⟨F,w,z,C⟩:=E.val j e hj
   exact⟨F,w,by rw[aR (bJ hij)];exact z,C⟩
 ·cases h
theorem bG3 {φ:Nat->Addr}{H:Hp}{n:Nat}{Q:St->Hp->Prop}:∀(is:List Nat) (l:List lu) (y:List V) (ρ ρ':lw) (σ:St),RE Γ φ H n ρ σ->RVL Γ φ H l y->lv n l=true->mW ρ is l=some ρ'->(∀ σ',RE Γ φ H n ρ' σ'->Q σ' H)->bP6 is y σ H Q
 | [],[],y,ρ,ρ',σ,E,r,_,h,k=>by
  cases h
  exact⟨r.unnil,k σ E⟩
 | [],d::l,_,_,_,_,_,_,_,h,_=>by cases h
 | i::is,[],_,_,_,_,_,_,_,h,_=>by cases h
 | i::is,d::l,y,ρ,ρ',σ,E,r,b,h,k=>by
  have h:(mH ρ i d).bind (λ ρ=>mW ρ is l)=some ρ':=h
  obtain⟨x,z,rfl,F,C⟩:=r.uncons
  unfold lv at b
  rw[aj]at b
  cases e:mH ρ i d with
  | none=>rw[e]at h;cases h
  | some ρ1 =>
   rw[e]at h
   exact⟨x,z,rfl,bG3 is l z ρ1 ρ' _ (bm8 E F b.1 e) C b.2 h k⟩
theorem aR0 {l:List lu}:∀ {is:List Nat} {ρ ρ':lw},mW ρ is l=some ρ'->is.length=l.length:=by
 induction l with
 | nil=>intro is ρ ρ' h;cases is with
  | nil=>rfl
  | cons i is=>cases h
 | cons d l ih=>intro is ρ ρ' h;cases is with
  | nil=>cases h
  | cons i is =>
   have h:(mH ρ i d).bind (λ ρ=>mW ρ is l)=some ρ':=h
   cases e:mH ρ i d with
   | none=>rw[e]at h;cases h
   | some ρ1=>rw[e]at h;rw[aQ,aQ,ih h]
theorem br4 {φ:Nat->Addr}{H:Hp}{n:Nat}{Q:St->Hp->Prop}{tg:lY}{d:lu}{v:V}{ρ ρ':lw}{σ:St}(E:RE Γ φ H n ρ σ)(r:RV Γ φ H d v)(b:d.bnd n=true)(h:lN ρ tg d=some ρ')(k:∀ σ',RE Γ φ H n ρ' σ'->Q σ' H):gOf Γ.K tg v σ H Q:=by
 cases tg with
 | one i=>exact k _ (bm8 E r b h)
 | tup is =>
  cases d with
  | tup l =>
   have h:mW ρ is l=some ρ':=h
   obtain⟨a,y,rfl,z,d1⟩:=r.tupE
   unfold ly at b
   exact⟨a,y,rfl,z,by rw[d1.length,aR0 h],bG3 is l y ρ ρ' σ E d1 b h k⟩
  | _=>cases h
def Off (φ:Nat->Addr)(s:lr)(b:Addr):Prop:=∀(i:Nat) (ob:lP),s[i]?=some ob->isMut ob=true->φ i≠b
theorem Off.mono {φ φ':Nat->Addr}{s s':lr}{H H':Hp}{b:Addr}{o:HO}(h:Off φ s b)(g:Gr φ s H φ' s' H')(hb:H b=some o):Off φ' s' b:=λ i ob e m z=>by
 by_cases C:i<s.length
 ·obtain⟨y,F⟩:∃ y,s[i]?=some y:=⟨s[i],ai C⟩
  exact h i y F (g.mu i y ob F e m) (by rw[<-g.w.map i C];exact z)
 ·have:=g.new i (by omega) (ac.mp e).1
  rw[z,hb]at this;cases this
theorem Off.new {φ:Nat->Addr}{s:lr}{H:Hp}{b:Addr}(r:Rp Γ φ H s)(h:H b=none):Off φ s b:=λ i ob e m z=>by
 obtain⟨u,y,_⟩:=(r.obj i ob e).there m
 rw[z,h]at y;cases y
theorem Rp.foreign {φ:Nat->Addr}{s:lr}{H:Hp}{b:Addr}{ys h:List V}(r:Rp Γ φ H s)(hb:H b=some (.lst ys))(ho:Off φ s b):Rp Γ φ (upd H b (.lst h)) s:=by
 have g:Gw φ s.length H φ (upd H b (.lst h)):=⟨λ _ _=>rfl,(Kp.refl H).put hb rfl⟩
 exact⟨r.inj,λ i o e=>(r.obj i o e).mono g (r.wf i o e) λ m u y=>by rw[za (ho i o e m)];exact y,r.wf,r.tab.put hb⟩
theorem Gr.foreign {φ φ':Nat->Addr}{s s':lr}{H H':Hp}{b:Addr}{ys h:List V}(g:Gr φ s H φ' s' H')(h0:H b=none)(hb:H' b=some (.lst ys)):Gr φ s H φ' s' (upd H' b (.lst h)):=by
 have ne:∀ c o,H c=some o->c≠b:=λ c o e=>zn e h0
 refine⟨⟨g.w.map,λ c o e f=>?_⟩,g.le,g.new,g.kd,λ c hc=>?_,λ c o e y z=>?_⟩
 ·rw[za (ne c o e)];exact g.w.kp c o e f
 ·unfold upd;split
  ·simp
  ·exact g.st c hc
 ·rw[za (ne c o e)];exact g.fr c o e y z
def bC7 (Γ:Gm)(φ:Nat->Addr)(s:lr)(H:Hp)(l:List lu)(s':lr)(Q:VK):Prop :=
 ∀ p ys φ' H',Gr φ s H φ' s' H'->s.length<=s'.length->lv s'.length l=true->H' p=some (.lst ys)->H p=none->Off φ' s' p->RVL Γ φ' H' l ys->Rp Γ φ' H' s'->Q (.ref p) H'
def TFv (Γ:Gm)(m:lw->lr->lz (List lu)):TE:=λ σ H Q=>∃ φ ρ s l s',RE Γ φ H s.length ρ σ/\Rp Γ φ H s/\m ρ s=.ok l s'/\bC7 Γ φ s H l s' Q
theorem aU1 {m:lw->lr->lz (List lu)}{σ:St}{H:Hp}{Q:VK}(h:TEv Γ (λ ρ s=>(m ρ s).bind λ l s=>l7 (.lst l) s) σ H Q):TFv Γ m σ H Q:=by
 obtain⟨φ,ρ,s,d,s',E,R,J,q⟩:=h
 obtain⟨l,s1,e1,J⟩:=aa0 J
 obtain⟨rfl,rfl⟩:=zR J
 refine⟨φ,ρ,s,l,s1,E,R,e1,λ p ys φ' H' g hl hb hp h0 ho r C=>?_⟩
 have gw:Gw φ' s1.length H' (λ i=>if i=s1.length then p else φ' i) H':=⟨λ i y=>if_neg (aw y),Kp.refl _⟩
 have key:∀(i:Nat) (z:lP),(s1++[DV.O.lst l])[i]?=some z->(i<s1.length/\s1[i]?=some z)\/(i=s1.length/\z=.lst l):=λ i z e=>by
  rcases eY i s1.length with h|h|h
  ·rw[aN h]at e;exact .inl ⟨h,e⟩
  ·subst h;simp at e;exact .inr ⟨rfl,e.symm⟩
  ·rw[cV (by simp;omega)]at e;cases e
 have G:Gr φ s H (λ i=>if i=s1.length then p else φ' i) (s1++[.lst l]) H':=by
  refine⟨⟨λ i y=>by show(if i=s1.length then p else φ' i)=_;rw[if_neg (by omega)];exact g.w.map i y,g.w.kp⟩,by simp;omega,λ i h1 h2=>?_,λ i o z e e'=>?_,g.st,g.fr⟩
  ·by_cases y:i=s1.length
   ·show H (if i=s1.length then p else φ' i)=none
    rw[if_pos y];exact h0
   ·show H (if i=s1.length then p else φ' i)=none
    rw[if_neg y];exact g.new i h1 (by simp at h2;omega)
  ·rcases key i z e' with⟨_,e2⟩|⟨y,_⟩
   ·exact g.kd i o z e e2
   ·have:=(ac.mp e).1;omega
 have P:Rp Γ (λ i=>if i=s1.length then p else φ' i) H' (s1++[.lst l]):=by
  refine⟨λ i j Z Y F ej mi mj e=>?_,λ i o e=>?_,λ i o e=>?_,C.tab⟩
  ·rcases key i Z F with⟨y,F⟩|⟨y,_⟩<;>rcases key j Y ej with⟨hj,ej⟩|⟨hj,_⟩
   ·rw[if_neg (aw y),if_neg (aw hj)]at e
    exact C.inj i j Z Y F ej mi mj e
   ·rw[if_neg (aw y),if_pos hj]at e
    exact absurd e (ho i Z F mi)
   ·rw[if_neg (aw hj),if_pos y]at e
    exact absurd e.symm (ho j Y ej mj)
   ·rw[y,hj]
  ·rcases key i o e with⟨y,e⟩|⟨y,rfl⟩
   ·show RO Γ _ _ (if i=s1.length then p else φ' i) o
    rw[if_neg (aw y)]
    exact(C.obj i o e).mono gw (C.wf i o e) λ _ u hu=>hu
   ·show RO Γ _ _ (if i=s1.length then p else φ' i) _
    rw[if_pos y]
    exact⟨ys,hp,RVL.monoW gw l ys hb r⟩
  ·rw[aC,dU]
   rcases key i o e with⟨_,e⟩|⟨_,rfl⟩
   ·exact zX (c8 _) _ (C.wf i o e)
   ·exact zX (c8 _) _ (by unfold lA;exact hb)
 exact q (.ref p) _ H' G (by simp;omega) (by unfold ly;simp) (by unfold RV;simp) P
theorem bO6 {φ:Nat->Addr}{H:Hp}{n:Nat}{ρ:lw}{σ:St}(E:RE Γ φ H n ρ σ)(h:List (Option Nat)):RE Γ φ H n (mO ρ h) (aA7 h σ):=by
 refine⟨by unfold mO aA7;simp,λ i d e=>?_⟩
 unfold mO at e
 rw[aE]at e
 cases q:h[i]? with
 | none=>rw[q]at e;cases e
 | some o =>
  rw[q]at e
  cases o with
  | none=>cases e
  | some j =>
   have e':(ρ[j]?).join=some d:=ay e
   have ej:ρ[j]?=some (some d):=by
    cases q2:ρ[j]? with
    | none=>rw[q2]at e';cases e'
    | some o2=>rw[q2]at e';exact congrArg some e'
   obtain⟨b,v,z,y⟩:=E.val j d ej
   refine⟨b,v,?_,y⟩
   unfold aA7
   rw[aE,q]
   show some ((σ[j]?).join)=_
   rw[z];rfl
theorem aQ8 {mI:lw->lr->lz mN}{mc me:lw->lr->lz lu}{tg:lY}{F:List (Option Nat)}{σ:St}{H:Hp}{Q:VK}
  (h:TFv Γ (λ ρ s=>(mI ρ s).bind λ q s0=>if q.its.length<=lB then mJ (λ s=>l9 s0 s q.src) (λ d ρ s=>match lN ρ tg d with
   | some ρ=>lF (mc ρ s) λ k s=>if k then(me ρ s).bind λ v s=>.ok (some v,ρ) s else .ok (none,ρ) s
   | none=>.bad) q.its (mO ρ F) s0 else .bad) σ H Q):tComp F (TIv Γ mI) (gOf Γ.K tg) (TTv Γ mc) (TEv Γ me) σ H Q:=by
 obtain⟨φ,ρ,s,l,s',E,R,hm,k⟩:=h
 obtain⟨q,s0,e1,hm⟩:=aa0 hm
 split at hm
 case isFalse=>exact fb hm
 rename_i b0
 refine⟨φ,ρ,s,q,s0,E,R,e1,λ J φ1 H1 g1 l1 b1 R1 wk D hD=>?_⟩
 have h0:H D=none:=by
  cases e:H D with
  | none=>rfl
  | some o=>exact absurd hD (g1.st D (by rw[e];simp))
 refine⟨λ i m σ' H'=>∃ φ' ρ' t y ys rest,Gr φ1 s0 H1 φ' t H'/\Rp Γ φ' H' t/\RE Γ φ' H' t.length ρ' σ'/\H' D=some (.lst ys)/\Off φ' t D/\RVL Γ φ' H' y ys/\lv t.length y=true/\y.length<=i/\i<=q.its.length/\m=q.its.length - i /\
  mJ (λ s=>l9 s0 s q.src) (λ d ρ s=>match lN ρ tg d with
   | some ρ=>lF (mc ρ s) λ k s=>if k then(me ρ s).bind λ v s=>.ok (some v,ρ) s else .ok (none,ρ) s
   | none=>.bad) (q.its.drop i) ρ' t=.ok rest s'/\l=y++rest,⟨q.its.length,?_⟩,?_⟩
 ·obtain⟨g2,R2⟩:=R1.same (H':=upd H1 D (.lst [])) ((ad9.refl H1).new hD)
  exact⟨φ1,mO ρ F,s0,[],[],l,g2,R2,bO6 ((E.mono g1 l1).mono g2 (ak _)) F,zb,Off.new R1 hD,.nil,rfl,ak _,cu _,by simp,by rw[eW];exact hm,rfl⟩
 ·rintro i m σ' H' ⟨φ',ρ',t,y,ys,rest,g,R',E',hy,a3,ra,ba,b2,hil,rfl,hc,hl⟩
  have C:=g.le
  rcases jP i q.its.length with hlt|hge
  ·have hd:q.its[i]?=some q.its[i]:=ai hlt
   rw[ef hlt]at hc
   unfold mJ at hc
   split at hc
   case isFalse=>exact fb hc
   rename_i a2
   obtain⟨a6,a7⟩:=(wk φ' H' t g C R' a2 i).1 hlt
   refine .inr ⟨a6,_,λ σ2 H2 n=>⟨q.its.length - (i+1),by omega,n⟩,λ x H2 a9=>?_⟩
   obtain⟨sm,rv⟩:=a7 x H2 a9
   obtain⟨g2,R2⟩:=R'.same sm
   have rd:=rv _ hd
   have bd:(q.its[i]).bnd t.length=true:=zm C _ (ak2 b1 hd)
   obtain⟨p,t3,hs,hc⟩:=aa0 hc
   obtain⟨r2,t4,a4,hc⟩:=aa0 hc
   cases hb:lN ρ' tg q.its[i]with
   | none=>rw[hb]at hs;cases hs
   | some ρ3 =>
    rw[hb]at hs
    refine br4 (E'.mono g2 (ak _)) rd bd hb λ σ3 E3=>?_
    obtain⟨c,t1,ec,hs⟩:=zD hs
    refine⟨φ',ρ3,t,c,t1,E3,R2,ec,λ φ2 H4 g4 l4 R4=>?_⟩
    have a5:H2 D=some (.lst ys):=sm _ _ hy
    have a1:H4 D=some (.lst ys):=g4.fr D _ a5 (by nofun) a3
    have G:Off φ2 t1 D:=a3.mono g4 a5
    have G4:=(g.trans g2 C).trans g4 C
    cases c with
    | true =>
     rw[if_pos rfl]at hs
     refine cc2 ?_
     obtain⟨v,t2,ev,hs⟩:=aa0 hs
     cases hs
     refine⟨φ2,ρ3,t1,v,t3,E3.mono g4 l4,R4,ev,λ w φ3 H5 g5 l5 b5 r5 R5=>?_⟩
     have Y:H5 D=some (.lst ys):=g5.fr D _ a1 (by nofun) G
     have Z:Off φ3 t3 D:=G.mono g5 a1
     refine⟨ys,Y,?_,?_⟩
     ·rw[ra.length]
      have:=qa
      omega
     ·have gw:Gw φ3 t3.length H5 φ3 (upd H5 D (.lst (ys++[w]))):=⟨λ _ _=>rfl,(Kp.refl H5).put Y rfl⟩
      have G5:=G4.trans g5 (am C l4)
      have GG:=g2.trans (g4.trans g5 l4) (ak _)
      have a8:RVL Γ φ3 H5 y ys:=RVL.mono GG _ _ ba ra
      have bb:lv t3.length (y++[v])=true:=zu (aa3 GG.le _ ba) (by unfold lv;rw[b5];rfl)
      refine⟨φ3,ρ3,t3,y++[v],ys++[w],r2,G5.foreign hD Y,R5.foreign Y Z,?_,zb,Z,RVL.monoW gw _ _ bb (a8.append (.cons r5 .nil)),bb,by simp;omega,hlt,rfl,?_,?_⟩
      ·have E5:=(E3.mono g4 l4).mono g5 l5
       exact⟨E5.len,λ j e hj=>by
        obtain⟨h1,z,h2,h3⟩:=E5.val j e hj
        exact⟨h1,z,h2,RV.monoW gw _ _ h1 h3⟩⟩
      ·cases hc;exact a4
      ·cases hc;rw[hl];simp
    | false =>
     rw[if_neg aL]at hs
     refine ca8 ?_
     cases hs
     have GG:=g2.trans g4 (ak _)
     exact⟨φ2,ρ3,t3,y,ys,r2,G4,R4,E3.mono g4 l4,a1,G,RVL.mono GG _ _ ba ra,aa3 l4 _ ba,by omega,hlt,rfl,by cases hc;exact a4,by cases hc;exact hl⟩
  ·have hi:i=q.its.length:=by omega
   rw[ik hge]at hc
   unfold mJ at hc
   split at hc
   case isFalse=>exact fb hc
   rename_i a2
   cases hc
   refine .inl ⟨(wk φ' H' s' g C R' a2 i).2 hge,?_⟩
   rw[aZ]at hl
   subst hl
   exact k D ys φ' H' (g1.trans g l1) (am l1 C) ba hy h0 a3 ra R'
variable {Γ:Gm} {X:Cx}
noncomputable def bY4 (Γ:Gm)(φ:Nat->Addr)(H:Hp)(n:Nat)(D:Ends):lZ->Prop
 | .next ρ=>∀ σ,RE Γ φ H n ρ σ->D.nx σ H
 | .ret d=>∀ v,d.bnd n=true->RV Γ φ H d v->D.rt v H
 | .cont ρ=>∀ σ,RE Γ φ H n ρ σ->D.ct σ H
 | .brk ρ=>∀ σ,RE Γ φ H n ρ σ->D.bk σ H
def an5 (Γ:Gm)(φ:Nat->Addr)(s:lr)(H:Hp)(c:lZ)(s':lr)(D:Ends):Prop :=
 ∀ φ' H',Gr φ s H φ' s' H'->s.length<=s'.length->Rp Γ φ' H' s'->bY4 Γ φ' H' s'.length D c
def TSv (Γ:Gm)(m:lw->lr->lz lZ):TS:=λ D σ H=>∃ φ ρ s c s',RE Γ φ H s.length ρ σ/\Rp Γ φ H s/\m ρ s=.ok c s'/\an5 Γ φ s H c s' D
theorem PS.imp {e:Stmt}{t t':TS}(h:PS X e t)(i:∀ D σ H,t' D σ H->t D σ H):PS X e t':=λ y s σ H Q I q=>h y s σ H Q I (i Q σ H q)
theorem PSs.imp {e:List Stmt}{t t':TS}(h:PSs X e t)(i:∀ D σ H,t' D σ H->t D σ H):PSs X e t':=λ y s σ H Q I q=>h y s σ H Q I (i Q σ H q)
theorem an5.trans {φ φ1:Nat->Addr}{s s1 s':lr}{H y:Hp}{c:lZ}{D:Ends}(h:an5 Γ φ s H c s' D)(g:Gr φ s H φ1 s1 y)(l:s.length<=s1.length):an5 Γ φ1 s1 y c s' D :=
 λ φ' H' g' z p=>h φ' H' (g.trans g' l) (am l z) p
theorem an5.here {φ:Nat->Addr}{s:lr}{H:Hp}{c:lZ}{D:Ends}(h:an5 Γ φ s H c s D)(p:Rp Γ φ H s):bY4 Γ φ H s.length D c:=h φ H (Gr.refl φ s H) (ak _) p
variable {D:Ends} {σ:St} {H:Hp}
theorem br0 {m:lw->lr->lz lZ}(y:∀ ρ s,m ρ s=.ok (.next ρ) s)(h:TSv Γ m D σ H):bC6 D σ H:=by
 obtain⟨φ,ρ,s,c,s',E,R,e,q⟩:=h
 rw[y]at e;cases e
 exact q.here R σ E
theorem bB6 {m:lw->lr->lz lu}(h:TSv Γ (λ ρ s=>(m ρ s).bind λ d s=>.ok (.ret d) s) D σ H):bY2 (TEv Γ m) D σ H:=by
 obtain⟨φ,ρ,s,c,s',E,R,e,q⟩:=h
 obtain⟨x,s1,e1,e⟩:=aa0 e
 cases e
 exact⟨φ,ρ,s,x,_,E,R,e1,λ v φ1 y g1 l1 z r1 R1=>q φ1 y g1 l1 R1 v z r1⟩
theorem bz9 {m:lw->lr->lz lu}(h:TSv Γ (λ ρ s=>(m ρ s).bind λ _ s=>.ok (.next ρ) s) D σ H):bK4 (TEv Γ m) D σ H:=by
 obtain⟨φ,ρ,s,c,s',E,R,e,q⟩:=h
 obtain⟨x,s1,e1,e⟩:=aa0 e
 cases e
 exact⟨φ,ρ,s,x,_,E,R,e1,λ v φ1 y g1 l1 z r1 R1=>q φ1 y g1 l1 R1 σ (E.mono g1 l1)⟩
theorem aT9 {m:lw->lr->lz lu}{tg:lY}(h:TSv Γ (λ ρ s=>(m ρ s).bind λ d s=>match lN ρ tg d with|some ρ=>.ok (.next ρ) s|none=>.bad) D σ H):bc1 (TEv Γ m) (gOf Γ.K tg) D σ H:=by
 obtain⟨φ,ρ,s,c,s',E,R,e,q⟩:=h
 obtain⟨x,s1,e1,e⟩:=aa0 e
 refine⟨φ,ρ,s,x,s1,E,R,e1,λ v φ1 y g1 l1 C r1 R1=>?_⟩
 cases hb:lN ρ tg x with
 | none=>rw[hb]at e;cases e
 | some ρ1 =>
  rw[hb]at e
  cases e
  exact br4 (E.mono g1 l1) r1 C hb λ σ' z=>q φ1 y g1 l1 R1 σ' z
theorem bh4 {m:lw->lr->lz (List lu)}(h:TSv Γ (λ ρ s=>((m ρ s).bind λ l s=>l7 (.lst l) s).bind λ d s=>match lN ρ tg d with|some ρ=>.ok (.next ρ) s|none=>.bad) D σ H):bc1 (TFv Γ m) (gOf Γ.K tg) D σ H :=
 aU1 (aT9 h)
def bO5 (Γ:Gm):bQ5:=λ o i v H Q=>∃ φ s x y d s',Rp Γ φ H s/\RV Γ φ H x o/\RV Γ φ H y i/\RV Γ φ H d v/\x.bnd s.length=true/\y.bnd s.length=true/\d.bnd s.length=true/\DV.setIx x y d s=.ok () s' /\
 ∀ φ' H',Gr φ s H φ' s' H'->s.length<=s'.length->Rp Γ φ' H' s'->Q H'
theorem bc0 {J mo mi:lw->lr->lz lu}(h:TSv Γ (λ ρ s=>(J ρ s).bind λ d s=>(mo ρ s).bind λ x s=>(mi ρ s).bind λ y s=>(DV.setIx x y d s).bind λ _ s=>.ok (.next ρ) s) D σ H) :
  bc1 (TEv Γ J) (bZ2 (TEv Γ mo) (TEv Γ mi) (bO5 Γ)) D σ H:=by
 obtain⟨φ,ρ,s,c,s',E,R,e,q⟩:=h
 obtain⟨d,s1,e1,e⟩:=aa0 e
 obtain⟨x,s2,e2,e⟩:=aa0 e
 obtain⟨y,s3,e3,e⟩:=aa0 e
 obtain⟨u,s4,e4,e⟩:=aa0 e
 cases e
 refine⟨φ,ρ,s,d,s1,E,R,e1,λ v1 φ1 H1 g1 l1 Z r1 R1=>?_⟩
 refine⟨φ1,ρ,s1,x,s2,E.mono g1 l1,R1,e2,λ v2 φ2 H2 Y F b2 r2 R2=>?_⟩
 have G2:=g1.trans Y l1
 have L2:=am l1 F
 refine⟨φ2,ρ,s2,y,s3,E.mono G2 L2,R2,e3,λ v3 φ3 H3 C z b3 r3 R3=>?_⟩
 refine⟨φ3,s3,x,y,d,_,R3,RV.mono C x v2 b2 r2,r3,RV.mono (Y.trans C F) d v1 Z r1,zm z x b2,b3,zm (am F z) d Z,e4,λ φ4 H4 g4 l4 R4=>?_⟩
 have G:=G2.trans C L2
 have L3:=am L2 z
 exact q φ4 H4 (G.trans g4 L3) (am L3 l4) R4 σ (E.mono (G.trans g4 L3) (am L3 l4))
theorem bN3 (hu:X.A.units+1<cLine):bS7 X (bO5 Γ):=by
 intro a1 sh σ H o i v ov iv u Q I ro ri rv h
 obtain⟨φ,s,x,y,d,s',R,rx,ry,rd,bx,Y,bd,C,q⟩:=h
 cases x with
 | ref r =>
  have C:(match s[r]? with
   | some (.lst l)=>(match y with
    | .int i=>(match mx l.length i with|some j=>DV.R.ok () (s.set r (.lst (l.set j d)))|none=>.bad)
    | _=>.bad)
   | some (.dic l)=>if y.key&&decide (l.length<lB)then .ok () (s.set r (.dic (lH y d l)))else .bad
   | some (.dit l)=>if y.keyT&&decide (l.length<lB)then .ok () (s.set r (.dit (lH y d l)))else .bad
   | _=>.bad)=.ok () s':=C
  cases e:s[r]? with
  | none=>rw[e]at C;cases C
  | some ob =>
   rw[e]at C
   cases ob with
   | lst l =>
    cases y with
    | int k =>
     have C:(match mx l.length k with|some j=>DV.R.ok () (s.set r (.lst (l.set j d)))|none=>.bad)=.ok () s':=C
     cases ej:mx l.length k with
     | none=>rw[ej]at C;cases C
     | some j =>
      rw[ej]at C
      cases C
      obtain⟨xs,h1,F⟩:=R.addr e
      have hb:lv s.length (l.set j d)=true:=aa2.mpr λ z hz=>by
       rcases List.mem_or_eq_of_mem_set hz with h|h
       ·exact aa2.mp (by have:=R.wf r _ e;unfold lA at this;exact this) z h
       ·subst h;exact bd
      refine bf2 a1 sh σ H o i v ov iv u Q I ro ri rv ⟨φ r,xs,k,j,rx.refE,ry.intE,h1,?_,?_⟩
      ·rw[F.length];exact ej
      ·obtain⟨g,Z⟩:=R.set (o:=.lst (l.set j d)) (u:=.lst (xs.set j v)) e rfl hb λ H' g e=>⟨_,e,RVL.monoW g _ _ hb (F.set j rd)⟩
       exact q _ _ g (by simp) Z
    | _=>exact fb C
   | dic l =>
    have C:(if y.key&&decide (l.length<lB)then DV.R.ok () (s.set r (.dic (lH y d l)))else .bad)=.ok () s':=C
    split at C
    case isFalse=>exact fb C
    rename_i hc
    cases C
    rw[aj]at hc
    obtain⟨k,hk⟩:=aj8 hc.1
    have hlt:=of_decide_eq_true hc.2
    obtain⟨G,h1,F⟩:=R.obj r _ e
    have ex:=rx.refE;subst ex
    cases ro
    have ey:=ay9 hk ry;subst ey
    have hb:(DV.O.dic (lH y d l)).bnd s.length=true:=aI7 (R.wf r _ e) Y bd
    have J:lv s.length ((lH y d l).map (·.2))=true:=by
     unfold lA at hb
     rw[aj]at hb
     exact hb.2
    obtain⟨g,Z⟩:=R.set (o:=.dic (lH y d l)) (u:=.dK (ap9 G k v)) e rfl hb λ H' g e=>⟨_,e,RVD.monoW g _ _ J (F.put keyOf_inj hk rd)⟩
    exact ax9 hu I (bz7.k h1 (by rw[F.length];exact aq hlt qa)) ri rv λ s4 I4=>⟨_,I4,q _ _ g (by simp) Z⟩
   | dit l =>
    have C:(if y.keyT&&decide (l.length<lB)then DV.R.ok () (s.set r (.dit (lH y d l)))else .bad)=.ok () s':=C
    split at C
    case isFalse=>exact fb C
    rename_i hc
    cases C
    rw[aj]at hc
    obtain⟨k,hk⟩:=af3 hc.1
    have hlt:=of_decide_eq_true hc.2
    obtain⟨G,h1,F⟩:=R.obj r _ e
    have ex:=rx.refE;subst ex
    cases ro
    obtain⟨kb,ey,a2⟩:=au4 hk ry;subst ey
    have hb:(DV.O.dit (lH y d l)).bnd s.length=true:=ba3 (R.wf r _ e) Y bd
    have J:lv s.length ((lH y d l).map (·.2))=true:=by
     unfold lA at hb
     rw[aj]at hb
     exact hb.2
    obtain⟨g,Z⟩:=R.set (o:=.dit (lH y d l)) (u:=.dT (ap9 G k v)) e rfl hb λ H' g e=>⟨_,e,RVD.monoW g _ _ J (F.put keyT_inj hk rd)⟩
    exact ax9 hu I (bz7.t h1 a2 (by rw[F.length];exact aq hlt qa)) ri rv λ s4 I4=>⟨_,I4,q _ _ g (by simp) Z⟩
   | _=>exact fb C
 | _=>exact fb C
theorem bS0 {mc:lw->lr->lz lu}{z C:lw->lr->lz lZ}(h:TSv Γ (λ ρ s=>lF (mc ρ s) λ k s=>if k then z ρ s else C ρ s) D σ H):bY1 (TTv Γ mc) (TSv Γ z) (TSv Γ C) D σ H:=by
 obtain⟨φ,ρ,s,d,s',E,R,y,q⟩:=h
 obtain⟨c,s1,e1,y⟩:=zD y
 refine⟨φ,ρ,s,c,s1,E,R,e1,λ φ1 F g1 l1 R1=>?_⟩
 cases c with
 | true =>
  rw[if_pos rfl]at y ⊢
  exact⟨φ1,ρ,s1,d,s',E.mono g1 l1,R1,y,q.trans g1 l1⟩
 | false =>
  rw[if_neg aL]at y ⊢
  exact⟨φ1,ρ,s1,d,s',E.mono g1 l1,R1,y,q.trans g1 l1⟩
theorem bE4 {C G:lw->lr->lz lZ}(h:TSv Γ (λ ρ s=>(C ρ s).bind λ c s=>match c with|.next ρ=>G ρ s|c=>.ok c s) D σ H):bY0 (TSv Γ C) (TSv Γ G) D σ H:=by
 obtain⟨φ,ρ,s,c,s',E,R,y,q⟩:=h
 obtain⟨F,s1,e1,y⟩:=aa0 y
 refine⟨φ,ρ,s,F,s1,E,R,e1,λ φ1 z g1 l1 R1=>?_⟩
 cases F with
 | next ρ1=>exact λ σ1 J=>⟨φ1,ρ1,s1,c,s',J,R1,y,q.trans g1 l1⟩
 | ret d=>cases y;exact q φ1 z g1 l1 R1
 | cont ρ=>cases y;exact q φ1 z g1 l1 R1
 | brk ρ=>cases y;exact q φ1 z g1 l1 R1
theorem be2 {mc:lw->lr->lz lu}{z:lw->lr->lz lZ}(h:TSv Γ (DV.whl mc z) D σ H):bl4 (TTv Γ mc) (TSv Γ z) D σ H:=by
 obtain⟨φ,ρ,s,c,s',E,R,y,q⟩:=h
 unfold DV.whl at y
 split at y
 case isFalse=>exact fb y
 rename_i hn
 generalize hn.choose=n at y
 refine⟨λ n σ H=>∃ φ ρ s,RE Γ φ H s.length ρ σ/\Rp Γ φ H s/\DV.qA mc z n ρ s=.ok c s'/\an5 Γ φ s H c s' D,⟨n,φ,ρ,s,E,R,y,q⟩,?_⟩
 clear E R y q hn
 rintro n σ H ⟨φ,ρ,s,E,R,y,q⟩
 cases n with
 | zero=>exact fb y
 | succ n =>
  unfold DV.qA at y
  obtain⟨b,s1,e1,y⟩:=zD y
  refine⟨φ,ρ,s,b,s1,E,R,e1,λ φ1 Y g1 l1 R1=>?_⟩
  cases b with
  | false =>
   rw[if_neg aL]at y ⊢
   cases y
   exact q φ1 Y g1 l1 R1 σ (E.mono g1 l1)
  | true =>
   rw[if_pos rfl]at y ⊢
   obtain⟨F,s2,e2,y⟩:=aa0 y
   refine⟨_,λ σ' H' w=>⟨n,fq n,w⟩,φ1,ρ,s1,F,s2,E.mono g1 l1,R1,e2,λ φ2 H2 J Z R2=>?_⟩
   have G:=g1.trans J l1
   have L:=am l1 Z
   cases F with
   | next ρ1=>exact λ σ1 C=>⟨φ2,ρ1,s2,C,R2,y,q.trans G L⟩
   | cont ρ1=>exact λ σ1 C=>⟨φ2,ρ1,s2,C,R2,y,q.trans G L⟩
   | ret d=>cases y;exact q φ2 H2 G L R2
   | brk ρ=>cases y;exact q φ2 H2 G L R2
theorem bD9 {mI : DV.Env -> DV.Sto -> DV.R DV.Sq} {mb : DV.Env -> DV.Sto -> DV.R DV.Ct} {tg : DV.Tg} (h : TSv Γ (λ ρ s => (mI ρ s).bind λ q s0 => DV.aP1 (λ s => DV.chk s0 s q.src) (λ d ρ s => match DV.ad0 ρ tg d with
      | some ρ => mb ρ s
      | none => .bad) q.its ρ s0) D σ H) : bZ9 (TIv Γ mI) (gOf Γ.K tg) (TSv Γ mb) D σ H := by
  obtain⟨φ, ρ, s, c, s', E, R, hm, k⟩ := h
  obtain⟨q, s0, e1, hm⟩ := aa0 hm
  refine⟨φ, ρ, s, q, s0, E, R, e1, λ J φ1 H1 g1 l1 b1 R1 wk => ?_⟩
  refine⟨λ i m σ' H' => ∃ φ' ρ' t, Gr φ1 s0 H1 φ' t H' /\ Rp Γ φ' H' t /\ RE Γ φ' H' t.length ρ' σ' /\ i <= q.its.length /\ m = q.its.length - i /\
    ng (λ s => l9 s0 s q.src) (λ d ρ s => match lN ρ tg d with
      | some ρ => mb ρ s
      | none => .bad) (q.its.drop i) ρ' t = .ok c s', ⟨q.its.length, ?_⟩, ?_⟩
  · exact⟨φ1, ρ, s0, Gr.refl _ _ _, R1, E.mono g1 l1, cu _, by simp, by rw[eW]; exact hm⟩
  · rintro i m σ' H' ⟨φ', ρ', t, g, R', E', hil, rfl, hc⟩
    have hle := g.le
    rcases jP i q.its.length with hlt|hge
    · have hd : q.its[i]? = some q.its[i] := ai hlt
      rw[ef hlt]at hc
      unfold ng at hc
      split at hc
      case isFalse => exact fb hc
      rename_i hck
      obtain⟨hgo, hy2⟩ := (wk φ' H' t g hle R' hck i).1 hlt
      refine .inr ⟨hgo, _, λ σ2 H2 n => ⟨q.its.length - (i + 1), by omega, n⟩, λ x H2 hyl => ?_⟩
      obtain⟨sm, rv⟩ := hy2 x H2 hyl
      obtain⟨g2, R2⟩ := R'.same sm
      have rd := rv _ hd
      have bd : (q.its[i]).bnd t.length = true := zm hle _ (ak2 b1 hd)
      obtain⟨c1, t3, hs, hc⟩ := aa0 hc
      cases hb : lN ρ' tg q.its[i]with
      | none => rw[hb]at hs; cases hs
      | some ρ3 =>
        rw[hb]at hs
        refine br4 (E'.mono g2 (ak _)) rd bd hb λ σ3 E3 => ?_
        refine⟨φ', ρ3, t, c1, t3, E3, R2, hs, λ φ2 H4 g4 l4 R4 => ?_⟩
        have G4 := (g.trans g2 hle).trans g4 hle
        have L4 := am hle l4
        have GG := g1.trans G4 l1
        cases c1 with
        | next ρ1 => exact λ σ1 E1 => ⟨φ2, ρ1, t3, G4, R4, E1, hlt, rfl, hc⟩
        | cont ρ1 => exact λ σ1 E1 => ⟨φ2, ρ1, t3, G4, R4, E1, hlt, rfl, hc⟩
        | ret d => cases hc; exact k φ2 H4 GG (am l1 L4) R4
        | brk ρ => cases hc; exact k φ2 H4 GG (am l1 L4) R4
    · rw[ik hge]at hc
      unfold ng at hc
      split at hc
      case isFalse => exact fb hc
      rename_i hck
      cases hc
      exact .inl ⟨(wk φ' H' s' g hle R' hck i).2 hge, k φ' H' (g1.trans g l1) (am l1 hle) R' σ' E'⟩
structure Ck where
 N:List Str
 sc:Scope
 lk:String->List Nat->Expr->Bool
noncomputable abbrev ck0 (N:List Str)(sc:Scope):Ck:=⟨N,sc,λ _ _ _=>false⟩
noncomputable def Ck.vis (c:Ck)(x:Str):Bool:=match c.sc.names.lookup x with|some .local=>true|some .cell=>true|some .free=>true|_=>false
noncomputable def Ck.loc (c:Ck)(x:Str):Bool:=match c.sc.names.lookup x with|some .local=>true|some .cell=>true|_=>false
noncomputable def Ck.gl (c:Ck)(x:Str):Bool:=(match c.sc.names.lookup x with|some .globalImplicit=>true|_=>false)&&!(x==("__debug__":Str))&&!decide (x=("__name__":Str))
noncomputable def Ck.var (c:Ck)(i:Nat)(x:Str):Bool:=decide (c.N[i]?=some x)&&c.vis x&&!(x==("__debug__":Str))&&!(x==("__classdict__":Str))
noncomputable def shp:Expr->Bool
 | .Starred ..=>false
 | .Set ..=>false
 | .SetComp ..=>false
 | .DictComp ..=>false
 | .GeneratorExp ..=>false
 | .Slice ..=>false
 | .NamedExpr ..=>false
 | _=>true
noncomputable def aB4:Expr->Bool
 | .ListComp ..=>false
 | .SetComp ..=>false
 | .DictComp ..=>false
 | _=>true
noncomputable def bf0:Expr->Bool
 | .Tuple ..=>false
 | _=>true
noncomputable def aZ6:Expr->Bool
 | .Call _ [] [] _=>false
 | _=>true
noncomputable def mC:DV.Cn->Const->Bool
 | .non,.none=>true
 | .bl b,.bool c=>b==c
 | .int i,.int j=>decide (i=j)
 | .str x,.str y=>decide (y=⟨x.toArray⟩)&&decide (x.length<=1000)
 | _,_=>false
noncomputable def bQ9 (ck:Ck):List Nat->List Expr->Bool
 | [],[]=>true
 | i::is,.Name x _::es=>decide (ck.N[i]?=some x)&&ck.loc x&&bQ9 ck is es
 | _,_=>false
noncomputable def mTg (ck:Ck):lY->Expr->Bool
 | .one i,.Name x _=>decide (ck.N[i]?=some x)&&ck.loc x
 | .tup is,.Tuple es _ _=>bQ9 ck is es
 | _,_=>false
noncomputable def tgN:Expr->List Str
 | .Name x _=>[x]
 | .Tuple es _ _=>es.filterMap λ e=>match e with|.Name x _=>some x|_=>none
 | _=>[]
structure ItT where
 x:Str
 y:Str
 ob:Expr
 sc:Scope
 p1:Pos
 p2:Pos
 p3:Pos
 p4:Pos
 p5:Pos
 p6:Pos
 p7:Pos
 k1:Nat
 k2:Nat
 ap:Pos
 cp:Pos
 pos:Pos
noncomputable def ItT.tg (q:ItT):Expr:=.Tuple [.Name q.x q.p5,.Name q.y q.p6] q.k2 q.p7
noncomputable def ItT.it (q:ItT):Expr:=.Call (.Attribute q.ob "items" q.ap) [] [] q.cp
noncomputable def ItT.text (q:ItT):Expr:=.ListComp (.BinOp (.Name q.x q.p1) .Add (.Tuple [.Name q.y q.p2] q.k1 q.p3) q.p4) [⟨q.tg,q.it,[],0⟩] q.sc q.pos
noncomputable def bQ6:Expr->Option ItT
 | .ListComp (.BinOp (.Name x p1) .Add (.Tuple [.Name y p2] k1 p3) p4) [⟨.Tuple [.Name x' p5,.Name y' p6] k2 p7,.Call (.Attribute ob it ap) [] [] cp,[],z⟩] sc pos=>if x'=x/\y'=y/\it=("items":Str)/\z=0 then some ⟨x,y,ob,sc,p1,p2,p3,p4,p5,p6,p7,k1,k2,ap,cp,pos⟩else none
 | _=>none
noncomputable def ckC (ck:Ck)(tgt:Expr)(caps:List (Option Nat))(scope:Scope):Ck:=⟨tgN tgt++(caps.filterMap id).map λ j=>ck.N.getD j "",scope,λ _ _ _=>false⟩
noncomputable def aE1 (ck:Ck)(tg:lY)(tgt iter:Expr)(caps:List (Option Nat))(scope:Scope):Bool :=
 zJ (ckC ck tgt caps scope).N caps scope ck.N ck.sc&&decide ((ckC ck tgt caps scope).N.Nodup)&&mTg (ckC ck tgt caps scope) tg tgt&&shp iter
noncomputable def biT:lX->Option Str
 | .len=>some "len" | .abs=>some "abs" | .min2=>some "min" | .max2=>some "max" | .int=>some "int" | _=>none
noncomputable def biK:lX->Option (Nat×Str)
 | .isInt=>some (1, "int")|.isBool=>some (2, "bool")|.isStr=>some (3, "str")|.isTup=>some (4, "tuple")|.isList=>some (5, "list")|_=>none
noncomputable def mkT:mZ->Option Str
 | .tuple=>some "tuple" | .list=>some "list" | _=>none
noncomputable def mkF:mZ->Option Str
 | .all=>some "all" | .min=>some "min" | _=>none
noncomputable def mtT:m4->Option (Str×Nat)
 | .append=>some ("append",1)|_=>none
noncomputable def bb5:mz->Bool
 | .nil=>false
 | .ex _ as=>bb5 as
 | .lam _ _ _=>true
 | .fn _ as=>bb5 as
noncomputable def bP9 (ck:Ck)(b:lX)(x:Str)(xs:List Expr)(m1 m2:Bool):Bool:=match biK b with
 | some p=>(match xs with|[_,.Name y _]=>decide (x=("isinstance":Str))&&ck.gl x&&decide (y=p.2)&&ck.gl y&&m2|_=>false)
 | none=>(match xs with|_::_=>decide (biT b=some x)&&ck.gl x&&m1|[]=>false)
noncomputable def bR2 (ck:Ck)(q:ItT):Bool:=aE1 ck (.tup [0,1]) q.tg q.it [none,none] q.sc&&decide (q.x≠q.y)&&decide (q.sc.names.lookup q.x=some .local)&&decide (q.sc.names.lookup q.y=some .local)&&aZ6 q.ob&&(q.ap.endLine==q.cp.line) &&
 (!(q.x==("__debug__":Str))&&!(q.y==("__debug__":Str))&&!(q.x==("__classdict__":Str))&&!(q.y==("__classdict__":Str)))
mutual
noncomputable def mE (ck:Ck):mq->Expr->Bool
 | .var i,E=>match E with|.Name x _=>ck.var i x|_=>false
 | .cst c,E=>match E with|.Constant v _ _=>mC c v|_=>false
 | .glob g,E=>match E with|.Name x _=>decide (x=(g:Str))&&ck.gl x|_=>false
 | .bin op a b,E=>match E with|.BinOp l o r _=>decide (o=bT8 op)&&mE ck a l&&mE ck b r|_=>false
 | .neg a,E=>match E with|.UnaryOp .USub l _=>mE ck a l|_=>false
 | .not a,E=>match E with|.UnaryOp .Not l _=>mE ck a l|_=>false
 | .cmp op a b,E=>match E with|.Compare l [o] [r] _=>decide (o=ap2 op)&&mE ck a l&&mE ck b r|_=>false
 | .chain o p a b c,E=>match E with|.Compare l [o1,o2] [m,r] _=>decide (o1=ap2 o)&&decide (o2=ap2 p)&&mE ck a l&&mE ck b m&&mE ck c r|_=>false
 | .isN a,E=>match E with|.Compare l [.Is] [.Constant .none _ _] _=>mE ck a l|_=>false
 | .notN a,E=>match E with|.Compare l [.IsNot] [.Constant .none _ _] _=>mE ck a l|_=>false
 | .isB _ _,_=>false
 | .notB _ _,_=>false
 | .and a b,E=>match E with
  | .BoolOp .And [l,r] _=>mE ck a l&&mE ck b r
  | .BoolOp .And (l::m::r::es) p=>mE ck a l&&mE ck b (.BoolOp .And (m::r::es) p)
  | _=>false
 | .or a b,E=>match E with
  | .BoolOp .Or [l,r] _=>mE ck a l&&mE ck b r
  | .BoolOp .Or (l::m::r::es) p=>mE ck a l&&mE ck b (.BoolOp .Or (m::r::es) p)
  | _=>false
 | .ite c a b,E=>match E with|.IfExp t l r _=>mE ck c t&&mE ck a l&&mE ck b r|_=>false
 | .tup es,E=>match E with|.Tuple xs _ _=>mEs ck es xs&&decide (xs.length<=1000)|_=>false
 | .lst es,E=>match E with|.List xs _=>mEs ck es xs&&decide (xs.length<=1000)|_=>false
 | .dic ks vs,E=>match E with|.Dict a b _=>(match a,b with|[],[]=>mEs ck ks []&&mEs ck vs []|[some x],[y]=>mEs ck ks [x]&&mEs ck vs [y]|_,_=>false)|_=>false
 | .slL a lo,E=>match E with|.Subscript o (.Slice (some l) none none _) _=>mE ck a o&&mE ck lo l|_=>false
 | .slU a hi,E=>match E with|.Subscript o (.Slice none (some h) none _) _=>mE ck a o&&mE ck hi h|_=>false
 | .slLU _ _ _,_=>false
 | .rev _,_=>false
 | .dicT,E=>match E with|.Dict [] [] _=>true|_=>false
 | .get2 o k d,E=>match E with|.Call (.Attribute ob x ap) [a,b] [] cp=>decide (x=("get":Str))&&aZ6 ob&&(ap.endLine==cp.line)&&mE ck o ob&&mE ck k a&&mE ck d b&&shp a&&shp b|_=>false
 | .ix a b,E=>match E with|.Subscript o i _=>mE ck a o&&mE ck b i|_=>false
 | .call f as,E=>match E with|.Call (.Name x _) xs [] _=>decide (x=(f:Str))&&ck.gl x&&mAs ck as xs|_=>false
 | .callC f as,E=>match E with|.Call (.Name x _) (y::ys) [] _=>decide (x=(f:Str))&&ck.gl x&&bb5 as&&bB1 ck as (y::ys)|_=>false
 | .callV i es,E=>match E with|.Call (.Name x _) (y::ys) [] _=>ck.var i x&&mEs ck es (y::ys)|_=>false
 | .bi b es,E=>match E with|.Call (.Name x _) xs [] _=>bP9 ck b x xs (mEs ck es xs) (mEs ck es (xs.take 1))|_=>false
 | .mk k l,E=>match E with
  | .Call (.Name x _) [a] [] _=>ck.gl x&&shp a&&((decide (mkT k=some x)&&mL ck 2 l a)||(decide (mkF k=some x)&&mL ck 1 l a))
  | .ListComp e gs sc p=>decide (k=.list)&&mL ck 0 l (.ListComp e gs sc p)
  | _=>false
 | .mkD k l d,E=>match E with
  | .Call (.Name x _) [a] [⟨some y,de,_⟩] _=>((decide (k=.max)&&decide (x=("max":Str)))||(decide (k=.min)&&decide (x=("min":Str))))&&decide (y=("default":Str))&&ck.gl x&&shp a&&mL ck 1 l a&&mE ck d de
  | _=>false
 | .meth m o es,E=>match E with
  | .Call (.Attribute ob x ap) xs [] cp=>decide (mtT m=some (x,xs.length))&&aZ6 ob&&(ap.endLine==cp.line)&&mE ck o ob&&mEs ck es xs
  | _=>false
 | .ext o l,E=>match E with
  | .Call (.Attribute ob x ap) [a] [] cp=>decide (x=("extend":Str))&&aZ6 ob&&(ap.endLine==cp.line)&&mE ck o ob&&mL ck 1 l a&&shp a
  | _=>false
 | .extS o e,E=>match E with
  | .Call (.Attribute ob x ap) [a] [] cp=>decide (x=("extend":Str))&&aZ6 ob&&(ap.endLine==cp.line)&&mE ck o ob&&mE ck e a&&shp a
  | _=>false
 | .mks _ _,_=>false
 | .mkDs _ _ _,_=>false
 | .join _ _,_=>false
noncomputable def mEs (ck:Ck):lR->List Expr->Bool
 | .nil,xs=>match xs with|[]=>true|_=>false
 | .cons e es,xs=>match xs with|x::xs=>mE ck e x&&shp x&&mEs ck es xs|_=>false
noncomputable def mAs (ck:Ck):mz->List Expr->Bool
 | .nil,xs=>match xs with|[]=>true|_=>false
 | .ex e es,xs=>match xs with|x::xs=>mE ck e x&&shp x&&mAs ck es xs|_=>false
 | .lam _ _ _,_=>false
 | .fn _ _,_=>false
noncomputable def bB1 (ck:Ck):mz->List Expr->Bool
 | .nil,xs=>match xs with|[]=>true|_=>false
 | .ex e es,xs=>match xs with|x::xs=>mE ck e x&&shp x&&bB1 ck es xs|_=>false
 | .lam id caps es,xs=>match xs with|x::xs=>ck.lk id caps x&&shp x&&bB1 ck es xs|_=>false
 | .fn _ _,_=>false
noncomputable def mI (ck:Ck)(tgt:Expr):DV.I->Expr->Bool
 | .rng1 a,E=>match E with|.Call (.Name x _) [l] [] _=>decide (x=("range":Str))&&ck.gl x&&mE ck a l&&shp l|_=>false
 | .rng2 _ _,_=>false
 | .seq e,x=>mE ck e x&&shp x
 | .rng3 _ _ _,_=>false
 | .enum (.seq _),_=>false
 | .zip (.seq _) (.seq _),_=>false
 | .enum _,_=>false
 | .zip _ _,_=>false
 | .items _,_=>false
noncomputable def mL (ck:Ck)(k:Nat):DV.L->Expr->Bool
 | .comp tg it e caps,E=>match E with|.ListComp elt [⟨tgt,iter,[],z⟩] scope _=>decide (z=0)&&aE1 ck tg tgt iter caps scope&&mI ck tgt it iter&&mE (ckC ck tgt caps scope) e elt|_=>false
 | .compIf tg it c e caps,E=>match E with|.ListComp elt [⟨tgt,iter,[i],z⟩] scope _=>decide (z=0)&&aE1 ck tg tgt iter caps scope&&mI ck tgt it iter&&mE (ckC ck tgt caps scope) c i&&mE (ckC ck tgt caps scope) e elt|_=>false
 | .disp es,E=>match E with|.List xs _=>decide (1<=k)&&mEs ck es xs&&decide (xs.length<=1000)|_=>false
 | .seq e,x=>decide (k=2)&&mE ck e x
 | .itm e,E=>match bQ6 E with|some q=>decide (1<=k)&&bR2 ck q&&mE ck e q.ob|none=>false
end
theorem ff {p:Prop}(h:false=true):p:=Bool.noConfusion h
noncomputable def bx3:bp->Bool
 | ⟨[], args, none, [], [], none, []⟩ => args.all λ y => y.annotation.isNone
 | _=>false
noncomputable def ca0:List Stmt->Option (Str×bp×Expr×Pos×Scope×Pos×List Stmt)
 | .FunctionDef nm params [.Return (some b) rp] [] none [] scope none nm' pos::xs=>if nm'=nm then some (nm,params,b,rp,scope,pos,xs)else none
 | _=>none
noncomputable def bZ7 (nm:Str):List Stmt->Option (Str×Pos×Expr×Pos×Pos×Pos)
 | [.Return (some (.Call (.Name g gp) [a,.Name x p2] [] cp)) rp2]=>if x=nm then some (g,gp,a,p2,cp,rp2)else none
 | _=>none
noncomputable def bX5:nu->m5->Option (Nat×String×mq×String×List Nat)
 | .und i,.cons (.ret (.callC g (.ex e (.lam id caps .nil)))) .nil=>some (i,g,e,id,caps)
 | _,_=>none
noncomputable def bL7 (ck:Ck)(s:nu)(ss:m5)(S:List Stmt):Bool :=
 (bX5 s ss).any λ d=>(ca0 S).any λ q=>(bZ7 q.1 q.2.2.2.2.2.2).any λ r =>
  decide (ck.N[d.1]?=some q.1)&&ck.loc q.1&&ck.var d.1 q.1&&ck.lk d.2.2.2.1 d.2.2.2.2 (.NamedExpr (.Name q.1 q.2.2.2.1) (.Lambda q.2.1 q.2.2.1 q.2.2.2.2.1 q.2.2.2.2.2.1) q.2.2.2.2.2.1)&&decide (r.1=(d.2.1:Str))&&ck.gl r.1&&mE ck d.2.2.1 r.2.2.1&&shp r.2.2.1&&bx3 q.2.1
mutual
noncomputable def mS (ck:Ck):nu->Stmt->Bool
 | .asg tg e,S=>match S with
  | .Assign [t] v _=>mTg ck tg t&&mE ck e v&&(match tg with|.one _=>true|.tup _=>bf0 v&&aB4 v)
  | _=>false
 | .setIx o i e,S=>match S with|.Assign [.Subscript ob ix _] v _=>mE ck o ob&&mE ck i ix&&mE ck e v&&aB4 v&&bf0 v|_=>false
 | .aug _ _,_=>false
 | .ex e,S=>match S with|.Expr v _=>mE ck e v&&aB4 v|_=>false
 | .ret e,S=>match S with|.Return (some v) _=>mE ck e v|_=>false
 | .retN,_=>false
 | .ite c a b,S=>match S with|.If t l r _=>mE ck c t&&mSs ck a l&&mSs ck b r|_=>false
 | .whl c b,S=>match S with|.While t l [] _=>mE ck c t&&mSs ck b l|_=>false
 | .for_ tg it b,S=>match S with|.For tgt iter l [] _=>mTg ck tg tgt&&mI ck tgt it iter&&mSs ck b l|_=>false
 | .pass,_=>false
 | .cont,_=>false
 | .brk,_=>false
 | .raise,_=>true
 | .und _,_=>false
noncomputable def mSs (ck:Ck):m5->List Stmt->Bool
 | .nil,xs=>match xs with|[]=>true|_=>false
 | .cons s ss,xs=>match xs with|x::xs=>bL7 ck s ss (x::xs)||(mS ck s x&&mSs ck ss xs)|_=>false
end
theorem ay3 {y:Ck}{e:mq}{E:Expr}(h:mE y e E=true):shp E=true:=by
 cases E<;>first|rfl|(exfalso;cases e<;>exact ff h)
theorem bE3 {z:Ck}{y:Expr}{e:DV.I}{E:Expr}(h:mI z y e E=true):shp E=true:=by
 cases e with
 | seq e=>have h:(mE z e E&&shp E)=true:=h;rw[aj]at h;exact h.2
 | enum a=>cases E<;>first|rfl|(exfalso;cases a<;>exact ff h)
 | zip a b=>cases E<;>first|rfl|(exfalso;cases a<;>first|exact ff h|(cases b<;>exact ff h))
 | _=>cases E<;>first|rfl|exact ff h
theorem zd {e:Expr}{es:List Expr}{env:Env}(h:shp e=true):bn (e::es) env=(false,eval e env)::bn es env:=by
 cases e<;>first|rfl|cases h
theorem zq {env:Env}{pos:Pos}:∀ {es:List Expr},(∀ e∈es,shp e=true)->(dS pos (bn es env)).any (·.1)=false/\(dS pos (bn es env)).all (λ x=>!x.1)=true
 | [],_=>⟨rfl,rfl⟩
 | e::es,h=>by
  have C:=zd (es:=es) (env:=env) (h e (aB ..))
  obtain⟨y,z⟩:=zq (env:=env) (pos:=pos) (es:=es) λ x hx=>h x (av _ hx)
  rw[C]
  unfold dS at y z ⊢
  simp only[aH,gD,fx,y,z]
  exact⟨rfl,rfl⟩
theorem aG0 {e:Expr}{env:Env}(h:shp e=true)(x:Value):dW e env x=pure x:=by
 cases e<;>first|rfl|cases h
theorem an2 {e:Expr}{op:CmpOp}(h:shp e=true):db op e=false:=by
 cases e<;>first|rfl|cases h
theorem at0 {e:Expr}{t:Option Expr}{l:Nat}{env:Env}(h:aB4 e=true):fU e t l env=pure false:=by
 cases e<;>first|rfl|cases h
theorem ah4 {e:Expr}{f:Str}{env:Env}(h:aZ6 e=true):dh e f env (eval e env)=eval e env:=by
 cases e with
 | Call g a k p =>
  cases g with
  | Name x p' =>
   cases a with
   | nil=>cases k with
    | nil=>cases h
    | cons _ _=>rfl
   | cons _ _=>rfl
  | _=>rfl
 | _=>rfl
theorem aO3 {es:List Expr}{k:Nat}{p:Pos}{e:Expr}{env:Env}(h:bf0 e=true):jh [.Tuple es k p] e env=pure none:=by
 cases e<;>first|rfl|cases h
theorem aN7 {o i:Expr}{p:Pos}{e:Expr}{env:Env}(h:bf0 e=true):jh [.Subscript o i p] e env=pure none:=by
 cases e<;>first|rfl|cases h
theorem aO5 {e:Expr}(h:shp e=true):aR5 e:=by
 intro o i
 cases e<;>first|rfl|cases h
def spV (Γ:Gm)(c:List lu->lr->lz lu):Sp:=λ vs H Q _=>rCl Γ c vs H Q
noncomputable def bNames:List Str:=["len", "abs", "min", "max", "int", "isinstance", "bool", "str", "tuple", "list", "range", "sum", "all", "any", "sorted", "zip", "enumerate", "ord"]
def spL (Γ:Gm)(c:List lu->List lu->lr->lz lu)(cap:List V):Sp:=λ vs H Q _=>∃ φ s cs l d s',Rp Γ φ H s/\RVL Γ φ H l vs/\RVL Γ φ H cs cap/\lv s.length l=true/\lv s.length cs=true/\c cs l s=.ok d s'/\ad6 Γ φ s H d s' Q
noncomputable def LamI.own (J:LamI):Str:=match J.nm with|none => "<lambda>" | some p=>p.1
noncomputable def lamText (J:LamI)(params:bp)(body:Expr)(scope:Scope)(pos:Pos):Expr:=match J.nm with
 | none=>.Lambda params body scope pos
 | some p=>.NamedExpr (.Name p.1 p.2) (.Lambda params body scope pos) pos
structure LamHere (Γ:Gm)(X:Cx)(N:List Str)(id:String)(caps:List Nat)(params:bp)(body:Expr)(scope:Scope)(c P:Addr)(J:LamI):Prop where
 code:X.env.code=.ref c
 hd:bZ X.base c P
 bm:BM X.mg X.base
 ck:lamCheck scope X.env.scope=true
 df:kD params X.env=([],[])
 lg:Γ.lg id J
 q:J.qual=X.env.qual++J.own
 p:J.params=params
 b:J.body=body
 s:J.scope=scope
 len:J.fr.length=caps.length
 at_:∀(i j:Nat) (x:Str),caps[i]?=some j->J.fr[i]?=some x->N[j]?=some x
 fr:∀ x∈J.fr,scope.names.lookup x=some .free
 cl:∀ x,scope.names.lookup x=some .free->∃ c,X.env.cells.lookup x=some c
 tab:(P,J.qual)∈Γ.T
 nd:(Γ.T.map (·.1)).Nodup
 fn:∀ x,X.fn x=true
 kd:∀ x c,X.env.cells.lookup x=some c->X.env.kindOf x=some .cell\/X.env.kindOf x=some .free
structure CG (Γ:Gm)(F:lU)(n:Nat)(X:Cx)(ck:Ck):Prop where
 K:X.K=Γ.K
 N:X.N=ck.N
 nd:ck.N.Nodup
 xe:X.xe=λ _ _=>False
 calm:X.calm=true
 deep:lG+1<=n
 room:Room n X.A
 sc:∀ x k,ck.sc.names.lookup x=some k->X.env.scope.names.lookup x=some k\/(k=.free/\X.env.scope.names.lookup x=some .cell)
 fn:∀ x,ck.sc.names.lookup x=some .cell->X.fn x=true
 bi:∀ x∈bNames,X.mg x=none
 call:∀ f:String,(∀ l s,F.call f l s=.bad)\/∃ a fd ps,FnOk X.prog X.w X.K X.mg X.base CX0 n a fd ps (spV Γ (F.call f))/\X.mg (f:Str)=some (.ref a)/\cC X.K (.ref a)=true/\Binds X.K fd ps []
 con:∀ x d,F.con x=some d->∃ v u,X.mg (x:Str)=some u/\RelV v u/\(∀ m,d.bnd m=true)/\∀ φ H,RV Γ φ H d v
 lam:∀ id caps E,ck.lk id caps E=true->∃ c P params body scope pos J,E=lamText J params body scope pos/\LamHere Γ X ck.N id caps params body scope c P J
 cl:∀(id:String) (J:LamI) (f:Addr) (cap:List V) (clos:List (Str×Addr)),Γ.lg id J->cap.length=J.fr.length->ClOk X.prog X.w X.K X.mg X.base n (λ H=>CloAt H f J cap clos) f (spL Γ (F.lam id) cap)
 fa:∀(f:String) (a:Addr),Γ.fa f=some a->X.mg (f:Str)=some (.ref a)/\∃ oc od fd sl,X.K.lookup a=some ⟨oc,od,.func fd,sl⟩
 fk:DV.FK F
section
variable {Γ:Gm} {F:lU} {n:Nat} {X:Cx} {ck:Ck}
theorem CG.vis (G:CG Γ F n X ck){x:Str}(h:ck.vis x=true):Vis X.env.scope x:=by
 unfold Ck.vis at h
 split at h
 ·rename_i e;rcases G.sc _ _ e with z|⟨z,_⟩
  ·exact .inl z
  ·cases z
 ·rename_i e;rcases G.sc _ _ e with z|⟨z,_⟩
  ·exact .inr (.inl z)
  ·cases z
 ·rename_i e;rcases G.sc _ _ e with z|⟨_,z⟩
  ·exact .inr (.inr z)
  ·exact .inr (.inl z)
 ·cases h
theorem CG.loc (G:CG Γ F n X ck){x:Str}(h:ck.loc x=true):Loc X.env.scope x/\(X.fn x=true\/X.env.scope.names.lookup x=some .local):=by
 unfold Ck.loc at h
 split at h
 ·rename_i e;rcases G.sc _ _ e with z|⟨z,_⟩
  ·exact⟨.inl z,.inr z⟩
  ·cases z
 ·rename_i e;rcases G.sc _ _ e with z|⟨z,_⟩
  ·exact⟨.inr z,.inl (G.fn _ e)⟩
  ·cases z
 ·cases h
theorem CG.gl (G:CG Γ F n X ck){x:Str}(h:ck.gl x=true):Gl X x/\(x==("__debug__":Str))=false/\x ≠ "__name__":=by
 unfold Ck.gl at h
 simp only[aj,eZ]at h
 obtain⟨⟨y,C⟩,J⟩:=h
 refine⟨?_,C,of_decide_eq_false J⟩
 split at y
 ·rename_i e;rcases G.sc _ _ e with z|⟨z,_⟩
  ·exact z
  ·cases z
 ·cases y
theorem bk4 (G:CG Γ F n X ck):∀ {is:List Nat} {es:List Expr},bQ9 ck is es=true->PGs X es (bP6 is)/\(cQ es X.env).length=is.length/\(cQ es X.env).findIdx? (·.1)=none
 | [],[],_=>⟨aS5,rfl,rfl⟩
 | [],_::_,h=>by cases h
 | i::is,[],h=>by cases h
 | i::is,e::es,h=>by
  cases e with
  | Name x p =>
   unfold bQ9 at h
   simp only[aj,decide_eq_true_eq]at h
   obtain⟨⟨C,y⟩,z⟩:=h
   obtain⟨l1,J⟩:=G.loc y
   obtain⟨a,b,c⟩:=bk4 G z
   have hs:cQ (.Name x p::es) X.env=(false,gX (.Name x p) X.env)::cQ es X.env:=rfl
   refine⟨av5 (at4 (by rw[G.N];exact G.nd) (by rw[G.N];exact C) l1 J) a (by rw[hs];rfl),by rw[hs,aQ,aQ,b],?_⟩
   rw[hs,List.findIdx?_cons]
   simp[c]
  | _=>cases h
theorem bp5 (G:CG Γ F n X ck){tg:lY}{e:Expr}(h:mTg ck tg e=true):PG X e (gOf Γ.K tg):=by
 unfold mTg at h
 split at h
 ·simp only[aj,decide_eq_true_eq]at h
  obtain⟨l1,y⟩:=G.loc h.2
  exact at4 (by rw[G.N];exact G.nd) (by rw[G.N];exact h.1) l1 y
 ·obtain⟨a,b,c⟩:=bk4 G h
  exact bu1 G.K G.calm a b c
 ·cases h
theorem CG.comp (G:CG Γ F n X ck){tg:lY}{Y iter:Expr}{J:List (Option Nat)}{scope:Scope}(h:aE1 ck tg Y iter J scope=true) :
  zJ (ckC ck Y J scope).N J scope X.N X.env.scope=true/\shp iter=true /\
  ∀(C:Addr) (cells:List (Str×Addr)) (s:ag) (H:Hp) (ex:List Addr),CG Γ F n (zE X (ckC ck Y J scope).N scope C cells s H ex) (ckC ck Y J scope)/\PG (zE X (ckC ck Y J scope).N scope C cells s H ex) Y (gOf Γ.K tg):=by
 unfold aE1 at h
 simp only[aj,decide_eq_true_eq]at h
 obtain⟨⟨⟨Z,h2⟩,h3⟩,h4⟩:=h
 refine⟨?_,h4,λ C cells s H ex=>?_⟩
 ·rw[G.N]
  unfold zJ at Z ⊢
  simp only[aj]at Z ⊢
  obtain⟨⟨⟨⟨⟨a1,a2⟩,a3⟩,a4⟩,a5⟩,a6⟩:=Z
  refine⟨⟨⟨⟨⟨a1,?_⟩,a3⟩,a4⟩,a5⟩,a6⟩
  rw[aW]at a2 ⊢
  intro y hy
  have:=a2 y hy
  rw[bN]at this ⊢
  rcases this with q|q
  ·exact .inl q
  ·right
   rw[bN]at q ⊢
   rcases q with q|q
   ·rcases G.sc _ _ (eq_of_beq q)with z|⟨z,_⟩
    ·left;rw[z];exact beq_self_eq_true _
    ·cases z
   ·rcases G.sc _ _ (eq_of_beq q)with z|⟨_,z⟩
    ·right;rw[z];exact beq_self_eq_true _
    ·left;rw[z];exact beq_self_eq_true _
 ·have G':CG Γ F n (zE X (ckC ck Y J scope).N scope C cells s H ex) (ckC ck Y J scope):=by
   refine⟨G.K,rfl,h2,rfl,G.calm,G.deep,G.room,λ x k e=>?_,λ x e=>?_,G.bi,G.call,G.con,λ _ _ _ h=>(by cases h),G.cl,G.fa,G.fk⟩
   ·have q:=zO (env:=X.env) e
    have q':(dY scope X.env).names.lookup x=some (if(k==NameKind.free&&X.env.scope.kind==.function&&X.env.kindOf x==some .cell)then NameKind.cell else k):=q
    show(dY scope X.env).names.lookup x=some k\/_
    rw[q']
    split
    ·rename_i hc
     simp only[aj]at hc
     exact .inr ⟨eq_of_beq hc.1.1,rfl⟩
    ·exact .inl rfl
   ·show(scope.names.lookup x==some .cell)=true
    rw[show scope.names.lookup x=some .cell from e];rfl
  exact⟨G',bp5 G' h3⟩
end
section
variable {Γ:Gm} {F:lU} {n:Nat} {X:Cx} {ck:Ck} {σ:St} {H:Hp} {Q:VK}
theorem TEv.eq {m m':lw->lr->lz lu}(e:∀ ρ s,m ρ s=m' ρ s)(q:TEv Γ m σ H Q):TEv Γ m' σ H Q:=by
 have:m=m':=funext λ ρ=>funext λ s=>e ρ s
 subst this;exact q
theorem TTv.eq {m m':lw->lr->lz lu}{Q:Bool->Hp->Prop}(e:∀ ρ s,m ρ s=m' ρ s)(q:TTv Γ m σ H Q):TTv Γ m' σ H Q:=by
 have:m=m':=funext λ ρ=>funext λ s=>e ρ s
 subst this;exact q
theorem TAv.eq {m m':lw->lr->lz (List lu)}{Q:List V->Hp->Prop}(e:∀ ρ s,m ρ s=m' ρ s)(q:TAv Γ m σ H Q):TAv Γ m' σ H Q:=by
 have:m=m':=funext λ ρ=>funext λ s=>e ρ s
 subst this;exact q
theorem TFv.eq {m m':lw->lr->lz (List lu)}(e:∀ ρ s,m ρ s=m' ρ s)(q:TFv Γ m σ H Q):TFv Γ m' σ H Q:=by
 have:m=m':=funext λ ρ=>funext λ s=>e ρ s
 subst this;exact q
theorem TIv.eq {m m':lw->lr->lz mN}{R:It->Hp->Prop}(e:∀ ρ s,m ρ s=m' ρ s)(q:TIv Γ m σ H R):TIv Γ m' σ H R:=by
 have:m=m':=funext λ ρ=>funext λ s=>e ρ s
 subst this;exact q
theorem TSv.eq {m m':lw->lr->lz lZ}{D:Ends}(e:∀ ρ s,m ρ s=m' ρ s)(q:TSv Γ m D σ H):TSv Γ m' D σ H:=by
 have:m=m':=funext λ ρ=>funext λ s=>e ρ s
 subst this;exact q
def EvT (Γ:Gm)(X:Cx)(E:Expr)(m:lw->lr->lz lu):Prop:=PE X E (TEv Γ m)/\PT X E (TTv Γ m)
theorem EvT.val {E:Expr}{m:lw->lr->lz lu}(h:PE X E (TEv Γ m))(z:∀ y,eF E X.env y=(do let v <- y;standAt E.pos;i6 [v] (truthy v)):=by intro _;rfl):EvT Γ X E m :=
 ⟨h,(bD5 h z).imp λ σ H Q q=>aH5 q⟩
theorem ba5 {c a b:Expr}{pos:Pos}{G tb tc:TT}(hc:PT X c G)(ha:PT X a tb)(hb:PT X b tc):PT X (.IfExp c a b pos) (λ σ H Q=>G σ H λ k z=>if k=true then tb σ z Q else tc σ z Q):=by
 intro y s σ H Q I h
 have e:eF (.IfExp c a b pos) X.env (eval (.IfExp c a b pos) X.env)=(do if <- eF c X.env (eval c X.env)then eF a X.env (eval a X.env)else eF b X.env (eval b X.env)):=by rw[eF]
 rw[e]
 refine ab (thn (hc y s σ H _ I h) λ k s1 ⟨z,C,F⟩=>?_)
 cases k with
 | true=>exact ha y s1 σ z Q C F
 | false=>exact hb y s1 σ z Q C F
theorem bD6 {mc C F:lw->lr->lz lu}{Q:Bool->Hp->Prop}(h:TTv Γ (λ ρ s=>lF (mc ρ s) λ k s=>if k then C ρ s else F ρ s) σ H Q):TTv Γ mc σ H λ k z=>if k=true then TTv Γ C σ z Q else TTv Γ F σ z Q:=by
 obtain⟨φ,ρ,s,d,s',E,R,y,q⟩:=h
 obtain⟨c,s1,e1,y⟩:=zD y
 refine⟨φ,ρ,s,c,s1,E,R,e1,λ φ1 z g1 l1 R1=>?_⟩
 cases c with
 | true =>
  rw[if_pos rfl]at y ⊢
  exact⟨φ1,ρ,s1,d,s',E.mono g1 l1,R1,y,q.trans g1 l1⟩
 | false =>
  rw[if_neg aL]at y ⊢
  exact⟨φ1,ρ,s1,d,s',E.mono g1 l1,R1,y,q.trans g1 l1⟩
section
variable {a b c:mq} {l r t:Expr} {pos:Pos}
theorem bp9 (G:CG Γ F n X ck)(op:nj)(ha:EvT Γ X l (lx F a))(hb:EvT Γ X r (lx F b)):EvT Γ X (.BinOp l (bT8 op) r pos) (lx F (.bin op a b)) :=
 .val ((bK5 (bN7 G.K op) ha.1 hb.1).imp λ σ H Q q=>bb4 (TEv.eq (λ ρ s=>rfl) q))
theorem bw4 (ha:EvT Γ X l (lx F a)):EvT Γ X (.UnaryOp .USub l pos) (lx F (.neg a)) :=
 .val ((bW6 bH6 ha.1).imp λ σ H Q q=>bS3 (f:=λ x s=>match x with|.int i=>.ok (.int (-i)) s|_=>.bad) (TEv.eq (λ ρ s=>rfl) q) λ φ s x d s' v H' R r y h k=>by
  cases x with
  | int i =>
   cases h
   exact⟨i,r.intE,k.here R rfl RV.intI⟩
  | _=>cases h)
theorem bt5 (ha:EvT Γ X l (lx F a)):EvT Γ X (.UnaryOp .Not l pos) (lx F (.not a)) :=
 ⟨(bJ5 ha.1).imp λ σ H Q q=>bJ9 (TEv.eq (λ ρ s=>rfl) q),(bC2 ha.2).imp λ σ H Q q=>bB5 (TTv.eq (λ ρ s=>rfl) q)⟩
theorem bw9 (G:CG Γ F n X ck)(op:mT)(hs:shp r=true)(ha:EvT Γ X l (lx F a))(hb:EvT Γ X r (lx F b)):EvT Γ X (.Compare l [ap2 op] [r] pos) (lx F (.cmp op a b)):=by
 have ho:=aT6 (Γ:=Γ) G.K (G.room.mono G.deep) op
 refine⟨(bz6 ho ha.1 hb.1 (an2 hs)).imp λ σ H Q q=>bb4 (TEv.eq (λ ρ s=>rfl) q),(bo5 ho ha.1 hb.1 (an2 hs)).imp λ σ H Q q=>?_⟩
 have q:=aX5 q
 exact bb4 (TEv.eq (λ ρ s=>rfl) q)
theorem aW2 (G:CG Γ F n X ck)(o p:mT)(z:shp t=true)(ha:EvT Γ X l (lx F a))(hb:EvT Γ X r (lx F b))(hc:EvT Γ X t (lx F c)):EvT Γ X (.Compare l [ap2 o,ap2 p] [r,t] pos) (lx F (.chain o p a b c)):=by
 have ho:=aT6 (Γ:=Γ) G.K (G.room.mono G.deep) o
 have h:=aT6 (Γ:=Γ) G.K (G.room.mono G.deep) p
 have y:kT [ap2 o,ap2 p] [r,t]=false:=by
  show db (ap2 p) t=false
  exact an2 z
 refine⟨(bf1 ho h ha.1 hb.1 hc.1 y).imp λ σ H Q q=>aJ0 (TEv.eq (λ ρ s=>rfl) q),(bh8 ho h ha.1 hb.1 hc.1 y).imp λ σ H Q q=>?_⟩
 have q:=aX5 q
 exact aJ0 (TEv.eq (λ ρ s=>rfl) q)
theorem RV.nonIff {φ:Nat->Addr}{x:lu}{v:V}(r:RV Γ φ H x v):decide (v=.non)=decide (x=.non):=by
 cases x with
 | non=>rw[r.nonE];rfl
 | bl b=>rw[r.blE];rfl
 | int i=>rw[r.intE];rfl
 | str z=>rw[r.strE];rfl
 | tup l=>obtain⟨a,h,rfl,_⟩:=r.tupE;rfl
 | ref k=>rw[r.refE];rfl
 | fn f=>unfold RV at r;obtain⟨a,_,rfl⟩:=r;rfl
 | clo f cs=>unfold RV at r;obtain⟨f,_,_,_,rfl,_⟩:=r;rfl
theorem bz0 {j pos'}(ha:EvT Γ X l (lx F a)):EvT Γ X (.Compare l [.Is] [.Constant .none j pos'] pos) (lx F (.isN a)):=by
 have key:∀ σ H Q,TEv Γ (lx F (.isN a)) σ H Q->bZ4 (TEv Γ (lx F a)) σ H Q:=λ σ H Q q=>by
  obtain⟨φ,ρ,s,d,s',E,R,h,k⟩:=q
  obtain⟨x,s1,e1,h⟩:=aa0 h
  cases h
  refine⟨φ,ρ,s,x,_,E,R,e1,λ v φ1 y g1 l1 z r1 R1=>?_⟩
  show Q (.bl (decide (v=.non))) y
  rw[r1.nonIff]
  exact k _ φ1 y g1 l1 rfl RV.blI R1
 exact⟨(bk8 (bl3 ha.1)).imp key,(bl2 (bl3 ha.1)).imp λ σ H Q q=>key _ _ _ (aH5 q)⟩
theorem bj1 {j pos'}(ha:EvT Γ X l (lx F a)):EvT Γ X (.Compare l [.IsNot] [.Constant .none j pos'] pos) (lx F (.notN a)):=by
 have key:∀ σ H Q,TEv Γ (lx F (.notN a)) σ H Q->bM1 (TEv Γ (lx F a)) σ H Q:=λ σ H Q q=>by
  obtain⟨φ,ρ,s,d,s',E,R,h,k⟩:=q
  obtain⟨x,s1,e1,h⟩:=aa0 h
  cases h
  refine⟨φ,ρ,s,x,_,E,R,e1,λ v φ1 y g1 l1 z r1 R1=>?_⟩
  show Q (.bl (!decide (v=.non))) y
  rw[r1.nonIff]
  exact k _ φ1 y g1 l1 rfl RV.blI R1
 exact⟨(bk8 (aS8 ha.1)).imp key,(bl2 (aS8 ha.1)).imp λ σ H Q q=>key _ _ _ (aH5 q)⟩
theorem aR2 {op:BoolOp}{es:List Expr}{t:TT}(h:PT X (.BoolOp op es pos) t):PW X (.BoolOp op es pos) t:=by
 intro z y s σ H Q I q
 have:=h y s σ H Q I q
 have e:∀ w,eF (.BoolOp op es pos) X.env w=allTrue op es X.env:=λ w=>by rw[eF]
 rw[e]at this ⊢
 exact this
theorem bp0 (ha:EvT Γ X l (lx F a))(hb:EvT Γ X r (lx F b)):EvT Γ X (.BoolOp .And [l,r] pos) (lx F (.and a b)) :=
 ⟨(bk6 ha.1 (bn3 hb.1)).imp λ σ H Q q=>bk2 (TEv.eq (λ ρ s=>rfl) q),(bl9 ha.2 (br7 hb.2)).pt.imp λ σ H Q q=>bm9 (TTv.eq (λ ρ s=>rfl) q)⟩
theorem bu0 {es:List Expr}(ha:EvT Γ X l (lx F a))(hb:EvT Γ X (.BoolOp .And (r::es) pos) (lx F b)):EvT Γ X (.BoolOp .And (l::r::es) pos) (lx F (.and a b)) :=
 ⟨(bk6 ha.1 hb.1).imp λ σ H Q q=>bk2 (TEv.eq (λ ρ s=>rfl) q),(bl9 ha.2 (aR2 hb.2)).pt.imp λ σ H Q q=>bm9 (TTv.eq (λ ρ s=>rfl) q)⟩
theorem bL4 (ha:EvT Γ X l (lx F a))(hb:EvT Γ X r (lx F b)):EvT Γ X (.BoolOp .Or [l,r] pos) (lx F (.or a b)) :=
 ⟨(bD7 ha.1 (bn3 hb.1)).imp λ σ H Q q=>bE7 (TEv.eq (λ ρ s=>rfl) q),(bB4 ha.2 (bO7 hb.2)).pt.imp λ σ H Q q=>bH5 (TTv.eq (λ ρ s=>rfl) q)⟩
theorem bH1 {es:List Expr}(ha:EvT Γ X l (lx F a))(hb:EvT Γ X (.BoolOp .Or (r::es) pos) (lx F b)):EvT Γ X (.BoolOp .Or (l::r::es) pos) (lx F (.or a b)) :=
 ⟨(bD7 ha.1 hb.1).imp λ σ H Q q=>bE7 (TEv.eq (λ ρ s=>rfl) q),(bB4 ha.2 (aR2 hb.2)).pt.imp λ σ H Q q=>bH5 (TTv.eq (λ ρ s=>rfl) q)⟩
theorem bq1 (hc:EvT Γ X t (lx F c))(ha:EvT Γ X l (lx F a))(hb:EvT Γ X r (lx F b)):EvT Γ X (.IfExp t l r pos) (lx F (.ite c a b)) :=
 ⟨(ba0 hc.2 ha.1 hb.1).imp λ σ H Q q=>bN4 (TEv.eq (λ ρ s=>rfl) q),(ba5 hc.2 ha.2 hb.2).imp λ σ H Q q=>bD6 (TTv.eq (λ ρ s=>rfl) q)⟩
theorem bP4 (G:CG Γ F n X ck)(hs:shp r=true)(ha:EvT Γ X l (lx F a))(hb:EvT Γ X r (lx F b)):EvT Γ X (.Subscript l r pos) (lx F (.ix a b)) :=
 .val ((bU6 (bX6 G.K (aF9 G.room)) ha.1 hb.1 (aO5 hs)).imp λ σ H Q q=>bb4 (TEv.eq (λ ρ s=>rfl) q))
theorem bx5 {h:Pos}(G:CG Γ F n X ck)(ha:EvT Γ X l (lx F a))(hb:EvT Γ X r (lx F b)):EvT Γ X (.Subscript l (.Slice (some r) none none h) pos) (lx F (.slL a b)) :=
 .val ((aG6 (bM5 G.K) ha.1 (aU9 hb.1) aU8).imp λ σ H Q q=>(bE0 (mh:=lx F b)).1 (TEv.eq (λ ρ s=>rfl) q))
theorem bz4 {h:Pos}(G:CG Γ F n X ck)(ha:EvT Γ X l (lx F a))(hb:EvT Γ X r (lx F b)):EvT Γ X (.Subscript l (.Slice none (some r) none h) pos) (lx F (.slU a b)) :=
 .val ((aG6 (bM5 G.K) ha.1 aU8 (aU9 hb.1)).imp λ σ H Q q=>(bE0 (ml:=lx F b)).2.1 (TEv.eq (λ ρ s=>rfl) q))
end
end
section
variable {Γ:Gm} {F:lU} {n:Nat} {X:Cx} {ck:Ck} {σ:St} {H:Hp} {Q:VK}
theorem as8:∀ {es:lR} {ρ:lw} {s s':lr} {l:List lu} {y:List Expr} {z:Ck},lV F es ρ s=.ok l s'->mEs z es y=true->l.length=y.length
 | .nil,ρ,s,s',l,y,z,h,m=>by
  cases h
  cases y with
  | nil=>rfl
  | cons _ _=>rw[mEs]at m<;>first|cases m|(intros;simp_all)
 | .cons e es,ρ,s,s',l,y,z,h,m=>by
  obtain⟨d,s1,e1,h⟩:=aa0 h
  obtain⟨r,s2,e2,h⟩:=aa0 h
  cases h
  cases y with
  | nil=>rw[mEs]at m<;>first|cases m|(intros;simp_all)
  | cons x y =>
   rw[mEs,aj]at m
   rw[aQ,aQ,as8 e2 m.2]
theorem au6:∀ {es:lR} {z:List Expr},mEs ck es z=true->∀ x∈z,shp x=true
 | .nil,[],_,x,hx=>by cases hx
 | .nil,_::_,m,_,_=>by rw[mEs]at m<;>first|cases m|(intros;simp_all)
 | .cons e es,[],m,x,hx=>by cases hx
 | .cons e es,y::z,m,x,hx=>by
  rw[mEs,aj,aj]at m
  rcases aF.mp hx with h|h
  ·rw[h];exact m.1.2
  ·exact au6 m.2 x h
theorem aX1:∀ {es:mz} {z:List Expr},mAs ck es z=true->∀ x∈z,shp x=true
 | .nil,[],_,x,hx=>by cases hx
 | .nil,_::_,m,_,_=>by rw[mAs]at m<;>first|cases m|(intros;simp_all)
 | .ex e es,[],m,x,hx=>by cases hx
 | .lam _ _ _,_,m,_,_=>by rw[mAs]at m<;>first|cases m|(intros;simp_all)
 | .fn _ _,_,m,_,_=>by rw[mAs]at m<;>first|cases m|(intros;simp_all)
 | .ex e es,y::z,m,x,hx=>by
  rw[mAs,aj,aj]at m
  rcases aF.mp hx with h|h
  ·rw[h];exact m.1.2
  ·exact aX1 m.2 x h
theorem aL0 {e:mq}{x:Expr}{y:List Expr}{h:lw->lr->lz (List lu)}(hs:shp x=true)(C:PE X x (TEv Γ (lx F e)))(z:PA X y (TAv Γ h)) :
  PA X (x::y) (TAv Γ (λ ρ s=>(lx F e ρ s).bind λ d s=>(h ρ s).bind λ l s=>.ok (d::l) s)) :=
 (zC C z (zd hs)).imp λ σ H Q q=>bv4 q
theorem aG8 {k:Nat}(h:k<=1000):k<=aG:=by rw[dv];omega
theorem bv3 {es:lR}{y:List Expr}{k:Nat}{pos:Pos}(m:mEs ck es y=true)(hz:y.length<=1000)(h:PA X y (TAv Γ (lV F es))):EvT Γ X (.Tuple y k pos) (lx F (.tup es)) :=
 .val ((bn8 h).imp λ σ H Q q=>tv_tup' hz m q)
where
 tv_tup' {es:lR} {y:List Expr} {σ:St} {H:Hp} {Q:VK} (hz:y.length<=1000) (m:mEs ck es y=true) (q:TEv Γ (lx F (.tup es)) σ H Q):bW4 (TAv Γ (lV F es)) σ H Q:=by
  obtain⟨φ,ρ,s,d,s',E,R,z,q⟩:=q
  obtain⟨l,s1,e1,z⟩:=aa0 z
  cases z
  refine⟨φ,ρ,s,l,_,E,R,e1,λ vs φ1 J g1 l1 C r1 R1=>⟨by rw[r1.length,as8 e1 m];exact aG8 hz,λ p G=>?_⟩⟩
  exact(q.trans g1 l1).tup R1 r1 C G
theorem br6 {es:lR}{y:List Expr}{pos:Pos}(m:mEs ck es y=true)(hz:y.length<=1000)(h:PA X y (TAv Γ (lV F es))):EvT Γ X (.List y pos) (lx F (.lst es)):=by
 refine .val ((bn6 h).imp λ σ H Q q=>?_)
 obtain⟨φ,ρ,s,d,s',E,R,z,q⟩:=q
 obtain⟨l,s1,e1,z⟩:=aa0 z
 obtain⟨rfl,rfl⟩:=zR z
 refine⟨φ,ρ,s,l,_,E,R,e1,λ vs φ1 J g1 l1 C r1 R1=>⟨by rw[r1.length,as8 e1 m];exact aG8 hz,λ p G=>?_⟩⟩
 exact(q.trans g1 l1).alloc R1 r1 C G
theorem bf6 {f:String}{y:mz}{z:List Expr}{p pos:Pos}(G:CG Γ F n X ck)(hg:ck.gl (f:Str)=true)(m:mAs ck y z=true)(h:PA X z (TAv Γ (mK F y))):EvT Γ X (.Call (.Name (f:Str) p) z [] pos) (lx F (.call f y)):=by
 refine .val ?_
 obtain⟨g1,Y,g3⟩:=G.gl hg
 rcases G.call f with hbad|⟨a,fd,ps,Z,C,hk,hb⟩
 ·intro a1 s σ H Q I q
  obtain⟨φ,ρ,s,d,s',E,R,J,q⟩:=q
  obtain⟨l,s1,e1,J⟩:=aa0 J
  rw[hbad]at J
  cases J
 have key:∀ σ H Q,TEv Γ (lx F (.call f y)) σ H Q->aM2 (spV Γ (F.call f)) [] E0 (TAv Γ (mK F y)) σ H Q:=λ σ H Q q=>by
  have:=aC1 (TEv.eq (m':=λ ρ s=>(mK F y ρ s).bind λ l s=>F.call f l s) (λ ρ s=>rfl) q)
  unfold tCB at this
  unfold aM2 spV
  simpa only[aZ]using this
 cases z with
 | nil =>
  have h0:PE X (.Call (.Name (f:Str) p) [] [] pos) (aM2 (spV Γ (F.call f)) [] E0 aQ9):=bi7 Z G.room g1 C hk hb .nil bH3 Y
  cases y with
  | nil =>
   refine h0.imp λ σ H Q q=>?_
   have q1:=key σ H Q q
   unfold aM2 at q1 ⊢
   exact aL3 (TAv.eq (λ ρ s=>rfl) q1)
  | _=>rw[mAs]at m<;>first|cases m|(intros;simp_all)
 | cons x z =>
  have hs:=aX1 m
  exact(bo4 Z G.room g1 C hk hb .nil bH3 h Y (zd (hs x (aB ..))) (zq λ e he=>hs e (av _ he)).1).imp key
def BiC (Γ:Gm)(X:Cx)(b:lX)(x:Str):Prop:=(∃ id,bq x=some (.builtin id)/\ac2 X (.builtin id) (rCl Γ (ni b)))\/∃ T,bq x=some (.type T)/\ac2 X (.type T) (rCl Γ (ni b))
theorem bO9 (G:CG Γ F n X ck){b:lX}{x:Str}(h:biT b=some x):x∈bNames/\BiC Γ X b x:=by
 cases b<;>first|cases h|skip
 ·exact⟨by decide,.inl ⟨_,bV1,bg5 G.K G.calm (k:=1) rfl⟩⟩
 ·exact⟨by decide,.inl ⟨_,bV9,bg5 G.K G.calm (k:=1) rfl⟩⟩
 ·exact⟨by decide,.inr ⟨_,bL8,bL5⟩⟩
 ·exact⟨by decide,.inl ⟨_,bu2,bg5 G.K G.calm (k:=2) rfl⟩⟩
 ·exact⟨by decide,.inl ⟨_,bK1,bg5 G.K G.calm (k:=2) rfl⟩⟩
theorem bM0 {b:lX}{es:lR}{x:Str}{y:Expr}{z:List Expr}{p pos:Pos}(G:CG Γ F n X ck)(hb:biT b=some x)(hg:ck.gl x=true)(m:mEs ck es (y::z)=true)(h:PA X (y::z) (TAv Γ (lV F es))) :
  EvT Γ X (.Call (.Name x p) (y::z) [] pos) (lx F (.bi b es)):=by
 refine .val ?_
 obtain⟨g1,Y,g3⟩:=G.gl hg
 obtain⟨Z,hc⟩:=bO9 G hb
 have hs:=au6 m
 have s1:=zd (es:=z) (env:=X.env) (hs y (aB ..))
 have s2:=(zq (env:=X.env) (pos:=pos) λ e he=>hs e (av _ he)).1
 rcases hc with⟨id,J,C⟩|⟨T,J,C⟩
 ·exact(at1 C g1 (G.bi _ Z) J h g3 Y s1 s2).imp λ σ H Q q=>aC1 (TEv.eq (λ ρ s=>rfl) q)
 ·exact(am4 C g1 (G.bi _ Z) J h g3 Y s1 s2).imp λ σ H Q q=>aC1 (TEv.eq (λ ρ s=>rfl) q)
theorem bK9 {b:lX}{k:Nat}{t:Str}(h:biK b=some (k,t)):(1<=k/\k<=5)/\t∈bNames/\bq t=some (.type (ao4 k))/\ni b=m9 (nk k):=by
 cases b<;>cases h
 ·exact⟨by omega,by decide,bL8,rfl⟩
 ·exact⟨by omega,by decide,bE2,rfl⟩
 ·exact⟨by omega,by decide,bW1,rfl⟩
 ·exact⟨by omega,by decide,aZ0,rfl⟩
 ·exact⟨by omega,by decide,bm1,rfl⟩
noncomputable def PEs (Γ:Gm)(F:lU)(X:Cx):lR->List Expr->Prop
 | .nil,[]=>True
 | .cons e es,x::xs=>(shp x=true/\EvT Γ X x (lx F e))/\PEs Γ F X es xs
 | _,_=>False
theorem al4:∀ {es:lR} {y:List Expr},PEs Γ F X es y->PA X y (TAv Γ (lV F es))
 | .nil,[],_=>ad2.imp λ σ H Q q=>aL3 (TAv.eq (λ ρ s=>rfl) q)
 | .nil,_::_,h=>h.elim
 | .cons _ _,[],h=>h.elim
 | .cons e es,x::y,h=>(aL0 h.1.1 h.1.2.1 (al4 h.2)).imp λ σ H Q q=>TAv.eq (λ ρ s=>rfl) q
theorem bx6 {b:lX}{es:lR}{k:Nat}{t:Str}{a:Expr}{p C pos:Pos}(G:CG Γ F n X ck)(hb:biK b=some (k,t))(hg:ck.gl "isinstance"=true)(J:ck.gl t=true)(h:PEs Γ F X es [a]) :
  EvT Γ X (.Call (.Name "isinstance" p) [a,.Name t C] [] pos) (lx F (.bi b es)):=by
 refine .val ?_
 obtain⟨g1,g2,g3⟩:=G.gl hg
 obtain⟨t1,t2,t3⟩:=G.gl J
 obtain⟨hk,y,hv,Y⟩:=bK9 hb
 have z:PE X (.Name t C) (tC (.ty (ao4 k))):=bu3 t1 (G.bi _ y) hv rfl t3 t2
 cases es with
 | nil=>exact h.elim
 | cons e es =>
  cases es with
  | cons _ _=>exact h.2.elim
  | nil =>
   obtain⟨⟨hs,ha,_⟩,_⟩:=h
   have hA:PA X [a,.Name t C] (an4 (TEv Γ (lx F e)) (an4 (tC (.ty (ao4 k))) aQ9)):=zC ha (zC z ad2 (zd rfl)) (zd hs)
   refine(at1 (bI8 G.K hk) g1 (G.bi _ (by decide)) aB9 hA g3 g2 (zd hs) (zq λ e Z=>by rw[aU.mp Z];rfl).1).imp λ σ H Q q=>?_
   obtain⟨φ,ρ,s,d,s',E,R,y,q⟩:=q
   obtain⟨l,s1,e1,y⟩:=aa0 y
   obtain⟨x,s2,e2,e1⟩:=aa0 e1
   obtain⟨l2,s3,e3,e1⟩:=aa0 e1
   cases e3
   cases e1
   rw[Y]at y
   refine⟨φ,ρ,s,x,_,E,R,e2,λ v φ1 H1 g1 l1 b1 r1 R1=>?_⟩
   exact⟨v,rfl,φ1,_,[x],d,s',R1,.cons r1 .nil,by unfold lv;rw[b1];rfl,y,q.trans g1 l1⟩
end
section
variable {Γ:Gm} {F:lU} {n:Nat} {X:Cx} {ck:Ck} {σ:St} {H:Hp}
def TAp (Γ:Gm)(cells:List (Str×Addr))(N:List Str)(m:lw->lr->lz (List lu)):TA:=λ σ H Q=>∃ φ ρ s l s',RE Γ φ H s.length ρ σ/\Rp Γ φ H s/\m ρ s=.ok l s' /\
 ∀ vs φ' H',Gr φ s H φ' s' H'->s.length<=s'.length->lv s'.length l=true->PVL Γ cells N σ φ' H' l vs->Rp Γ φ' H' s'->Q vs H'
theorem TAp.eq {cells:List (Str×Addr)}{N:List Str}{m m':lw->lr->lz (List lu)}{Q:List V->Hp->Prop}(e:∀ ρ s,m ρ s=m' ρ s)(q:TAp Γ cells N m σ H Q):TAp Γ cells N m' σ H Q:=by
 obtain⟨φ,ρ,s,l,s',E,R,h,q⟩:=q
 exact⟨φ,ρ,s,l,s',E,R,by rw[<-e];exact h,q⟩
theorem bt3 {cells:List (Str×Addr)}{N:List Str}{Q:List V->Hp->Prop}(h:TAp Γ cells N (λ ρ s=>.ok [] s) σ H Q):aQ9 σ H Q:=by
 obtain⟨φ,ρ,s,l,s',E,R,y,q⟩:=h
 cases y
 exact q [] φ H (Gr.refl _ _ _) (ak _) rfl .nil R
theorem bH0 {cells:List (Str×Addr)}{N:List Str}{m:lw->lr->lz lu}{G:lw->lr->lz (List lu)}{Q:List V->Hp->Prop}(h:TAp Γ cells N (λ ρ s=>(m ρ s).bind λ d s=>(G ρ s).bind λ l s=>.ok (d::l) s) σ H Q):an4 (TEv Γ m) (TAp Γ cells N G) σ H Q:=by
 obtain⟨φ,ρ,s,l,s',E,R,z,q⟩:=h
 obtain⟨x,s1,e1,z⟩:=aa0 z
 obtain⟨y,s2,e2,z⟩:=aa0 z
 cases z
 refine⟨φ,ρ,s,x,s1,E,R,e1,λ v φ1 H1 g1 l1 F r1 R1=>?_⟩
 refine⟨φ1,ρ,s1,y,s',E.mono g1 l1,R1,e2,λ vs φ2 H2 C J Y Z R2=>?_⟩
 exact q (v::vs) φ2 H2 (g1.trans C l1) (am l1 J) (by unfold lv;rw[zm J x F,Y];rfl) (.cons (PVp.mono C F (.inl r1)) Z) R2
theorem al7 {ρ:lw}:∀ {is:List Nat} {cs:List lu},lW ρ is=some cs->cs.length=is.length/\∀(i j:Nat),is[i]?=some j->∃ d,cs[i]?=some d/\ρ[j]?=some (some d)
 | [],cs,h=>by cases h;exact⟨rfl,λ i j e=>by cases e⟩
 | k::is,cs,h=>by
  unfold lW at h
  cases e:ρ[k]? with
  | none=>rw[e]at h;cases h
  | some o =>
   cases o with
   | none=>rw[e]at h;cases h
   | some d =>
    cases e2:lW ρ is with
    | none=>rw[e,e2]at h;cases h
    | some l =>
     rw[e,e2]at h
     cases h
     obtain⟨C,z⟩:=al7 e2
     refine⟨by rw[aQ,aQ,C],λ i j y=>?_⟩
     cases i with
     | zero=>cases y;exact⟨d,rfl,e⟩
     | succ i=>exact z i j y
theorem aT1 {φ:Nat->Addr}{s:lr}{ρ:lw}(E:RE Γ φ H s.length ρ σ):∀ {is:List Nat} {cs:List lu},lW ρ is=some cs->∃ cap,RVL Γ φ H cs cap/\lv s.length cs=true/\∀(i j:Nat) (v:V),is[i]?=some j->cap[i]?=some v->σ[j]?=some (some v)
 | [],cs,h=>by cases h;exact⟨[],.nil,rfl,λ i j v e=>by cases e⟩
 | k::is,cs,h=>by
  unfold lW at h
  cases e:ρ[k]? with
  | none=>rw[e]at h;cases h
  | some o =>
   cases o with
   | none=>rw[e]at h;cases h
   | some d =>
    cases e2:lW ρ is with
    | none=>rw[e,e2]at h;cases h
    | some l =>
     rw[e,e2]at h
     cases h
     obtain⟨cap,J,F,G⟩:=aT1 E e2
     obtain⟨hb,v,C,hv⟩:=E.val k d e
     refine⟨v::cap,.cons hv J,by unfold lv;rw[hb,F];rfl,λ i j w y z=>?_⟩
     cases i with
     | zero=>cases y;cases z;exact C
     | succ i=>exact G i j w y z
theorem bG7 {id:String}{h:List Nat}{params:bp}{body:Expr}{scope:Scope}{pos:Pos}{c P:Addr}{J:LamI}{xs:List Expr}{Y:lw->lr->lz (List lu)}(L:LamHere Γ X X.N id h params body scope c P J)(hnm:J.nm=none)(h2:PA X xs (TAp Γ X.env.cells X.N Y)) :
  PA X (.Lambda params body scope pos::xs) (TAp Γ X.env.cells X.N (λ ρ s=>match lW ρ h with|some cs=>(Y ρ s).bind λ l s=>.ok (.clo id cs::l) s|none=>.bad)):=by
 refine(zC (aW9 L.code L.hd L.bm L.ck L.df) h2).imp λ σ H Q q=>?_
 obtain⟨φ,ρ,s,l,s',E,R,z,q⟩:=q
 have z:(match lW ρ h with|some cs=>(Y ρ s).bind λ l s=>DV.R.ok (DV.D.clo id cs::l) s|none=>DV.R.bad)=.ok l s':=z
 cases eg:lW ρ h with
 | none=>rw[eg]at z;exact fb z
 | some cs =>
  rw[eg]at z
  obtain⟨y,s2,e2,z⟩:=aa0 z
  cases z
  obtain⟨cap,F,C,hσ⟩:=aT1 E eg
  have G:=(al7 eg).1
  have hq:J.qual=X.env.qual ++ "<lambda>":=by rw[L.q];unfold LamI.own;rw[hnm]
  rw[<-hq]
  refine bb8 R.tab L.nd L.tab λ f H' e st tb hf ho=>?_
  obtain⟨g1,R1⟩:=R.sameT e st tb
  refine⟨φ,ρ,s,y,s',E.mono g1 (ak _),R1,e2,λ vs φ2 H2 Z l2 b2 r2 R2=>?_⟩
  refine q (.ref f::vs) φ2 H2 (g1.trans Z (ak _)) l2 (by unfold lv ly;rw[aa3 l2 cs C,b2];rfl) (.cons ?_ r2) R2
  have p1:PVp Γ X.env.cells X.N σ φ H' (.clo id cs) (.ref f):=by
   refine .inr ⟨id,cs,rfl,f,J,rfl,L.lg,by unfold af7;rw[hnm];dsimp only;rw[L.p,L.b,L.s];exact ho,by rw[G,L.len],by rw[L.s];exact L.cl,cap,RVL.mono g1 cs cap C F,λ i x v e1 e3=>?_⟩
   have hi:i<h.length:=by rw[<-L.len];exact(ac.mp e1).1
   have hj:h[i]?=some h[i]:=ai hi
   exact⟨by rw[L.s];exact L.fr x (aK e1),h[i],L.at_ i _ x hj e1,hσ i _ v hj e3⟩
  exact p1.mono Z (by unfold ly;exact C)
theorem aY8 {f:String}{ms:lw->lr->lz (List lu)}{e:Expr}{es:List Expr}{p pos:Pos}(G:CG Γ F n X ck)(hg:ck.gl (f:Str)=true)(J:∀ x,X.fn x=true)(Z:∀ x c,X.env.cells.lookup x=some c->X.env.kindOf x=some .cell\/X.env.kindOf x=some .free)
  (hs:∀ y∈e::es,shp y=true) (h:PA X (e::es) (TAp Γ X.env.cells X.N ms)) :
  PE X (.Call (.Name (f:Str) p) (e::es) [] pos) (TEv Γ (λ ρ s=>(ms ρ s).bind λ l s=>(F.call f l s).bind λ d s'=>if(d.ncl&&s'.all nq)=true then .ok d s' else .bad)):=by
 obtain⟨g1,g2,g3⟩:=G.gl hg
 rcases G.call f with hb|⟨a,fd,ps,hF,Y,hk,hB⟩
 ·intro a1 s σ H Q I q
  obtain⟨φ,ρ,s,d,s',E,R,z,q⟩:=q
  obtain⟨l,s1,e1,z⟩:=aa0 z
  rw[hb]at z;exact fb z
 ·refine(aJ2 hF G.room g1 Y hk hB J h g2 (zd (hs e (aB ..))) (zq λ y hy=>hs y (av _ hy)).1).imp λ σ H Q q=>?_
  obtain⟨φ,ρ,s,d,s',E,R,z,q⟩:=q
  obtain⟨l,s1,e1,z⟩:=aa0 z
  obtain⟨d2,s2,e2,z⟩:=aa0 z
  split at z
  case isFalse=>exact fb z
  rename_i hn
  cases z
  rw[aj]at hn
  refine⟨φ,ρ,s,l,s1,E,R,e1,λ vs φ1 H1 gg l1 b1 r1 R1=>λ H2 C=>?_⟩
  obtain⟨gs,R2⟩:=R1.same C.same
  refine⟨φ1,s1,l,d,s',R2,r1.caught C Z b1,b1,e2,λ v φ' H3 g' l' b' r' R'=>?_⟩
  have hc:Cells X.env.cells H3:=C.cells.kp g'.w.kp
  exact q v φ' (ab5 X.env.cells H3) (gg.trans (Gr.caught C g') l1) (am l1 l') b' (RV.dropC hc d v hn.1 r') (R'.dropC hc hn.2)
theorem aQ6 {i:Nat}{x:Str}{es:lR}{e:Expr}{xs:List Expr}{p pos:Pos}(G:CG Γ F n X ck)(hv:ck.var i x=true)(hs:∀ y∈e::xs,shp y=true)(h:PA X (e::xs) (TAv Γ (lV F es)))(Z:PE X (.Name x p) (aZ8 i)) :
  PE X (.Call (.Name x p) (e::xs) [] pos) (TEv Γ (lx F (.callV i es))):=by
 refine(bf9 rfl rfl rfl rfl rfl G.room Z h (zd (hs e (aB ..))) (zq λ y hy=>hs y (av _ hy)).1).imp λ σ H Q q=>?_
 obtain⟨φ,ρ,s,d,s',E,R,z,q⟩:=q
 have z:((lV F es ρ s).bind λ l s=>match ρ[i]? with
  | some (some (.fn f))=>F.call f l s
  | some (some (.clo id cs))=>F.lam id cs l s
  | _=>.bad)=.ok d s':=z
 obtain⟨l,s1,e1,z⟩:=aa0 z
 cases eρ:ρ[i]? with
 | none=>rw[eρ]at z;exact fb z
 | some o =>
  cases o with
  | none=>rw[eρ]at z;exact fb z
  | some v0 =>
   obtain⟨hb,v,hσ,rv⟩:=E.val i v0 eρ
   cases v0 with
   | fn f =>
    rw[eρ]at z
    have z:F.call f l s1=.ok d s':=z
    unfold RV at rv
    obtain⟨a,ha,e2⟩:=rv
    subst e2
    obtain⟨h1,h2⟩:=G.fa f a ha
    rcases G.call f with hb|⟨a',fd,ps,hF,a1,hk,hB⟩
    ·rw[hb]at z;exact fb z
    ·rw[h1]at a1
     cases a1
     refine⟨a,hσ,.inr h2,φ,ρ,s,l,s1,E,R,e1,λ vs φ1 H1 g1 l1 b1 r1 R1=>?_⟩
     exact⟨.inr h2,_,_,ClOk.ofFn hF hB,trivial,φ1,s1,l,d,s',R1,r1,b1,z,q.trans g1 l1⟩
   | clo id cs =>
    rw[eρ]at z
    have z:F.lam id cs l s1=.ok d s':=z
    unfold RV at rv
    unfold ly at hb
    obtain⟨f,cap,J,C,e2,a2,hat,a3,a4⟩:=rv
    subst e2
    have fin:∀ H',CloAt H' f J cap C->bz8 X.K H' f:=λ H' h'=>h'.fn
    refine⟨f,hσ,fin H hat,φ,ρ,s,l,s1,E,R,e1,λ vs φ1 H1 g1 l1 b1 r1 R1=>?_⟩
    have Y:=hat.kp g1.w.kp
    exact⟨fin H1 Y,_,_,G.cl id J f cap C a2 a3,Y,φ1,s1,cs,l,d,s',R1,r1,RVL.mono g1 cs cap hb a4,b1,aa3 l1 cs hb,z,q.trans g1 l1⟩
   | _=>rw[eρ]at z;exact fb z
end
section
variable {Γ:Gm} {F:lU} {n:Nat} {X:Cx} {ck:Ck} {σ:St} {H:Hp} {Q:VK}
def cb9 (K:ae)(H:Hp)(v:V)(ys:List V)(z:Bool):Prop:=(∃ a,v=.ref a/\(SqL K H a ys\/(SqT K H a ys/\(z=true->H a=some (.tup ys)))))\/∃ x:List Nat,v=.str ⟨x.toArray⟩/\x.length<=lB/\ys=sgV x
def TLv (Γ:Gm)(m:lw->lr->lz (List lu)):TE:=λ σ H Q=>∃ φ ρ s l s',RE Γ φ H s.length ρ σ/\Rp Γ φ H s/\m ρ s=.ok l s' /\
 ∀ v ys φ' H',Gr φ s H φ' s' H'->s.length<=s'.length->lv s'.length l=true->cb9 Γ.K H' v ys (lD l)->RVL Γ φ' H' l ys->Rp Γ φ' H' s'->Q v H'
theorem aI4 {m:lw->lr->lz (List lu)}(h:TLv Γ m σ H Q):TFv Γ m σ H Q:=by
 obtain⟨φ,ρ,s,l,s',E,R,C,q⟩:=h
 exact⟨φ,ρ,s,l,s',E,R,C,λ p ys φ' H' g hl hb z h0 ho r y=>q (.ref p) ys φ' H' g hl hb (.inl ⟨p,rfl,.inl (SqL.of z)⟩) r y⟩
theorem ax2 {φ:Nat->Addr}:∀ x:List Nat,RVL Γ φ H (x.map λ c=>.str [c]) (sgV x)
 | []=>.nil
 | c::x=>.cons (RV.strI (by unfold lB;simp)) (ax2 x)
theorem aq5 {k:Nat}:∀ x:List Nat,lv k (x.map λ c=>.str [c])=true
 | []=>rfl
 | c::x=>by rw[aH];unfold lv;rw[aq5 x];rfl
theorem bN8 {m:lw->lr->lz lu}(h:TLv Γ (λ ρ s=>(m ρ s).bind λ d s=>DV.bl1 d s) σ H Q):TEv Γ m σ H Q:=by
 obtain⟨φ,ρ,s,l,s',E,R,y,q⟩:=h
 obtain⟨d,s1,e1,y⟩:=aa0 y
 refine⟨φ,ρ,s,d,s1,E,R,e1,λ v φ1 G g1 l1 J r1 R1=>?_⟩
 cases d with
 | tup l' =>
  cases y
  obtain⟨a,C,⟨rfl,z1⟩,F,z⟩:=r1.tupZ
  unfold ly at J
  exact q _ C φ1 G g1 l1 J (.inl ⟨a,rfl,.inr ⟨F,z1⟩⟩) z R1
 | str x =>
  cases y
  exact q v (sgV x) φ1 G g1 l1 (aq5 x) (.inr ⟨x,r1.strE,r1.strL,rfl⟩) (ax2 x) R1
 | ref k =>
  have y:(match s1[k]? with
   | some (.lst l)=>DV.R.ok l s1
   | some (.ro l)=>.ok l s1
   | _=>.bad)=.ok l s':=y
  rw[r1.refE]
  cases e:s1[k]? with
  | none=>rw[e]at y;exact fb y
  | some ob =>
   rw[e]at y
   cases ob with
   | lst l' =>
    cases y
    obtain⟨C,F,z⟩:=R1.addr e
    have:=R1.wf k _ e
    unfold lA at this
    exact q _ C φ1 G g1 l1 this (.inl ⟨_,rfl,.inl (SqL.of F)⟩) z R1
   | ro l' =>
    cases y
    obtain⟨C,F,z⟩:=R1.obj k _ e
    have:=R1.wf k _ e
    unfold lA at this
    exact q _ C φ1 G g1 l1 this (.inl ⟨_,rfl,.inl F.1⟩) z R1
   | _=>exact fb y
 | _=>exact fb y
theorem TLv.eq {m m':lw->lr->lz (List lu)}(e:∀ ρ s,m ρ s=m' ρ s)(q:TLv Γ m σ H Q):TLv Γ m' σ H Q:=by
 have:m=m':=funext λ ρ=>funext λ s=>e ρ s
 subst this;exact q
theorem aO4 {m:lw->lr->lz (List lu)}{a:Expr}{p pos:Pos}(G:CG Γ F n X ck)(hg:ck.gl "tuple"=true)(hs:shp a=true)(h:PE X a (TLv Γ m)) :
  PE X (.Call (.Name "tuple" p) [a] [] pos) (TEv Γ (λ ρ s=>(m ρ s).bind λ l s=>mP .tuple l s)):=by
 obtain⟨g1,J,Z⟩:=G.gl hg
 refine(am4 ((aC3 G.K).or (aE4 G.calm)) g1 (G.bi _ (by decide)) aZ0 (zC h ad2 (zd hs)) Z J (zd hs) rfl).imp λ σ H Q q=>?_
 obtain⟨φ,ρ,s,d,s',E,R,y,q⟩:=q
 obtain⟨l,s1,e1,y⟩:=aa0 y
 cases y
 refine⟨φ,ρ,s,l,_,E,R,e1,λ v ys φ1 Y g1 l1 z hq r1 R1=>?_⟩
 rcases hq with⟨a,rfl,hq|hq⟩|⟨x,rfl,hx,rfl⟩
 ·exact .inl ⟨a,ys,rfl,.inl ⟨hq,λ p C=>(q.trans g1 l1).tup R1 r1 z C⟩⟩
 ·exact .inl ⟨a,ys,rfl,.inr ⟨hq.1,q _ φ1 Y g1 l1 (by unfold ly;exact z) (RV.tupC hq.1 hq.2 r1) R1⟩⟩
 ·exact .inr ⟨x,rfl,hx,λ p C=>(q.trans g1 l1).tup R1 r1 z C⟩
theorem aW4 {m:lw->lr->lz (List lu)}{a:Expr}{p pos:Pos}(G:CG Γ F n X ck)(hg:ck.gl "list"=true)(hs:shp a=true)(h:PE X a (TLv Γ m)) :
  PE X (.Call (.Name "list" p) [a] [] pos) (TEv Γ (λ ρ s=>(m ρ s).bind λ l s=>mP .list l s)):=by
 obtain⟨g1,J,Y⟩:=G.gl hg
 refine(am4 ((aN8 G.K).or (aN0 G.calm)) g1 (G.bi _ (by decide)) bm1 (zC h ad2 (zd hs)) Y J (zd hs) rfl).imp λ σ H Q q=>?_
 obtain⟨φ,ρ,s,d,s',E,R,y,q⟩:=q
 obtain⟨l,s1,e1,y⟩:=aa0 y
 obtain⟨rfl,rfl⟩:=zR y
 refine⟨φ,ρ,s,l,_,E,R,e1,λ v ys φ1 Z g1 l1 C hq r1 R1=>?_⟩
 rcases hq with⟨a,rfl,hq⟩|⟨x,rfl,hx,rfl⟩
 ·exact .inl ⟨a,ys,rfl,hq.imp id (·.1),λ p z=>(q.trans g1 l1).alloc R1 r1 C z⟩
 ·exact .inr ⟨x,rfl,hx,λ p z=>(q.trans g1 l1).alloc R1 r1 C z⟩
theorem bJ4 {m:lw->lr->lz (List lu)}{k:mZ}{x:Str}{a:Expr}{p pos:Pos}(G:CG Γ F n X ck)(hk:mkT k=some x)(hg:ck.gl x=true)(hs:shp a=true)(h:PE X a (TLv Γ m)) :
  PE X (.Call (.Name x p) [a] [] pos) (TEv Γ (λ ρ s=>(m ρ s).bind λ l s=>mP k l s)):=by
 cases k<;>cases hk
 ·exact aO4 G hg hs h
 ·exact aW4 G hg hs h
def FrC (Γ:Gm)(X:Cx)(x:Str)(k:mZ):Prop:=∃ id r,bq x=some (.builtin id)/\x∈bNames/\ac2 X (.builtin id) r/\∀ φ H s l ys p d s' Q,Rp Γ φ H s->RVL Γ φ H l ys->H p=some (.lst ys)->mP k l s=.ok d s'->ad6 Γ φ s H d s' Q->r [.ref p] H Q
theorem aH3:∀(l:List Int) (a:Int),(l.foldl min a=a\/l.foldl min a∈l)/\l.foldl min a<=a/\∀ y∈l,l.foldl min a<=y
 | [],a=>⟨.inl rfl,dz _,λ y hy=>by cases hy⟩
 | b::l,a=>by
  obtain⟨F,G,C⟩:=aH3 l (min a b)
  rw[cJ]
  refine⟨?_,by omega,λ y hy=>?_⟩
  ·rcases F with h|h
   ·rw[h]
    rcases jR a b with z|z
    ·left;omega
    ·right;rw[show min a b=b by omega];exact aB ..
   ·exact .inr (av _ h)
  ·rcases aF.mp hy with z|z
   ·rw[z];omega
   ·exact C y z
theorem aK8 {l:List Int}{m:Int}(h:mB l=some m):m∈l/\∀ y∈l,m<=y:=by
 cases l with
 | nil=>cases h
 | cons a l =>
  cases h
  obtain⟨G,C,F⟩:=aH3 l a
  refine⟨?_,λ y hy=>?_⟩
  ·rcases G with h|h
   ·rw[h];exact aB ..
   ·exact av _ h
  ·rcases aF.mp hy with z|z
   ·rw[z];exact C
   ·exact F y z
theorem aI2:∀(l:List Int) (a:Int),(l.foldl max a=a\/l.foldl max a∈l)/\a<=l.foldl max a/\∀ y∈l,y<=l.foldl max a
 | [],a=>⟨.inl rfl,dz _,λ y hy=>by cases hy⟩
 | b::l,a=>by
  obtain⟨F,G,C⟩:=aI2 l (max a b)
  rw[cJ]
  refine⟨?_,by omega,λ y hy=>?_⟩
  ·rcases F with h|h
   ·rw[h]
    rcases jR a b with z|z
    ·right;rw[show max a b=b by omega];exact aB ..
    ·left;omega
   ·exact .inr (av _ h)
  ·rcases aF.mp hy with z|z
   ·rw[z];omega
   ·exact C y z
theorem bh7 {l:List Int}{m:Int}(h:nv l=some m):m∈l/\∀ y∈l,y<=m:=by
 cases l with
 | nil=>cases h
 | cons a l =>
  cases h
  obtain⟨G,C,F⟩:=aI2 l a
  refine⟨?_,λ y hy=>?_⟩
  ·rcases G with h|h
   ·rw[h];exact aB ..
   ·exact av _ h
  ·rcases aF.mp hy with z|z
   ·rw[z];exact C
   ·exact F y z
theorem bA3 (G:CG Γ F n X ck){k:mZ}{x:Str}(hk:mkF k=some x):FrC Γ X x k:=by
 cases k<;>cases hk
 ·refine⟨_,_,bT9,by decide,aU5 G.calm G.K,λ φ H s l ys p d s' Q R r C h q=>?_⟩
  unfold mP at h
  dsimp only at h
  cases e:mF l with
  | none=>rw[e]at h;exact fb h
  | some bs =>
   rw[e]at h
   cases h
   have:=ak8 e
   subst this
   exact⟨p,bs,rfl,SqL.of (by rw[<-r.bls];exact C),q.here R rfl RV.blI⟩
 ·refine⟨_,_,bu2,by decide,aQ2 G.calm G.K,λ φ H s l ys p d s' Q R r C h q=>?_⟩
  unfold mP at h
  dsimp only at h
  cases e:mf l with
  | none=>rw[e]at h;exact fb h
  | some is =>
   rw[e]at h
   have h:(match mB is with|some m=>DV.R.ok (DV.D.int m) s|none=>.bad)=.ok d s':=h
   cases e2:mB is with
   | none=>rw[e2]at h;exact fb h
   | some mm =>
    rw[e2]at h
    cases h
    have:=zM e
    subst this
    refine⟨p,is,rfl,SqL.of (by rw[<-r.ints];exact C),(λ(z:is=[])=>by rw[z]at e2;cases e2),λ m h y=>?_⟩
    obtain⟨a,b⟩:=aK8 e2
    have:m=mm:=iu (y mm a) (b m h)
    rw[this]
    exact q.here R rfl RV.intI
theorem bN1 {m:lw->lr->lz (List lu)}{k:mZ}{x:Str}{a:Expr}{p pos:Pos}(G:CG Γ F n X ck)(hk:mkF k=some x)(hg:ck.gl x=true)(hs:shp a=true)(h:PE X a (TFv Γ m)) :
  PE X (.Call (.Name x p) [a] [] pos) (TEv Γ (λ ρ s=>(m ρ s).bind λ l s=>mP k l s)):=by
 obtain⟨g1,z,J⟩:=G.gl hg
 obtain⟨id,r,hb,hx,hc,hr⟩:=bA3 (Γ:=Γ) G hk
 refine(at1 hc g1 (G.bi _ hx) hb (zC h ad2 (zd hs)) J z (zd hs) rfl).imp λ σ H Q q=>?_
 obtain⟨φ,ρ,s,d,s',E,R,y,q⟩:=q
 obtain⟨l,s1,e1,y⟩:=aa0 y
 exact⟨φ,ρ,s,l,_,E,R,e1,λ p ys φ1 C g1 l1 Z Y h0 ho r1 R1=>hr φ1 C s1 l ys p d s' Q R1 r1 Y y (q.trans g1 l1)⟩
theorem bH2 {md:lw->lr->lz (lu)}{ml:lw->lr->lz (List lu)}{a de:Expr}{p pos kp:Pos}(G:CG Γ F n X ck)(hg:ck.gl "min"=true)(hs:shp a=true)(h:PE X a (TFv Γ ml))(hd:PE X de (TEv Γ md)) :
  PE X (.Call (.Name "min" p) [a] [⟨some "default",de,kp⟩] pos) (TEv Γ (λ ρ s=>(ml ρ s).bind λ l s=>(md ρ s).bind λ d s=>nh .min l d s)):=by
 obtain⟨g1,g2,g3⟩:=G.gl hg
 refine(bp4 rfl G.calm g1 (G.bi _ (by decide)) h hd (zd hs)).imp λ σ H Q q=>?_
 obtain⟨φ,ρ,s,d,s',E,R,C,q⟩:=q
 obtain⟨l,s1,e1,C⟩:=aa0 C
 obtain⟨d0,s2,e2,C⟩:=aa0 C
 refine⟨φ,ρ,s,l,s1,E,R,e1,λ p ys φ1 H1 g1 l1 b1 hp h0 ho r1 R1=>?_⟩
 refine⟨φ1,ρ,s1,d0,s2,E.mono g1 l1,R1,e2,λ v φ2 H2 g2 l2 b2 r2 R2=>?_⟩
 have a1:H2 p=some (.lst ys):=g2.fr p _ hp (by nofun) (λ i ob e mu=>ho i ob e mu)
 unfold nh at C
 dsimp only at C
 cases e:mf l with
 | none=>rw[e]at C;exact fb C
 | some is =>
  rw[e]at C
  have J:(match mB is with|some m=>DV.R.ok (DV.D.int m) s2|none=>DV.R.ok d0 s2)=.ok d s':=C
  have:=zM e
  subst this
  have hq:=q.trans (g1.trans g2 l1) (am l1 l2)
  refine⟨p,is,rfl,SqL.of (by rw[<-r1.ints];exact a1),λ z=>?_,λ m Z Y=>?_⟩
  ·subst z
   cases J
   exact hq.here R2 b2 r2
  ·clear e2
   cases e2:mB is with
   | none =>
    cases is with
    | nil=>cases Z
    | cons _ _=>cases e2
   | some mm =>
    rw[e2]at J
    cases J
    obtain⟨x,y⟩:=aK8 e2
    have:m=mm:=iu (Y mm x) (y m Z)
    rw[this]
    exact hq.here R2 rfl RV.intI
theorem by5 {md:lw->lr->lz (lu)}{ml:lw->lr->lz (List lu)}{a de:Expr}{p pos kp:Pos}(G:CG Γ F n X ck)(hg:ck.gl "max"=true)(hs:shp a=true)(h:PE X a (TFv Γ ml))(hd:PE X de (TEv Γ md)) :
  PE X (.Call (.Name "max" p) [a] [⟨some "default",de,kp⟩] pos) (TEv Γ (λ ρ s=>(ml ρ s).bind λ l s=>(md ρ s).bind λ d s=>nh .max l d s)):=by
 obtain⟨g1,g2,g3⟩:=G.gl hg
 refine(bs7 rfl G.calm g1 (G.bi _ (by decide)) h hd (zd hs)).imp λ σ H Q q=>?_
 obtain⟨φ,ρ,s,d,s',E,R,C,q⟩:=q
 obtain⟨l,s1,e1,C⟩:=aa0 C
 obtain⟨d0,s2,e2,C⟩:=aa0 C
 refine⟨φ,ρ,s,l,s1,E,R,e1,λ p ys φ1 H1 g1 l1 b1 hp h0 ho r1 R1=>?_⟩
 refine⟨φ1,ρ,s1,d0,s2,E.mono g1 l1,R1,e2,λ v φ2 H2 g2 l2 b2 r2 R2=>?_⟩
 have a1:H2 p=some (.lst ys):=g2.fr p _ hp (by nofun) (λ i ob e mu=>ho i ob e mu)
 unfold nh at C
 dsimp only at C
 cases e:mf l with
 | none=>rw[e]at C;exact fb C
 | some is =>
  rw[e]at C
  have J:(match nv is with|some m=>DV.R.ok (DV.D.int m) s2|none=>DV.R.ok d0 s2)=.ok d s':=C
  have:=zM e
  subst this
  have hq:=q.trans (g1.trans g2 l1) (am l1 l2)
  refine⟨p,is,rfl,SqL.of (by rw[<-r1.ints];exact a1),λ z=>?_,λ m Y Z=>?_⟩
  ·subst z
   cases J
   exact hq.here R2 b2 r2
  ·clear e2
   cases e2:nv is with
   | none =>
    cases is with
    | nil=>cases Y
    | cons _ _=>cases e2
   | some mm =>
    rw[e2]at J
    cases J
    obtain⟨x,y⟩:=bh7 e2
    have:m=mm:=iu (y m Y) (Z mm x)
    rw[this]
    exact hq.here R2 rfl RV.intI
theorem bf5 {φ φ':Nat->Addr}{s s':lr}{H':Hp}{r:Nat}{l:List lu}(R:Rp Γ φ H s)(g:Gr φ s H φ' s' H')(hb:r<s.length)(e:s'[r]?=some (.lst l)):tyV Γ.K "list" (.ref (φ r)) H:=by
 obtain⟨h,y⟩:∃ h,s[r]?=some h:=⟨s[r],ai hb⟩
 have C:=g.mu r h _ y e rfl
 have ho:=R.obj r h y
 cases h with
 | lst l0 =>
  obtain⟨z,F,_⟩:=ho
  exact .inl ⟨rfl,z,SqL.of F⟩
 | ro _=>cases C
 | dic _=>have:=g.kd r _ _ y e;cases this
 | dit _=>have:=g.kd r _ _ y e;cases this
 | ins _ _=>exact ho.elim
def mtR (Γ:Gm)(m:m4):V->List V->Hp->VK->Prop:=λ x vs H Q=>∃ φ s a l d s',Rp Γ φ H s/\RV Γ φ H a x/\RVL Γ φ H l vs/\a.bnd s.length=true/\lv s.length l=true/\mY m a l s=.ok d s'/\ad6 Γ φ s H d s' Q
theorem aU3:lB<aG:=by rw[dv];decide
theorem aH6 {m:m4}{x:Str}{k:Nat}(y:mtT m=some (x,k)){a:lu}{l:List lu}{s s':lr}{d:lu}(h:mY m a l s=.ok d s'):∃ r l0,a=.ref r/\s[r]?=some (.lst l0):=by
 have go:∀ {r:Nat} {f:List lu->lz lu},(match s[r]? with|some (.lst l)=>f l|_=>.bad)=.ok d s'->∃ l0,s[r]?=some (.lst l0):=λ {r f} h=>by
  cases e:s[r]? with
  | none=>rw[e]at h;exact fb h
  | some ob =>
   cases ob with
   | lst l0=>exact⟨l0,rfl⟩
   | _=>rw[e]at h;exact fb h
 unfold mY at h
 split at h
 ·obtain⟨l0,e⟩:=go h;exact⟨_,l0,rfl,e⟩
 ·obtain⟨l0,e⟩:=go h;exact⟨_,l0,rfl,e⟩
 ·obtain⟨l0,e⟩:=go h;exact⟨_,l0,rfl,e⟩
 ·obtain⟨l0,e⟩:=go h;exact⟨_,l0,rfl,e⟩
 ·obtain⟨l0,e⟩:=go h;exact⟨_,l0,rfl,e⟩
 ·exact fb h
theorem bd6:MtR X "list.append" (mtR Γ .append):=by
 intro F sh σ H x vs v us Q I rx rv h
 obtain⟨φ,s,a,l,d,s',R,Z,Y,ba,bl,C,q⟩:=h
 obtain⟨r,l0,rfl,e⟩:=aH6 (m:=.append) rfl C
 cases l with
 | nil=>exact fb C
 | cons y t =>
  cases t with
  | cons _ _=>exact fb C
  | nil =>
   simp only[mY,e]at C
   split at C
   case isFalse=>exact fb C
   rename_i hlt
   cases C
   obtain⟨z,rfl,rz⟩:=Y.one
   obtain⟨xs,h1,J⟩:=R.addr e
   have G:lv s.length l0=true:=by have:=R.wf r _ e;unfold lA at this;exact this
   refine ax5 F sh σ H x [z] v us Q I rx rv ⟨φ r,xs,z,Z.refE,rfl,h1,by rw[J.length];have:=aU3;omega,?_⟩
   exact q.put R e (J.append (.cons rz .nil)) (zu G bl) rfl RV.nonI
structure MtOk (Γ:Gm)(X:Cx)(m:m4)(x:Str):Prop where
 ex:∃ id,PySem.Slot "list" x id/\typeOf (.builtin id)=pure (.type "method_descriptor")/\MtR X id (mtR Γ m)
theorem bK2 (z:X.K=Γ.K)(y:Room (lG+1) X.A){m:m4}{x:Str}{k:Nat}(h:mtT m=some (x,k)):MtOk Γ X m x:=by
 cases m<;>cases h
 ·exact⟨_,iB,PySem.F.type_list_append,bd6⟩
theorem be3 {m:m4}{o:mq}{es:lR}{ob:Expr}{C:List Expr}{x:Str}{ap cp:Pos}(G:CG Γ F n X ck)(hm:mtT m=some (x,C.length))(hab:aZ6 ob=true)(hl:(ap.endLine==cp.line)=true)(ho:PE X ob (TEv Γ (lx F o)))
  (a2:mEs ck es C=true) (h:PEs Γ F X es C):EvT Γ X (.Call (.Attribute ob x ap) C [] cp) (lx F (.meth m o es)):=by
 refine .val ?_
 obtain⟨id,slot,a1,hr⟩:=(bK2 (Γ:=Γ) (X:=X) G.K (G.room.mono G.deep) hm).ex
 have hs:=au6 a2
 have key:∀ σ H Q,TEv Γ (lx F (.meth m o es)) σ H Q->tBM Γ.K "list" (mtR Γ m) (TEv Γ (lx F o)) (TAv Γ (lV F es)) σ H Q:=λ σ H Q q=>by
  obtain⟨φ,ρ,s,d,s',E,R,z,q⟩:=q
  obtain⟨a,s1,e1,z⟩:=aa0 z
  obtain⟨l,s2,e2,z⟩:=aa0 z
  refine⟨φ,ρ,s,a,s1,E,R,e1,λ v φ1 H1 g1 l1 J r1 R1=>?_⟩
  obtain⟨r,l0,rfl,er⟩:=aH6 hm z
  rw[r1.refE]
  have hk:∀ φ2 H2,Gr φ1 s1 H1 φ2 s2 H2->tyV Γ.K "list" (.ref (φ1 r)) H1:=λ φ2 H2 g2=>bf5 R1 g2 (by unfold ly at J;exact of_decide_eq_true J) er
  have Y:TAv Γ (lV F es) σ H1 λ C H2=>mtR Γ m (.ref (φ1 r)) C H2 Q:=by
   refine⟨φ1,ρ,s1,l,s2,E.mono g1 l1,R1,e2,λ vs φ2 H2 g2 l2 b2 r2 R2=>?_⟩
   refine⟨φ2,s2,.ref r,l,d,s',R2,?_,r2,zm l2 _ J,b2,z,q.trans (g1.trans g2 l1) (am l1 l2)⟩
   have:=RV.mono g2 _ _ J r1
   rw[r1.refE]at this
   exact this
  refine⟨?_,Y⟩
  have hlt:r<s1.length:=by unfold ly at J;exact of_decide_eq_true J
  obtain⟨o0,e0⟩:∃ o0,s1[r]?=some o0:=⟨s1[r],ai hlt⟩
  have Z:=R1.obj r o0 e0
  cases o0 with
  | lst l0 =>
   obtain⟨C,h1,_⟩:=Z
   exact .inl ⟨rfl,C,SqL.of h1⟩
  | ro l0 =>
   obtain⟨C,h1,_⟩:=Z
   exact .inl ⟨rfl,C,h1.1⟩
  | dic _ =>
   obtain⟨o',eo,ek⟩:=DV.ag0 G.fk es ρ s1 _ _ e2 r _ e0
   rw[er]at eo;cases eo;cases ek
  | dit _ =>
   obtain⟨o',eo,ek⟩:=DV.ag0 G.fk es ρ s1 _ _ e2 r _ e0
   rw[er]at eo;cases eo;cases ek
  | ins _ _=>exact Z.elim
 cases C with
 | nil =>
  have p0:PE X (.Call (.Attribute ob x ap) [] [] cp) (bT2 X.K "list" (mtR Γ m) (TEv Γ (lx F o))):=bk0 dt slot a1 hr ho (ah4 hab) hl
  rw[G.K]at p0
  refine p0.imp λ σ H Q q=>?_
  cases es with
  | cons _ _=>exact h.elim
  | nil =>
   obtain⟨φ,ρ,s,d,s',E,R,z,k⟩:=key σ H Q q
   refine⟨φ,ρ,s,d,s',E,R,z,λ v φ1 H1 g1 l1 J r1 R1=>?_⟩
   obtain⟨h1,h2⟩:=k v φ1 H1 g1 l1 J r1 R1
   exact⟨h1,aL3 (TAv.eq (λ ρ s=>rfl) h2)⟩
 | cons y ys =>
  refine(aV8 G.K dt slot a1 hr ho (al4 h) (ah4 hab) ?_ hl (zd (hs y (aB ..))) (zq λ e he=>hs e (av _ he)).1).imp key
  rw[(zq hs).2]
  have:(y::ys).length<=1:=by
   unfold mtT at hm
   split at hm<;>first|(have:=ay hm;have:=congrArg Prod.snd this;simp at this;simp;omega)|cases hm
  simp only[gF,dN,k9]
  show(true&&decide ((y::ys).length+0+0<30))=true
  rw[gF]
  exact decide_eq_true (by omega)
end
section
variable {Γ:Gm} {F:lU} {n:Nat} {X:Cx} {ck:Ck} {σ:St} {H:Hp} {Q:VK}
theorem bu7 {o:mq}{m:lw->lr->lz (List lu)}{ob a:Expr}{ap cp:Pos}(G:CG Γ F n X ck)(hab:aZ6 ob=true)(hl:(ap.endLine==cp.line)=true)(ho:PE X ob (TEv Γ (lx F o)))(hs:shp a=true)(h:PE X a (TFv Γ m))(Y:∀ ρ s,DV.KR s (m ρ s)) :
  PE X (.Call (.Attribute ob "extend" ap) [a] [] cp) (TEv Γ (λ ρ s=>(lx F o ρ s).bind λ x s=>(m ρ s).bind λ q s=>DV.ba9 x q s)):=by
 refine(aV8 G.K dt eP gG az2 ho (zC h ad2 (zd hs)) (ah4 hab) ?_ hl (zd hs) rfl).imp λ σ H Q q=>?_
 ·rw[(zq (es:=[a]) λ e he=>by rw[aU.mp he];exact hs).2];rfl
 ·obtain⟨φ,ρ,s,d,s',E,R,y,q⟩:=q
  obtain⟨x,s1,e1,y⟩:=aa0 y
  obtain⟨l,s2,e2,y⟩:=aa0 y
  refine⟨φ,ρ,s,x,s1,E,R,e1,λ v φ1 H1 g1 l1 b1 r1 R1=>?_⟩
  cases x with
  | ref r =>
   have y:(match s2[r]? with
    | some (.lst m)=>if m.length+l.length<=lB then DV.R.ok DV.D.non (s2.set r (.lst (m++l)))else .bad
    | _=>.bad)=.ok d s':=y
   cases e:s2[r]? with
   | none=>rw[e]at y;exact fb y
   | some ob' =>
    rw[e]at y
    cases ob' with
    | lst l0 =>
     have y:(if l0.length+l.length<=lB then DV.R.ok DV.D.non (s2.set r (.lst (l0++l)))else .bad)=.ok d s':=y
     split at y
     case isFalse=>exact fb y
     rename_i a3
     cases y
     have hlt:r<s1.length:=by unfold ly at b1;exact of_decide_eq_true b1
     have a2:tyV Γ.K "list" (.ref (φ1 r)) H1:=by
      obtain⟨o0,e0⟩:∃ o0,s1[r]?=some o0:=⟨s1[r],ai hlt⟩
      have z:=R1.obj r o0 e0
      cases o0 with
      | lst l0 =>
       obtain⟨C,J,_⟩:=z
       exact .inl ⟨rfl,C,SqL.of J⟩
      | ro l0 =>
       obtain⟨C,J,_⟩:=z
       exact .inl ⟨rfl,C,J.1⟩
      | dic _ =>
       obtain⟨o',Z,ek⟩:=Y ρ s1 _ _ e2 r _ e0
       rw[e]at Z;cases Z;cases ek
      | dit _ =>
       obtain⟨o',Z,ek⟩:=Y ρ s1 _ _ e2 r _ e0
       rw[e]at Z;cases Z;cases ek
      | ins _ _=>exact z.elim
     rw[r1.refE]
     refine⟨a2,φ1,ρ,s1,l,s2,E.mono g1 l1,R1,e2,λ p ys φ2 H2 g2 l2 b2 hp h0 ho r2 R2=>?_⟩
     obtain⟨C,J,h2⟩:=R2.addr e
     have a1:lv s2.length l0=true:=by have:=R2.wf r _ e;unfold lA at this;exact this
     refine⟨φ1 r,p,C,ys,rfl,rfl,by rw[<-g2.w.map r hlt];exact J,hp,by rw[h2.length,r2.length];have:=aU3;omega,?_⟩
     rw[<-g2.w.map r hlt]
     exact(q.trans (g1.trans g2 l1) (am l1 l2)).put R2 e (h2.append r2) (zu a1 b2) rfl RV.nonI
    | _=>exact fb y
  | _=>exact fb y
theorem br3 {o:mq}{m:lw->lr->lz lu}{ob a:Expr}{ap cp:Pos}(G:CG Γ F n X ck)(hab:aZ6 ob=true)(hl:(ap.endLine==cp.line)=true)(ho:PE X ob (TEv Γ (lx F o)))(hs:shp a=true)(h:PE X a (TEv Γ m))(Z:∀ ρ s,DV.KR s (m ρ s)) :
  PE X (.Call (.Attribute ob "extend" ap) [a] [] cp) (TEv Γ (λ ρ s=>(lx F o ρ s).bind λ x s=>(m ρ s).bind λ q s=>DV.extS x q s)):=by
 refine(aV8 G.K dt eP gG az2 ho (zC h ad2 (zd hs)) (ah4 hab) ?_ hl (zd hs) rfl).imp λ σ H Q q=>?_
 ·rw[(zq (es:=[a]) λ e he=>by rw[aU.mp he];exact hs).2];rfl
 ·obtain⟨φ,ρ,s,d,s',E,R,y,q⟩:=q
  obtain⟨x,s1,e1,y⟩:=aa0 y
  obtain⟨l,s2,e2,y⟩:=aa0 y
  obtain⟨k,z,rfl,ek,y⟩:∃ k z,l=.ref k/\s2[k]?=some (.lst z)/\DV.ba9 x z s2=.ok d s':=by
   unfold DV.extS at y
   cases l with
   | ref k =>
    dsimp only at y
    cases e:s2[k]? with
    | none=>rw[e]at y;exact fb y
    | some ob' =>
     rw[e]at y
     cases ob' with
     | lst z=>exact⟨k,z,rfl,e,y⟩
     | _=>exact fb y
   | _=>exact fb y
  refine⟨φ,ρ,s,x,s1,E,R,e1,λ v φ1 H1 g1 l1 b1 r1 R1=>?_⟩
  cases x with
  | ref r =>
   have y:(match s2[r]? with
    | some (.lst m)=>if m.length+z.length<=lB then DV.R.ok DV.D.non (s2.set r (.lst (m++z)))else .bad
    | _=>.bad)=.ok d s':=y
   cases e:s2[r]? with
   | none=>rw[e]at y;exact fb y
   | some ob' =>
    rw[e]at y
    cases ob' with
    | lst l0 =>
     have y:(if l0.length+z.length<=lB then DV.R.ok DV.D.non (s2.set r (.lst (l0++z)))else .bad)=.ok d s':=y
     split at y
     case isFalse=>exact fb y
     rename_i a3
     cases y
     have hlt:r<s1.length:=by unfold ly at b1;exact of_decide_eq_true b1
     have a2:tyV Γ.K "list" (.ref (φ1 r)) H1:=by
      obtain⟨o0,e0⟩:∃ o0,s1[r]?=some o0:=⟨s1[r],ai hlt⟩
      have C:=R1.obj r o0 e0
      cases o0 with
      | lst l0 =>
       obtain⟨J,Y,_⟩:=C
       exact .inl ⟨rfl,J,SqL.of Y⟩
      | ro l0 =>
       obtain⟨J,Y,_⟩:=C
       exact .inl ⟨rfl,J,Y.1⟩
      | dic _ =>
       obtain⟨o',eo,ek⟩:=Z ρ s1 _ _ e2 r _ e0
       rw[e]at eo;cases eo;cases ek
      | dit _ =>
       obtain⟨o',eo,ek⟩:=Z ρ s1 _ _ e2 r _ e0
       rw[e]at eo;cases eo;cases ek
      | ins _ _=>exact C.elim
     rw[r1.refE]
     refine⟨a2,φ1,ρ,s1,.ref k,s2,E.mono g1 l1,R1,e2,λ v2 φ2 H2 g2 l2 b2 r2 R2=>?_⟩
     obtain⟨ys,hp,r3⟩:=R2.addr ek
     have bk:lv s2.length z=true:=by have:=R2.wf k _ ek;unfold lA at this;exact this
     rw[r2.refE]
     obtain⟨J,Y,h2⟩:=R2.addr e
     have a1:lv s2.length l0=true:=by have:=R2.wf r _ e;unfold lA at this;exact this
     refine⟨φ1 r,φ2 k,J,ys,rfl,rfl,by rw[<-g2.w.map r hlt];exact Y,hp,by rw[h2.length,r3.length];have:=aU3;omega,?_⟩
     rw[<-g2.w.map r hlt]
     exact(q.trans (g1.trans g2 l1) (am l1 l2)).put R2 e (h2.append r3) (zu a1 bk) rfl RV.nonI
    | _=>exact fb y
  | _=>exact fb y
theorem PIf.imp {e:List Expr}{t t':TT}(h:PIf X e t)(i:∀ σ H Q,t' σ H Q->t σ H Q):PIf X e t':=λ y s σ H Q I q=>h y s σ H Q I (i σ H Q q)
structure CompF (Γ:Gm)(X:Cx)(m:lw->lr->lz (List lu))(E:Expr):Prop where
 ex:∃ elt tgt iter ifs scope pos N' caps wi g tc te,E=.ListComp elt [⟨tgt,iter,ifs,0⟩] scope pos/\zJ N' caps scope X.N X.env.scope=true/\PI X tgt iter wi /\
  (∀(C:Addr) (cells:List (Str×Addr)) (s:ag) (H:Hp) (ex:List Addr),PG (zE X N' scope C cells s H ex) tgt g/\PIf (zE X N' scope C cells s H ex) ifs tc/\PE (zE X N' scope C cells s H ex) elt te) /\
  (∀ x,dW iter X.env x=pure x)/\∀ σ H Q,TFv Γ m σ H Q->tComp caps wi g tc te σ H Q
theorem CompF.pe {m:lw->lr->lz (List lu)}{E:Expr}(h:CompF Γ X m E)(hc:X.calm=true):PE X E (TFv Γ m):=by
 obtain⟨elt,F,iter,ifs,scope,pos,C,y,wi,g,tc,te,rfl,Z,G,J,Y,z⟩:=h.ex
 exact(aE0 C y Z G hc J Y).imp z
theorem bw5 {tg:lY}{mI:lw->lr->lz mN}{mc z:lw->lr->lz lu}{h:List (Option Nat)}{elt y iter i:Expr}{scope:Scope}{pos:Pos}(G:CG Γ F n X ck)(Y:aE1 ck tg y iter h scope=true)
  (hi:PI X y iter (TIv Γ mI)) (hc:∀ C cells s H ex,PT (zE X (ckC ck y h scope).N scope C cells s H ex) i (TTv Γ mc)) (J:∀ C cells s H ex,PE (zE X (ckC ck y h scope).N scope C cells s H ex) elt (TEv Γ z)) :
  CompF Γ X (λ ρ s=>(mI ρ s).bind λ q s0=>if q.its.length<=lB then mJ (λ s=>l9 s0 s q.src) (λ d ρ s=>match lN ρ tg d with
   | some ρ=>lF (mc ρ s) λ k s=>if k then(z ρ s).bind λ v s=>.ok (some v,ρ) s else .ok (none,ρ) s
   | none=>.bad) q.its (mO ρ h) s0 else .bad) (.ListComp elt [⟨y,iter,[i],0⟩] scope pos):=by
 obtain⟨Z,c2,c3⟩:=G.comp Y
 exact⟨elt,y,iter,[i],scope,pos,_,h,_,_,_,_,rfl,Z,hi,λ C cells s H ex=>⟨(c3 C cells s H ex).2,bx2 (hc C cells s H ex),J C cells s H ex⟩,aG0 c2,λ σ H Q q=>aQ8 q⟩
theorem be0 {tg:lY}{mI:lw->lr->lz mN}{J:lw->lr->lz lu}{h:List (Option Nat)}{elt y iter:Expr}{scope:Scope}{pos:Pos}(G:CG Γ F n X ck)(z:aE1 ck tg y iter h scope=true)
  (hi:PI X y iter (TIv Γ mI)) (Y:∀ C cells s H ex,PE (zE X (ckC ck y h scope).N scope C cells s H ex) elt (TEv Γ J)) :
  CompF Γ X (λ ρ s=>(mI ρ s).bind λ q s0=>if q.its.length<=lB then mJ (λ s=>l9 s0 s q.src) (λ d ρ s=>match lN ρ tg d with
   | some ρ=>(J ρ s).bind λ v s=>.ok (some v,ρ) s
   | none=>.bad) q.its (mO ρ h) s0 else .bad) (.ListComp elt [⟨y,iter,[],0⟩] scope pos):=by
 obtain⟨Z,c2,c3⟩:=G.comp z
 refine⟨elt,y,iter,[],scope,pos,_,h,_,_,TTv Γ (λ ρ s=>.ok (.bl true) s),_,rfl,Z,hi,λ C cells s H ex=>⟨(c3 C cells s H ex).2,aT5.imp λ σ H Q q=>?_,Y C cells s H ex⟩,aG0 c2,λ σ H Q q=>aQ8 (TFv.eq (λ ρ s=>?_) q)⟩
 ·obtain⟨φ,ρ,s,b,s',E,R,z,q⟩:=q
  cases z
  exact q φ H (Gr.refl _ _ _) (ak _) R
 ·congr 1
theorem bt8 {tg:Expr}{e:mq}{E:Expr}(G:CG Γ F n X ck)(h:PE X E (TEv Γ (lx F e))):PI X tg E (TIv Γ (nw F (.seq e))):=by
 refine(PI.or (bo7 G.K h) (PI.or (bb2 G.K h) (bO1 h))).imp λ σ H R q=>bC1 (TIv.eq (λ ρ s=>rfl) q)
theorem bb3 {tg:Expr}{a:mq}{l:Expr}{p pos:Pos}(G:CG Γ F n X ck)(hg:ck.gl "range"=true)(hs:shp l=true)(h:PE X l (TEv Γ (lx F a))):PI X tg (.Call (.Name "range" p) [l] [] pos) (TIv Γ (nw F (.rng1 a))) :=
 (aS6 (G.gl hg).1 (G.bi _ (by decide)) (zC h ad2 (zd hs)) (zd hs)).imp λ σ H R q=>br1 (TIv.eq (λ ρ s=>rfl) q)
theorem bD8 (h:TEv Γ (λ ρ s=>l7 (.dic []) s) σ H Q):bm4 σ H Q:=by
 obtain⟨φ,ρ,s,d,s',E,R,C,q⟩:=h
 obtain⟨rfl,rfl⟩:=zR C
 intro p z
 obtain⟨g,y⟩:=R.new (o:=.dic []) (u:=.dK []) z rfl λ φ' H' g e=>⟨[],e,rfl⟩
 exact q (.ref p) _ _ g (by simp) (by unfold ly;simp) (by unfold RV;simp) y
theorem bN5 {mk mv:lw->lr->lz lu}(h:TEv Γ (λ ρ s=>(mk ρ (s++[.dic []])).bind λ kd s1=>(mv ρ s1).bind λ C s2=>if kd.key=true/\s2[s.length]?=some (.dic [])then .ok (.ref s.length) (s2.set s.length (.dic [(kd,C)]))else .bad) σ H Q):bG1 [(TEv Γ mk,TEv Γ mv)] σ H Q:=by
 obtain⟨φ,ρ,s,d,s',E,R,z,q⟩:=h
 obtain⟨kd,s1,e1,z⟩:=aa0 z
 obtain⟨C,s2,e2,z⟩:=aa0 z
 split at z
 case isFalse=>exact fb z
 rename_i hc
 cases z
 intro p hp
 obtain⟨g0,R0⟩:=R.new (o:=.dic []) (u:=.dK []) hp rfl λ φ' H' g e=>⟨[],e,rfl⟩
 have l0:s.length<=(s++[DV.O.dic []]).length:=by simp
 refine⟨_,ρ,s++[DV.O.dic []],kd,s1,E.mono g0 l0,R0,e1,λ v1 φ1 H1 g1 l1 Z r1 R1=>?_⟩
 refine⟨φ1,ρ,s1,C,s2,(E.mono g0 l0).mono g1 l1,R1,e2,λ J φ2 H2 F Y b2 r2 R2=>?_⟩
 have y:φ2 s.length=p:=by
  rw[F.w.map s.length (aq (by simp) l1),g1.w.map s.length (by simp)];simp
 obtain⟨k,hk⟩:=aj8 hc.1
 have ek:=ay9 hk (RV.mono F kd v1 Z r1)
 obtain⟨G,z1,z2⟩:=R2.obj s.length _ hc.2
 have z2:G=[]:=z2
 subst z2
 rw[y]at z1
 refine⟨z1,[(k,J)],by rw[ek];rfl,by simp,?_⟩
 have hb:(DV.O.dic [(kd,C)]).bnd s2.length=true:=by
  unfold lA
  simp only[aH,bS,lv,gE,aj]
  exact⟨zm Y _ Z,b2⟩
 obtain⟨g3,R3⟩:=R2.set (o:=.dic [(kd,C)]) (u:=.dK [(k,J)]) hc.2 rfl hb λ H' g e=>⟨_,e,k,J,[],rfl,hk,RV.monoW g _ _ b2 r2,rfl⟩
 rw[y]at g3 R3
 have L:s.length<=s2.length:=am l0 (am l1 Y)
 have lt:s.length<s2.length:=aq (by simp) (am l1 Y)
 exact q (.ref p) _ _ (((g0.trans g1 l0).trans F (am l0 l1)).trans g3 L) (by rw[a0];exact L) (by unfold ly;rw[a0];exact decide_eq_true lt) (by unfold RV;rw[y]) R3
theorem bx8 (h:TEv Γ (λ ρ s=>l7 (.dit []) s) σ H Q):bm2 σ H Q:=by
 obtain⟨φ,ρ,s,d,s',E,R,C,q⟩:=h
 obtain⟨rfl,rfl⟩:=zR C
 intro p z
 obtain⟨g,y⟩:=R.new (o:=.dit []) (u:=.dT []) z rfl λ φ' H' g e=>⟨[],e,rfl⟩
 exact q (.ref p) _ _ g (by simp) (by unfold ly;simp) (by unfold RV;simp) y
theorem bh3 {x y z d:lu}{s s':lr}(h:DV.bn5 x y z s=.ok d s'):∃ r l,x=.ref r/\s[r]?=some (.dit l)/\y.keyT=true/\d=(lQ y l).getD z/\s'=s:=by
 unfold DV.bn5 at h
 split at h
 ·split at h
  ·split at h
   ·cases h;exact⟨_,_,rfl,by assumption,by assumption,rfl,rfl⟩
   ·exact fb h
  ·exact fb h
 ·exact fb h
theorem bH9 {o:lP}(h:o.kd=4):∃ l,o=.dit l:=by
 cases o with
 | dit l=>exact⟨l,rfl⟩
 | _=>cases h
theorem bc4 {o k e:mq}{ob a b:Expr}{ap cp:Pos}(G:CG Γ F n X ck)(hab:aZ6 ob=true)(hl:(ap.endLine==cp.line)=true)(s1:shp a=true)(s2:shp b=true)(ho:PE X ob (TEv Γ (lx F o)))(hk:PE X a (TEv Γ (lx F k)))(he:PE X b (TEv Γ (lx F e))) :
  EvT Γ X (.Call (.Attribute ob "get" ap) [a,b] [] cp) (lx F (.get2 o k e)):=by
 have a2:∀ x∈[a,b],shp x=true:=λ x hx=>by
  rcases aF.mp hx with z|z
  ·rw[z];exact s1
  ·rw[aU.mp z];exact s2
 refine .val ((bf4 (aF9 G.room) ho hk he ⟨ah4 hab,by rw[(zq a2).2];rfl,hl,by rw[zd s1,zd s2];rfl⟩).imp λ σ H Q q=>?_)
 obtain⟨φ,ρ,s,d,s',E,R,hm,q⟩:=q
 obtain⟨x,h,e1,J⟩:=aa0 hm
 obtain⟨y,t2,e2,C⟩:=aa0 J
 obtain⟨z,t3,e3,a3⟩:=aa0 C
 clear hm J C
 obtain⟨r,l,rfl,er,hy,rfl,rfl⟩:=bh3 a3
 refine⟨φ,ρ,s,_,h,E,R,e1,λ v1 φ1 H1 g1 l1 b1 r1 R1=>?_⟩
 have hlt:r<h.length:=by unfold ly at b1;exact of_decide_eq_true b1
 obtain⟨o1,f1⟩:∃ o1,h[r]?=some o1:=⟨h[r],ai hlt⟩
 obtain⟨o2,f2,k2⟩:=DV.ze G.fk k ρ h _ _ e2 r _ f1
 obtain⟨o3,f3,k3⟩:=DV.ze G.fk e ρ t2 _ _ e3 r _ f2
 rw[er]at f3;cases f3
 obtain⟨l0,rfl⟩:=bH9 (k2.symm.trans k3.symm)
 obtain⟨a7,a1,_⟩:=R1.obj r _ f1
 refine⟨φ1 r,r1.refE,.inr ⟨a7,.inl a1⟩,φ1,ρ,h,y,t2,E.mono g1 l1,R1,e2,λ v2 φ2 H2 g2 l2 b2 r2 R2=>?_⟩
 have G2:=g1.trans g2 l1
 have L2:=am l1 l2
 refine⟨φ2,ρ,t2,z,_,E.mono G2 L2,R2,e3,λ v3 φ3 H3 g3 l3 b3 r3 Z=>?_⟩
 obtain⟨kk,Y⟩:=af3 hy
 obtain⟨kb,ey,a4⟩:=au4 Y (RV.mono g3 y v2 b2 r2)
 subst ey
 obtain⟨a5,c1,c2⟩:=Z.obj r _ er
 have a6:φ3 r=φ1 r:=by rw[g3.w.map r (aq hlt l2),g2.w.map r hlt]
 rw[a6]at c1
 refine⟨az0 a5 kk,at5.t c1 a4,?_⟩
 have hq:=q.trans (G2.trans g3 L2) (am L2 l3)
 rcases c2.val keyT_inj Y with⟨q1,q2⟩|⟨e',v',q1,q2,q3,q4⟩
 ·rw[q1]at hq;rw[q2];exact hq.here Z b3 r3
 ·rw[q1]at hq;rw[q2]
  have wf:=Z.wf _ _ er
  unfold lA at wf
  rw[aj]at wf
  exact hq.here Z (aa2.mp wf.2 _ q4) q3
theorem RVL.ofGet {φ:Nat->Addr}{H:Hp}:∀ {l:List lu} {ys:List V},ys.length=l.length->(∀(i:Nat) (d:lu),l[i]?=some d->∃ x,ys[i]?=some x/\RV Γ φ H d x)->RVL Γ φ H l ys
 | [],ys,h,_=>by rw[bG.mp h];exact .nil
 | d::l,[],h,_=>by cases h
 | d::l,y::ys,h,k=>by
  obtain⟨x,e,r⟩:=k 0 d rfl
  cases e
  exact .cons r (RVL.ofGet (by simpa using h) λ i d e=>k (i+1) d e)
theorem bi2 {x:lu}{s s':lr}{l:List lu}(h:DV.bo0 x s=.ok l s'):∃ r l0,x=.ref r/\s[r]?=some (.dit l0)/\l0.length<=lB/\l=l0.map DV.bS1/\s'=s:=by
 unfold DV.bo0 at h
 split at h
 ·split at h
  ·split at h
   ·cases h;exact⟨_,_,rfl,by assumption,by assumption,rfl,rfl⟩
   ·exact fb h
  ·exact fb h
 ·exact fb h
theorem bM4 {e:mq}{q:ItT}(G:CG Γ F n X ck)(hc:bR2 ck q=true)(he:PE X q.ob (TEv Γ (lx F e))):PE X q.text (TFv Γ (ny F (.itm e))):=by
 unfold bR2 at hc
 simp only[aj,eZ,decide_eq_true_eq]at hc
 obtain⟨⟨⟨⟨⟨⟨h1,h2⟩,h3⟩,h4⟩,h5⟩,h6⟩,⟨⟨h7,h8⟩,h9⟩,a6⟩:=hc
 refine(bL3 h2 (G.comp h1).1 G.calm h3 h4 he (ah4 h5) h6 h7 h8 h9 a6).imp λ σ H Q h=>?_
 obtain⟨φ,ρ,s,l,s',E,R,hm,k⟩:=h
 obtain⟨d,s1,e1,hm⟩:=aa0 hm
 obtain⟨r,l0,rfl,er,hl,rfl,rfl⟩:=bi2 hm
 refine⟨φ,ρ,s,.ref r,_,E,R,e1,λ v φ1 H1 g1 l1 b1 r1 R1=>?_⟩
 have ev:=r1.refE;subst ev
 obtain⟨y,a1,a2⟩:=R1.obj r _ er
 have J:=a2.length
 refine bG2 (K:=X.K) (σ:=σ) (Q:=λ v H'=>∃ a o y,H' a=some (.frz o (.dT y))/\(∀ o u,H a≠some (.frz o u))/\Q v (upd H' a (.dT y))) a1 (λ kv a3=>by obtain⟨d,hd⟩:=a2.keys kv a3;exact bc8 hd) (by rw[J];exact hl) λ D ys H2 o sm hD a8 hy ha C a4=>?_
 obtain⟨g2,R2⟩:=R1.same sm
 refine⟨φ1 r,o,y,ha,λ o u z=>?_,k D ys φ1 _ (g1.trans g2 l1) l1 ?_ (by rw[za a8];exact hy) ?_ (Off.new R1 hD) (.ofGet (by rw[C,J,au]) λ i d Y=>?_) R2⟩
 ·have:=g1.w.kp _ _ z rfl
  rw[a1]at this;cases this
 ·have wf:=R1.wf r _ er
  unfold lA at wf
  rw[aj]at wf
  refine aa2.mpr λ d hd=>?_
  obtain⟨p,hp,rfl⟩:=aO.mp hd
  have Z:=aa2.mp wf.1 _ (aS (f:=(·.1)) hp)
  have c2:=aa2.mp wf.2 _ (aS (f:=(·.2)) hp)
  obtain⟨pk,pv⟩:=p
  cases pk with
  | tup ks =>
   show ly _ (.tup (ks++[pv]))=true
   unfold ly at Z ⊢
   exact zu Z (by unfold lv;rw[c2];rfl)
  | _=>rfl
 ·cases z:H D with
  | none=>rfl
  | some o=>exact absurd hD (g1.st D (by rw[z];simp))
 ·rw[aE]at Y
  cases q0:l0[i]? with
  | none=>rw[q0]at Y;cases Y
  | some p =>
   rw[q0]at Y
   cases Y
   obtain⟨pk,pv⟩:=p
   obtain⟨kk,v,Z,c2,c3⟩:=a2.get q0
   have a5:i<ys.length:=by rw[C,J];exact(ac.mp q0).1
   obtain⟨t,t1,t2,t3⟩:=a4 i kk v a5 Z
   obtain⟨ks,rfl,z,a7⟩:=ag4 c2
   have wf:=R1.wf r _ er
   unfold lA at wf
   rw[aj]at wf
   have hv:=aa2.mp wf.2 _ (aS (f:=(·.2)) (aK q0))
   refine⟨.ref t,t2,?_⟩
   show RV Γ φ1 _ (.tup (ks++[pv])) (.ref t)
   exact RV.tupI (by rw[za (bq5 t3 ha (by nofun))];exact t3) ((aW5 a7 z.2.1).append (.cons (RV.mono g2 _ _ hv c3) .nil))
end
section
variable {Γ:Gm} {F:lU} {n:Nat}
theorem bI3 {X:Cx}{c:DV.Cn}{v:Const}{k:Nat}{pos:Pos}(h:mC c v=true):EvT Γ X (.Constant v k pos) (lx F (.cst c)):=by
 refine .val ?_
 unfold mC at h
 split at h
 ·exact bN9.imp λ σ H Q q=>az6 (c:=.non) (λ _=>rfl) (λ _ _=>RV.nonI) (TEv.eq (λ ρ s=>rfl) q)
 ·rename_i b c
  have e:=eq_of_beq h
  subst e
  exact bS6.imp λ σ H Q q=>az6 (c:=.bl b) (λ _=>rfl) (λ _ _=>RV.blI) (TEv.eq (λ ρ s=>rfl) q)
 ·rename_i i j
  have e:=of_decide_eq_true h
  subst e
  exact bF4.imp λ σ H Q q=>az6 (c:=.int i) (λ _=>rfl) (λ _ _=>RV.intI) (TEv.eq (λ ρ s=>rfl) q)
 ·rename_i x y
  rw[aj]at h
  have e:=of_decide_eq_true h.1
  have e2:=of_decide_eq_true h.2
  subst e
  exact bE5.imp λ σ H Q q=>az6 (c:=.str x) (λ _=>rfl) (λ _ _=>RV.strI (by unfold lB;omega)) (TEv.eq (λ ρ s=>rfl) q)
 ·cases h
theorem bu5 {X:Cx}{Z:Ck}{es:lR}{y:List Expr}{pos:Pos}(m:mEs Z es y=true)(hz:y.length<=1000)(h:PA X y (TAv Γ (lV F es))):PE X (.List y pos) (TFv Γ (ny F (.disp es))):=by
 refine(bn6 h).imp λ σ H Q q=>?_
 obtain⟨φ,ρ,s,l,s',E,R,G,q⟩:=q
 refine⟨φ,ρ,s,l,s',E,R,G,λ vs φ1 Y g1 l1 J r1 R1=>⟨by rw[r1.length,as8 G m];exact aG8 hz,λ p z=>?_⟩⟩
 obtain⟨C,R2⟩:=R1.same (H':=upd Y p (.lst vs)) ((ad9.refl Y).new z)
 refine q p vs φ1 _ (g1.trans C l1) l1 J zb ?_ (Off.new R1 z) (RVL.mono C _ _ J r1) R2
 cases e:H p with
 | none=>rfl
 | some o=>exact absurd z (g1.st p (by rw[e];simp))
theorem CompF.eq {X:Cx}{m m':lw->lr->lz (List lu)}{E:Expr}(c:CompF Γ X m E)(e:∀ ρ s,m' ρ s=m ρ s):CompF Γ X m' E:=by
 have:m'=m:=funext λ ρ=>funext λ s=>e ρ s
 subst this;exact c
theorem zh {a b:Bool}(h:(a&&b)=true):a=true/\b=true:=by rw[aj]at h;exact h
theorem br5 {X:Cx}{z:Ck}{g:String}{p:Pos}(G:CG Γ F n X z)(h:z.gl (g:Str)=true):EvT Γ X (.Name (g:Str) p) (lx F (.glob g)):=by
 refine .val ?_
 obtain⟨g1,Y,g3⟩:=G.gl h
 cases e:F.con g with
 | none =>
  intro C s σ H Q I q
  obtain⟨φ,ρ,s,d,s',E,R,y,q⟩:=q
  have y:(match F.con g with|some d=>DV.R.ok d s|none=>.bad)=.ok d s':=y
  rw[e]at y
  cases y
 | some d =>
  obtain⟨v,u,h1,J,Z,h4⟩:=G.con g d e
  exact(bq6 g1 h1 J Y).imp λ σ H Q q=>az6 (c:=d) Z h4 (TEv.eq (λ ρ s=>by show(match F.con g with|some d=>DV.R.ok d s|none=>.bad)=DV.R.ok d s;rw[e]) q)
theorem bK8 {X:Cx}{y:Ck}{i:Nat}{x:Str}{p:Pos}(G:CG Γ F n X y)(h:y.var i x=true):EvT Γ X (.Name x p) (lx F (.var i)):=by
 refine .val ?_
 unfold Ck.var at h
 obtain⟨h,J⟩:=zh h
 obtain⟨h,C⟩:=zh h
 obtain⟨Y,z⟩:=zh h
 have e1:(x==("__debug__":Str))=false:=by simpa using C
 have e2:(x==("__classdict__":Str))=false:=by simpa using J
 exact(av8 (by rw[G.N];exact of_decide_eq_true Y) (G.vis z) e1 e2).imp λ σ H Q q=>bO3 i (TEv.eq (λ ρ s=>rfl) q)
theorem bn7 {X:Cx}{y:Ck}{i:Nat}{x:Str}{p:Pos}(G:CG Γ F n X y)(h:y.var i x=true):PE X (.Name x p) (aZ8 i):=by
 unfold Ck.var at h
 obtain⟨h,J⟩:=zh h
 obtain⟨h,C⟩:=zh h
 obtain⟨Y,z⟩:=zh h
 exact av8 (by rw[G.N];exact of_decide_eq_true Y) (G.vis z) (by simpa using C) (by simpa using J)
theorem av2 {J:Ck}:∀ {es:mz} {F:List Expr},bB1 J es F=true->∀ x∈F,shp x=true
 | .nil,[],_,x,hx=>by cases hx
 | .nil,_::_,h,_,_=>ff h
 | .ex e es,[],h,_,_=>ff h
 | .ex e es,y::ys,h,x,hx=>by
  obtain⟨h,C⟩:=zh h
  obtain⟨G,z⟩:=zh h
  rcases aF.mp hx with rfl|hx
  ·exact z
  ·exact av2 C x hx
 | .lam _ _ es,[],h,_,_=>ff h
 | .lam _ _ es,y::ys,h,x,hx=>by
  obtain⟨h,C⟩:=zh h
  obtain⟨G,z⟩:=zh h
  rcases aF.mp hx with rfl|hx
  ·exact z
  ·exact av2 C x hx
 | .fn _ _,_,h,_,_=>ff h
theorem aL1 {F:Ck}:∀ {es:mz} {G:List Expr},bB1 F es G=true->bb5 es=true->∃ id z E,F.lk id z E=true
 | .nil,_,_,h=>by cases h
 | .ex e es,[],h,_=>ff h
 | .ex e es,y::ys,h,hl=>by
  obtain⟨h,C⟩:=zh h
  exact aL1 C hl
 | .lam id z es,[],h,_=>ff h
 | .lam id z es,y::ys,h,_=>by
  obtain⟨h,C⟩:=zh h
  obtain⟨J,Y⟩:=zh h
  exact⟨id,z,y,J⟩
 | .fn _ _,_,h,_=>ff h
theorem aK1 {X:Cx}{E:Expr}{m:lw->lr->lz lu}(h:∀ ρ s,m ρ s=.bad):EvT Γ X E m:=by
 refine⟨λ y s σ H Q I q=>?_,λ y s σ H Q I q=>?_⟩
 ·obtain⟨φ,ρ,s,d,s',E,R,z,q⟩:=q
  rw[h]at z;exact fb z
 ·obtain⟨φ,ρ,s,d,s',E,R,z,q⟩:=q
  rw[h]at z;exact fb z
inductive LK (Γ:Gm)(X:Cx)(m:lw->lr->lz (List lu))(E:Expr)(k:Nat):Prop where
 | c (h:CompF Γ X m E):LK Γ X m E k
 | f (hk:1<=k) (h:PE X E (TFv Γ m)):LK Γ X m E k
 | s (hk:k=2) (h:PE X E (TLv Γ m)):LK Γ X m E k
theorem bF8 {X:Cx}{m:lw->lr->lz (List lu)}{E:Expr}(h:LK Γ X m E 0):CompF Γ X m E:=by
 cases h with
 | c h=>exact h
 | f hk h=>omega
 | s hk h=>omega
theorem bc6 {X:Cx}{y:Ck}{m:lw->lr->lz (List lu)}{E:Expr}(G:CG Γ F n X y)(h:LK Γ X m E 1):PE X E (TFv Γ m):=by
 cases h with
 | c h=>exact h.pe G.calm
 | f hk h=>exact h
 | s hk h=>omega
theorem bU3 {X:Cx}{y:Ck}{m:lw->lr->lz (List lu)}{E:Expr}(G:CG Γ F n X y)(h:LK Γ X m E 2):PE X E (TLv Γ m):=by
 cases h with
 | c h=>exact(h.pe G.calm).imp λ σ H Q q=>aI4 q
 | f hk h=>exact h.imp λ σ H Q q=>aI4 q
 | s hk h=>exact h
theorem biOk_inv {z:Ck}{b:lX}{x:Str}{C:List Expr}{es:lR}(h:bP9 z b x C (mEs z es C) (mEs z es (C.take 1))=true) :
  (∃ k t a y Y,biK b=some (k,t)/\C=[a,.Name y Y]/\x=("isinstance":Str)/\y=t/\z.gl x=true/\z.gl y=true/\mEs z es [a]=true)\/∃ a ys,C=a::ys/\biT b=some x/\z.gl x=true/\mEs z es (a::ys)=true:=by
 unfold bP9 at h
 cases hk:biK b with
 | none =>
  rw[hk]at h
  cases C with
  | nil=>exact ff h
  | cons a ys =>
   obtain⟨h,G⟩:=zh h
   obtain⟨J,F⟩:=zh h
   exact .inr ⟨a,ys,rfl,of_decide_eq_true J,F,G⟩
 | some p =>
  rw[hk]at h
  cases C with
  | nil=>exact ff h
  | cons a ys=>cases ys with
   | nil=>exact ff h
   | cons b ys=>cases b with
    | Name y Y=>cases ys with
     | nil =>
      obtain⟨h,Z⟩:=zh h
      obtain⟨h,h4⟩:=zh h
      obtain⟨h,G⟩:=zh h
      obtain⟨J,F⟩:=zh h
      exact .inl ⟨p.1,p.2,a,y,Y,rfl,rfl,of_decide_eq_true J,of_decide_eq_true G,F,h4,Z⟩
     | cons _ _=>exact ff h
    | _=>exact ff h
theorem bg0 {E:Expr}{q:ItT}(h:bQ6 E=some q):E=q.text:=by
 have C:∀ {p:Prop},(none:Option ItT)=some q->p:=λ h=>nomatch h
 cases E with
 | ListComp elt gs sc pos =>
  cases elt with
  | BinOp l op r p4 =>
   cases l with
   | Name x p1 =>
    cases op with
    | Add =>
     cases r with
     | Tuple ts k1 p3 =>
      cases ts with
      | cons t0 ts1 =>
       cases t0 with
       | Name y p2 =>
        cases ts1 with
        | nil =>
         cases gs with
         | cons g gs1 =>
          cases g with
          | mk tgt iter ifs z =>
           cases tgt with
           | Tuple us k2 p7 =>
            cases us with
            | cons u0 us1 =>
             cases u0 with
             | Name x2 p5 =>
              cases us1 with
              | cons u1 us2 =>
               cases u1 with
               | Name y2 p6 =>
                cases us2 with
                | nil =>
                 cases iter with
                 | Call f as kw cp =>
                  cases f with
                  | Attribute ob it ap =>
                   cases as with
                   | nil =>
                    cases kw with
                    | nil =>
                     cases ifs with
                     | nil =>
                      cases gs1 with
                      | nil =>
                       have h:(if x2=x/\y2=y/\it=("items":Str)/\z=0 then some (⟨x,y,ob,sc,p1,p2,p3,p4,p5,p6,p7,k1,k2,ap,cp,pos⟩:ItT)else none)=some q:=h
                       by_cases e:x2=x/\y2=y/\it=("items":Str)/\z=0
                       ·rw[if_pos e]at h;cases h;obtain⟨rfl,rfl,rfl,rfl⟩:=e;rfl
                       ·rw[if_neg e]at h;exact C h
                      | _=>exact C h
                     | _=>exact C h
                    | _=>exact C h
                   | _=>exact C h
                  | _=>exact C h
                 | _=>exact C h
                | _=>exact C h
               | _=>exact C h
              | _=>exact C h
             | _=>exact C h
            | _=>exact C h
           | _=>exact C h
         | _=>exact C h
        | _=>exact C h
       | _=>exact C h
      | _=>exact C h
     | _=>exact C h
    | _=>exact C h
   | _=>exact C h
  | _=>exact C h
 | _=>exact C h
mutual
theorem sE:∀(e:mq) (E:Expr) (X:Cx) (z:Ck),CG Γ F n X z->mE z e E=true->EvT Γ X E (lx F e)
 | .var i,E,X,z,G,h=>by
  cases E with
  | Name x p =>
   exact bK8 G h
  | _=>exact ff h
 | .cst c,E,X,z,G,h=>by
  cases E with
  | Constant v k p =>
   exact bI3 h
  | _=>exact ff h
 | .glob g,E,X,z,G,h=>by
  cases E with
  | Name x p =>
   obtain⟨J,C⟩:=zh h
   have e:=of_decide_eq_true J
   subst e
   exact br5 G C
  | _=>exact ff h
 | .bin op a b,E,X,z,G,h=>by
  cases E with
  | BinOp l o r pE =>
   obtain⟨h,Y⟩:=zh h
   obtain⟨J,C⟩:=zh h
   have e:=of_decide_eq_true J
   subst e
   exact bp9 G op (sE a _ X z G C) (sE b _ X z G Y)
  | _=>exact ff h
 | .neg a,E,X,z,G,h=>by
  cases E with
  | UnaryOp o l p =>
   cases o with
   | USub =>
    exact bw4 (sE a _ X z G h)
   | _=>exact ff h
  | _=>exact ff h
 | .not a,E,X,z,G,h=>by
  cases E with
  | UnaryOp o l p =>
   cases o with
   | Not =>
    exact bt5 (sE a _ X z G h)
   | _=>exact ff h
  | _=>exact ff h
 | .cmp op a b,E,X,z,G,h=>by
  cases E with
  | Compare l os rs pE =>
   cases os with
   | cons o os_0 =>
    cases os_0 with
    | nil =>
     cases rs with
     | cons r rs_0 =>
      cases rs_0 with
      | nil =>
       obtain⟨h,Y⟩:=zh h
       obtain⟨J,C⟩:=zh h
       have e:=of_decide_eq_true J
       subst e
       exact bw9 G op (ay3 Y) (sE a _ X z G C) (sE b _ X z G Y)
      | _=>exact ff h
     | _=>exact ff h
    | _=>exact ff h
   | _=>exact ff h
  | _=>exact ff h
 | .chain o p a b c,E,X,z,G,h=>by
  cases E with
  | Compare l os rs pE =>
   cases os with
   | cons o1 os_0 =>
    cases os_0 with
    | cons o2 os_1 =>
     cases os_1 with
     | nil =>
      cases rs with
      | cons m rs_0 =>
       cases rs_0 with
       | cons r rs_1 =>
        cases rs_1 with
        | nil =>
         obtain⟨h,h5⟩:=zh h
         obtain⟨h,Z⟩:=zh h
         obtain⟨h,Y⟩:=zh h
         obtain⟨J,C⟩:=zh h
         have e:=of_decide_eq_true J
         have e':=of_decide_eq_true C
         subst e
         subst e'
         exact aW2 G o p (ay3 h5) (sE a _ X z G Y) (sE b _ X z G Z) (sE c _ X z G h5)
        | _=>exact ff h
       | _=>exact ff h
      | _=>exact ff h
     | _=>exact ff h
    | _=>exact ff h
   | _=>exact ff h
  | _=>exact ff h
 | .isN a,E,X,z,G,h=>by
  cases E with
  | Compare l os rs pE =>
   cases os with
   | cons o os1 =>
    cases o with
    | Is =>
     cases os1 with
     | nil =>
      cases rs with
      | cons r rs1 =>
       cases r with
       | Constant v k p1 =>
        cases v with
        | none =>
         cases rs1 with
         | nil =>
          exact bz0 (sE a _ X z G h)
         | _=>exact ff h
        | _=>exact ff h
       | _=>exact ff h
      | _=>exact ff h
     | _=>exact ff h
    | _=>exact ff h
   | _=>exact ff h
  | _=>exact ff h
 | .notN a,E,X,z,G,h=>by
  cases E with
  | Compare l os rs pE =>
   cases os with
   | cons o os1 =>
    cases o with
    | IsNot =>
     cases os1 with
     | nil =>
      cases rs with
      | cons r rs1 =>
       cases r with
       | Constant v k p1 =>
        cases v with
        | none =>
         cases rs1 with
         | nil =>
          exact bj1 (sE a _ X z G h)
         | _=>exact ff h
        | _=>exact ff h
       | _=>exact ff h
      | _=>exact ff h
     | _=>exact ff h
    | _=>exact ff h
   | _=>exact ff h
  | _=>exact ff h
 | .isB _ _,E,X,z,G,h=>ff h
 | .notB _ _,E,X,z,G,h=>ff h
 | .and a b,E,X,z,G,h=>by
  cases E with
  | BoolOp op vs p=>cases op with
   | And =>
    cases vs with
    | nil=>exact ff h
    | cons l vs=>cases vs with
     | nil=>exact ff h
     | cons r vs=>cases vs with
      | nil =>
       obtain⟨J,C⟩:=zh h
       exact bp0 (sE a _ X z G J) (sE b _ X z G C)
      | cons r2 vs =>
       obtain⟨J,C⟩:=zh h
       exact bu0 (sE a _ X z G J) (sE b _ X z G C)
   | _=>exact ff h
  | _=>exact ff h
 | .or a b,E,X,z,G,h=>by
  cases E with
  | BoolOp op vs p=>cases op with
   | Or =>
    cases vs with
    | nil=>exact ff h
    | cons l vs=>cases vs with
     | nil=>exact ff h
     | cons r vs=>cases vs with
      | nil =>
       obtain⟨J,C⟩:=zh h
       exact bL4 (sE a _ X z G J) (sE b _ X z G C)
      | cons r2 vs =>
       obtain⟨J,C⟩:=zh h
       exact bH1 (sE a _ X z G J) (sE b _ X z G C)
   | _=>exact ff h
  | _=>exact ff h
 | .ite c a b,E,X,z,G,h=>by
  cases E with
  | IfExp tE l r pE =>
   obtain⟨h,Y⟩:=zh h
   obtain⟨J,C⟩:=zh h
   exact bq1 (sE c _ X z G J) (sE a _ X z G C) (sE b _ X z G Y)
  | _=>exact ff h
 | .tup es,E,X,z,G,h=>by
  cases E with
  | Tuple xs k p =>
   obtain⟨J,C⟩:=zh h
   exact bv3 J (of_decide_eq_true C) (al4 (sEs es _ X z G J))
  | _=>exact ff h
 | .lst es,E,X,z,G,h=>by
  cases E with
  | List xs p =>
   obtain⟨J,C⟩:=zh h
   exact br6 J (of_decide_eq_true C) (al4 (sEs es _ X z G J))
  | _=>exact ff h
 | .dic .nil .nil,E,X,z,G,h=>by
  cases E with
  | Dict a b p=>cases a with
   | nil=>cases b with
    | nil=>exact .val (aZ9.imp λ σ H Q q=>bD8 (TEv.eq (λ ρ s=>rfl) q))
    | _=>exact ff h
   | cons x a=>cases x with
    | none=>exact ff h
    | some x=>cases a with
     | nil=>cases b with
      | nil=>exact ff h
      | cons y b=>cases b with
       | nil=>exact ff h
       | _=>exact ff h
     | _=>exact ff h
  | _=>exact ff h
 | .dic (.cons k .nil) (.cons v .nil),E,X,z,G,h=>by
  cases E with
  | Dict a b p=>cases a with
   | nil=>cases b with
    | nil=>exact ff h
    | _=>exact ff h
   | cons x a=>cases x with
    | none=>exact ff h
    | some x=>cases a with
     | nil=>cases b with
      | nil=>exact ff h
      | cons y b=>cases b with
       | nil =>
        obtain⟨J,C⟩:=zh h
        obtain⟨J,_⟩:=zh J
        obtain⟨J,_⟩:=zh J
        obtain⟨C,_⟩:=zh C
        obtain⟨C,_⟩:=zh C
        exact .val ((bp7 (bg6 (sE k _ X z G J).1 (sE v _ X z G C).1 bv1) rfl rfl (by nofun) (by show 1<=15;decide)).imp λ σ H Q q=>bN5 (TEv.eq (λ ρ s=>rfl) q))
       | _=>exact ff h
     | _=>exact ff h
  | _=>exact ff h
 | .dic .nil (.cons _ _),E,X,z,G,h=>aK1 λ _ _=>rfl
 | .dic (.cons _ .nil) .nil,E,X,z,G,h=>aK1 λ _ _=>rfl
 | .dic (.cons _ .nil) (.cons _ (.cons _ _)),E,X,z,G,h=>aK1 λ _ _=>rfl
 | .dic (.cons _ (.cons _ _)) _,E,X,z,G,h=>aK1 λ _ _=>rfl
 | .dicT,E,X,z,G,h=>by
  cases E with
  | Dict a b p=>cases a with
   | nil=>cases b with
    | nil=>exact .val (bi0.imp λ σ H Q q=>bx8 (TEv.eq (λ ρ s=>rfl) q))
    | _=>exact ff h
   | _=>exact ff h
  | _=>exact ff h
 | .get2 o k d,E,X,z,G,h=>by
  cases E with
  | Call fE xs kw cp =>
   cases fE with
   | Attribute ob x ap =>
    cases xs with
    | cons a xs_0 =>
     cases xs_0 with
     | cons b xs_1 =>
      cases xs_1 with
      | nil =>
       cases kw with
       | nil =>
        obtain⟨h,h8⟩:=zh h
        obtain⟨h,h7⟩:=zh h
        obtain⟨h,h6⟩:=zh h
        obtain⟨h,h5⟩:=zh h
        obtain⟨h,Z⟩:=zh h
        obtain⟨h,Y⟩:=zh h
        obtain⟨J,C⟩:=zh h
        have e:=of_decide_eq_true J
        subst e
        exact bc4 G C Y h7 h8 (sE o _ X z G Z).1 (sE k _ X z G h5).1 (sE d _ X z G h6).1
       | _=>exact ff h
      | _=>exact ff h
     | _=>exact ff h
    | _=>exact ff h
   | _=>exact ff h
  | _=>exact ff h
 | .ix a b,E,X,z,G,h=>by
  cases E with
  | Subscript o i p =>
   obtain⟨J,C⟩:=zh h
   exact bP4 G (ay3 C) (sE a _ X z G J) (sE b _ X z G C)
  | _=>exact ff h
 | .slL a lo,E,X,z,G,h=>by
  cases E with
  | Subscript o i p =>
   cases i with
   | Slice lo hi st p2 =>
    cases lo with
    | some l =>
     cases hi with
     | none =>
      cases st with
      | none =>
       obtain⟨J,C⟩:=zh h
       exact bx5 G (sE a _ X z G J) (sE lo _ X z G C)
      | _=>exact ff h
     | _=>exact ff h
    | _=>exact ff h
   | _=>exact ff h
  | _=>exact ff h
 | .slU a hi,E,X,z,G,h=>by
  cases E with
  | Subscript o i p =>
   cases i with
   | Slice lo hi st p2 =>
    cases lo with
    | none =>
     cases hi with
     | some l =>
      cases st with
      | none =>
       obtain⟨J,C⟩:=zh h
       exact bz4 G (sE a _ X z G J) (sE hi _ X z G C)
      | _=>exact ff h
     | _=>exact ff h
    | _=>exact ff h
   | _=>exact ff h
  | _=>exact ff h
 | .slLU _ _ _,E,X,z,G,h=>ff h
 | .rev _,E,X,z,G,h=>ff h
 | .call f as,E,X,z,G,h=>by
  cases E with
  | Call fE xs kw p =>
   cases fE with
   | Name x pN =>
    cases kw with
    | nil =>
     obtain⟨h,Y⟩:=zh h
     obtain⟨J,C⟩:=zh h
     have e:=of_decide_eq_true J
     subst e
     exact bf6 G C Y (sAs as _ X z G Y)
    | _=>exact ff h
   | _=>exact ff h
  | _=>exact ff h
 | .callC f as,E,X,z,G,h=>by
  cases E with
  | Call fE xs kw p =>
   cases fE with
   | Name x pN =>
    cases xs with
    | cons y ys =>
     cases kw with
     | nil =>
      obtain⟨h,Y⟩:=zh h
      obtain⟨h,Z⟩:=zh h
      obtain⟨J,C⟩:=zh h
      have e:=of_decide_eq_true J
      subst e
      obtain⟨id,a1,E',a2⟩:=aL1 Y Z
      obtain⟨_,_,_,_,_,_,_,_,L⟩:=G.lam id a1 E' a2
      exact .val ((aY8 G C L.fn L.kd (av2 Y) (bR5 as _ X z G Y)).imp λ σ H Q q=>TEv.eq (λ ρ s=>rfl) q)
     | _=>exact ff h
    | _=>exact ff h
   | _=>exact ff h
  | _=>exact ff h
 | .callV i es,E,X,z,G,h=>by
  cases E with
  | Call fE xs kw p =>
   cases fE with
   | Name x pN =>
    cases xs with
    | cons y ys =>
     cases kw with
     | nil =>
      obtain⟨J,C⟩:=zh h
      exact .val (aQ6 G J (au6 C) (al4 (sEs es _ X z G C)) (bn7 G J))
     | _=>exact ff h
    | _=>exact ff h
   | _=>exact ff h
  | _=>exact ff h
 | .bi b es,E,X,z,G,h=>by
  cases E with
  | Call fE xs kw p =>
   cases fE with
   | Name x pN =>
    cases kw with
    | nil =>
     have h:bP9 z b x xs (mEs z es xs) (mEs z es (xs.take 1))=true:=h
     rcases biOk_inv h with⟨k,t,a,y,py,hk,rfl,rfl,rfl,C,Z,h5⟩|⟨a,ys,rfl,J,C,Y⟩
     ·exact bx6 G hk C Z (sEs es _ X z G h5)
     ·exact bM0 G J C Y (al4 (sEs es _ X z G Y))
    | _=>exact ff h
   | _=>exact ff h
  | _=>exact ff h
 | .mk k l,E,X,z,G,h=>by
  cases E with
  | ListComp e gs sc p =>
   obtain⟨J,C⟩:=zh h
   have e:=of_decide_eq_true J
   subst e
   exact .val (((bF8 (sL l _ X z G 0 C)).pe G.calm).imp λ σ H Q q=>aU1 (TEv.eq (λ ρ s=>rfl) q))
  | Call fE xs kw p =>
   cases fE with
   | Name x pN =>
    cases xs with
    | cons a xs_0 =>
     cases xs_0 with
     | nil =>
      cases kw with
      | nil =>
       obtain⟨h,Z⟩:=zh h
       obtain⟨C,Y⟩:=zh h
       rw[bN]at Z
       rcases Z with Z|Z
       ·obtain⟨h5,h6⟩:=zh Z
        exact .val ((bJ4 G (of_decide_eq_true h5) C Y (bU3 G (sL l _ X z G 2 h6))).imp λ σ H Q q=>TEv.eq (λ ρ s=>rfl) q)
       ·obtain⟨h5,h6⟩:=zh Z
        exact .val ((bN1 G (of_decide_eq_true h5) C Y (bc6 G (sL l _ X z G 1 h6))).imp λ σ H Q q=>TEv.eq (λ ρ s=>rfl) q)
      | _=>exact ff h
     | _=>exact ff h
    | _=>exact ff h
   | _=>exact ff h
  | _=>exact ff h
 | .mks _ _,E,X,z,G,h=>ff h
 | .mkDs _ _ _,E,X,z,G,h=>ff h
 | .mkD k l d,E,X,z,G,h=>by
  cases E with
  | Call fE xs kw p =>
   cases fE with
   | Name x pN =>
    cases xs with
    | cons a xs_0 =>
     cases xs_0 with
     | nil =>
      cases kw with
      | cons kk kw1 =>
       cases kk with
       | mk ky de kp =>
        cases ky with
        | some y =>
         cases kw1 with
         | nil =>
          obtain⟨h,h7⟩:=zh h
          obtain⟨h,h6⟩:=zh h
          obtain⟨h,h5⟩:=zh h
          obtain⟨h,Y⟩:=zh h
          obtain⟨J,C⟩:=zh h
          have e3:=of_decide_eq_true C
          subst e3
          rcases bN _ _ |>.mp J with h|h
          ·obtain⟨e,e2⟩:=zh h
           have e:=of_decide_eq_true e
           have e2:=of_decide_eq_true e2
           subst e e2
           exact .val ((by5 G Y h5 (bc6 G (sL l _ X z G 1 h6)) (sE d _ X z G h7).1).imp λ σ H Q q=>TEv.eq (λ ρ s=>rfl) q)
          obtain⟨e,e2⟩:=zh h
          have e:=of_decide_eq_true e
          have e2:=of_decide_eq_true e2
          subst e e2
          exact .val ((bH2 G Y h5 (bc6 G (sL l _ X z G 1 h6)) (sE d _ X z G h7).1).imp λ σ H Q q=>TEv.eq (λ ρ s=>rfl) q)
         | _=>exact ff h
        | _=>exact ff h
      | _=>exact ff h
     | _=>exact ff h
    | _=>exact ff h
   | _=>exact ff h
  | _=>exact ff h
 | .meth m o es,E,X,z,G,h=>by
  cases E with
  | Call fE xs kw p =>
   cases fE with
   | Attribute ob x ap =>
    cases kw with
    | nil =>
     obtain⟨h,h5⟩:=zh h
     obtain⟨h,Z⟩:=zh h
     obtain⟨h,Y⟩:=zh h
     obtain⟨J,C⟩:=zh h
     exact be3 G (of_decide_eq_true J) C Y (sE o _ X z G Z).1 h5 (sEs es _ X z G h5)
    | _=>exact ff h
   | _=>exact ff h
  | _=>exact ff h
 | .ext o l,E,X,z,G,h=>by
  cases E with
  | Call fE xs kw p =>
   cases fE with
   | Attribute ob x ap =>
    cases xs with
    | cons a xs_0 =>
     cases xs_0 with
     | nil =>
      cases kw with
      | nil =>
       obtain⟨h,h6⟩:=zh h
       obtain⟨h,h5⟩:=zh h
       obtain⟨h,Z⟩:=zh h
       obtain⟨h,Y⟩:=zh h
       obtain⟨J,C⟩:=zh h
       have e:=of_decide_eq_true J
       subst e
       exact .val ((bu7 G C Y (sE o _ X z G Z).1 h6 (bc6 G (sL l _ X z G 1 h5)) (DV.aI3 G.fk l)).imp λ σ H Q q=>TEv.eq (λ ρ s=>rfl) q)
      | _=>exact ff h
     | _=>exact ff h
    | _=>exact ff h
   | _=>exact ff h
  | _=>exact ff h
 | .extS o e',E,X,z,G,h=>by
  cases E with
  | Call fE xs kw p =>
   cases fE with
   | Attribute ob x ap =>
    cases xs with
    | cons a xs_0 =>
     cases xs_0 with
     | nil =>
      cases kw with
      | nil =>
       obtain⟨h,h6⟩:=zh h
       obtain⟨h,h5⟩:=zh h
       obtain⟨h,Z⟩:=zh h
       obtain⟨h,Y⟩:=zh h
       obtain⟨J,C⟩:=zh h
       have e:=of_decide_eq_true J
       subst e
       exact .val ((br3 G C Y (sE o _ X z G Z).1 h6 (sE e' _ X z G h5).1 (DV.ze G.fk e')).imp λ σ H Q q=>TEv.eq (λ ρ s=>rfl) q)
      | _=>exact ff h
     | _=>exact ff h
    | _=>exact ff h
   | _=>exact ff h
  | _=>exact ff h
 | .join _ _,E,X,z,G,h=>ff h
theorem sEs:∀(es:lR) (y:List Expr) (X:Cx) (z:Ck),CG Γ F n X z->mEs z es y=true->PEs Γ F X es y
 | .nil,y,X,z,G,h=>by
  cases y with
  | nil =>
   exact trivial
  | _=>exact ff h
 | .cons e es,y,X,z,G,h=>by
  cases y with
  | cons x y =>
   obtain⟨h,J⟩:=zh h
   obtain⟨Y,C⟩:=zh h
   exact⟨⟨C,sE e _ X z G Y⟩,sEs es _ X z G J⟩
  | _=>exact ff h
theorem sAs:∀(es:mz) (y:List Expr) (X:Cx) (z:Ck),CG Γ F n X z->mAs z es y=true->PA X y (TAv Γ (mK F es))
 | .nil,y,X,z,G,h=>by
  cases y with
  | nil =>
   exact ad2.imp λ σ H Q q=>aL3 (TAv.eq (λ ρ s=>rfl) q)
  | _=>exact ff h
 | .ex e es,y,X,z,G,h=>by
  cases y with
  | cons x y =>
   obtain⟨h,J⟩:=zh h
   obtain⟨Y,C⟩:=zh h
   exact(aL0 C (sE e _ X z G Y).1 (sAs es _ X z G J)).imp λ σ H Q q=>TAv.eq (λ ρ s=>rfl) q
  | _=>exact ff h
 | .lam _ _ _,y,X,z,G,h=>ff h
 | .fn _ _,y,X,z,G,h=>ff h
theorem bR5:∀(es:mz) (y:List Expr) (X:Cx) (z:Ck),CG Γ F n X z->bB1 z es y=true->PA X y (TAp Γ X.env.cells X.N (mK F es))
 | .nil,y,X,z,G,h=>by
  cases y with
  | nil =>
   exact ad2.imp λ σ H Q q=>bt3 (TAp.eq (λ ρ s=>rfl) q)
  | _=>exact ff h
 | .ex e es,y,X,z,G,h=>by
  cases y with
  | cons x y =>
   obtain⟨h,Y⟩:=zh h
   obtain⟨Z,C⟩:=zh h
   exact(zC (sE e _ X z G Z).1 (bR5 es _ X z G Y) (zd C)).imp λ σ H Q q=>bH0 (TAp.eq (λ ρ s=>rfl) q)
  | _=>exact ff h
 | .lam id caps es,y,X,z,G,h=>by
  cases y with
  | cons x y =>
   obtain⟨h,Y⟩:=zh h
   obtain⟨Z,C⟩:=zh h
   obtain⟨c,P,params,body,scope,pos,J,e,L⟩:=G.lam id caps _ Z
   have hnm:J.nm=none:=by
    cases q:J.nm with
    | none=>rfl
    | some p=>unfold lamText at e;rw[q]at e;rw[e]at C;cases C
   unfold lamText at e
   rw[hnm]at e
   dsimp only at e
   subst e
   rw[<-G.N]at L
   exact(bG7 L hnm (bR5 es _ X z G Y)).imp λ σ H Q q=>TAp.eq (λ ρ s=>rfl) q
  | _=>exact ff h
 | .fn _ _,y,X,z,G,h=>ff h
theorem sI:∀(i:DV.I) (E tg:Expr) (X:Cx) (y:Ck),CG Γ F n X y->mI y tg i E=true->PI X tg E (TIv Γ (nw F i))
 | .seq e,E,tg,X,y,G,h=>by
  obtain⟨z,C⟩:=zh h
  exact bt8 G (sE e _ X y G z).1
 | .rng1 a,E,tg,X,y,G,h=>by
  cases E with
  | Call fE xs kw p =>
   cases fE with
   | Name x pN =>
    cases xs with
    | cons l xs_0 =>
     cases xs_0 with
     | nil =>
      cases kw with
      | nil =>
       obtain⟨h,Y⟩:=zh h
       obtain⟨h,J⟩:=zh h
       obtain⟨z,C⟩:=zh h
       have e:=of_decide_eq_true z
       subst e
       exact bb3 G C Y (sE a _ X y G J).1
      | _=>exact ff h
     | _=>exact ff h
    | _=>exact ff h
   | _=>exact ff h
  | _=>exact ff h
 | .rng2 _ _,E,tg,X,y,G,h=>ff h
 | .rng3 _ _ _,E,tg,X,y,G,h=>ff h
 | .enum (.seq _),E,tg,X,y,G,h=>ff h
 | .enum (.rng1 _),E,tg,X,y,G,h=>ff h
 | .enum (.rng2 _ _),E,tg,X,y,G,h=>ff h
 | .enum (.rng3 _ _ _),E,tg,X,y,G,h=>ff h
 | .enum (.enum _),E,tg,X,y,G,h=>ff h
 | .enum (.zip _ _),E,tg,X,y,G,h=>ff h
 | .enum (.items _),E,tg,X,y,G,h=>ff h
 | .zip (.seq _) (.seq _),E,tg,X,y,G,h=>ff h
 | .zip (.seq _) (.rng1 _),E,tg,X,y,G,h=>ff h
 | .zip (.seq _) (.rng2 _ _),E,tg,X,y,G,h=>ff h
 | .zip (.seq _) (.rng3 _ _ _),E,tg,X,y,G,h=>ff h
 | .zip (.seq _) (.enum _),E,tg,X,y,G,h=>ff h
 | .zip (.seq _) (.zip _ _),E,tg,X,y,G,h=>ff h
 | .zip (.seq _) (.items _),E,tg,X,y,G,h=>ff h
 | .zip (.rng1 _) _,E,tg,X,y,G,h=>ff h
 | .zip (.rng2 _ _) _,E,tg,X,y,G,h=>ff h
 | .zip (.rng3 _ _ _) _,E,tg,X,y,G,h=>ff h
 | .zip (.enum _) _,E,tg,X,y,G,h=>ff h
 | .zip (.zip _ _) _,E,tg,X,y,G,h=>ff h
 | .zip (.items _) _,E,tg,X,y,G,h=>ff h
 | .items _,E,tg,X,y,G,h=>ff h
theorem sL:∀(l:DV.L) (E:Expr) (X:Cx) (y:Ck),CG Γ F n X y->∀ k,mL y k l E=true->LK Γ X (ny F l) E k
 | .comp tg it e caps,E,X,y,G,k,h=>by
  cases E with
  | ListComp elt gs scope p =>
   cases gs with
   | cons g gs1 =>
    cases g with
    | mk tgt iter ifs z =>
     cases ifs with
     | nil =>
      cases gs1 with
      | nil =>
       obtain⟨h,Z⟩:=zh h
       obtain⟨h,Y⟩:=zh h
       obtain⟨h0,J⟩:=zh h
       have e0:=of_decide_eq_true h0
       subst e0
       have c:=be0 (pos:=p) G J (sI it _ _ X y G Y) λ C cells s H ex=>(sE e _ _ _ ((G.comp J).2.2 C cells s H ex).1 Z).1
       exact .c (c.eq λ ρ s=>rfl)
      | _=>exact ff h
     | _=>exact ff h
   | _=>exact ff h
  | _=>exact ff h
 | .compIf tg it i e caps,E,X,y,G,k,h=>by
  cases E with
  | ListComp elt gs scope p =>
   cases gs with
   | cons g gs1 =>
    cases g with
    | mk tgt iter ifs z =>
     cases ifs with
     | cons i1 ifs1 =>
      cases ifs1 with
      | nil =>
       cases gs1 with
       | nil =>
        obtain⟨h,h4⟩:=zh h
        obtain⟨h,Z⟩:=zh h
        obtain⟨h,Y⟩:=zh h
        obtain⟨h0,J⟩:=zh h
        have e0:=of_decide_eq_true h0
        subst e0
        have c:=bw5 (pos:=p) G J (sI it _ _ X y G Y) (λ C cells s H ex=>(sE i _ _ _ ((G.comp J).2.2 C cells s H ex).1 Z).2) λ C cells s H ex=>(sE e _ _ _ ((G.comp J).2.2 C cells s H ex).1 h4).1
        exact .c (c.eq λ ρ s=>rfl)
       | _=>exact ff h
      | _=>exact ff h
     | _=>exact ff h
   | _=>exact ff h
  | _=>exact ff h
 | .disp es,E,X,y,G,k,h=>by
  cases E with
  | List xs p =>
   obtain⟨h,Y⟩:=zh h
   obtain⟨h0,J⟩:=zh h
   exact .f (of_decide_eq_true h0) (bu5 J (of_decide_eq_true Y) (al4 (sEs es _ X y G J)))
  | _=>exact ff h
 | .seq e,E,X,y,G,k,h=>by
  obtain⟨h0,J⟩:=zh h
  exact .s (of_decide_eq_true h0) ((sE e _ X y G J).1.imp λ σ H Q q=>bN8 (TLv.eq (λ ρ s=>rfl) q))
 | .itm e,E,X,y,G,k,h=>by
  have h:(match bQ6 E with|some q=>decide (1<=k)&&bR2 y q&&mE y e q.ob|none=>false)=true:=h
  cases hq:bQ6 E with
  | none=>rw[hq]at h;exact ff h
  | some q =>
   rw[hq]at h
   obtain⟨h,Z⟩:=zh h
   obtain⟨J,Y⟩:=zh h
   rw[bg0 hq]
   exact .f (of_decide_eq_true J) (bM4 G Y (sE e _ X y G Z).1)
end
end
section
variable {Γ:Gm} {F:lU} {n:Nat}
theorem bg7 {X:Cx}{Y:Ck}{m:lw->lr->lz (List lu)}{E:Expr}{x:Str}{i:Nat}{Z pos:Pos}(G:CG Γ F n X Y)(c:CompF Γ X m E)(hi:Y.N[i]?=some x)(hl:Y.loc x=true) :
  PS X (.Assign [.Name x Z] E pos) (bc1 (TFv Γ m) (ao8 i)):=by
 obtain⟨elt,C,iter,ifs,scope,p2,N',h,wi,g,tc,te,rfl,h1,h2,h3,h4,h5⟩:=c.ex
 obtain⟨l1,l2⟩:=G.loc hl
 have nd:X.N.Nodup:=by rw[G.N];exact G.nd
 have J:X.N[i]?=some x:=by rw[G.N];exact hi
 generalize hb:((X.env.blockKind==.function&&X.env.kindOf x==some .local&&Z.line==(Expr.ListComp elt [⟨C,iter,ifs,0⟩] scope p2).pos.line&&!(scope.names.any λ(n,k)=>n==x&&(k==.local||k==.cell))))=b
 have z:fU (.ListComp elt [⟨C,iter,ifs,0⟩] scope p2) (some (.Name x Z)) pos.line X.env=pure b:=by rw[<-hb];rfl
 have imp:∀ D σ H,bc1 (TFv Γ m) (ao8 i) D σ H->bc1 (tComp h wi g tc te) (ao8 i) D σ H:=λ D σ H q=>h5 _ _ _ q
 cases b with
 | true =>
  have y:X.env.scope.names.lookup x=some .local:=by
   simp only[aj]at hb
   exact eq_of_beq hb.1.1.2
  exact(aO0 N' h nd J y h1 h2 G.calm h3 h4 z).imp imp
 | false=>exact(bm5 nd J l1 (aE0 N' h h1 h2 G.calm h3 h4) z l2).imp imp
theorem bA4 {X:Cx}{y:Ck}{e:mq}{v:Expr}{x:Str}{i:Nat}{Y pos:Pos}(G:CG Γ F n X y)(C:y.N[i]?=some x)(hl:y.loc x=true)(h:mE y e v=true) :
  PS X (.Assign [.Name x Y] v pos) (TSv Γ (DV.ex F (.asg (.one i) e))):=by
 obtain⟨l1,l2⟩:=G.loc hl
 have nd:X.N.Nodup:=by rw[G.N];exact G.nd
 have z:X.N[i]?=some x:=by rw[G.N];exact C
 by_cases hc:aB4 v=true
 ·exact(bm5 nd z l1 (sE e v X y G h).1 (at0 hc) l2).imp λ D σ H q=>aT9 (tg:=.one i) (TSv.eq (λ ρ s=>rfl) q)
 ·have hs:=ay3 h
  cases v with
  | ListComp elt gs sc p =>
   cases e with
   | mk k l =>
    obtain⟨Z,J⟩:=zh h
    have e:=of_decide_eq_true Z
    subst e
    exact(bg7 G (bF8 (sL l _ X y G 0 J)) C hl).imp λ D σ H q=>bh4 (tg:=.one i) (TSv.eq (λ ρ s=>rfl) q)
   | _=>exact ff h
  | SetComp _ _ _ _=>cases hs
  | DictComp _ _ _ _ _=>cases hs
  | _=>exact absurd rfl hc
theorem ba6 {T:List (Addr×Str)}{cells:List (Str×Addr)}{P:Addr}{q:Str}{name:Str}{params:bp}{body:List Stmt}{scope:Scope}{pos:Pos}{ix:Nat}{D0:Ends}{σ:St}{H:Hp}(hT:TabsH T H)(nd:(T.map (·.1)).Nodup)(hm:(P,q)∈T)
  (go:∀(f:Addr) (H':Hp),aU6 H H'->(∀ b,H b≠none->H' b≠none)->TabsH T H'->H f=none->(∃ F pm C Y,H' f=some (as5 f (cM name q params body scope (ad3 cells scope.names []) .none .none F pm none (.ref C) Y))/\H' C=some (z0 C q))->D0.nx (σ.set ix (some (.ref f))) H') :
  bY8 cells P name q params body scope pos ix D0 σ H:=by
 obtain⟨ps,Z,ht,hc⟩:=hT _ hm
 refine⟨ps,Z,ht,λ hn C f F pm Y n1 n2 ne=>?_,λ cv e=>?_⟩
 ·have cP:C≠P:=λ z=>by rw[z,Z]at n1;cases n1
  have fP:f≠P:=λ z=>by rw[z,Z]at n2;cases n2
  have G:∀ b,b≠P->H b≠none->∀ o1 o2 o3,upd (upd (upd H P o1) C o2) f o3 b=H b:=λ b z1 z2 o1 o2 o3=>by
   rw[za λ z=>by subst z;exact z2 n2,za λ z=>by subst z;exact z2 n1,za z1]
  refine go f _ (λ b o d e=>?_) (λ b hb=>?_) (λ y hy=>?_) n2 ⟨F,pm,C,Y,zb,by rw[za ne,zb]⟩
  ·rw[G b (λ z=>by subst z;rw[Z]at e;cases e;exact d _ rfl) (by rw[e];simp)];exact e
  ·by_cases z:b=P
   ·subst z;rw[za (bJ fP),za (bJ cP),zb];simp
   ·rw[G b z hb];exact hb
  ·by_cases z:y.1=P
   ·have ey:y=(P,q):=by
     have:∀(l:List (Addr×Str)),(l.map (·.1)).Nodup->y∈l->(P,q)∈l->y=(P,q):=by
      intro l
      induction l with
      | nil=>intro _ h;simp at h
      | cons a l ih =>
       intro hn h1 h2
       rw[aH,dI]at hn
       rcases aF.mp h1 with e1|h1<;>rcases aF.mp h2 with e2|h2
       ·rw[e1,e2]
       ·exact absurd (by rw[<-e1,z];exact aS (f:=(·.1)) h2) hn.1
       ·exact absurd (by rw[<-e2,<-z];exact aS (f:=(·.1)) h1) hn.1
       ·exact ih hn.2 h1 h2
     exact this T nd hy hm
    subst ey
    refine⟨_,by rw[za (bJ fP),za (bJ cP),zb],?_,λ J cv e=>?_⟩
    ·rw[eh];exact TriplesOk_snoc _ _ _ _ ht
    ·rw[eh]at e
     rcases codeAmong_add _ ht e with e'|e'
     ·obtain⟨c2,e1,e2⟩:=hc J cv e'
      exact⟨c2,e1,by rw[G c2 (λ z=>by subst z;rw[Z]at e2;unfold z0 at e2;cases e2) (by rw[e2];simp)];exact e2⟩
     ·exact⟨C,e',by rw[za ne,zb]⟩
   ·obtain⟨qs,e1,e2,e3⟩:=hT y hy
    refine⟨qs,by rw[G y.1 z (by rw[e1];simp)];exact e1,e2,λ J cv e=>?_⟩
    obtain⟨c2,e4,e5⟩:=e3 J cv e
    exact⟨c2,e4,by rw[G c2 (λ z=>by subst z;rw[Z]at e5;unfold z0 at e5;cases e5) (by rw[e5];simp)];exact e5⟩
 ·obtain⟨C,e1,e2⟩:=hc pos cv e
  refine⟨C,e1,λ f F pm Y n=>go f _ (.of ((ad9.refl H).new n)) (λ b hb=>by
   by_cases z:b=f
   ·subst z;rw[zb];simp
   ·rw[za z];exact hb) (hT.new n) n ⟨F,pm,C,Y,zb,?_⟩⟩
  rw[za (zn e2 n)];exact e2
theorem aQ3 (env : Env) : ∀ l : List Arg, (l.all λ y => y.annotation.isNone) = true -> jm l env = []
 | [], _ => by unfold jm; rfl
 | ⟨x,some a,p⟩::l,h=>by simp at h
 | ⟨x,none,p⟩::l,h=>by
  unfold jm
  exact aQ3 env l (by simpa using h)
theorem bg3 {params:bp}(h:bx3 params=true)(env:Env):params.defaults=[]/\params.kw_defaults=[]/\annTrees params none env=[]:=by
 unfold bx3 at h
 split at h
 ·refine⟨rfl,rfl,?_⟩
  unfold annTrees
  simp only[Option.toList,aZ]
  rw[aQ3 env _ h];rfl
 ·cases h
theorem aG5 {α:Type}{o:Option α}{f:α->Bool}(h:o.any f=true):∃ a,o=some a/\f a=true:=by
 cases o with
 | none=>exact ff h
 | some a=>exact⟨a,rfl,h⟩
theorem bi9 {s:nu}{y:m5}{d:Nat×String×mq×String×List Nat}(h:bX5 s y=some d):s=.und d.1/\y=.cons (.ret (.callC d.2.1 (.ex d.2.2.1 (.lam d.2.2.2.1 d.2.2.2.2 .nil)))) .nil:=by
 unfold bX5 at h
 split at h
 ·cases h;exact⟨rfl,rfl⟩
 ·cases h
theorem ba1 {S:List Stmt}{q:Str×bp×Expr×Pos×Scope×Pos×List Stmt}(h:ca0 S=some q):S=.FunctionDef q.1 q.2.1 [.Return (some q.2.2.1) q.2.2.2.1] [] none [] q.2.2.2.2.1 none q.1 q.2.2.2.2.2.1::q.2.2.2.2.2.2:=by
 have y:∀ {p:Prop},(none:Option (Str×bp×Expr×Pos×Scope×Pos×List Stmt))=some q->p:=λ h=>nomatch h
 cases S with
 | cons x xs =>
  cases x with
  | FunctionDef nm params body dl ret tp scope ts nm2 pos =>
   cases body with
   | cons b1 bs =>
    cases b1 with
    | Return v rp =>
     cases v with
     | some b =>
      cases bs with
      | nil =>
       cases dl with
       | nil =>
        cases ret with
        | none =>
         cases tp with
         | nil =>
          cases ts with
          | none =>
           have h:(if nm2=nm then some (nm,params,b,rp,scope,pos,xs)else none)=some q:=h
           by_cases e:nm2=nm
           ·rw[if_pos e]at h;cases h;rw[e]
           ·rw[if_neg e]at h;exact y h
          | _=>exact y h
         | _=>exact y h
        | _=>exact y h
       | _=>exact y h
      | _=>exact y h
     | _=>exact y h
    | _=>exact y h
   | _=>exact y h
  | _=>exact y h
 | _=>exact y h
theorem bd8 {C:Str}{S:List Stmt}{r:Str×Pos×Expr×Pos×Pos×Pos}(h:bZ7 C S=some r):S=[.Return (some (.Call (.Name r.1 r.2.1) [r.2.2.1,.Name C r.2.2.2.1] [] r.2.2.2.2.1)) r.2.2.2.2.2]:=by
 have z:∀ {p:Prop},(none:Option (Str×Pos×Expr×Pos×Pos×Pos))=some r->p:=λ h=>nomatch h
 cases S with
 | cons x xs =>
  cases x with
  | Return v rp2 =>
   cases v with
   | some e =>
    cases e with
    | Call f as kw cp =>
     cases f with
     | Name g gp =>
      cases as with
      | cons a as1 =>
       cases as1 with
       | cons y as2 =>
        cases y with
        | Name x p2 =>
         cases as2 with
         | nil =>
          cases kw with
          | nil =>
           cases xs with
           | nil =>
            have h:(if x=C then some (g,gp,a,p2,cp,rp2)else none)=some r:=h
            by_cases e:x=C
            ·rw[if_pos e]at h;cases h;rw[e]
            ·rw[if_neg e]at h;exact z h
           | _=>exact z h
          | _=>exact z h
         | _=>exact z h
        | _=>exact z h
       | _=>exact z h
      | _=>exact z h
     | _=>exact z h
    | _=>exact z h
   | _=>exact z h
  | _=>exact z h
 | _=>exact z h
theorem bL2 {X:Cx}{ck:Ck}{s:nu}{ss:m5}{S:List Stmt}(G:CG Γ F n X ck)(hM:bL7 ck s ss S=true):PSs X S (TSv Γ (nA F (.cons s ss))):=by
 obtain⟨⟨i,g,e,id,y⟩,e1,hA⟩:=aG5 hM
 clear hM
 obtain⟨⟨Y,params,b,rp,scope,pos,xs⟩,e2,hB⟩:=aG5 hA
 clear hA
 obtain⟨⟨g',gp,a,p2,cp,d4⟩,e3,h⟩:=aG5 hB
 clear hB
 obtain⟨rfl,rfl⟩:=bi9 e1
 have e3:=bd8 e3
 have e2:=ba1 e2
 dsimp only at e2 e3 h ⊢
 subst e3
 subst e2
 clear e1
 obtain⟨h,b8⟩:=zh h
 obtain⟨h,a8⟩:=zh h
 obtain⟨h,h9⟩:=zh h
 obtain⟨h,h8⟩:=zh h
 obtain⟨h,h7⟩:=zh h
 obtain⟨h,h6⟩:=zh h
 obtain⟨h,h5⟩:=zh h
 obtain⟨h0,h2⟩:=zh h
 have h7:=of_decide_eq_true h7
 subst h7
 have h1:=of_decide_eq_true h0
 clear h0
 obtain⟨c,P,b0,b3,b2,d0,J,eE,L⟩:=G.lam id y _ h6
 obtain⟨pn,hnm⟩:∃ pn,J.nm=some pn:=by
  cases q:J.nm with
  | none=>unfold lamText at eE;rw[q]at eE;cases eE
  | some p=>exact⟨p,rfl⟩
 obtain⟨pa,pb⟩:=pn
 unfold lamText at eE
 rw[hnm]at eE
 dsimp only at eE
 cases eE
 rw[<-G.N]at L h1
 obtain⟨l1,l2⟩:=G.loc h2
 obtain⟨a1,a2,a3⟩:=bg3 b8 X.env
 have b4:X.env.kindOf Y=some .local\/X.env.kindOf Y=some .cell:=l1
 have hq:kE X.env Y Y=J.qual:=by
  rw[L.q]
  unfold LamI.own kE
  rw[hnm]
  rcases b4 with z|z<;>rw[z]<;>rfl
 have p1:=bG8 (X:=X) (c:=c) (P:=P) (body:=[.Return (some b) rp]) (scope:=scope) (pos:=pos) (by rw[G.N];exact G.nd) h1 l1 L.code L.hd L.bm L.ck hq a1 a2 a3 l2
 have c4:PE X (.Name Y p2) (aZ8 i):=bn7 G h5
 obtain⟨g1,g2,g3⟩:=G.gl h8
 rcases G.call g with hb|⟨fa,fd,ps,hF,c3,hk,hB⟩
 ·intro d3 sh σ H D I q
  obtain⟨φ,ρ,s,c,s',E,R,Z,q⟩:=q
  obtain⟨c1,s1,e1,Z⟩:=aa0 Z
  have e1:(match nB ρ i with|some ρ=>DV.R.ok (DV.Ct.next ρ) s|none=>.bad)=.ok c1 s1:=e1
  split at e1
  case h_2=>cases e1
  cases e1
  obtain⟨c1,s1,e1,Z⟩:=aa0 Z
  obtain⟨d1,s2,e1,C⟩:=aa0 e1
  obtain⟨l,s3,e1,C⟩:=aa0 e1
  obtain⟨d,s4,e4,C⟩:=aa0 C
  rw[hb]at e4;cases e4
 have hE:=(sE e _ X ck G h9).1
 have hA:PA X [a,.Name Y p2] (an4 (TEv Γ (lx F e)) (an4 (aZ8 i) aQ9)):=zC hE (zC c4 ad2 (zd rfl)) (zd a8)
 have p3:=aJ2 (p:=gp) (pos:=cp) hF G.room g1 c3 hk hB L.fn hA g2 (zd a8) (zq (es:=[.Name Y p2]) λ z hz=>by rw[aU.mp hz];rfl).1
 refine(aj9 p1 (aj9 (aP5 p3) aF1)).imp λ D σ H q=>?_
 obtain⟨φ,ρ,s,c0,s',E,R,Z,q⟩:=q
 obtain⟨c1,s1,e1,Z⟩:=aa0 Z
 have e1:(match nB ρ i with|some ρ=>DV.R.ok (DV.Ct.next ρ) s|none=>.bad)=.ok c1 s1:=e1
 unfold nB at e1
 by_cases hil:i < ρ.length
 case neg=>rw[if_neg hil]at e1;cases e1
 rw[if_pos hil]at e1
 cases e1
 obtain⟨c1,s1,e1,Z⟩:=aa0 Z
 obtain⟨d1,s2,e1,C⟩:=aa0 e1
 cases C
 cases Z
 obtain⟨l,s3,e1,C⟩:=aa0 e1
 obtain⟨d2,s4,e4,C⟩:=aa0 C
 split at C
 case isFalse=>exact fb C
 rename_i hn
 cases C
 rw[aj]at hn
 obtain⟨x1,s5,e5,e1⟩:=aa0 e1
 obtain⟨y1,s6,e6,e1⟩:=aa0 e1
 cases e1
 have e6:(match lW (ρ.set i none) y with|some cs=>(mK F .nil (ρ.set i none) s5).bind λ l s=>DV.R.ok (DV.D.clo id cs::l) s|none=>DV.R.bad)=.ok y1 s3:=e6
 cases eg:lW (ρ.set i none) y with
 | none=>rw[eg]at e6;cases e6
 | some cs =>
  rw[eg]at e6
  cases e6
  refine ba6 R.tab L.nd L.tab λ f H' eS st tb hf ho=>?_
  obtain⟨a9,R1⟩:=R.sameT eS st tb
  have E1:RE Γ φ H' s.length (ρ.set i none) (σ.set i (some (.ref f))):=by
   have E0:=E.mono a9 (ak _)
   refine⟨by rw[a0,a0];exact E0.len,λ j d ej=>?_⟩
   by_cases z:i=j
   ·subst z
    rw[aV hil]at ej;cases ej
   ·rw[aR z]at ej
    obtain⟨q1,v,q2,q3⟩:=E0.val j d ej
    exact⟨q1,v,by rw[aR z];exact q2,q3⟩
  obtain⟨cap,a6,a7,hσ⟩:=aT1 E1 eg
  have a5:=(al7 eg).1
  have c2:af7 H' f J (ad3 X.env.cells J.scope.names []):=by
   unfold af7;rw[hnm];dsimp only;rw[L.p,L.b,L.s];exact ho
  refine⟨φ,ρ.set i none,s,x1,_,E1,R1,e5,λ v1 φ1 H1 g1 l1 b1 r1 b5=>?_⟩
  have b6:i < σ.length:=by rw[<-E.len];exact hil
  refine⟨.ref f,by rw[aV b6],?_⟩
  intro H2 ca
  obtain⟨gs,R2⟩:=b5.same ca.same
  have a4:=aa3 l1 cs a7
  have b7:∀ m,x1.bnd m=true->lv m cs=true->lv m [x1,.clo id cs]=true:=λ m z1 z2=>by
   simp only[lv,z1,gF,gE]
   unfold ly;exact z2
  have bl:=b7 _ b1 a4
  have pv:PVL Γ X.env.cells X.N (σ.set i (some (.ref f))) φ1 H1 [x1,.clo id cs] [v1,.ref f]:=by
   refine .cons (.inl r1) (.cons (.inr ⟨id,cs,rfl,f,J,rfl,L.lg,c2.kp g1.w.kp,by rw[a5,L.len],by rw[L.s];exact L.cl,cap,RVL.mono g1 cs cap a7 a6,λ i x v e1 e3=>?_⟩) .nil)
   have hi:i<y.length:=by rw[<-L.len];exact(ac.mp e1).1
   have hj:y[i]?=some y[i]:=ai hi
   exact⟨by rw[L.s];exact L.fr x (aK e1),y[i],L.at_ i _ x hj e1,hσ i _ v hj e3⟩
  refine⟨φ1,_,[x1,.clo id cs],_,_,R2,pv.caught ca L.kd bl,bl,e4,λ v φ' H3 g' l' b' r' R'=>?_⟩
  have hc:Cells X.env.cells H3:=ca.cells.kp g'.w.kp
  exact q φ' (ab5 X.env.cells H3) ((a9.trans g1 (ak _)).trans (Gr.caught ca g') l1) (am l1 l') (R'.dropC hc hn.2) v b' (RV.dropC hc _ v hn.1 r')
mutual
theorem sS:∀(st:nu) (S:Stmt) (X:Cx) (y:Ck),CG Γ F n X y->mS y st S=true->PS X S (TSv Γ (DV.ex F st))
 | .asg tg e,S,X,y,G,h=>by
  cases S with
  | Assign ts v p =>
   cases ts with
   | cons t ts1 =>
    cases ts1 with
    | nil =>
     obtain⟨h,J⟩:=zh h
     obtain⟨C,z⟩:=zh h
     cases tg with
     | one i =>
      have h:=C
      cases t with
      | Name x px =>
       obtain⟨a1,Z⟩:=zh h
       exact bA4 G (of_decide_eq_true a1) Z z
      | _=>exact ff h
     | tup is =>
      obtain⟨a1,Z⟩:=zh J
      have h:=C
      cases t with
      | Tuple te tk tp=>exact(bo2 (sE e _ X y G z).1 (bp5 G C) (show fU v (some (.Tuple te tk tp)) p.line X.env=pure false from at0 Z) (aO3 a1) rfl).imp λ D σ H q=>aT9 (TSv.eq (λ ρ s=>rfl) q)
      | _=>exact ff h
    | _=>exact ff h
   | _=>exact ff h
  | _=>exact ff h
 | .setIx o i e,S,X,y,G,h=>by
  cases S with
  | Assign ts v p2 =>
   cases ts with
   | cons tt ts1 =>
    cases tt with
    | Subscript ob ix p1 =>
     cases ts1 with
     | nil =>
      obtain⟨h,h5⟩:=zh h
      obtain⟨h,h4⟩:=zh h
      obtain⟨h,J⟩:=zh h
      obtain⟨C,z⟩:=zh h
      have Y:=ay3 z
      refine(bo2 (sE e _ X y G J).1 (bG6 (sE o _ X y G C).1 (sE i _ X y G z).1 (bN3 (aF9 G.room)) ?_) (show fU v (some (.Subscript ob ix p1)) p2.line X.env=pure false from at0 h4) (aN7 h5) ?_).imp λ D σ H q=>bc0 (TSv.eq (λ ρ s=>rfl) q)
      ·intro w
       cases ix<;>first|rfl|cases Y
      ·rfl
     | _=>exact ff h
    | _=>exact ff h
   | _=>exact ff h
  | _=>exact ff h
 | .aug _ _,S,X,y,G,h=>ff h
 | .ex e,S,X,y,G,h=>by
  cases S with
  | Expr v p =>
   obtain⟨C,z⟩:=zh h
   exact(bt2 (sE e _ X y G C).1 (at0 z)).imp λ D σ H q=>bz9 (TSv.eq (λ ρ s=>rfl) q)
  | _=>exact ff h
 | .ret e,S,X,y,G,h=>by
  cases S with
  | Return vo p =>
   cases vo with
   | some v =>
    exact(aP5 (sE e _ X y G h).1).imp λ D σ H q=>bB6 (TSv.eq (λ ρ s=>rfl) q)
   | _=>exact ff h
  | _=>exact ff h
 | .retN,S,X,y,G,h=>ff h
 | .ite c a b,S,X,y,G,h=>by
  cases S with
  | If t l r p =>
   obtain⟨h,J⟩:=zh h
   obtain⟨C,z⟩:=zh h
   exact(bT0 (sE c _ X y G C).2 (sSs a _ X y G z) (sSs b _ X y G J)).imp λ D σ H q=>bS0 (TSv.eq (λ ρ s=>rfl) q)
  | _=>exact ff h
 | .whl c b,S,X,y,G,h=>by
  cases S with
  | While t l o p =>
   cases o with
   | nil =>
    obtain⟨C,z⟩:=zh h
    exact(bb7 (by rw[G.xe];exact ki) (sE c _ X y G C).2 (sSs b _ X y G z)).imp λ D σ H q=>be2 (TSv.eq (λ ρ s=>rfl) q)
   | _=>exact ff h
  | _=>exact ff h
 | .for_ tg it b,S,X,y,G,h=>by
  cases S with
  | For tgt iter l o p =>
   cases o with
   | nil =>
    obtain⟨h,J⟩:=zh h
    obtain⟨C,z⟩:=zh h
    exact(bC5 (by rw[G.xe];exact ki) G.calm (sI it _ _ X y G z) (bp5 G C) (sSs b _ X y G J) (aG0 (bE3 z))).imp λ D σ H q=>bD9 (TSv.eq (λ ρ s=>rfl) q)
   | _=>exact ff h
  | _=>exact ff h
 | .pass,S,X,y,G,h=>ff h
 | .cont,S,X,y,G,h=>ff h
 | .brk,S,X,y,G,h=>ff h
 | .und _,S,X,y,G,h=>ff h
 | .raise,S,X,y,G,h=>bj5.imp λ D σ H q=>by
  obtain⟨φ,ρ,s,c,s',E,R,hm,q⟩:=q
  cases hm
theorem sSs:∀(st:m5) (S:List Stmt) (X:Cx) (y:Ck),CG Γ F n X y->mSs y st S=true->PSs X S (TSv Γ (nA F st))
 | .nil,S,X,y,G,h=>by
  cases S with
  | nil =>
   exact aF1.imp λ D σ H q=>br0 (m:=nA F .nil) (λ ρ s=>rfl) q
  | _=>exact ff h
 | .cons s ss,S,X,y,G,h=>by
  cases S with
  | cons x xs =>
   rcases(bN _ _).mp h with h|h
   ·exact bL2 G h
   obtain⟨C,z⟩:=zh h
   exact(aj9 (sS s _ X y G C) (sSs ss _ X y G z)).imp λ D σ H q=>bE4 (TSv.eq (λ ρ s=>rfl) q)
  | _=>exact ff h
end
end
section
variable {Γ:Gm}
theorem aE6 {φ φ1:Nat->Addr}{H y:Hp}{s s1:lr}(R:Rp Γ φ H s)(g:Gr φ s H φ1 s1 y)(ho:nD s s1=true){i:Nat}{o:lP}(z:i<s.length)(e:s1[i]?=some o):o.bnd s.length=true:=by
 unfold nD at ho
 have:=aW.mp ho i (cj.mpr z)
 rw[e,bN]at this
 rcases this with h|h
 ·exact R.wf i o (of_decide_eq_true h).symm
 ·exact h
theorem qi {s1:lr}{k i:Nat}{o:lP}(e:(s1.take k)[i]?=some o):i<k/\s1[i]?=some o:=by
 rw[jA]at e
 split at e
 ·exact⟨‹_›,e⟩
 ·cases e
theorem aP0 {φ φ1:Nat->Addr}{H h:Hp}{s s1:lr}(R:Rp Γ φ H s)(g:Gr φ s H φ1 s1 h)(R1:Rp Γ φ1 h s1)(ho:nD s s1=true):Gr φ s H φ1 (s1.take s.length) h/\Rp Γ φ1 h (s1.take s.length):=by
 have hl:(s1.take s.length).length=s.length:=by rw[bF];have:=g.le;omega
 refine⟨⟨g.w,by rw[hl];exact ak _,λ i F C=>by rw[hl]at C;omega,λ i o y e e'=>g.kd i o y e (qi e').2,g.st,g.fr⟩,λ i j o y e e' m m' z=>R1.inj i j o y (qi e).2 (qi e').2 m m' z,λ i o e=>R1.obj i o (qi e).2,λ i o e=>?_,R1.tab⟩
 rw[hl]
 exact aE6 R g ho (qi e).1 (qi e).2
theorem ar9 {φ φ1:Nat->Addr}{H C:Hp}{s s1 s':lr}{v0 d:lu}{v:V}(R:Rp Γ φ H s)(g:Gr φ s H φ1 s1 C)(R1:Rp Γ φ1 C s1)(hb:v0.bnd s1.length=true)(r:RV Γ φ1 C v0 v)(h:DV.zK s v0 s1=.ok d s') :
  ∃ φ',Gr φ s H φ' s' C/\s.length<=s'.length/\d.bnd s'.length=true/\RV Γ φ' C d v/\Rp Γ φ' C s':=by
 have all:d=v0->s'=s1->∃ φ',Gr φ s H φ' s' C/\s.length<=s'.length/\d.bnd s'.length=true/\RV Γ φ' C d v/\Rp Γ φ' C s':=λ e1 e2=>by
  subst e1;subst e2
  exact⟨φ1,g,g.le,hb,r,R1⟩
 unfold DV.zK at h
 split at h
 case isFalse=>cases h;exact all rfl rfl
 rename_i ho
 obtain⟨gt,Rt⟩:=aP0 R g R1 ho
 have hl:(s1.take s.length).length=s.length:=by rw[bF];have:=g.le;omega
 have tk:d=v0->s'=s1.take s.length->v0.bnd s.length=true->∃ φ',Gr φ s H φ' s' C/\s.length<=s'.length/\d.bnd s'.length=true/\RV Γ φ' C d v/\Rp Γ φ' C s':=λ e1 e2 b=>by
  subst e1;subst e2
  exact⟨φ1,gt,by rw[hl];exact ak _,by rw[hl];exact b,r,Rt⟩
 split at h
 ·rename_i k
  split at h
  ·cases h
   exact tk rfl rfl (by unfold ly;exact decide_eq_true ‹_›)
  ·rename_i hk
   split at h
   ·rename_i o J
    split at h
    ·rename_i G
     cases h
     have gw:Gw φ1 s.length C (λ i=>if i=s.length then φ1 k else φ1 i) C:=⟨λ i y=>if_neg (aw y),Kp.refl _⟩
     have key:∀(i:Nat) (F:lP),(s1.take s.length++[o])[i]?=some F->(i<s.length/\s1[i]?=some F)\/(i=s.length/\F=o):=λ i F e=>by
      rcases eY i s.length with h|h|h
      ·rw[aN (by rw[hl];exact h)]at e;exact .inl (qi e)
      ·subst h
       rw[be (by rw[hl];exact ak _),hl,k6]at e
       exact .inr ⟨rfl,(ay e).symm⟩
      ·rw[cV (by rw[aC,hl];simp;omega)]at e;cases e
     have z:(s1.take s.length++[o]).length=s.length+1:=by rw[aC,hl];rfl
     refine⟨λ i=>if i=s.length then φ1 k else φ1 i,⟨⟨λ i y=>?_,g.w.kp⟩,by rw[z];omega,λ i h1 h2=>?_,λ i oo F e e'=>?_,g.st,g.fr⟩,by rw[z];omega,by unfold ly;rw[z];exact decide_eq_true (fq _),?_,⟨λ i j oi oj Z a1 mi Y e=>?_,λ i F e=>?_,λ i F e=>?_,R1.tab⟩⟩
     ·show(if i=s.length then φ1 k else φ1 i)=φ i
      rw[if_neg (aw y)];exact g.w.map i y
     ·rw[z]at h2
      show H (if i=s.length then φ1 k else φ1 i)=none
      rw[if_pos (by omega)]
      exact g.new k (by omega) (ac.mp J).1
     ·rcases key i F e' with⟨_,e2⟩|⟨y,_⟩
      ·exact g.kd i oo F e e2
      ·have:=(ac.mp e).1;omega
     ·rw[r.refE]
      unfold RV
      show V.ref (φ1 k)=V.ref (if s.length=s.length then φ1 k else φ1 s.length)
      rw[if_pos rfl]
     ·rcases key i oi Z with⟨y,ei⟩|⟨y,zi⟩<;>rcases key j oj a1 with⟨hj,ej⟩|⟨hj,zj⟩
      ·rw[if_neg (aw y),if_neg (aw hj)]at e
       exact R1.inj i j oi oj ei ej mi Y e
      ·rw[if_neg (aw y),if_pos hj]at e
       subst zj
       have:=R1.inj i k oi _ ei J mi Y e
       omega
      ·rw[if_neg (aw hj),if_pos y]at e
       subst zi
       have:=R1.inj k j _ oj J ej mi Y e
       omega
      ·rw[y,hj]
     ·rcases key i F e with⟨y,e⟩|⟨y,rfl⟩
      ·show RO Γ _ _ (if i=s.length then φ1 k else φ1 i) F
       rw[if_neg (aw y)]
       exact(R1.obj i F e).mono gw (aE6 R g ho y e) λ _ u hu=>hu
      ·show RO Γ _ _ (if i=s.length then φ1 k else φ1 i) F
       rw[if_pos y]
       exact(R1.obj k _ J).mono gw G λ _ u hu=>hu
     ·rw[z]
      rcases key i F e with⟨y,e⟩|⟨_,rfl⟩
      ·exact zX (c8 _) _ (aE6 R g ho y e)
      ·exact zX (c8 _) _ G
    ·cases h;exact all rfl rfl
   ·exact fb h
 ·split at h
  ·cases h;exact tk rfl rfl ‹_›
  ·cases h;exact all rfl rfl
structure LamGood (J:LamI)(L:mQ):Prop where
 sc:LamScope (J.ps++J.fr) J.ps J.fr J.scope
 ps:J.ps.length=L.ps
 fr:J.fr.length=L.cs
 m:mE (ck0 (J.ps++J.fr) J.scope) L.body J.body=true
 bind:∀(clos:List (Str×Addr)) (doc pm:Value) (c':Addr) (ctv:Value) (us:List Value),us.length=J.ps.length->fy (bX "<lambda>" J.qual J.params J.body J.scope clos pm (.ref c') ctv) ⟨us,[]⟩=pure (J.ps.zip us) /\
  ∀(nm:Str) (rp:Pos),fy (cM nm J.qual J.params [.Return (some J.body) rp] J.scope clos .none .none doc pm none (.ref c') ctv) ⟨us,[]⟩=pure (J.ps.zip us)
structure LkAt (Γ:Gm)(cds:List (Addr×Addr))(f:Str)(sc:Scope)(N:List Str)(fd:bQ)(id:String)(caps:List Nat)(params:bp)(body:Expr)(scope:Scope)(c P:Addr)(J:LamI):Prop where
 code:fd.code=.ref c
 cd:(c,P)∈cds
 ck:lamCheck scope sc=true
 fre:∀ x,scope.names.lookup x=some .free->sc.names.lookup x=some .cell
 cel:∀ y∈sc.names,y.2=.cell->sc.names.lookup y.1=some .cell
 df:∀ env,kD params env=([],[])
 lg:Γ.lg id J
 q:J.qual=f ++ ".<locals>."++J.own
 p:J.params=params
 b:J.body=body
 s:J.scope=scope
 len:J.fr.length=caps.length
 at_:∀(i j:Nat) (x:Str),caps[i]?=some j->J.fr[i]?=some x->N[j]?=some x
 fr:∀ x∈J.fr,scope.names.lookup x=some .free
 tab:(P,J.qual)∈Γ.T
def bQ7 (Γ:Gm)(cds:List (Addr×Addr))(f:Str)(sc:Scope)(N:List Str)(fd:bQ)(lk:String->List Nat->Expr->Bool):Prop :=
 ∀ id caps E,lk id caps E=true->∃ c P params body scope pos J,E=lamText J params body scope pos/\LkAt Γ cds f sc N fd id caps params body scope c P J
def Good (Γ:Gm)(cds:List (Addr×Addr))(mg:Str->Option Value)(f:String)(d:mR):Prop:=∃ st N ps a fd lk,DefAt Γ.K mg (f:Str) st ps a fd/\FnScope N ps (defScope st)/\ps.length=d.ps/\N.length=d.ps+d.vs/\mSs ⟨N,defScope st,lk⟩ d.body (zG st)=true/\bQ7 Γ cds (f:Str) (defScope st) N fd lk
structure PrOk (Γ:Gm)(cds:List (Addr×Addr))(P:lO)(mg:Str->Option Value):Prop where
 df:∀ f d,P.df f=some d->Good Γ cds mg f d
 con:∀ x d,P.con x=some d->∃ v u,mg (x:Str)=some u/\RelV v u/\(∀ m,d.bnd m=true)/\∀ φ H,RV Γ φ H d v
 bi:∀ x∈bNames,mg x=none
 fa:∀(f:String) (a:Addr),Γ.fa f=some a->mg (f:Str)=some (.ref a)/\∃ oc od fd sl,Γ.K.lookup a=some ⟨oc,od,.func fd,sl⟩
 lg:∀ id J,Γ.lg id J->∃ L,P.lm id=some L/\LamGood J L
 nd:(Γ.T.map (·.1)).Nodup
noncomputable def aI1 (Γ : Gm) (prog : Program) (w : World) (mg : Str -> Option Value) (base : Heap) (F : DV.Fns) (n : Nat) : Prop := (∀ f : String, (∀ l s, F.call f l s = .bad) \/
      ∃ a fd ps, FnOk prog w Γ.K mg base CX0 n a fd ps (spV Γ (F.call f)) /\ mg (f : Str) = some (.ref a) /\ cC Γ.K (.ref a) = true /\ Binds Γ.K fd ps []) /\
  ∀(id : String) (J : LamI) (f : Addr) (cap : List V) (clos : List (Str × Addr)), Γ.lg id J -> cap.length = J.fr.length -> ClOk prog w Γ.K mg base n (λ H => CloAt H f J cap clos) f (spL Γ (F.lam id) cap)
theorem ba8 {φ:Nat->Addr}{H:Hp}{n k:Nat}{N:List Str}{l:List lu}{vs:List V}(r:RVL Γ φ H l vs)(b:lv n l=true)(hN:N.length=l.length+k):RE Γ φ H n (l.map some++aI k none) (ah6 N vs):=by
 have hl:=r.length
 refine⟨?_,λ i d e=>?_⟩
 ·unfold ah6;simp[hl,hN]
 ·by_cases hi:i<l.length
  ·rw[aN (by simpa using hi),aE]at e
   have e':l[i]?=some d:=by
    rw[ai hi]at e ⊢
    exact ay e
   obtain⟨v,e1,e2⟩:=r.get e'
   refine⟨ak2 b e',v,?_,e2⟩
   unfold ah6
   rw[aN (by rw[au,hl];exact hi),aE,e1];rfl
  ·rw[be (by simpa using jX hi)]at e
   rw[gJ]at e
   split at e<;>cases e
theorem bI9 {a3:List (Addr×Addr)}{P:lO}{prog:aJ}{w:World}{mg:Str->Option Value}{F:Heap}(hP:PrOk Γ a3 P mg)(hb:∀ y∈a3,bZ F y.1 y.2/\BM mg F)(n:Nat)(a1:aI1 Γ prog w mg F (lE P n) (n+31))
  {f:String} {d:mR} (e:P.df f=some d) {st:Stmt} {N ps:List Str} {a:Addr} {fd:bQ} {lk:String->List Nat->Expr->Bool} (hD:DefAt Γ.K mg (f:Str) st ps a fd) (hS:FnScope N ps (defScope st)) (h1:ps.length=d.ps) (h2:N.length=d.ps+d.vs) (hm:mSs ⟨N,defScope st,lk⟩ d.body (zG st)=true) (hL:bQ7 Γ a3 (f:Str) (defScope st) N fd lk) :
  FnOk prog w Γ.K mg F CX0 (n+1+31) a fd ps (spV Γ ((lE P (n+1)).call f)):=by
 have Z:∀ vs H Q E,spV Γ ((lE P (n+1)).call f) vs H Q E->vs.length=ps.length:=λ vs H Q E q=>by
  obtain⟨φ,s,l,d',s',R,r,b,hc,k⟩:=q
  simp only[lE,e]at hc
  split at hc
  ·rw[r.length,h1];assumption
  ·exact fb hc
 have body:∀(Y:Value),(∀ id C E,lk id C E=true->fd.code=Y)->∀(A:aX) (outer:List Env) (sh:ag) (H:Hp) (vs:List V) (Q:VK) (E:XK),Room (n+31) (A.deeper (gz (f:Str) (defScope st) sh.heap.objs.size a Y))->spV Γ ((lE P (n+1)).call f) vs H Q E ->
   ∃ t,PSs (bh9 CX0 prog w Γ.K mg F N (f:Str) (defScope st) a Y A outer sh H E).nox (zG st) t/\t { nx:=λ _ H'=>Q .non H',rt:=Q } (ah6 N vs) H:=by
  intro Y a7 A outer sh H vs Q E hr q
  have G:CG Γ (lE P n) (n+31) (bh9 CX0 prog w Γ.K mg F N (f:Str) (defScope st) a Y A outer sh H E).nox ⟨N,defScope st,lk⟩:=by
   refine⟨rfl,rfl,hS.nd,rfl,rfl,?_,hr,λ x k e=>.inl e,λ _ _=>rfl,hP.bi,a1.1,?_,λ id C E' a2=>?_,a1.2,hP.fa,DV.ak0 P n⟩
   ·show lG+1<=n+31
    unfold lG;omega
   ·have:(lE P n).con=P.con:=by cases n<;>rfl
    rw[this];exact hP.con
   ·obtain⟨c,Pa,params,body,scope,pos,J,eE,L⟩:=hL id C E' a2
    obtain⟨a4,a6⟩:=hb _ L.cd
    refine⟨c,Pa,params,body,scope,pos,J,eE,⟨?_,a4,a6,L.ck,L.df _,L.lg,L.q,L.p,L.b,L.s,L.len,L.at_,L.fr,λ x hx=>?_,L.tab,hP.nd,λ _=>rfl,λ x c hx=>?_⟩⟩
    ·show Y=.ref c
     rw[<-a7 id C E' a2];exact L.code
    ·exact zN (L.fre x hx)
    ·rcases zx (aA hx)with z|z
     ·exact .inl (L.cel (x,.cell) z rfl)
     ·exact absurd z (by simp)
  refine⟨_,sSs d.body (zG st) _ ⟨N,defScope st,lk⟩ G hm,?_⟩
  obtain⟨φ,s,l,d',s',R,r,b,hc,k⟩:=q
  simp only[lE,e]at hc
  split at hc
  case isFalse=>exact fb hc
  rename_i Z
  obtain⟨c,s1,e1,hc⟩:=aa0 hc
  refine⟨φ,l.map some++aI d.vs none,s,c,s1,ba8 r b (by rw[h2,Z]),R,e1,λ φ1 H1 g1 l1 R1=>?_⟩
  cases c with
  | ret v0 =>
   intro v hb rv
   obtain⟨φ',g',l',b',r',R'⟩:=ar9 R g1 R1 hb rv hc
   exact k v φ' H1 g' l' b' r' R'
  | next ρ =>
   intro σ' _
   obtain⟨φ',g',l',b',r',R'⟩:=ar9 (v0:=.non) R g1 R1 rfl RV.nonI hc
   exact k .non φ' H1 g' l' b' r' R'
  | cont ρ=>exact fb hc
  | brk ρ=>exact fb hc
 by_cases hl:∃ id C E,lk id C E=true
 ·obtain⟨id,C,E,a2⟩:=hl
  obtain⟨c,Pa,params,a5,scope,pos,J,eE,L⟩:=hL id C E a2
  exact hD.fn.okC L.code hS Z (body _ λ _ _ _ _=>L.code)
 ·exact hD.fn.ok hS Z (λ Y=>body Y λ id C E h=>absurd ⟨id,C,E,h⟩ hl)
theorem bq8 {a9:List (Addr×Addr)}{P:lO}{prog:aJ}{w:World}{mg:Str->Option Value}{F:Heap}(hP:PrOk Γ a9 P mg)(n:Nat)(Y:aI1 Γ prog w mg F (lE P n) (n+31))
  (id:String) (J:LamI) (f:Addr) (cap:List V) (C:List (Str×Addr)) (a8:Γ.lg id J) (a1:cap.length=J.fr.length) :
  ClOk prog w Γ.K mg F (n+1+31) (λ H=>CloAt H f J cap C) f (spL Γ ((lE P (n+1)).lam id) cap):=by
 obtain⟨L,eL,LG⟩:=hP.lg id J a8
 have a2:∀ vs H Q E,spL Γ ((lE P (n+1)).lam id) cap vs H Q E->vs.length=J.ps.length:=λ vs H Q E q=>by
  obtain⟨φ,s,cs,l,d,s',R,r,rc,b,bc,hc,k⟩:=q
  simp only[lE,eL]at hc
  split at hc
  ·rename_i hh;rw[r.length,LG.ps];exact hh.1
  ·exact fb hc
 have main:∀(A:aX) (outer:List Env) (sh:ag) (H:Hp) (cd:Value) (vs:List V) (Q:VK),Room (n+31) (A.deeper (dD J.qual J.scope sh.heap.objs.size f cd (aM (sh.heap.objs.size+1) J.scope.names C)))->Cells C H->(∀ b o,Γ.K.lookup b=some o->H b=none)->spL Γ ((lE P (n+1)).lam id) cap vs H Q E0 ->
   ∃ t,PE (aG3 prog w Γ.K mg F (J.ps++J.fr) J.qual J.scope f cd C A outer sh H) J.body t/\t (vs.map some++cap.map some) (ab5 C H) λ v H'=>(∀ b,isC C b=true->H' b=none)->Q v (Put C H H'):=by
  intro A outer sh H cd vs Q hr z hK q
  have G:CG Γ (lE P n) (n+31) (aG3 prog w Γ.K mg F (J.ps++J.fr) J.qual J.scope f cd C A outer sh H) (ck0 (J.ps++J.fr) J.scope):=by
   refine⟨rfl,rfl,LG.sc.nd,rfl,rfl,?_,hr,λ x k e=>.inl e,λ x e=>?_,hP.bi,Y.1,?_,λ _ _ _ h=>(by cases h),Y.2,hP.fa,DV.ak0 P n⟩
   ·show lG+1<=n+31
    unfold lG;omega
   ·show(J.scope.names.lookup x==some .cell)=true
    rw[show J.scope.names.lookup x=some .cell from e];rfl
   ·have:(lE P n).con=P.con:=by cases n<;>rfl
    rw[this];exact hP.con
  refine⟨_,(sE L.body J.body _ (ck0 (J.ps++J.fr) J.scope) G LG.m).1,?_⟩
  obtain⟨φ,s,cs,l,d,s',R,r,rc,b,bc,hc,k⟩:=q
  simp only[lE,eL]at hc
  split at hc
  case isFalse=>exact fb hc
  rename_i hh
  obtain⟨h1,h2,h3⟩:=hh
  rw[aj,aj]at h3
  obtain⟨⟨b3,b0⟩,b2⟩:=h3
  obtain⟨v0,s1,e1,hc⟩:=aa0 hc
  have RD:Rp Γ φ (ab5 C H) s:=R.dropC z b2
  have a7:RVL Γ φ (ab5 C H) (l++cs) (vs++cap):=(RVL.dropC z l vs b3 r).append (RVL.dropC z cs cap b0 rc)
  refine⟨φ,l.map some++cs.map some,s,v0,s1,⟨by simp[r.length,rc.length],λ i x ei=>?_⟩,RD,e1,λ v φ1 H1 g1 l1 b1 r1 R1 a3=>?_⟩
  ·rw[<-fK,aE]at ei
   have a5:(l++cs)[i]?=some x:=by
    cases q:(l++cs)[i]? with
    | none=>rw[q]at ei;cases ei
    | some y=>rw[q]at ei;cases ei;rfl
   obtain⟨u,e3,e4⟩:=a7.get a5
   refine⟨ak2 (zu b bc) a5,u,?_,e4⟩
   rw[<-fK,aE,e3];rfl
  ·obtain⟨φ',g',l',b',r',R'⟩:=ar9 RD g1 R1 b1 r1 hc
   have gp:=Gr.put z a3 hK R' g'
   obtain⟨gs,Rs⟩:=R'.same (aV6 (H:=H) a3)
   exact k v φ' _ gp l' b' (RV.mono gs d v b' r') Rs
 unfold CloAt
 cases q:J.nm with
 | none=>exact bs5 LG.sc a2 a1 (λ pm c' Z us a4=>(LG.bind C .none pm c' Z us a4).1) (λ A outer sh H cd vs Q hr hat hK q=>by
   obtain⟨pm,c',Z,_,_,z,_⟩:=hat
   exact main A outer sh H cd vs Q hr z hK q)
 | some p=>exact bp1 LG.sc a2 a1 (λ a6 pm c' Z us a4=>(LG.bind C a6 pm c' Z us a4).2 _ _) (λ A outer sh H cd vs Q hr hat hK q=>by
   obtain⟨a6,pm,c',Z,_,_,z,_⟩:=hat
   obtain⟨t,h1,h2⟩:=main A outer sh H cd vs Q hr z hK q
   exact⟨_,aj9 (aP5 h1) aF1,h2⟩)
theorem aZ2 {C:List (Addr×Addr)}{P:lO}{prog:aJ}{w:World}{mg:Str->Option Value}{h:Heap}(F:PrOk Γ C P mg)(hb:∀ y∈C,bZ h y.1 y.2/\BM mg h):∀ n:Nat,aI1 Γ prog w mg h (lE P n) (n+31)
 | 0=>⟨λ f=>.inl λ l s=>rfl,λ id J f cap z _ _=>⟨λ A outer s H us vs Q _ _ _ _ q=>by
   obtain⟨φ,s,cs,l,d,s',R,r,rc,b,bc,hc,k⟩:=q
   cases hc⟩⟩
 | n+1=>by
  have Z:aI1 Γ prog w mg h (lE P n) (n+31):=aZ2 F hb n
  refine⟨λ f=>?_,λ id J f cap z Y G=>bq8 F n Z id J f cap z Y G⟩
  cases e:P.df f with
  | none=>exact .inl λ l s=>by simp only[lE,e]
  | some d =>
   obtain⟨st,N,ps,a,fd,lk,hD,hS,Y,G,hm,hL⟩:=F.df f d e
   exact .inr ⟨a,fd,ps,bI9 F hb n Z e hD hS Y G hm hL,hD.mg,hD.fn.kp,hD.bi⟩
def spT (Γ:Gm):Sp:=λ vs H Q _=>∃(a:Addr) (ns:List Int),vs=[.ref a]/\SqF Γ.K H a (ns.map V.int)/\ns.length<=63/\TabsH Γ.T H/\∀ H',Q (.bl true) H'
theorem aG7 {φ:Nat->Addr}{H:Hp}:∀ ns:List Int,RVL Γ φ H (ns.map DV.D.int) (ns.map V.int)
 | []=>.nil
 | n::ns=>.cons RV.intI (aG7 ns)
theorem aA0 {m:Nat}:∀ ns:List Int,lv m (ns.map DV.D.int)=true
 | []=>rfl
 | n::ns=>by rw[aH];unfold lv;rw[aA0 ns];rfl
theorem bG4 {P:lO}{k:Nat}(h:∀ ns:List Int,ns.length<=63->∃ s',(lE P k).call "law" [.ref 0] [.ro (ns.map DV.D.int)]=.ok (.bl true) s')(vs:List V)(H:Hp)(Q:VK)(E:XK)(q:spT Γ vs H Q E):spV Γ ((lE P k).call "law") vs H Q E:=by
 obtain⟨a,ns,rfl,y,hl,hT,z⟩:=q
 obtain⟨s',hs⟩:=h ns hl
 refine⟨λ _=>a,[.ro (ns.map DV.D.int)],[.ref 0],.bl true,s',⟨λ i j o C e e' m m' _=>?_,λ i o e=>?_,λ i o e=>?_,hT⟩,.cons RV.refI .nil,?_,hs,λ v φ' H' g l b r R=>?_⟩
 ·cases i with
  | zero=>cases e;cases m
  | succ i=>cases e
 ·cases i with
  | zero=>cases e;exact⟨_,y,aG7 ns⟩
  | succ i=>cases e
 ·cases i with
  | zero=>cases e;unfold lA;exact aA0 ns
  | succ i=>cases e
 ·unfold lv ly lv;rfl
 ·rw[r.blE];exact z H'
theorem aI8 {y:List (Addr×Addr)}{mg:Str->Option Value}:∀ {tbl:List (String×mR)},(∀ p∈tbl,Good Γ y mg p.1 p.2)->∀ f d,tbl.lookup f=some d->Good Γ y mg f d
 | [],_,f,d,h=>by cases h
 | (g,e)::tbl,H,f,d,h=>by
  rw[bo]at h
  cases q:f==g with
  | true =>
   rw[q]at h
   cases h
   rw[eq_of_beq q]
   exact H (g,_) (aB ..)
  | false =>
   rw[q]at h
   exact aI8 (λ p z=>H p (av _ z)) f d h
def bi4 (Γ:Gm)(mg:Str->Option Value)(x:String)(d:lu):Prop:=∃ v u,mg (x:Str)=some u/\RelV v u/\(∀ m,d.bnd m=true)/\∀ φ H,RV Γ φ H d v
theorem aZ3 {mg:Str->Option Value}:∀ {tbl:List (String×lu)},(∀ p∈tbl,bi4 Γ mg p.1 p.2)->∀ f d,tbl.lookup f=some d->bi4 Γ mg f d
 | [],_,f,d,h=>by cases h
 | (g,e)::tbl,H,f,d,h=>by
  rw[bo]at h
  cases q:f==g with
  | true =>
   rw[q]at h
   cases h
   rw[eq_of_beq q]
   exact H (g,_) (aB ..)
  | false =>
   rw[q]at h
   exact aZ3 (λ p y=>H p (av _ y)) f d h
theorem aS4 {mg:Str->Option Value}{x:String}{i:Int}{t:Tok}(h:mg (x:Str)=some (.int i t)):bi4 Γ mg x (.int i):=⟨.int i,_,h,⟨t,rfl⟩,λ _=>rfl,λ _ _=>RV.intI⟩
inductive ConV (Γ:Gm):lu->Value->Prop where
 | int (i:Int) (t:Tok):ConV Γ (.int i) (.int i t)
 | str (x:List Nat) (t:Tok) (h:x.length<=1000):ConV Γ (.str x) (.str ⟨x.toArray⟩ t)
inductive ConL (Γ:Gm):List lu->List Value->Prop where
 | nil:ConL Γ [] []
 | cons {d v l vs} (a:ConV Γ d v) (b:ConL Γ l vs):ConL Γ (d::l) (v::vs)
theorem bt6 {mg:Str->Option Value}{x:String}{a:Addr}{o:Obj}{its:List Value}{n:Nat}{l:List lu}(h:mg (x:Str)=some (.ref a))(hk:Γ.K.lookup a=some o)(hc:o.cls=.type "tuple")(hd:o.data=.seq its.toArray n)(hz:its.length<=1000)
  (hl:ConL Γ l its) (J:lD l=false:=by rfl):bi4 Γ mg x (.tup l):=by
 have key:∃ y,Vals y its/\(∀ m,lv m l=true)/\∀ φ H,RVL Γ φ H l y:=by
  clear hd hz J
  induction hl with
  | nil=>exact⟨[],.nil,λ _=>rfl,λ _ _=>.nil⟩
  | cons a b ih =>
   obtain⟨y,G,C,F⟩:=ih
   cases a with
   | int i t=>exact⟨.int i::y,.cons ⟨t,rfl⟩ G,λ m=>by unfold lv;rw[C];rfl,λ φ H=>.cons RV.intI (F φ H)⟩
   | str x t h=>exact⟨.str ⟨x.toArray⟩::y,.cons ⟨t,rfl⟩ G,λ m=>by unfold lv;rw[C];rfl,λ φ H=>.cons (RV.strI (by unfold lB;omega)) (F φ H)⟩
 obtain⟨y,G,C,F⟩:=key
 refine⟨.ref a,_,h,rfl,λ m=>by unfold ly;exact C m,λ φ H=>RV.tupC (.inr ⟨o,its.toArray,n,hk,hc,hd,?_,G⟩) (λ z=>by rw[J]at z;cases z) (F φ H)⟩
 rw[ar];exact aG8 hz
end
theorem aN4 {P:aJ}{w:World}{K:ae}{mg mb:Str->Option Value}{k:Nat}{fa a:Addr}{fd:bQ}{x:Str}{sp:Sp}{C:ag}{vs:List Value}{ns:List Int}{tabs:List (Addr×Addr)}
  (KX:K.In C.heap) (b0:C.heap.Ns bw mg) (hb:C.heap.Ns gW mb) (d0:∀ x:Str,x ≠ "__name__"->mb x=bq x) (b7:C.heap.NoLimit) (hg:C.gens=#[]) (d2:BM mg C.heap) (hT:kG tabs C.heap) (c0:kH K=true)
  (ha:C.heap.get? a=some { cls:=.type "list",data:=.seq vs.toArray }) (hi:kn vs ns) (hl:ns.length<=aG) (hr:Room k i7)
  (F:∀ Y:Heap,K.In Y->Y.Ns bw mg->BM mg Y->(∀ q∈tabs,bZ Y q.1 q.2)->FnOk P w K mg Y CX0 k fa fd [x] sp) (a6:∀(s:ag) (u:Value),km s fd ⟨[u],[]⟩ [(x,u)])
  (c2:∀ H:Hp,(∀ q∈tabs,H q.2=some (.tbl #[]))->SqL K H a (ns.map V.int)->(∀ u,H a=some u->(∃ o xs,u=.frz o (.lst xs))\/∃ ps,u=.tbl ps)->sp [.ref a] H (λ v _=>v=.bl true) E0) :
  fw (model P w) i7 (.call (.ref fa) ⟨[.ref a],[]⟩) (λ r s'=>r=.ok (.ret (.bool true))/\OldK C.heap s'.heap/\s'.os=C.os/\gi s'.gens) C:=by
 have rv:=ay8 hi
 have a7:=hi.length
 have G:∀ b,b∈tabs.map (·.2)->C.heap.get? b=some (eR #[]):=λ b h=>by
  obtain⟨q,hq,rfl⟩:=aO.mp h
  exact(hT q hq).2
 have a2:∀ H:Hp,(∀ b u,H b=some u->(b=a/\∃ o xs,u=.frz o (.lst xs))\/(b∈tabs.map (·.2)/\u=.tbl #[]))->(∀ q∈tabs,H q.2=some (.tbl #[]))->SqL K H a (ns.map V.int)->HOk P w H C.heap->(H a≠none->K.lookup a=none) ->
   fw (model P w) i7 (.call (.ref fa) ⟨[.ref a],[]⟩) (λ r s'=>r=.ok (.ret (.bool true))/\OldK C.heap s'.heap/\s'.os=C.os/\gi s'.gens) C:=by
  intro H hO c4 hS hok hK
  have un:∀ b o,C.heap.get? b=some o->o.cls≠.type "list"->(∀ vs,o.data≠.fields vs)->H b=none:=λ b o e n1 n2=>by
   cases q:H b with
   | none=>rfl
   | some u =>
    rcases hO b u q with⟨z,_⟩|⟨z,_⟩
    ·rw[z,ha]at e;cases e;exact absurd rfl n1
    ·rw[G b z]at e;cases e;exact absurd rfl (n2 #[])
  have Z:∀ {b:Addr} {m:Str->Option Value},C.heap.Ns b m->(aZ7 C.heap H).Ns b m:=λ {b m} ⟨o,es,ep,e,d,r⟩=>by
   refine⟨o,es,ep,aj5 e ?_,d,r⟩
   cases q:H b with
   | none=>rfl
   | some u =>
    rcases hO b u q with⟨z,_⟩|⟨z,_⟩
    ·rw[z,ha]at e;cases e;cases d
    ·rw[G b z]at e;cases e;cases d
  have a9:K.In (aZ7 C.heap H):=λ b o e=>aj5 (KX b o e) (by
   cases q:H b with
   | none=>rfl
   | some u =>
    rcases hO b u q with⟨z,_⟩|⟨z,_⟩
    ·subst z
     rw[hK (by rw[q];simp)]at e;cases e
    ·have e2:=KX b o e
     rw[G b z]at e2
     have h2:=aW.mp c0 (b,o) (PySem.W.mem_of_lookupK e)
     have e3:o=eR #[]:=(ay e2).symm
     subst e3
     exact absurd (show false=true from h2) aL)
  have hM:Mod K mg (aZ7 C.heap H):=⟨a9,Z b0,⟨mb,Z hb,d0⟩,let⟨mc,h1,h2⟩:=b7;⟨mc,Z h1,h2⟩⟩
  have c3:BM mg (aZ7 C.heap H):=by
   obtain⟨bm,ob,b1,b2,b3,b4,b5,b6⟩:=d2
   exact⟨bm,ob,b1,b2,aj5 b3 (un bm ob b3 (by rw[b4];nofun) (by rw[b6];nofun)),b4,b5,b6⟩
  have c1:∀ q∈tabs,bZ (aZ7 C.heap H) q.1 q.2:=λ q hq=>by
   obtain⟨o,b8,a8,tf,a4,tg,d1,text,tt,e1,r1,r2⟩:=(hT q hq).1
   refine⟨o,b8,a8,tf,a4,tg,d1,text,tt,aj5 e1 ?_,r1,r2⟩
   cases q2:H q.1 with
   | none=>rfl
   | some u =>
    rcases hO _ u q2 with⟨z,_⟩|⟨z,_⟩
    ·rw[z,ha]at e1;cases e1;exact absurd r1 (by simp)
    ·rw[G _ z]at e1;cases e1;exact absurd r1 (by simp)
  have e0:Env0 P w K mg (aZ7 C.heap H) i7 [] C H:=⟨rfl,hM,λ b o e=>br9 e,Nat.le_of_eq (aY9 _ _),trivial,λ b hb=>absurd (show b∈([]:List Addr)from hb) (by simp),hok,.of_eq hg⟩
  refine fR ((F _ a9 (Z b0) c3 c1).run i7 [] C H ⟨[.ref a],[]⟩ [.ref a] [.ref a] _ _ hr e0 (a6 C (.ref a)) (.cons rfl .nil) (c2 H c4 hS (λ u e=>(hO a u e).elim (λ z=>.inl z.2) (λ z=>.inr ⟨_,z.2⟩)))) λ r s' h=>?_
  cases r with
  | error e=>exact bE h
  | ok fl =>
   cases fl with
   | next=>exact bE h
   | brk=>exact bE h
   | cont=>exact bE h
   | ret u =>
    obtain⟨v,H',os,bare,a5,a1,r',q⟩:=h
    have q':v=.bl true:=q
    subst q'
    obtain rfl:u=Value.bool true:=r'
    have key:∀ b o,C.heap.get? b=some o->asItWas C.heap s'.heap b o/\∃ o',s'.heap.get? b=some o':=λ b o e=>by
     cases q:H b with
     | none =>
      have z:=a5.keep b o e q (by intro z;exact absurd (show b∈([]:List Addr)from z) (by simp)) (by simp)
      exact⟨.inl z,o,z⟩
     | some u =>
      rcases hO b u q with⟨_,ob,xs,z⟩|⟨z,z2⟩
      ·subst z
       have z2:=a5.frzs b ob _ q
       obtain⟨e1,_⟩:=hok b _ q
       obtain⟨e2,_⟩:=a1 b _ z2
       rw[e]at e1;cases e1
       exact⟨.inl e2,_,e2⟩
      ·subst z2
       obtain⟨a3,z3⟩:=a5.tbls b _ q
       have g:s'.heap.get? b=some { cls:=.none,data:=.fields (#[]++a3) }:=a1 b _ z3
       have e1:=G b z
       rw[e]at e1;cases e1
       obtain⟨p,hp,ep⟩:=aO.mp z
       refine⟨.inr (.inl ⟨?_,rfl,#[],a3,rfl,g⟩),_,g⟩
       have t:=((hT p hp).1.tab (hT p hp).2).isCodeTable
       rw[ep]at t
       exact t
    exact⟨rfl,⟨λ b o e=>(key b o e).1,λ b o e=>(key b o e).2⟩,os,bare⟩
 have tbl:∀ b,b∈tabs.map (·.2)->b≠a:=λ b h z=>by
  have e:=G b h
  rw[z,ha]at e;cases e
 cases hk:K.lookup a with
 | some o =>
  have e:=KX a o hk
  rw[ha]at e
  cases e
  refine a2 (λ b=>if b∈tabs.map (·.2)then some (.tbl #[])else none) (λ b u z=>?_) (λ q hq=>if_pos (aS hq)) (.inr ⟨_,vs.toArray,_,hk,rfl,rfl,rfl,by rw[ar,a7];exact hl,by simpa using rv⟩) (λ b u z=>?_) λ z=>?_
  ·by_cases hb:b∈tabs.map (·.2)
   ·have J:=(if_pos hb).symm.trans z
    cases J
    exact .inr ⟨hb,rfl⟩
   ·have J:=(if_neg hb).symm.trans z
    cases J
  ·by_cases hb:b∈tabs.map (·.2)
   ·have J:=(if_pos hb).symm.trans z
    cases J
    exact G b hb
   ·have J:=(if_neg hb).symm.trans z
    cases J
  ·exact absurd (if_neg λ y=>tbl a y rfl) z
 | none =>
  refine a2 (λ b=>if b=a then some (.frz { cls:=.type "list",data:=.seq vs.toArray } (.lst (ns.map V.int)))else if b∈tabs.map (·.2)then some (.tbl #[])else none) (λ b u z=>?_) (λ q hq=>?_) (.inl (.inr ⟨{ cls:=.type "list",data:=.seq vs.toArray },if_pos rfl⟩)) (λ b u z=>?_) λ _=>hk
  ·by_cases hb:b=a
   ·have J:=(if_pos hb).symm.trans z
    cases J
    exact .inl ⟨hb,_,_,rfl⟩
   ·have J:=(if_neg hb).symm.trans z
    by_cases hc:b∈tabs.map (·.2)
    ·rw[if_pos hc]at J;cases J;exact .inr ⟨hc,rfl⟩
    ·rw[if_neg hc]at J;cases J
  ·have hm:q.2∈tabs.map (·.2):=aS hq
   show(if _ then _ else if _ then _ else _)=_
   rw[if_neg (tbl _ hm),if_pos hm]
  ·by_cases hb:b=a
   ·have J:=(if_pos hb).symm.trans z
    cases J
    subst hb
    exact⟨ha,by rw[au];exact hl,vs,_,rv,ha⟩
   ·have J:=(if_neg hb).symm.trans z
    by_cases hc:b∈tabs.map (·.2)
    ·rw[if_pos hc]at J;cases J;exact G b hc
    ·rw[if_neg hc]at J;cases J
theorem aR6 {ts:List Addr}{l:dH}{n k:Nat}{q:aJ}{loose:List Str}{XP:(Str->Option Value)->Heap->Prop}{YP:World->Heap->Prop}{d:DefRec}{K:Params->ae}{sp:ae->Sp}{x:Str}(names:List Str)
  (hn:l.most=some n) (a3:n<=aG) (a4:d.params.defaults=[]) (hr:Room k i7)
  (hY:∀(w:World) (h:Heap),YP w h->(K w.params).In h/\∀ P∈ts,h.get? P=some (eR #[])) (a1:∀ w:World,bK6 (K w.params) names ts=true) (a7:∀ w:World,kH (K w.params)=true)
  (F:∀(w:World) (mg:Str->Option Value) (fa:Addr) (h:Heap),(K w.params).In h->h.Ns bw mg->mg d.name=some (.ref fa) ->
   ∃ fd:bQ,(∀(s:ag) (u:Value),km s fd ⟨[u],[]⟩ [(x,u)]) /\
    ∀ C:Heap,(K w.params).In C->C.Ns bw mg->BM mg C->bo6 (K w.params) names C->FnOk l.prog w (K w.params) mg C CX0 k fa fd [x] (sp (K w.params)))
  (a8:∀(K:ae) (H:Hp) (a:Addr) (ns:List Int),ns.length<=n->bz1 K names H->SqL K H a (ns.map V.int)->(∀ u,H a=some u->(∃ o xs,u=.frz o (.lst xs))\/∃ ps,u=.tbl ps)->sp K [.ref a] H (λ v _=>v=.bl true) E0) :
  kM q loose XP YP l.row.toRowW d [] (λ f vs=>kq f vs):=by
 refine Att.attach_call hn a4 λ w s₀ s₁ mg mb fa o pm cd a9 a vs ns G Y ho hd b0 a5 a2 Z J hg=>?_
 obtain⟨KX,a6⟩:=hY w _ Y
 obtain⟨fd,hb,hF⟩:=F w mg fa _ KX G.T.g a5
 have hT:kG ((aw2 (K w.params) names).map (·.2)) s₁.heap:=λ p hp=>by
  obtain⟨y,hy,rfl⟩:=aO.mp hp
  obtain⟨h1,h2⟩:=ar4.mp hy
  have z:=aW.mp (a1 w) y.1 h1
  rw[h2]at z
  have z':(j1 (K w.params) y.2.1 y.2.2&&ts.contains y.2.2)=true:=z
  rw[aj]at z'
  exact⟨PySem.W.codeHd_of_K KX z'.1,a6 _ (by simpa using z'.2)⟩
 have hm:∀ x∈names,∀ c P,bv (K w.params) x=some (c,P)->(c,P)∈(aw2 (K w.params) names).map (·.2):=λ x hx c P e=>aO.mpr ⟨(x,c,P),ar4.mpr ⟨hx,e⟩,rfl⟩
 refine aN4 (tabs:=(aw2 (K w.params) names).map (·.2)) KX G.T.g G.T.b G.T.builtins G.T.nolimit hg ?_ hT (a7 w) a2 Z (am J a3) hr (λ C k1 k2 k3 k4=>hF C k1 k2 k3 λ x hx c P e=>k4 _ (hm x hx c P e)) hb λ H hO hS hF=>a8 (K w.params) H a ns J (λ x hx c P e=>hO _ (hm x hx c P e)) hS hF
 obtain⟨bm,ob,h1,h2,h3,h4,h5,h6⟩:=G.T.bmain
 exact⟨bm,ob,h1,h2,h3,h4,h5,h6⟩
def spB (names:List Str)(K:ae):Sp:=λ vs H Q _=>∃(a:Addr) (ns:List Int),vs=[.ref a]/\SqF K H a (ns.map V.int)/\ns.length<=63/\bz1 K names H/\∀ H',Q (.bl true) H'
theorem bF0 {names:List Str}{K:ae}{H:Hp}{a:Addr}{ns:List Int}(hl:ns.length<=63)(hB:bz1 K names H)(y:SqL K H a (ns.map V.int))(F:∀ u,H a=some u->(∃ o C,u=.frz o (.lst C))\/∃ ps,u=.tbl ps):spB names K [.ref a] H (λ v _=>v=.bl true) E0:=by
 refine⟨a,ns,rfl,⟨y,λ H' k=>?_⟩,hl,hB,λ _=>rfl⟩
 rcases y with(h|⟨o,h⟩)|h
 ·rcases F _ h with⟨_,_,z⟩|⟨_,z⟩<;>cases z
 ·exact .inl (.inr ⟨o,k _ _ h rfl⟩)
 ·exact .inr h
def cb1 (P:lO):String->LamI->Prop:=λ id J=>∃ L,P.lm id=some L/\LamGood J L
noncomputable def sfx (x:Str):Str:=if x = "letter_table" then "least_fee" else "<lambda>"
noncomputable def bz5 (names:List Str)(K:ae):List (Addr×Str):=names.map λ x=>(((bv K x).getD (0,0)).2,x ++ ".<locals>."++sfx x)
noncomputable def bA6 (names:List Str)(K:ae):List (Addr×Addr):=names.map λ x=>(bv K x).getD (0,0)
noncomputable def bU9 (K:ae)(f:String):Option Addr:=match d8 K bw (f:Str)with
 | some (some (.ref a))=>(match K.lookup a with
  | some ⟨_,_,.func _,_⟩=>some a
  | _=>none)
 | _=>none
theorem aK6 {K:ae}{f:String}{a:Addr}(h:bU9 K f=some a):d8 K bw (f:Str)=some (some (.ref a))/\∃ oc od y sl,K.lookup a=some ⟨oc,od,.func y,sl⟩:=by
 unfold bU9 at h
 split at h
 ·rename_i z e
  split at h
  ·rename_i oc od y sl e2
   cases h
   exact⟨e,_,_,_,_,e2⟩
  ·cases h
 ·cases h
noncomputable abbrev bj0 (names:List Str)(P:lO)(K:ae):Gm:=⟨K,bU9 K,cb1 P,bz5 names K⟩
theorem bS4 {names:List Str}{P:lO}{K:ae}{h:Heap}{mg:Str->Option Value}(X:K.In h)(G:h.Ns bw mg):∀(f:String) (a:Addr),(bj0 names P K).fa f=some a->mg (f:Str)=some (.ref a)/\∃ oc od y sl,(bj0 names P K).K.lookup a=some ⟨oc,od,.func y,sl⟩:=λ f a e=>⟨dk X G (aK6 e).1,(aK6 e).2⟩
theorem bf3 {names:List Str}{P:lO}{K:ae}(C:∀ x∈names,(bv K x).isSome=true){vs:List V}{H:Hp}{Q:VK}{E:XK}(q:spB names K vs H Q E):spT (bj0 names P K) vs H Q E:=by
 obtain⟨a,ns,e,y,hl,hB,z⟩:=q
 refine⟨a,ns,e,y,hl,TabsH.init λ p h=>?_,z⟩
 simp only[bz5,d9]at h
 obtain⟨x,hx,rfl⟩:=aO.mp h
 exact hB x hx _ _ (au9 (C x hx))
theorem bn4 {names:List Str}{K:ae}{mg:Str->Option Value}{h:Heap}(z:∀ x∈names,(bv K x).isSome=true)(bm:BM mg h)(hc:bo6 K names h):∀ y∈bA6 names K,bZ h y.1 y.2/\BM mg h:=λ y hy=>by
 obtain⟨x,hx,rfl⟩:=aO.mp hy
 exact⟨hc x hx _ _ (au9 (z x hx)),bm⟩
noncomputable def av6:bp->Option (List Str)
 | ⟨[],args,none,[],[],none,[]⟩=>some (args.map (·.arg))
 | _=>none
theorem aG1 {p:bp}{ps:List Str}(h:av6 p=some ps):∃ args,p=⟨[],args,none,[],[],none,[]⟩/\args.map (·.arg)=ps:=by
 unfold av6 at h
 split at h
 ·exact⟨_,rfl,ay h⟩
 ·cases h
def bg1 (ps:List Str):Prop:=∀ params,av6 params=some ps->∀(qual:Str) (body:Expr) (scope:Scope) (clos:List (Str×Addr)) (doc pm:Value) (c':Addr) (ctv:Value) (us:List Value),us.length=ps.length->fy (bX "<lambda>" qual params body scope clos pm (.ref c') ctv) ⟨us,[]⟩=pure (ps.zip us) /\
 ∀(nm:Str) (rp:Pos),fy (cM nm qual params [.Return (some body) rp] scope clos .none .none doc pm none (.ref c') ctv) ⟨us,[]⟩=pure (ps.zip us)
noncomputable def aU7 (ps fr:List Str)(sc:Scope):Bool:=decide (sc.kind=.function)&&!sc.isCoroutine&&!sc.isGenerator&&decide ((ps++fr).Nodup)&&(ps.all λ x=>decide (sc.names.lookup x=some .local)||decide (sc.names.lookup x=some .cell))&&(fr.all λ x=>decide (sc.names.lookup x=some .free))&&(sc.names.all λ y=>!decide (y.2=.cell)||decide (sc.names.lookup y.1=some .cell))
theorem aR4 {ps fr:List Str}{sc:Scope}(h:aU7 ps fr sc=true):LamScope (ps++fr) ps fr sc:=by
 unfold aU7 at h
 simp only[aj,decide_eq_true_eq,eZ,aW,bN]at h
 obtain⟨⟨⟨⟨⟨⟨Z,G⟩,J⟩,Y⟩,C⟩,F⟩,h7⟩:=h
 exact⟨Z,G,J,Y,rfl,C,F,λ y hy e=>by
  rcases h7 y hy with z|z
  ·rw[e]at z;simp at z
  ·exact z⟩
noncomputable def bH7 (scope sc:Scope):Bool:=scope.names.all λ y=>!decide (scope.names.lookup y.1=some .free)||decide (sc.names.lookup y.1=some .cell)
theorem be4 {scope sc:Scope}(h:bH7 scope sc=true):∀ x,scope.names.lookup x=some .free->sc.names.lookup x=some .cell:=λ x hx=>by
 have:=aW.mp h (x,.free) (aA hx)
 simp only[bN,eZ,decide_eq_false_iff_not,decide_eq_true_eq]at this
 rcases this with z|z
 ·exact absurd hx z
 ·exact z
noncomputable def lkB (sc:Scope)(N:List Str)(caps:List Nat)(params:bp)(body:Expr)(scope:Scope)(t:mQ×List Str×List Str):Bool :=
 decide (av6 params=some t.2.1)&&decide (caps.map (λ j=>N[j]?)=t.2.2.map some)&&lamCheck scope sc&&bH7 scope sc&&aU7 t.2.1 t.2.2 scope&&decide (t.2.1.length=t.1.ps)&&decide (t.2.2.length=t.1.cs)&&mE (ck0 (t.2.1++t.2.2) scope) t.1.body body
noncomputable def lkG (f:Str)(sc:Scope)(N:List Str)(tab:List (String×mQ×List Str×List Str))(id:String)(caps:List Nat)(E:Expr):Bool:=match tab.lookup id,E with
 | some t,.Lambda params body scope _=>decide (sfx f = "<lambda>")&&lkB sc N caps params body scope t
 | some t,.NamedExpr (.Name nm _) (.Lambda params body scope p1) p2=>decide (sfx f=nm)&&decide (p1=p2)&&lkB sc N caps params body scope t
 | _,_=>false
theorem bw7 {names:List Str}{P:lO}{K:ae}{f:Str}{sc:Scope}{N:List Str}{fd:bQ}{tab:List (String×mQ×List Str×List Str)}(hf:f∈names)(F:fd.code=.ref ((bv K f).getD (0,0)).1)(J:∀ y∈sc.names,y.2=.cell->sc.names.lookup y.1=some .cell)
  (Z:∀ id t,tab.lookup id=some t->P.lm id=some t.1/\bg1 t.2.1):bQ7 (bj0 names P K) (bA6 names K) f sc N fd (lkG f sc N tab):=by
 intro id z E h
 have C:∀(t:mQ×List Str×List Str) (params:bp) (body:Expr) (scope:Scope) (G:Option (Str×Pos)),tab.lookup id=some t->lkB sc N z params body scope t=true->(match G with|none => "<lambda>" | some p=>p.1)=sfx f ->
   LkAt (bj0 names P K) (bA6 names K) f sc N fd id z params body scope ((bv K f).getD (0,0)).1 ((bv K f).getD (0,0)).2 ⟨f ++ ".<locals>."++sfx f,params,body,scope,t.2.1,t.2.2,G⟩:=λ t params body scope G e h hs=>by
  obtain⟨L,ps,fr⟩:=t
  unfold lkB at h
  simp only[aj,decide_eq_true_eq]at h
  obtain⟨⟨⟨⟨⟨⟨⟨h1,h2⟩,h3⟩,h4⟩,h5⟩,h6⟩,h7⟩,h8⟩:=h
  obtain⟨hL,hB⟩:=Z id _ e
  obtain⟨args,rfl,a1⟩:=aG1 h1
  have Y:fr.length=z.length:=by have:=congrArg iK h2;simpa using this.symm
  have S:=aR4 h5
  refine⟨F,aO.mpr ⟨f,hf,rfl⟩,h3,be4 h4,J,λ env=>rfl,⟨L,hL,⟨S,h6,h7,h8,λ a3 a4 pm c' a5 us a2=>hB _ h1 _ _ _ _ _ _ _ _ _ a2⟩⟩,?_,rfl,rfl,rfl,Y,λ i j x e1 e2=>?_,S.frs,aO.mpr ⟨f,hf,rfl⟩⟩
  ·show f ++ ".<locals>."++sfx f=f ++ ".<locals>."++LamI.own _
   unfold LamI.own
   rw[<-hs]<;>rfl
  ·have e3:(z.map (λ j=>N[j]?))[i]?=some (N[j]?):=by rw[aE,e1];rfl
   rw[h2,aE,e2]at e3
   exact(ay e3).symm
 unfold lkG at h
 split at h
 case h_3=>cases h
 ·rename_i t params body scope pos e
  rw[aj]at h
  exact⟨_,_,params,body,scope,pos,_,rfl,C t params body scope none e h.2 (of_decide_eq_true h.1).symm⟩
 ·rename_i t G rp params body scope p1 p2 e
  rw[aj,aj]at h
  have ep:=of_decide_eq_true h.1.2
  subst ep
  exact⟨_,_,params,body,scope,p1,_,rfl,C t params body scope (some (G,rp)) e h.2 (of_decide_eq_true h.1.1).symm⟩
theorem aP3 {names:List Str}{P:lO}{K:ae}{f:Str}{sc:Scope}{N:List Str}{y:bQ}:bQ7 (bj0 names P K) (bA6 names K) f sc N y (λ _ _ _=>false):=λ _ _ _ h=>by cases h
theorem bW0 {names:List Str}{P:lO}{K:ae}:∀ id J,(bj0 names P K).lg id J->∃ L,P.lm id=some L/\LamGood J L:=λ _ _ h=>h
theorem bV2 {P:lO}{tab:List (String×mQ×List Str×List Str)}(h:∀ p∈tab,P.lm p.1=some p.2.1/\bg1 p.2.2.1):∀ id t,tab.lookup id=some t->P.lm id=some t.1/\bg1 t.2.1:=by
 induction tab with
 | nil=>intro id t e;cases e
 | cons y l ih =>
  intro id t e
  rw[bo]at e
  cases q:id==y.1 with
  | true =>
   rw[q]at e
   cases e
   rw[eq_of_beq q]
   exact h y (aB ..)
  | false =>
   rw[q]at e
   exact ih (λ p z=>h p (av _ z)) id t e
def ca1 (K:ae)(n:Str)(st:Stmt):Prop:=∃(f:Addr) (od an:Option Addr) (sl:Array (Option Value)) (oc kV dc pm cd ct:Value),d8 K bw n=some (some (.ref f)) /\
 K.lookup f=some ⟨oc,od,.func (dB n n (defArgs st) (zG st) (defScope st) .none kV dc pm an cd ct),sl⟩/\fZ K cd n=true/\cC K (.ref f)=true
def bZ0 (n:Str)(st:Stmt)(ps:List Str):Prop:=∀(kV doc pm:Value) (an:Option Addr) (cdv ct:Value) (us:List Value),us.length=ps.length->fy (dB n n (defArgs st) (zG st) (defScope st) .none kV doc pm an cdv ct) ⟨us,[]⟩=pure (ps.zip us)
theorem bd0 {Q:List Value->Prop}(h:Q [])(us:List Value)(hl:us.length=0):Q us:=by
 cases us with
 | nil=>exact h
 | cons _ _=>cases hl
theorem bdS {k:Nat}{Q:List Value->Prop}(h:∀ a us,us.length=k->Q (a::us))(us:List Value)(hl:us.length=k+1):Q us:=by
 cases us with
 | nil=>cases hl
 | cons a us=>exact h a us (Nat.succ.inj hl)
theorem bd1 {Q:List Value->Prop}(h:∀ a,Q [a]):∀ us:List Value,us.length=1->Q us:=bdS λ a=>bd0 (h a)
theorem bd2 {Q:List Value->Prop}(h:∀ a b,Q [a,b]):∀ us:List Value,us.length=2->Q us:=bdS λ a=>bd1 (h a)
theorem bd3 {Q:List Value->Prop}(h:∀ a b c,Q [a,b,c]):∀ us:List Value,us.length=3->Q us:=bdS λ a=>bd2 (h a)
theorem bd4 {Q:List Value->Prop}(h:∀ a b c d,Q [a,b,c,d]):∀ us:List Value,us.length=4->Q us:=bdS λ a=>bd3 (h a)
theorem bd5 {Q:List Value->Prop}(h:∀ a b c d e,Q [a,b,c,d,e]):∀ us:List Value,us.length=5->Q us:=bdS λ a=>bd4 (h a)
def DT (names:List Str)(P:lO)(n:String)(d:mR)(st:Stmt):Prop:=∃ N ps,FnScope N ps (defScope st)/\ps.length=d.ps/\N.length=d.ps+d.vs/\bZ0 n st ps/\(mSs ⟨N,defScope st,λ _ _ _=>false⟩ d.body (zG st)=true \/
 ((n:Str)∈names/\∃ tab,mSs ⟨N,defScope st,lkG n (defScope st) N tab⟩ d.body (zG st)=true/\(∀ y∈(defScope st).names,y.2=.cell->(defScope st).names.lookup y.1=some .cell)/\∀ p∈tab,P.lm p.1=some p.2.1/\bg1 p.2.2.1))
theorem good_of {names:List Str}{P:lO}{K:ae}{h:Heap}{mg:Str->Option Value}{n:String}{d:mR}{st:Stmt}(X:K.In h)(G:h.Ns bw mg)(hT:∀ x∈names,(bv K x).isSome=true)(hD:ca1 K n st)(hd:DT names P n d st):Good (bj0 names P K) (bA6 names K) mg n d:=by
 obtain⟨f,od,an,sl,oc,kV,dc,pm,cd,ct,a,l,c,k⟩:=hD
 obtain⟨N,ps,J,z,C,Y,y⟩:=hd
 have F:=bn2 (st:=st) l c k
 have D:DefAt K mg n st ps f _:=⟨F,dk X G a,F.binds Y⟩
 rcases y with y|⟨hn,tab,y,Z,h7⟩
 ·exact⟨_,_,_,_,_,_,D,J,z,C,y,aP3⟩
 ·exact⟨_,_,_,_,_,_,D,J,z,C,y,bw7 hn (PySem.W.law_code X G (au9 (hT _ hn)) (dk X G a) (X _ _ l) rfl) Z (bV2 h7)⟩
end L2
end
noncomputable section
namespace DV
noncomputable def ax6:Df:=⟨"_law_bag",2,3,(.cons (.asg (.one 2) (.cst (.int 0))) (.cons (.ite (.cmp .lt (.var 1) (.bi .len (.cons (.var 0) .nil))) (.cons (.asg (.one 2) (.bi .abs (.cons (.ix (.var 0) (.var 1)) .nil))) .nil) .nil) (.cons (.asg (.one 3) (.bin .add (.bin .mul (.cst (.int 7919)) (.var 1)) (.cst (.int 17)))) (.cons (.for_ (.one 4) (.rng1 (.bi .min2 (.cons (.bi .len (.cons (.var 0) .nil)) (.cons (.cst (.int 60)) .nil)))) (.cons (.asg (.one 3) (.bin .mod (.bin .add (.bin .add (.bin .mul (.var 3) (.cst (.int 48271))) (.bin .mod (.ix (.var 0) (.var 4)) (.cst (.int 2147483647)))) (.var 4)) (.cst (.int 2147483629)))) .nil)) (.cons (.ite (.cmp .lt (.var 2) (.bin .pow (.cst (.int 10)) (.cst (.int 18)))) (.cons (.asg (.one 2) (.cst (.int 0))) .nil) .nil) (.cons (.ret (.lst (.cons (.var 2) (.cons (.var 3) .nil)))) .nil))))))⟩
noncomputable def ac6:Df:=⟨"_law_take",2,3,(.cons (.ite (.cmp .gt (.ix (.var 0) (.cst (.int 0))) (.cst (.int 0))) (.cons (.asg (.one 2) (.bin .mod (.ix (.var 0) (.cst (.int 0))) (.var 1))) (.cons (.setIx (.var 0) (.cst (.int 0)) (.bin .fdiv (.ix (.var 0) (.cst (.int 0))) (.var 1))) (.cons (.ret (.var 2)) .nil))) .nil) (.cons (.asg (.one 3) (.cst (.int 0))) (.cons (.asg (.one 4) (.cst (.int 1))) (.cons (.whl (.cmp .lt (.var 4) (.var 1)) (.cons (.setIx (.var 0) (.cst (.int 1)) (.bin .mod (.bin .add (.bin .mul (.ix (.var 0) (.cst (.int 1))) (.cst (.int 48271))) (.cst (.int 7919))) (.cst (.int 2147483647)))) (.cons (.asg (.one 3) (.bin .add (.bin .mul (.var 3) (.cst (.int 1073741789))) (.bin .mod (.bin .mul (.bin .fdiv (.ix (.var 0) (.cst (.int 1))) (.cst (.int 8))) (.cst (.int 69621))) (.cst (.int 1073741789))))) (.cons (.asg (.one 4) (.bin .mul (.var 4) (.cst (.int 1073741789)))) .nil)))) (.cons (.ret (.bin .mod (.var 3) (.var 1))) .nil)))))⟩
noncomputable def ad7:Df:=⟨"_law_rooms",2,1,(.cons (.asg (.one 2) (.call "_law_take" (.ex (.var 0) (.ex (.bin .shl (.cst (.int 1)) (.var 1)) .nil)))) (.cons (.ret (.mk .tuple (.compIf (.one 0) (.rng1 (.var 1)) (.cmp .eq (.bin .mod (.bin .fdiv (.var 1) (.bin .shl (.cst (.int 1)) (.var 0))) (.cst (.int 2))) (.cst (.int 1))) (.var 0) [none,some 2]))) .nil))⟩
noncomputable def aa6:Df:=⟨"letters_of",1,0,(.cons (.ret (.slU (.glob "LETTERS") (.ix (.var 0) (.cst (.int 0))))) .nil)⟩
noncomputable def ai2:Df:=⟨"_law_word",3,2,(.cons (.asg (.one 3) (.cst (.str []))) (.cons (.for_ (.one 4) (.rng1 (.call "_law_take" (.ex (.var 0) (.ex (.bin .add (.var 2) (.cst (.int 1))) .nil)))) (.cons (.asg (.one 3) (.bin .add (.var 3) (.ix (.cst (.str [97,98,99])) (.call "_law_take" (.ex (.var 0) (.ex (.var 1) .nil)))))) .nil)) (.cons (.ret (.var 3)) .nil)))⟩
noncomputable def ac1:Df:=⟨"rooms_of",1,0,(.cons (.ret (.ix (.var 0) (.cst (.int 1)))) .nil)⟩
noncomputable def ab9:Df:=⟨"begins_of",1,0,(.cons (.ret (.ix (.var 0) (.cst (.int 2)))) .nil)⟩
noncomputable def ac5:Df:=⟨"ends_of",1,0,(.cons (.ret (.ix (.var 0) (.cst (.int 3)))) .nil)⟩
noncomputable def aa9:Df:=⟨"doors_of",1,0,(.cons (.ret (.ix (.var 0) (.cst (.int 4)))) .nil)⟩
noncomputable def ab8:Df:=⟨"_law_whole",3,0,(.cons (.ret (.and (.bi .isInt (.cons (.var 0) .nil)) (.and (.not (.bi .isBool (.cons (.var 0) .nil))) (.chain .le .le (.var 1) (.var 0) (.var 2))))) .nil)⟩
noncomputable def ab0:Df:=⟨"check_pair",2,0,(.cons (.ite (.cmp .ne (.call "letters_of" (.ex (.var 0) .nil)) (.call "letters_of" (.ex (.var 1) .nil))) (.cons .raise .nil) .nil) .nil)⟩
noncomputable def aa8:Df:=⟨"check_rooms",1,0,(.cons (.ite (.cmp .gt (.var 0) (.glob "MOST_ROOMS")) (.cons .raise .nil) .nil) .nil)⟩
noncomputable def aa7:Df:=⟨"check_tolls",2,0,(.cons (.ite (.cmp .gt (.bin .add (.call "greatest_toll" (.ex (.var 0) .nil)) (.call "greatest_toll" (.ex (.var 1) .nil))) (.glob "MOST_TOLL")) (.cons .raise .nil) .nil) .nil)⟩
noncomputable def aa4:Df:=⟨"greatest_toll",1,0,(.cons (.ret (.mkD .max (.comp (.one 0) (.seq (.call "doors_of" (.ex (.var 0) .nil))) (.ix (.var 0) (.cst (.int 3))) [none]) (.cst (.int 0)))) .nil)⟩
noncomputable def ac3:Df:=⟨"brought",5,6,(.cons (.asg (.one 5) .dicT) (.cons (.for_ (.tup [6,7,8,9]) (.seq (.var 4)) (.cons (.asg (.one 10) (.tup (.cons (.var 6) (.cons (.var 7) (.cons (.var 8) .nil))))) (.cons (.setIx (.var 5) (.var 10) (.bi .min2 (.cons (.var 9) (.cons (.get2 (.var 5) (.var 10) (.var 9)) .nil)))) .nil))) (.cons (.ret (.tup (.cons (.bi .len (.cons (.call "letters_of" (.ex (.var 0) .nil)) .nil)) (.cons (.var 1) (.cons (.var 2) (.cons (.var 3) (.cons (.mk .tuple (.itm (.var 5))) .nil))))))) .nil)))⟩
noncomputable def ad5:Df:=⟨"summed",2,3,(.cons (.ex (.call "check_pair" (.ex (.var 0) (.ex (.var 1) .nil)))) (.cons (.asg (.one 2) (.call "rooms_of" (.ex (.var 1) .nil))) (.cons (.ex (.call "check_rooms" (.ex (.bin .mul (.call "rooms_of" (.ex (.var 0) .nil)) (.var 2)) .nil))) (.cons (.ex (.call "check_tolls" (.ex (.var 0) (.ex (.var 1) .nil)))) (.cons (.asg (.one 3) (.call "both_rooms" (.ex (.call "begins_of" (.ex (.var 0) .nil)) (.ex (.call "begins_of" (.ex (.var 1) .nil)) (.ex (.var 2) .nil))))) (.cons (.asg (.one 4) (.call "both_rooms" (.ex (.call "ends_of" (.ex (.var 0) .nil)) (.ex (.call "ends_of" (.ex (.var 1) .nil)) (.ex (.var 2) .nil))))) (.cons (.ret (.call "brought" (.ex (.var 0) (.ex (.bin .mul (.call "rooms_of" (.ex (.var 0) .nil)) (.var 2)) (.ex (.var 3) (.ex (.var 4) (.ex (.call "both_doors" (.ex (.var 0) (.ex (.var 1) (.ex (.var 2) .nil)))) .nil))))))) .nil)))))))⟩
noncomputable def ab1:Df:=⟨"both_rooms",3,2,(.cons (.asg (.one 3) (.lst .nil)) (.cons (.for_ (.one 4) (.seq (.var 0)) (.cons (.ex (.ext (.var 3) (.comp (.one 0) (.seq (.var 1)) (.bin .add (.bin .mul (.var 1) (.var 2)) (.var 0)) [none,some 4,some 2]))) .nil)) (.cons (.ret (.mk .tuple (.seq (.var 3)))) .nil)))⟩
noncomputable def ab2:Df:=⟨"both_doors",3,5,(.cons (.asg (.one 3) (.lst .nil)) (.cons (.for_ (.tup [4,5,6,7]) (.seq (.call "doors_of" (.ex (.var 0) .nil))) (.cons (.ex (.ext (.var 3) (.compIf (.one 0) (.seq (.call "doors_of" (.ex (.var 1) .nil))) (.cmp .eq (.ix (.var 0) (.cst (.int 1))) (.var 1)) (.tup (.cons (.bin .add (.bin .mul (.var 2) (.var 3)) (.ix (.var 0) (.cst (.int 0)))) (.cons (.var 1) (.cons (.bin .add (.bin .mul (.var 4) (.var 3)) (.ix (.var 0) (.cst (.int 2)))) (.cons (.bin .add (.var 5) (.ix (.var 0) (.cst (.int 3)))) .nil))))) [none,some 5,some 4,some 2,some 6,some 7]))) .nil)) (.cons (.ret (.var 3)) .nil)))⟩
noncomputable def ae7:Df:=⟨"_law_sized",4,5,(.cons (.asg (.one 4) (.call "_law_take" (.ex (.var 0) (.ex (.cst (.int 13)) .nil)))) (.cons (.ite (.cmp .eq (.call "_law_take" (.ex (.var 0) (.ex (.cst (.int 8)) .nil))) (.cst (.int 7))) (.cons (.asg (.one 4) (.call "_law_take" (.ex (.var 0) (.ex (.cst (.int 76)) .nil)))) .nil) .nil) (.cons (.asg (.one 5) (.lst .nil)) (.cons (.for_ (.one 6) (.rng1 (.var 4)) (.cons (.asg (.one 7) (.call "_law_take" (.ex (.var 0) (.ex (.var 2) .nil)))) (.cons (.asg (.one 8) (.ix (.cst (.str [97,98,99])) (.call "_law_take" (.ex (.var 0) (.ex (.var 1) .nil))))) (.cons (.ex (.meth .append (.var 5) (.cons (.tup (.cons (.var 7) (.cons (.var 8) (.cons (.call "_law_take" (.ex (.var 0) (.ex (.var 2) .nil))) (.cons (.call "_law_take" (.ex (.var 0) (.ex (.bin .add (.var 3) (.cst (.int 1))) .nil))) .nil))))) .nil))) .nil)))) (.cons (.ret (.tup (.cons (.var 1) (.cons (.var 2) (.cons (.call "_law_rooms" (.ex (.var 0) (.ex (.var 2) .nil))) (.cons (.call "_law_rooms" (.ex (.var 0) (.ex (.var 2) .nil))) (.cons (.mk .tuple (.seq (.var 5))) .nil))))))) .nil)))))⟩
noncomputable def ac7:Df:=⟨"_law_words",2,6,(.cons (.asg (.one 2) (.lst (.cons (.cst (.str [])) .nil))) (.cons (.asg (.one 3) (.lst (.cons (.cst (.str [])) .nil))) (.cons (.for_ (.one 4) (.rng1 (.cst (.int 3))) (.cons (.asg (.one 5) (.lst .nil)) (.cons (.for_ (.one 6) (.seq (.var 3)) (.cons (.ex (.ext (.var 5) (.comp (.one 0) (.seq (.slU (.cst (.str [97,98,99])) (.var 1))) (.bin .add (.var 1) (.var 0)) [none,some 6]))) .nil)) (.cons (.ex (.extS (.var 2) (.var 5))) (.cons (.asg (.one 3) (.var 5)) .nil))))) (.cons (.for_ (.one 7) (.seq (.lst (.cons (.cst (.int 12)) (.cons (.cst (.int 12)) (.cons (.cst (.int 200)) .nil))))) (.cons (.ex (.meth .append (.var 2) (.cons (.call "_law_word" (.ex (.var 0) (.ex (.var 1) (.ex (.var 7) .nil)))) .nil))) .nil)) (.cons (.ret (.var 2)) .nil)))))⟩
noncomputable def ac4:Df:=⟨"_law_price",2,7,(.cons (.asg (.one 2) (.mk .list (.comp (.one 0) (.rng1 (.ix (.var 0) (.cst (.int 1)))) (.ix (.lst (.cons (.cst .non) (.cons (.cst (.int 0)) .nil))) (.bi .int (.cons (.cmp .isin (.var 0) (.ix (.var 1) (.cst (.int 2)))) .nil))) [none,some 0]))) (.cons (.for_ (.one 3) (.seq (.var 1)) (.cons (.asg (.one 4) (.mk .list (.comp (.one 0) (.seq (.var 2)) (.cst .non) [none]))) (.cons (.for_ (.tup [5,6,7,8]) (.seq (.ix (.var 0) (.cst (.int 4)))) (.cons (.ite (.and (.cmp .eq (.var 6) (.var 3)) (.notN (.ix (.var 2) (.var 5)))) (.cons (.ite (.or (.isN (.ix (.var 4) (.var 7))) (.cmp .lt (.bin .add (.ix (.var 2) (.var 5)) (.var 8)) (.ix (.var 4) (.var 7)))) (.cons (.setIx (.var 4) (.var 7) (.bin .add (.ix (.var 2) (.var 5)) (.var 8))) .nil) .nil) .nil) .nil) .nil)) (.cons (.asg (.one 2) (.var 4)) .nil)))) (.cons (.ret (.mkD .min (.compIf (.one 0) (.seq (.ix (.var 0) (.cst (.int 3)))) (.notN (.ix (.var 1) (.var 0))) (.ix (.var 1) (.var 0)) [none,some 2]) (.cst .non))) .nil)))⟩
noncomputable def ab3:Df:=⟨"_law_are_rooms",2,2,(.cons (.ite (.not (.bi .isTup (.cons (.var 0) .nil))) (.cons (.ret (.cst (.bl false))) .nil) .nil) (.cons (.asg (.one 2) (.neg (.cst (.int 1)))) (.cons (.for_ (.one 3) (.seq (.var 0)) (.cons (.ite (.not (.call "_law_whole" (.ex (.var 3) (.ex (.bin .add (.var 2) (.cst (.int 1))) (.ex (.bin .sub (.var 1) (.cst (.int 1))) .nil))))) (.cons (.ret (.cst (.bl false))) .nil) .nil) (.cons (.asg (.one 2) (.var 3)) .nil))) (.cons (.ret (.cst (.bl true))) .nil))))⟩
noncomputable def ab4:Df:=⟨"_law_is_door",3,0,(.cons (.ite (.or (.not (.bi .isTup (.cons (.var 0) .nil))) (.or (.cmp .ne (.bi .len (.cons (.var 0) .nil)) (.cst (.int 4))) (.or (.not (.bi .isStr (.cons (.ix (.var 0) (.cst (.int 1))) .nil))) (.cmp .ne (.bi .len (.cons (.ix (.var 0) (.cst (.int 1))) .nil)) (.cst (.int 1)))))) (.cons (.ret (.cst (.bl false))) .nil) .nil) (.cons (.ite (.or (.not (.call "_law_whole" (.ex (.ix (.var 0) (.cst (.int 0))) (.ex (.cst (.int 0)) (.ex (.bin .sub (.var 2) (.cst (.int 1))) .nil))))) (.not (.call "_law_whole" (.ex (.ix (.var 0) (.cst (.int 2))) (.ex (.cst (.int 0)) (.ex (.bin .sub (.var 2) (.cst (.int 1))) .nil)))))) (.cons (.ret (.cst (.bl false))) .nil) .nil) (.cons (.ret (.and (.cmp .isin (.ix (.var 0) (.cst (.int 1))) (.slU (.cst (.str [97,98,99])) (.var 1))) (.call "_law_whole" (.ex (.ix (.var 0) (.cst (.int 3))) (.ex (.cst (.int 0)) (.ex (.cst (.int 3)) .nil)))))) .nil)))⟩
noncomputable def aa5:Df:=⟨"_law_is_machine",2,0,(.cons (.ite (.or (.not (.bi .isTup (.cons (.var 0) .nil))) (.or (.cmp .ne (.bi .len (.cons (.var 0) .nil)) (.cst (.int 5))) (.not (.call "_law_whole" (.ex (.ix (.var 0) (.cst (.int 0))) (.ex (.var 1) (.ex (.var 1) .nil))))))) (.cons (.ret (.cst (.bl false))) .nil) .nil) (.cons (.ite (.or (.not (.call "_law_whole" (.ex (.ix (.var 0) (.cst (.int 1))) (.ex (.cst (.int 1)) (.ex (.cst (.int 5)) .nil))))) (.or (.not (.bi .isTup (.cons (.ix (.var 0) (.cst (.int 4))) .nil))) (.cmp .gt (.bi .len (.cons (.ix (.var 0) (.cst (.int 4))) .nil)) (.cst (.int 75))))) (.cons (.ret (.cst (.bl false))) .nil) .nil) (.cons (.ite (.or (.not (.call "_law_are_rooms" (.ex (.ix (.var 0) (.cst (.int 2))) (.ex (.ix (.var 0) (.cst (.int 1))) .nil)))) (.not (.call "_law_are_rooms" (.ex (.ix (.var 0) (.cst (.int 3))) (.ex (.ix (.var 0) (.cst (.int 1))) .nil))))) (.cons (.ret (.cst (.bl false))) .nil) .nil) (.cons (.ret (.mk .all (.comp (.one 0) (.seq (.ix (.var 0) (.cst (.int 4)))) (.call "_law_is_door" (.ex (.var 0) (.ex (.var 1) (.ex (.ix (.var 2) (.cst (.int 1))) .nil)))) [none,some 1,some 0]))) .nil))))⟩
noncomputable def ah7:Df:=⟨"_law_both",2,0,(.cons (.ite (.or (.isN (.var 0)) (.isN (.var 1))) (.cons (.ret (.cst .non)) .nil) .nil) (.cons (.ret (.bin .add (.var 0) (.var 1))) .nil))⟩
noncomputable def ac8:Df:=⟨"_law_right",4,1,(.cons (.ite (.not (.call "_law_is_machine" (.ex (.var 0) (.ex (.ix (.var 1) (.cst (.int 0))) .nil)))) (.cons (.ret (.cst (.bl false))) .nil) .nil) (.cons (.for_ (.one 4) (.seq (.var 3)) (.cons (.ite (.cmp .ne (.call "_law_price" (.ex (.var 0) (.ex (.var 4) .nil))) (.call "_law_both" (.ex (.call "_law_price" (.ex (.var 1) (.ex (.var 4) .nil))) (.ex (.call "_law_price" (.ex (.var 2) (.ex (.var 4) .nil))) .nil)))) (.cons (.ret (.cst (.bl false))) .nil) .nil) .nil)) (.cons (.ret (.cst (.bl true))) .nil)))⟩
noncomputable def ab7:Df:=⟨"law",1,7,(.cons (.asg (.one 1) (.call "_law_bag" (.ex (.var 0) (.ex (.cst (.int 0)) .nil)))) (.cons (.asg (.one 2) (.bin .add (.cst (.int 1)) (.call "_law_take" (.ex (.var 1) (.ex (.cst (.int 3)) .nil))))) (.cons (.asg (.one 3) (.bin .add (.cst (.int 1)) (.call "_law_take" (.ex (.var 1) (.ex (.cst (.int 5)) .nil))))) (.cons (.asg (.one 4) (.call "_law_take" (.ex (.var 1) (.ex (.cst (.int 4)) .nil)))) (.cons (.asg (.one 5) (.call "_law_sized" (.ex (.var 1) (.ex (.var 2) (.ex (.var 3) (.ex (.var 4) .nil)))))) (.cons (.asg (.one 1) (.call "_law_bag" (.ex (.var 0) (.ex (.cst (.int 1)) .nil)))) (.cons (.asg (.one 6) (.call "_law_sized" (.ex (.var 1) (.ex (.var 2) (.ex (.bin .add (.cst (.int 1)) (.call "_law_take" (.ex (.var 1) (.ex (.bin .fdiv (.cst (.int 5)) (.var 3)) .nil)))) (.ex (.call "_law_take" (.ex (.var 1) (.ex (.bin .sub (.cst (.int 4)) (.var 4)) .nil))) .nil)))))) (.cons (.asg (.one 7) (.call "_law_words" (.ex (.call "_law_bag" (.ex (.var 0) (.ex (.cst (.int 2)) .nil))) (.ex (.var 2) .nil)))) (.cons (.ite (.not (.call "_law_right" (.ex (.call "summed" (.ex (.var 5) (.ex (.var 6) .nil))) (.ex (.var 5) (.ex (.var 6) (.ex (.var 7) .nil)))))) (.cons (.ret (.cst (.bl false))) .nil) .nil) (.cons (.ite (.and (.cmp .lt (.var 3) (.cst (.int 3))) (.and (.cmp .lt (.var 4) (.cst (.int 2))) (.not (.call "_law_right" (.ex (.call "summed" (.ex (.var 5) (.ex (.var 5) .nil))) (.ex (.var 5) (.ex (.var 5) (.ex (.slL (.var 7) (.neg (.cst (.int 3)))) .nil)))))))) (.cons (.ret (.cst (.bl false))) .nil) .nil) (.cons (.ret (.call "_law_right" (.ex (.call "summed" (.ex (.var 6) (.ex (.var 5) .nil))) (.ex (.var 6) (.ex (.var 5) (.ex (.slL (.var 7) (.neg (.cst (.int 3)))) .nil)))))) .nil)))))))))))⟩
noncomputable def cb8:Df:=⟨"_law_on",3,5,(.cons (.asg (.one 3) (.mk .list (.comp (.one 0) (.seq (.var 2)) (.cst .non) [none]))) (.cons (.for_ (.tup [4,5,6,7]) (.seq (.ix (.var 0) (.cst (.int 4)))) (.cons (.ite (.and (.cmp .eq (.var 5) (.var 1)) (.notN (.ix (.var 2) (.var 4)))) (.cons (.ite (.or (.isN (.ix (.var 3) (.var 6))) (.cmp .lt (.bin .add (.ix (.var 2) (.var 4)) (.var 7)) (.ix (.var 3) (.var 6)))) (.cons (.setIx (.var 3) (.var 6) (.bin .add (.ix (.var 2) (.var 4)) (.var 7))) .nil) .nil) .nil) .nil) .nil)) (.cons (.ret (.var 3)) .nil)))⟩
class Has (P:Pr)(d:Df):Prop where
 eq:P.df d.name=some d
class HasC (P:Pr)(x:String)(v:D):Prop where
 eq:P.con x=some v
noncomputable def fin (s:Sto)(c:Ct)(s':Sto):R D:=match c with
 | .ret v=>zK s v s'
 | .next _=>zK s .non s'
 | _=>.bad
@[simp] theorem fin_ret (s:Sto) (v:D) (s':Sto):fin s (.ret v) s'=zK s v s':=rfl
@[simp] theorem fin_next (s:Sto) (ρ:Env) (s':Sto):fin s (.next ρ) s'=zK s .non s':=rfl
theorem zg {P:Pr}(d:Df)[h:Has P d]{n:Nat}{l:List D}{s:Sto}(hl:l.length=d.ps) :
  (aa1 P (n+1)).call d.name l s=(exs (aa1 P n) d.body (l.map some++aI d.vs none) s).bind (fin s):=by
 simp only[aa1,h.eq,hl,if_true]
 rfl
theorem aE8 {P:Pr}{x:String}{v:D}[h:HasC P x v]{n:Nat}:(aa1 P n).con x=some v:=by
 cases n<;>exact h.eq
theorem ax4 (s t:Sto):at9 s (s++t)=true:=by
 unfold at9
 rw[aW]
 intro i h
 rw[cj]at h
 rw[aN h]
 simp
theorem aw4 (s t:Sto)(r:Nat)(o:O)(h:o.bnd s.length=true):at9 s (s.set r o++t)=true:=by
 unfold at9
 rw[aW]
 intro i y
 rw[cj]at y
 rw[aN (by rw[a0];exact y)]
 by_cases e:r=i
 ·subst e;rw[aV y];simp[h]
 ·rw[aR e];simp
theorem qf {s t:Sto}{d:D}(h:∀ n,d.bnd n=true)(hr:∀ r,d≠.ref r):zK s d (s++t)=.ok d s:=by
 unfold zK
 rw[ax4,if_pos rfl]
 cases d with
 | ref r=>exact absurd rfl (hr r)
 | _=>simp[h]
theorem zo {s:Sto}{d:D}(h:∀ n,d.bnd n=true)(hr:∀ r,d≠.ref r):zK s d s=.ok d s:=by
 have:=qf (s:=s) (t:=[]) h hr
 rwa [aZ]at this
theorem aB1 {s t:Sto}{d:D}{r:Nat}{o:O}(h:∀ n,d.bnd n=true)(hr:∀ r,d≠.ref r)(ho:o.bnd s.length=true):zK s d (s.set r o++t)=.ok d (s.set r o):=by
 unfold zK
 rw[aw4 s t r o ho,if_pos rfl]
 have e:(s.set r o++t).take s.length=s.set r o:=by rw[fD (by simp),eX (by simp)]
 cases d with
 | ref r=>exact absurd rfl (hr r)
 | _=>simp only[h,if_true,e]
theorem qt {s:Sto}{d:D}{r:Nat}{o:O}(h:∀ n,d.bnd n=true)(hr:∀ r,d≠.ref r)(ho:o.bnd s.length=true):zK s d (s.set r o)=.ok d (s.set r o):=by
 have:=aB1 (s:=s) (t:=[]) (r:=r) h hr ho
 rwa [aZ]at this
theorem aA8 {s t u:Sto}{o:O}(ho:o.bnd s.length=true):zK s (.ref (s.length+t.length)) (s++(t++o::u))=.ok (.ref s.length) (s++[o]):=by
 unfold zK
 rw[ax4,if_pos rfl]
 simp[ho,be]
@[simp] theorem bC0 {s:Sto} {i:Int}:zK s (.int i) s=.ok (.int i) s:=zo (λ _=>rfl) (by nofun)
@[simp] theorem ba2 {s:Sto} {i:Bool}:zK s (.bl i) s=.ok (.bl i) s:=zo (λ _=>rfl) (by nofun)
@[simp] theorem al8 {s:Sto}:zK s .non s=.ok .non s:=zo (λ _=>rfl) (by nofun)
@[simp] theorem bE9 {s:Sto} {x:List Nat}:zK s (.str x) s=.ok (.str x) s:=zo (λ _=>rfl) (by nofun)
theorem qr {c:Env->Sto->R D}{g:Env->Sto->R Ct}:∀ {n:Nat} {ρ:Env} {s:Sto},qA c g n ρ s≠.bad->qA c g (n+1) ρ s=qA c g n ρ s
 | 0,_,_,h=>absurd rfl h
 | n+1,ρ,s,h=>by
  rw[show qA c g (n+1+1) ρ s=tru (c ρ s) (λ b s=>if b then(g ρ s).bind λ y s=>match y with
   | .next ρ=>qA c g (n+1) ρ s|.cont ρ=>qA c g (n+1) ρ s|.brk ρ=>.ok (.next ρ) s|.ret d=>.ok (.ret d) s else .ok (.next ρ) s)from rfl]
  have e:qA c g (n+1) ρ s=tru (c ρ s) (λ b s=>if b then(g ρ s).bind λ y s=>match y with
   | .next ρ=>qA c g n ρ s|.cont ρ=>qA c g n ρ s|.brk ρ=>.ok (.next ρ) s|.ret d=>.ok (.ret d) s else .ok (.next ρ) s):=rfl
  rw[e]at h ⊢
  unfold tru at h ⊢
  cases hc:c ρ s with
  | exc _ _=>rfl
  | bad=>rfl
  | ok d s1 =>
   rw[hc]at h
   cases d with
   | bl b =>
    cases b with
    | false=>rfl
    | true =>
     simp only[R.bind_ok,if_true]at h ⊢
     cases hg:g ρ s1 with
     | exc _ _=>rfl
     | bad=>rfl
     | ok y s2 =>
      rw[hg]at h
      simp only[R.bind_ok]at h ⊢
      cases y with
      | next ρ'=>exact qr h
      | cont ρ'=>exact qr h
      | _=>rfl
   | _=>rfl
theorem z9 {c:Env->Sto->R D}{g:Env->Sto->R Ct}{n:Nat}{ρ:Env}{s:Sto}(h:qA c g n ρ s≠.bad):∀ k,qA c g (n+k) ρ s=qA c g n ρ s
 | 0=>rfl
 | k+1=>by
  have e:=z9 h k
  rw[<-Nat.add_assoc,qr (by rw[e];exact h),e]
theorem bD4 {c:Env->Sto->R D}{g:Env->Sto->R Ct}{n:Nat}{ρ:Env}{s:Sto}{r:Ct}{t:Sto}(h:qA c g n ρ s=.ok r t):whl c g ρ s=.ok r t:=by
 have hb:qA c g n ρ s≠.bad:=by rw[h];nofun
 have hx:∃ n,qA c g n ρ s≠.bad:=⟨n,hb⟩
 unfold whl
 rw[dif_pos hx]
 have z:=z9 hx.choose_spec n
 have y:=z9 hb hx.choose
 rw[<-z,hV,y,h]
theorem bc7 {c:Env->Sto->R D}{g:Env->Sto->R Ct}{ρ ρ':Env}{s s1 s':Sto}(hc:c ρ s=.ok (.bl true) s1)(hg:g ρ s1=.ok (.next ρ') s'):whl c g ρ s=whl c g ρ' s':=by
 have key:∀ n,qA c g (n+1) ρ s=qA c g n ρ' s':=λ n=>by
  show tru (c ρ s) _=_
  rw[hc,tru_bl,if_pos rfl,hg];rfl
 unfold whl
 by_cases hx:∃ n,qA c g n ρ' s'≠.bad
 ·have hy:∃ n,qA c g n ρ s≠.bad:=⟨hx.choose+1,by rw[key];exact hx.choose_spec⟩
  rw[dif_pos hx,dif_pos hy]
  have y:=z9 hy.choose_spec (hx.choose+1)
  have h:=z9 (n:=hx.choose+1) (ρ:=ρ) (s:=s) (by rw[key];exact hx.choose_spec) hy.choose
  rw[<-y,hV,h,key]
 ·have hy:¬ ∃ n,qA c g n ρ s≠.bad:=λ⟨n,hn⟩=>by
   cases n with
   | zero=>exact hn rfl
   | succ n=>exact hx ⟨n,by rw[<-key];exact hn⟩
  rw[dif_neg hx,dif_neg hy]
theorem bA1 {c:Env->Sto->R D}{g:Env->Sto->R Ct}{ρ:Env}{s s1:Sto}(hc:c ρ s=.ok (.bl false) s1):whl c g ρ s=.ok (.next ρ) s1 :=
 bD4 (n:=1) (by show tru (c ρ s) _=_;rw[hc,tru_bl];rfl)
theorem aV2 {ok:Sto->Bool}{g:D->Env->Sto->R Ct}(P:Nat->Env->Sto->Prop):∀(l:List D) (k:Nat) (ρ:Env) (s:Sto),
  P k ρ s->(∀(j:Nat) (ρ:Env) (s:Sto),j<=l.length->P (k+j) ρ s->ok s=true)->(∀(j:Nat) (d:D) (ρ:Env) (s:Sto),l[j]?=some d->P (k+j) ρ s->∃ ρ' s',(g d ρ s=.ok (.next ρ') s'\/g d ρ s=.ok (.cont ρ') s')/\P (k+j+1) ρ' s') ->
  ∃ ρ' s',aP1 ok g l ρ s=.ok (.next ρ') s'/\P (k+l.length) ρ' s'
 | [],k,ρ,s,h,o,_=>⟨ρ,s,by show(if ok s then _ else _)=_;rw[if_pos (o 0 ρ s (ak _) h)],h⟩
 | d::l,k,ρ,s,h,o,t=>by
  have ho:=o 0 ρ s (cu _) h
  obtain⟨ρ1,s1,hg,z⟩:=t 0 d ρ s rfl h
  obtain⟨ρ2,s2,e,C⟩:=aV2 P l (k+1) ρ1 s1 z (λ j ρ' s' hj y=>o (j+1) ρ' s' (by simpa using hj) (by rwa [show k+(j+1)=k+1+j by omega])) λ j d' ρ' s' hj y=>by
   have:=t (j+1) d' ρ' s' (by simpa using hj) (by rwa [show k+(j+1)=k+1+j by omega])
   rwa [show k+(j+1)+1=k+1+j+1 by omega]at this
  refine⟨ρ2,s2,?_,by rwa [aQ,show k+(l.length+1)=k+1+l.length by omega]⟩
  show(if ok s then _ else _)=_
  rw[if_pos ho]
  rcases hg with hg|hg<;>(rw[hg];exact e)
noncomputable def Nx (Q:Env->Sto->Prop):R Ct->Prop
 | .ok (.next ρ) s=>Q ρ s
 | .ok (.cont ρ) s=>Q ρ s
 | _=>False
@[simp] theorem bV4 (Q:Env->Sto->Prop) (ρ:Env) (s:Sto):Nx Q (.ok (.next ρ) s)=Q ρ s:=rfl
@[simp] theorem bV7 (Q:Env->Sto->Prop) (ρ:Env) (s:Sto):Nx Q (.ok (.cont ρ) s)=Q ρ s:=rfl
theorem qk {Q:Env->Sto->Prop}{r:R Ct}{ρ:Env}{s:Sto}(e:r=.ok (.next ρ) s)(h:Q ρ s):Nx Q r:=by rw[e];exact h
theorem Nx.out {Q:Env->Sto->Prop}:∀ {r:R Ct},Nx Q r->∃ ρ s,(r=.ok (.next ρ) s\/r=.ok (.cont ρ) s)/\Q ρ s
 | .ok (.next ρ) s,h=>⟨ρ,s,.inl rfl,h⟩
 | .ok (.cont ρ) s,h=>⟨ρ,s,.inr rfl,h⟩
 | .ok (.ret _) _,h=>h.elim
 | .ok (.brk _) _,h=>h.elim
 | .exc _ _,h=>h.elim
 | .bad,h=>h.elim
noncomputable def Tst (A B:Sto->Prop):R D->Prop
 | .ok (.bl false) s=>A s
 | .ok (.bl true) s=>B s
 | _=>False
@[simp] theorem bk7 (A B:Sto->Prop) (b:Bool) (s:Sto):Tst A B (.ok (.bl b) s)=if b then B s else A s:=by cases b<;>rfl
theorem Tst.out {A B:Sto->Prop}:∀ {r:R D},Tst A B r->(∃ s,r=.ok (.bl false) s/\A s)\/∃ s,r=.ok (.bl true) s/\B s
 | .ok (.bl false) s,h=>.inl ⟨s,rfl,h⟩
 | .ok (.bl true) s,h=>.inr ⟨s,rfl,h⟩
 | .ok .non _,h=>h.elim
 | .ok (.int _) _,h=>h.elim
 | .ok (.str _) _,h=>h.elim
 | .ok (.tup _) _,h=>h.elim
 | .ok (.ref _) _,h=>h.elim
 | .ok (.fn _) _,h=>h.elim
 | .ok (.clo _ _) _,h=>h.elim
 | .exc _ _,h=>h.elim
 | .bad,h=>h.elim
theorem be1 {c:Env->Sto->R D}{g:Env->Sto->R Ct}{ρ ρ':Env}{s s1 s':Sto}(hc:c ρ s=.ok (.bl true) s1)(hg:g ρ s1=.ok (.cont ρ') s'):whl c g ρ s=whl c g ρ' s':=by
 have key:∀ n,qA c g (n+1) ρ s=qA c g n ρ' s':=λ n=>by
  show tru (c ρ s) _=_
  rw[hc,tru_bl,if_pos rfl,hg];rfl
 unfold whl
 by_cases hx:∃ n,qA c g n ρ' s'≠.bad
 ·have hy:∃ n,qA c g n ρ s≠.bad:=⟨hx.choose+1,by rw[key];exact hx.choose_spec⟩
  rw[dif_pos hx,dif_pos hy]
  have y:=z9 hy.choose_spec (hx.choose+1)
  have h:=z9 (n:=hx.choose+1) (ρ:=ρ) (s:=s) (by rw[key];exact hx.choose_spec) hy.choose
  rw[<-y,hV,h,key]
 ·have hy:¬ ∃ n,qA c g n ρ s≠.bad:=λ⟨n,hn⟩=>by
   cases n with
   | zero=>exact hn rfl
   | succ n=>exact hx ⟨n,by rw[<-key];exact hn⟩
  rw[dif_neg hx,dif_neg hy]
theorem bP5 {c:Env->Sto->R D}{g:Env->Sto->R Ct}(P:Nat->Env->Sto->Prop)(Q:Env->Sto->Prop)
  (step:∀ k ρ s,P k ρ s->Tst (λ s1=>Q ρ s1) (λ s1=>Nx (λ ρ' s'=>∃ y,y<k/\P y ρ' s') (g ρ s1)) (c ρ s)) :
  ∀(k:Nat) (ρ:Env) (s:Sto),P k ρ s->∃ ρ' s',whl c g ρ s=.ok (.next ρ') s'/\Q ρ' s':=by
 intro k
 induction k using Nat.strongRecOn with
 | _ k ih =>
  intro ρ s h
  rcases(step k ρ s h).out with⟨s1,hc,hq⟩|⟨s1,hc,hn⟩
  ·exact⟨ρ,s1,bA1 hc,hq⟩
  ·obtain⟨ρ',s',hg,y,hk,z⟩:=hn.out
   rcases hg with hg|hg
   ·rw[bc7 hc hg];exact ih y hk ρ' s' z
   ·rw[be1 hc hg];exact ih y hk ρ' s' z
theorem be8 {c:Env->Sto->R D}{g:Env->Sto->R Ct}{ρ:Env}{s:Sto}{α:Type}{f:Ct->Sto->R α}{W:R α->Prop}(P:Nat->Env->Sto->Prop)(Q:Env->Sto->Prop)(k:Nat)(h:P k ρ s)
  (step:∀ k ρ s,P k ρ s->Tst (λ s1=>Q ρ s1) (λ s1=>Nx (λ ρ' s'=>∃ y,y<k/\P y ρ' s') (g ρ s1)) (c ρ s))
  (z:∀ ρ' s',Q ρ' s'->W (f (.next ρ') s')):W ((whl c g ρ s).bind f):=by
 obtain⟨ρ',s',e,q⟩:=bP5 P Q step k ρ s h
 rw[e]
 exact z ρ' s' q
theorem ba4 {c:Env->Sto->R D}{g:Env->Sto->R Ct}{ρ:Env}{s:Sto}{α:Type}{f:Ct->Sto->R α}{x:R α}(P:Nat->Env->Sto->Prop)(Q:Env->Sto->Prop)(k:Nat)(h:P k ρ s)
  (step:∀ k ρ s,P k ρ s->Tst (λ s1=>Q ρ s1) (λ s1=>Nx (λ ρ' s'=>∃ y,y<k/\P y ρ' s') (g ρ s1)) (c ρ s))
  (z:∀ ρ' s',Q ρ' s'->f (.next ρ') s'=x):(whl c g ρ s).bind f=x:=be8 (W:=(·=x)) P Q k h step z
theorem zF {ok:Sto->Bool}{g:D->Env->Sto->R Ct}{l:List D}{ρ:Env}{s:Sto}{α:Type}{f:Ct->Sto->R α}{W:R α->Prop}(P:Nat->Env->Sto->Prop)(h:P 0 ρ s)
  (o:∀(j:Nat) (ρ:Env) (s:Sto),j<=l.length->P j ρ s->ok s=true) (step:∀(j:Nat) (d:D) (ρ:Env) (s:Sto),l[j]?=some d->P j ρ s->Nx (P (j+1)) (g d ρ s))
  (z:∀ ρ' s',P l.length ρ' s'->W (f (.next ρ') s')):W ((aP1 ok g l ρ s).bind f):=by
 obtain⟨ρ',s',e,q⟩:=aV2 P l 0 ρ s h (λ j ρ s hj y=>o j ρ s hj (by rwa [ic]at y)) (λ j d ρ s hj y=>by
  rw[ic]at y ⊢
  exact(step j d ρ s hj y).out)
 rw[e]
 rw[ic]at q
 exact z ρ' s' q
theorem aK9 {ok:Sto->Bool}{g:D->Env->Sto->R Ct}{l:List D}{ρ:Env}{s:Sto}{α:Type}{f:Ct->Sto->R α}{x:R α}(P:Nat->Env->Sto->Prop)(h:P 0 ρ s)
  (o:∀(j:Nat) (ρ:Env) (s:Sto),j<=l.length->P j ρ s->ok s=true) (step:∀(j:Nat) (d:D) (ρ:Env) (s:Sto),l[j]?=some d->P j ρ s->Nx (P (j+1)) (g d ρ s))
  (y:∀ ρ' s',P l.length ρ' s'->f (.next ρ') s'=x):(aP1 ok g l ρ s).bind f=x:=zF (W:=(·=x)) P h o step y
section
variable {F:Fns} {ρ:Env} {s:Sto}
@[simp] theorem qd (i:Nat):ev F (.var i) ρ s=aS2 ρ i s:=rfl
@[simp] theorem ev_cst (c:Cn):ev F (.cst c) ρ s=.ok c.d s:=rfl
@[simp] theorem ev_bin (op:BOp) (a b:E):ev F (.bin op a b) ρ s=(ev F a ρ s).bind λ x s=>(ev F b ρ s).bind λ y s=>ag2 op x y s:=rfl
@[simp] theorem ev_not (a:E):ev F (.not a) ρ s=tru (ev F a ρ s) λ b s=>.ok (.bl (!b)) s:=rfl
@[simp] theorem ev_cmp (op:COp) (a b:E):ev F (.cmp op a b) ρ s=(ev F a ρ s).bind λ x s=>(ev F b ρ s).bind λ y s=>ql op x y s:=rfl
@[simp] theorem bQ8 (o p:COp) (a b c:E):ev F (.chain o p a b c) ρ s=(ev F a ρ s).bind λ x s=>(ev F b ρ s).bind λ y s=>tru (ql o x y s) λ k s=>if k then(ev F c ρ s).bind λ z s=>ql p y z s else .ok (.bl false) s:=rfl
@[simp] theorem ev_isN (a:E):ev F (.isN a) ρ s=(ev F a ρ s).bind λ x s=>.ok (.bl (decide (x=.non))) s:=rfl
@[simp] theorem ev_notN (a:E):ev F (.notN a) ρ s=(ev F a ρ s).bind λ x s=>.ok (.bl (!decide (x=.non))) s:=rfl
@[simp] theorem ev_and (a b:E):ev F (.and a b) ρ s=tru (ev F a ρ s) λ c s=>if c then tru (ev F b ρ s) λ c s=>.ok (.bl c) s else .ok (.bl false) s:=rfl
@[simp] theorem ev_or (a b:E):ev F (.or a b) ρ s=tru (ev F a ρ s) λ c s=>if c then .ok (.bl true) s else tru (ev F b ρ s) λ c s=>.ok (.bl c) s:=rfl
@[simp] theorem ev_ite (c a b:E):ev F (.ite c a b) ρ s=tru (ev F c ρ s) λ k s=>if k then ev F a ρ s else ev F b ρ s:=rfl
@[simp] theorem ev_tup (es:Es):ev F (.tup es) ρ s=(evs F es ρ s).bind λ l s=>.ok (.tup l) s:=rfl
@[simp] theorem ev_lst (es:Es):ev F (.lst es) ρ s=(evs F es ρ s).bind λ l s=>ac9 (.lst l) s:=rfl
@[simp] theorem ev_ix (a b:E):ev F (.ix a b) ρ s=(ev F a ρ s).bind λ x s=>(ev F b ρ s).bind λ y s=>ixM x y s:=rfl
@[simp] theorem ev_call (f:String) (h:As):ev F (.call f h) ρ s=(aq4 F h ρ s).bind λ l s=>F.call f l s:=rfl
@[simp] theorem bP8 (f:String) (h:As):ev F (.callC f h) ρ s=(aq4 F h ρ s).bind λ l s=>(F.call f l s).bind λ d s'=>if(d.ncl&&s'.all O.ncl)=true then .ok d s' else .bad:=rfl
@[simp] theorem ev_bi (b:Bi) (es:Es):ev F (.bi b es) ρ s=(evs F es ρ s).bind λ l s=>bi b l s:=rfl
@[simp] theorem ev_mk (k:Mk) (it:L):ev F (.mk k it) ρ s=(evL F it ρ s).bind λ q s=>mk k q s:=rfl
@[simp] theorem ev_mkD (k:Mk) (it:L) (d:E):ev F (.mkD k it d) ρ s=(evL F it ρ s).bind λ q s=>(ev F d ρ s).bind λ d s=>mkD k q d s:=rfl
@[simp] theorem ev_mks (k:Mk) (e:E):ev F (.mks k e) ρ s=(ev F e ρ s).bind λ x s=>(bA7 x s).bind λ q s=>mk k q s:=rfl
@[simp] theorem ev_mkDs (k:Mk) (e d:E):ev F (.mkDs k e d) ρ s=(ev F e ρ s).bind λ x s=>(ev F d ρ s).bind λ z s=>(bA7 x s).bind λ q s=>mkD k q z s:=rfl
@[simp] theorem ev_meth (m:Mt) (o:E) (es:Es):ev F (.meth m o es) ρ s=(ev F o ρ s).bind λ x s=>(evs F es ρ s).bind λ l s=>meth m x l s:=rfl
@[simp] theorem bv6 (o e:E):ev F (.extS o e) ρ s=(ev F o ρ s).bind λ x s=>(ev F e ρ s).bind λ y s=>extS x y s:=rfl
@[simp] theorem bZ1 (a:E):ev F (.rev a) ρ s=(ev F a ρ s).bind λ x s=>bU0 x s:=rfl
@[simp] theorem aZ1 (o:E) (it:L):ev F (.ext o it) ρ s=(ev F o ρ s).bind λ x s=>(evL F it ρ s).bind λ q s=>ba9 x q s:=rfl
@[simp] theorem evs_nil:evs F .nil ρ s=.ok [] s:=rfl
@[simp] theorem evs_cons (e:E) (es:Es):evs F (.cons e es) ρ s=(ev F e ρ s).bind λ d s=>(evs F es ρ s).bind λ l s=>.ok (d::l) s:=rfl
@[simp] theorem evas_nil:aq4 F .nil ρ s=.ok [] s:=rfl
@[simp] theorem evas_ex (e:E) (h:As):aq4 F (.ex e h) ρ s=(ev F e ρ s).bind λ d s=>(aq4 F h ρ s).bind λ l s=>.ok (d::l) s:=rfl
@[simp] theorem bX3 (f:String) (h:As):aq4 F (.fn f h) ρ s=(aq4 F h ρ s).bind λ l s=>.ok (.fn f::l) s:=rfl
@[simp] theorem evI_seq (e:E):evI F (.seq e) ρ s=(ev F e ρ s).bind λ d s=>ag8 d s:=rfl
@[simp] theorem bR3 (es:Es):evL F (.disp es) ρ s=evs F es ρ s:=rfl
@[simp] theorem evL_seq (e:E):evL F (.seq e) ρ s=(ev F e ρ s).bind λ d s=>bl1 d s:=rfl
noncomputable def bu6 (x:D):M Sq:=λ s=>match x with|.int i=>if -W62<=i/\i<W62 then .ok ⟨ae8 0 i,[]⟩ s else .bad|_=>.bad
@[simp] theorem evI_rng1 (a:E):evI F (.rng1 a) ρ s=(ev F a ρ s).bind λ x s=>bu6 x s:=rfl
theorem ag7 {i:Int}(h0:-W62<=i)(h:i<W62):bu6 (.int i) s=.ok ⟨ae8 0 i,[]⟩ s:=by unfold bu6;simp only[h0,h,and_self,if_true]
noncomputable def nxt (F:Fns)(ss:Ss)(c:Ct)(s:Sto):R Ct:=match c with|.next ρ=>exs F ss ρ s|c=>.ok c s
@[simp] theorem zU (h:Ss) (ρ:Env) (s:Sto):nxt F h (.next ρ) s=exs F h ρ s:=rfl
@[simp] theorem nxt_ret (h:Ss) (d:D) (s:Sto):nxt F h (.ret d) s=.ok (.ret d) s:=rfl
@[simp] theorem nxt_cont (h:Ss) (ρ:Env) (s:Sto):nxt F h (.cont ρ) s=.ok (.cont ρ) s:=rfl
@[simp] theorem exs_nil:exs F .nil ρ s=.ok (.next ρ) s:=rfl
@[simp] theorem qj (st:S) (h:Ss):exs F (.cons st h) ρ s=(ex F st ρ s).bind (nxt F h):=rfl
noncomputable def bW2 (ρ:Option Env)(s:Sto):R Ct:=match ρ with|some ρ=>.ok (.next ρ) s|none=>.bad
@[simp] theorem setC_some (ρ:Env) (s:Sto):bW2 (some ρ) s=.ok (.next ρ) s:=rfl
@[simp] theorem ex_asg (tg:Tg) (e:E):ex F (.asg tg e) ρ s=(ev F e ρ s).bind λ d s=>bW2 (ad0 ρ tg d) s:=rfl
@[simp] theorem ex_setIx (o i e:E):ex F (.setIx o i e) ρ s=(ev F e ρ s).bind λ d s=>(ev F o ρ s).bind λ x s=>(ev F i ρ s).bind λ y s=>(setIx x y d s).bind λ _ s=>.ok (.next ρ) s:=rfl
@[simp] theorem ex_ex (e:E):ex F (.ex e) ρ s=(ev F e ρ s).bind λ _ s=>.ok (.next ρ) s:=rfl
@[simp] theorem ex_ret (e:E):ex F (.ret e) ρ s=(ev F e ρ s).bind λ d s=>.ok (.ret d) s:=rfl
@[simp] theorem bU4:ex F .retN ρ s=.ok (.ret .non) s:=rfl
@[simp] theorem ex_ite (c:E) (a b:Ss):ex F (.ite c a b) ρ s=tru (ev F c ρ s) λ k s=>if k then exs F a ρ s else exs F b ρ s:=rfl
@[simp] theorem ex_whl (c:E) (b:Ss):ex F (.whl c b) ρ s=whl (ev F c) (exs F b) ρ s:=rfl
noncomputable def turn (F:Fns)(tg:Tg)(b:Ss)(d:D)(ρ:Env)(s:Sto):R Ct:=match ad0 ρ tg d with
 | some ρ=>exs F b ρ s
 | none=>.bad
@[simp] theorem ex_for (tg:Tg) (it:I) (b:Ss):ex F (.for_ tg it b) ρ s=(evI F it ρ s).bind λ q s0=>aP1 (λ s=>chk s0 s q.src) (turn F tg b) q.its ρ s0:=rfl
@[simp] theorem ex_cont:ex F .cont ρ s=.ok (.cont ρ) s:=rfl
@[simp] theorem ex_und (i:Nat):ex F (.und i) ρ s=bW2 (ae5 ρ i) s:=rfl
@[simp] theorem ex_pass:ex F .pass ρ s=.ok (.next ρ) s:=rfl
@[simp] theorem zQ (i:Nat) (d:D):ad0 ρ (.one i) d=aD7 ρ i d:=rfl
@[simp] theorem bindT_tup (is:List Nat) (l:List D):ad0 ρ (.tup is) (.tup l)=al5 ρ is l:=rfl
@[simp] theorem setVs_nil:al5 ρ [] []=some ρ:=rfl
@[simp] theorem setVs_cons (i:Nat) (is:List Nat) (d:D) (l:List D):al5 ρ (i::is) (d::l)=(aD7 ρ i d).bind λ ρ=>al5 ρ is l:=rfl
@[simp] theorem qe (d:D) (ρ:Env):aS2 (some d::ρ) 0 s=.ok d s:=rfl
@[simp] theorem qc (x:Option D) (ρ:Env) (i:Nat):aS2 (x::ρ) (i+1) s=aS2 ρ i s:=by unfold aS2;rw[eK]
@[simp] theorem setV_0 (d:D) (x:Option D) (ρ:Env):aD7 (x::ρ) 0 d=some (some d::ρ):=rfl
@[simp] theorem setV_s (d:D) (x:Option D) (ρ:Env) (i:Nat):aD7 (x::ρ) (i+1) d=(aD7 ρ i d).map (x::·):=by
 unfold aD7
 by_cases h:i < ρ.length
 ·rw[if_pos (by simpa using h),if_pos h];rfl
 ·rw[if_neg (by simpa using h),if_neg h];rfl
@[simp] theorem unsetV_0 (x:Option D) (ρ:Env):ae5 (x::ρ) 0=some (none::ρ):=rfl
@[simp] theorem unsetV_s (x:Option D) (ρ:Env) (i:Nat):ae5 (x::ρ) (i+1)=(ae5 ρ i).map (x::·):=by
 unfold ae5
 by_cases h:i < ρ.length
 ·rw[if_pos (by simpa using h),if_pos h];rfl
 ·rw[if_neg (by simpa using h),if_neg h];rfl
@[simp] theorem Cn_int (i:Int):(Cn.int i).d=.int i:=rfl
@[simp] theorem Cn_bl (i:Bool):(Cn.bl i).d=.bl i:=rfl
@[simp] theorem Cn_str (i:List Nat):(Cn.str i).d=.str i:=rfl
@[simp] theorem Cn_non:Cn.non.d=.non:=rfl
@[simp] theorem add_int (a b:Int):ag2 .add (.int a) (.int b) s=.ok (.int (a+b)) s:=rfl
@[simp] theorem sub_int (a b:Int):ag2 .sub (.int a) (.int b) s=.ok (.int (a - b)) s:=rfl
theorem ae6 {a b:Int}(h:mulOk a b=true):ag2 .mul (.int a) (.int b) s=.ok (.int (a*b)) s:=by show(if mulOk a b then _ else _:M D) s=_;rw[if_pos h];rfl
theorem bz2 {a b:Int}(h:a.natAbs<2^64):mulOk a b=true:=by unfold mulOk;simp[h]
theorem ak4 {a b:Int}(h:b.natAbs<2^64):mulOk a b=true:=by unfold mulOk;simp[h]
theorem an9 {a b:Int}(h:0<b):ag2 .mod (.int a) (.int b) s=.ok (.int (a % b)) s:=by show(if 0<b then _ else _:M D) s=_;rw[if_pos h];rfl
theorem bz3:(10:Int)^200<=(DIVL:Int):=by unfold DIVL;decide +kernel
theorem aj3 {a b:Int}(h:0<b)(y:b<10^200):ag2 .fdiv (.int a) (.int b) s=.ok (.int (a / b)) s:=by show(if 0<b/\b<(DIVL:Int)then _ else _:M D) s=_;rw[if_pos ⟨h,Int.lt_of_lt_of_le y bz3⟩];rfl
theorem aV0 {a b:Int}(h:0<=b/\b<=1000000/\a.natAbs<2^64):ag2 .pow (.int a) (.int b) s=.ok (.int (a^b.toNat)) s:=by show(if _ then _ else _:M D) s=_;rw[if_pos h];rfl
@[simp] theorem lt_int (a b:Int):ql .lt (.int a) (.int b) s=.ok (.bl (decide (a<b))) s:=rfl
@[simp] theorem le_int (a b:Int):ql .le (.int a) (.int b) s=.ok (.bl (decide (a<=b))) s:=rfl
@[simp] theorem gt_int (a b:Int):ql .gt (.int a) (.int b) s=.ok (.bl (decide (b<a))) s:=rfl
@[simp] theorem ge_int (a b:Int):ql .ge (.int a) (.int b) s=.ok (.bl (decide (b<=a))) s:=rfl
@[simp] theorem eq_int (a b:Int):ql .eq (.int a) (.int b) s=.ok (.bl (decide (a=b))) s:=rfl
@[simp] theorem ne_int (a b:Int):ql .ne (.int a) (.int b) s=.ok (.bl (!decide (a=b))) s:=rfl
@[simp] theorem alloc_eq (o:O):ac9 o s=.ok (.ref s.length) (s++[o]):=rfl
@[simp] theorem aX6 (l:List D):bi .len [.tup l] s=.ok (.int l.length) s:=rfl
@[simp] theorem bx0 (l:List Nat):bi .len [.str l] s=.ok (.int l.length) s:=rfl
theorem bJ2 {r:Nat}{l:List D}(h:s[r]?=some (.ro l)):bi .len [.ref r] s=.ok (.int l.length) s:=by simp only[bi,bi1,bA8,h]
@[simp] theorem bV5 (i:Int):bi .abs [.int i] s=.ok (.int (if i<0 then -i else i)) s:=rfl
@[simp] theorem bR4 (a b:Int):bi .min2 [.int a,.int b] s=.ok (.int (if b<a then b else a)) s:=rfl
@[simp] theorem bQ3 (a b:Int):bi .max2 [.int a,.int b] s=.ok (.int (if b > a then b else a)) s:=rfl
@[simp] theorem bD1 (a:Int):bi .isInt [.int a] s=.ok (.bl true) s:=rfl
@[simp] theorem bA5 (a:Int):bi .isBool [.int a] s=.ok (.bl false) s:=rfl
@[simp] theorem bN2 (l:List D):bi .isTup [.tup l] s=.ok (.bl true) s:=rfl
theorem bM6 {r:Nat}{l:List D}{j:Nat}{d:D}(h:s[r]?=some (.ro l))(hj:l[j]?=some d):ixM (.ref r) (.int (j:Int)) s=.ok d s:=by
 have hl:j<l.length:=(ac.mp hj).1
 have e:l[j]=d:=(ac.mp hj).2
 simp[ixM,h,ixn,hl,e]
theorem ay7 {r:Nat}{l:List D}{j:Nat}{d:D}(h:s[r]?=some (.lst l))(hj:l[j]?=some d):ixM (.ref r) (.int (j:Int)) s=.ok d s:=by
 have hl:j<l.length:=(ac.mp hj).1
 have e:l[j]=d:=(ac.mp hj).2
 simp[ixM,h,ixn,hl,e]
theorem ix_tup {l:List D}{j:Nat}{d:D}(hj:l[j]?=some d):ixM (.tup l) (.int (j:Int)) s=.ok d s:=by
 have hl:j<l.length:=(ac.mp hj).1
 have e:l[j]=d:=(ac.mp hj).2
 simp[ixM,ixn,hl,e]
theorem by2 {r:Nat}{l:List D}{j:Nat}{v:D}(h:s[r]?=some (.lst l))(hl:j<l.length):setIx (.ref r) (.int (j:Int)) v s=.ok () (s.set r (.lst (l.set j v))):=by
 simp[setIx,h,ixn,hl]
theorem aq0 {r:Nat}{l:List D}{v:D}(h:s[r]?=some (.lst l))(hl:l.length<LIM):meth .append (.ref r) [v] s=.ok .non (s.set r (.lst (l++[v]))):=by
 simp[meth,h,hl]
end
theorem aF2 (s t:Sto)(b:Bool):∃ s',zK s (.bl b) t=.ok (.bl b) s':=by
 unfold zK
 by_cases h:at9 s t=true
 ·rw[if_pos h];exact⟨_,rfl⟩
 ·rw[if_neg h];exact⟨_,rfl⟩
def Yes (r:R D):Prop:=∃ s',r=.ok (.bl true) s'
theorem an7 (s t:Sto):Yes (zK s (.bl true) t):=aF2 s t true
theorem af5 {a b:Int}{j:Nat}{d:D}(h:(ae8 a b)[j]?=some d):(j:Int)<b - a/\d=.int (a+j):=by
 have hj:=(ac.mp h).1
 simp only[ae8,au,jS]at hj
 unfold ae8 at h
 rw[aE,fO hj]at h
 exact⟨by omega,(ay h).symm⟩
def bT4 (P:Pr)(k:Nat):Prop:=∀ ns:List Int,ns.length<=63->Yes ((aa1 P k).call "law" [.ref 0] [.ro (ns.map D.int)])
noncomputable def ao9:Option Int->D
 | none=>.non
 | some i=>.int i
@[simp] theorem aA1:ao9 none=.non:=rfl
@[simp] theorem aY6 (i:Int):ao9 (some i)=.int i:=rfl
@[simp] theorem aI5 (p:Option Int) (n:Nat):(ao9 p).bnd n=true:=by cases p<;>rfl
theorem aK7 (p:Option Int)(r:Nat):ao9 p≠.ref r:=by cases p<;>nofun
@[simp] theorem bB0 {s:Sto} {p:Option Int}:zK s (ao9 p) s=.ok (ao9 p) s:=zo (aI5 p) (aK7 p)
noncomputable def zt (b:Nat×Nat):O:=.lst [.int b.1,.int b.2]
@[simp] theorem bQ2 (b:Nat×Nat) (n:Nat):(zt b).bnd n=true:=rfl
noncomputable def tkW (many:Nat):Nat->Nat->Nat->Nat->Nat×Nat
 | 0,mix,num,_=>(num,mix)
 | n+1,mix,num,room=>if room<many then tkW many n ((mix*48271+7919) % 2147483647) (num*1073741789+(mix*48271+7919) % 2147483647 / 8*69621 % 1073741789) (room*1073741789)else(num,mix)
noncomputable def tk (b:Nat×Nat)(many:Nat):Nat×(Nat×Nat) :=
 if 0<b.1 then(b.1 % many,(b.1 / many,b.2))else let r:=tkW many 12 b.2 0 1;(r.1 % many,(b.1,r.2))
theorem bV8 (b:Nat×Nat){many:Nat}(h:0<many):(tk b many).1<many:=by
 unfold tk
 split
 ·exact Nat.mod_lt _ h
 ·exact Nat.mod_lt _ h
theorem aR8 {many:Nat}{k z y room:Nat}(h:many<=room):tkW many k z y room=(y,z):=by
 cases k with
 | zero=>rfl
 | succ k=>unfold tkW;rw[if_neg (by omega)]
theorem bi8 {many:Nat}{k y z room:Nat}(h:room<many):tkW many (k+1) y z room=tkW many k ((y*48271+7919) % 2147483647) (z*1073741789+(y*48271+7919) % 2147483647 / 8*69621 % 1073741789) (room*1073741789):=by
 conv=>lhs;unfold tkW
 rw[if_pos h]
theorem bx9 {P:Pr}[Has P ac6](n:Nat)(b:Nat×Nat)(many:Nat)(h0:0<many)(h:many<=10^90)(s:Sto)(r:Nat)(hs:s[r]?=some (zt b)) :
  (aa1 P (n+1)).call "_law_take" [.ref r,.int many] s=.ok (.int (tk b many).1) (s.set r (zt (tk b many).2)):=by
 refine(zg ac6 rfl).trans ?_
 obtain⟨c,m⟩:=b
 have hr:r<s.length:=(ac.mp hs).1
 have G:(0:Int)<(many:Int):=by omega
 have Y:(many:Int)<10^200:=by
  have:(10:Int)^90<10^200:=by decide +kernel
  have:((many:Nat):Int)<=((10^90:Nat):Int):=by exact_mod_cast h
  omega
 by_cases hc:0<c
 ·have F:s[r]?=some (.lst [.int c,.int m]):=hs
  simp[ac6,ixM,F,ixn,hc,an9 G,aj3 G Y,setIx,tk]
  exact qt (λ _=>rfl) (by nofun) rfl
 ·have Z:c=0:=by omega
  subst Z
  have F:s[r]?=some (.lst [.int 0,.int m]):=hs
  simp[ac6,ixM,F,ixn]
  refine ba4 (λ k ρ t=>∃ y z room:Nat,ρ=[some (.ref r),some (.int many),none,some (.int z),some (.int room)]/\t=s.set r (zt (0,y))/\many<=room*1073741789^k/\tkW many k y z room=tkW many 12 m 0 1)
   (λ ρ t=>∃ room:Nat,ρ=[some (.ref r),some (.int many),none,some (.int (tkW many 12 m 0 1).1),some (.int room)]/\t=s.set r (zt (0,(tkW many 12 m 0 1).2))) 12 ⟨m,0,1,by simp,?_,?_,rfl⟩ ?_ ?_
  ·have e:s[r]=zt (0,m):=(ac.mp hs).2
   rw[<-e,fe]
  ·refine am h ?_
   decide +kernel
  ·rintro k ρ t ⟨y,z,room,rfl,rfl,C,J⟩
   by_cases hlt:room<many
   ·simp only[ev_cmp,qd,qe,qc,R.bind_ok,lt_int,bk7,jM,hlt,decide_true,if_true]
    cases k with
    | zero=>simp at C;omega
    | succ k =>
     have h1:(s.set r (zt (0,y)))[r]?=some (.lst [.int 0,.int y]):=by rw[aV hr];rfl
     have m1:∀ a:Int,mulOk a 48271=true:=λ a=>ak4 (by decide)
     have m2:∀ a:Int,mulOk a 1073741789=true:=λ a=>ak4 (by decide)
     have m3:∀ a:Int,mulOk a 69621=true:=λ a=>ak4 (by decide)
     refine qk ?_ ⟨k,fq k,(y*48271+7919) % 2147483647,z*1073741789+(y*48271+7919) % 2147483647 / 8*69621 % 1073741789,room*1073741789,rfl,rfl,?_,?_⟩
     ·simp[ixM,h1,ixn,ae6 (m1 _),an9,setIx,hr,ae6 (m2 _),ae6 (m3 _),aj3,zt]
     ·rw[la]at C
      rw[Nat.mul_assoc,kZ 1073741789];exact C
     ·rw[<-J,bi8 hlt]
   ·simp only[ev_cmp,qd,qe,qc,R.bind_ok,lt_int,bk7,jM,hlt,decide_false,if_false,bz]
    refine⟨room,?_,?_⟩
    ·rw[<-J,aR8 (by omega)]
    ·rw[<-J,aR8 (by omega)]
  ·rintro ρ t ⟨room,rfl,rfl⟩
   simp[an9 G,tk]
   exact qt (λ _=>rfl) (by nofun) rfl
noncomputable def bl6 (at_:Int)(ns:List Int):Nat->Int
 | 0=>7919*at_+17
 | k+1=>(bl6 at_ ns k*48271+(ns.getD k 0) % 2147483647+k) % 2147483629
theorem bA0 (at_:Int)(h:0<=at_)(ns:List Int):∀ k,0<=bl6 at_ ns k
 | 0=>by unfold bl6;omega
 | k+1=>by unfold bl6;exact Int.emod_nonneg _ (by decide)
noncomputable def cellF (ns:List Int)(at_:Nat):Nat:=if 10^18<=(ns.getD at_ 0).natAbs then(ns.getD at_ 0).natAbs else 0
noncomputable def bl7 (ns:List Int)(at_:Nat):Nat×Nat:=(cellF ns at_,(bl6 at_ ns (min ns.length 60)).toNat)
theorem aT4 {P:Pr}[Has P ax6](n:Nat)(ns:List Int)(at_:Nat)(s:Sto)(r:Nat)(hs:s[r]?=some (.ro (ns.map D.int)))(hl:ns.length<=63) :
  (aa1 P (n+1)).call "_law_bag" [.ref r,.int at_] s=.ok (.ref s.length) (s++[zt (bl7 ns at_)]):=by
 refine(zg ax6 rfl).trans ?_
 have m1:∀ a:Int,mulOk 7919 a=true:=λ a=>bz2 (by decide)
 have m2:∀ a:Int,mulOk a 48271=true:=λ a=>ak4 (by decide)
 have y:bi .len [.ref r] s=.ok (.int ns.length) s:=by rw[bJ2 hs,au]
 have C:∀(c:Int),(c<10^18->cellF ns at_=0)->(10^18<=c->(cellF ns at_:Int)=c) ->
   (exs (aa1 P n) (.cons (.asg (.one 3) (.bin .add (.bin .mul (.cst (.int 7919)) (.var 1)) (.cst (.int 17)))) (.cons (.for_ (.one 4) (.rng1 (.bi .min2 (.cons (.bi .len (.cons (.var 0) .nil)) (.cons (.cst (.int 60)) .nil)))) (.cons (.asg (.one 3) (.bin .mod (.bin .add (.bin .add (.bin .mul (.var 3) (.cst (.int 48271))) (.bin .mod (.ix (.var 0) (.var 4)) (.cst (.int 2147483647)))) (.var 4)) (.cst (.int 2147483629)))) .nil)) (.cons (.ite (.cmp .lt (.var 2) (.bin .pow (.cst (.int 10)) (.cst (.int 18)))) (.cons (.asg (.one 2) (.cst (.int 0))) .nil) .nil) (.cons (.ret (.lst (.cons (.var 2) (.cons (.var 3) .nil)))) .nil)))) [some (.ref r),some (.int at_),some (.int c),none,none] s).bind (fin s)=.ok (.ref s.length) (s++[zt (bl7 ns at_)]):=by
  intro c h1 h2
  simp[ae6 (m1 _),y]
  have hk:(if(60:Int)<(ns.length:Int)then 60 else(ns.length:Int))=((min ns.length 60:Nat):Int):=by omega
  rw[hk,ag7 (by unfold W62;omega) (by unfold W62;omega)]
  simp only[R.bind_ok]
  refine aK9 (λ j ρ t=>t=s/\∃ x,ρ=[some (.ref r),some (.int at_),some (.int c),some (.int (bl6 at_ ns j)),x]) ⟨rfl,none,rfl⟩ (λ _ _ _ _ _=>rfl) ?_ ?_
  ·rintro j d ρ t hj ⟨rfl,x,rfl⟩
   have Y:j<min ns.length 60:=by have:=(ac.mp hj).1;simpa [ae8]using this
   have hd:d=.int (j:Int):=by simpa [ae8,Y]using hj.symm
   subst hd
   refine qk ?_ ⟨rfl,some (.int (j:Int)),rfl⟩
   have hx:ixM (.ref r) (.int (j:Int)) t=.ok (.int (ns.getD j 0)) t:=bM6 hs (by simp[show j<ns.length by omega])
   simp[turn,ae6 (m2 _),hx,an9,bl6]
  ·rintro ρ t ⟨rfl,x,rfl⟩
   have G:(ae8 0 ((min ns.length 60:Nat):Int)).length=min ns.length 60:=by simp[ae8]
   rw[G]
   have F:=bA0 at_ (by omega) ns (min ns.length 60)
   have z:∀ J,(J:Int)=cellF ns at_->zK t (.ref t.length) (t++[.lst [.int J,.int (bl6 at_ ns (min ns.length 60))]])=.ok (.ref t.length) (t++[zt (bl7 ns at_)]):=by
    intro J Z
    have:=aA8 (s:=t) (t:=[]) (u:=[]) (o:=zt (bl7 ns at_)) rfl
    simp only[dN,k9,b9]at this
    rw[<-this]
    simp[zt,bl7,Z,fN F]
   by_cases h:c<10^18
   ·have h':c<1000000000000000000:=h
    simp[aV0,h']
    exact z 0 (by rw[h1 h];rfl)
   ·have h':¬ c<1000000000000000000:=h
    simp[aV0,h']
    exact z c (h2 (by omega)).symm
 by_cases hat:at_<ns.length
 ·have hx:ixM (.ref r) (.int at_) s=.ok (.int (ns.getD at_ 0)) s:=bM6 hs (by simp[hat])
  have e:=C (if ns.getD at_ 0<0 then -ns.getD at_ 0 else ns.getD at_ 0) (by unfold cellF;intro h;rw[if_neg (by omega)]) (by unfold cellF;intro h;rw[if_pos (by omega)];omega)
  rw[<-e]
  simp[ax6,y,hat,hx]
 ·have e:=C 0 (by unfold cellF;intro h;rw[if_neg];rw[aP,cV (by omega)];decide) (by intro h;exact absurd h (by decide))
  rw[<-e]
  simp[ax6,y,hat]
theorem al6 {s t:Sto}{r:Nat}{o:O}(h:r<s.length):(s++t).set r o=s.set r o++t:=by rw[iw,if_pos h]
theorem zH {s t:Sto}{r:Nat}{o:O}(h:s[r]?=some o):(s++t)[r]?=some o:=by
 rw[aN (ac.mp h).1];exact h
theorem qh {s:Sto}{r:Nat}{o:O}(h:r<s.length):(s.set r o)[r]?=some o:=aV h
theorem bj7 {P:Pr}[Has P ac6](n:Nat)(b:Nat×Nat)(many:Int)(h0:0<many)(h:many<=10^90)(s:Sto)(r:Nat)(hs:s[r]?=some (zt b)) :
  (aa1 P (n+1)).call "_law_take" [.ref r,.int many] s=.ok (.int (tk b many.toNat).1) (s.set r (zt (tk b many.toNat).2)):=by
 have:=bx9 n b many.toNat (P:=P) (by omega) (by have:many<=((10^90:Nat):Int):=(by simpa using h);omega) s r hs
 rwa [show((many.toNat:Nat):Int)=many by omega]at this
noncomputable def bd (b:Nat×Nat):Nat×(Nat×Nat) :=
 let x0:=tk b 3
 let x1:=tk x0.2 13
 let x2:=tk x1.2 1000000000
 let x3:=tk x2.2 1000000000000000000000000000000
 let i:=tk x3.2 4
 ([x0.1,x1.1,x2.1,x3.1].getD i.1 0,i.2)
section
variable {F:Fns} {ρ:Env} {s:Sto}
noncomputable def ag9 (F:Fns)(tg:Tg)(e:E)(d:D)(ρ:Env)(s:Sto):R (Option D×Env):=match ad0 ρ tg d with
 | some ρ=>(ev F e ρ s).bind λ v s=>.ok (some v,ρ) s
 | none=>.bad
noncomputable def aD8 (F:Fns)(tg:Tg)(c e:E)(d:D)(ρ:Env)(s:Sto):R (Option D×Env):=match ad0 ρ tg d with
 | some ρ=>tru (ev F c ρ s) λ k s=>if k then(ev F e ρ s).bind λ v s=>.ok (some v,ρ) s else .ok (none,ρ) s
 | none=>.bad
@[simp] theorem aj7 (tg:Tg) (it:I) (e:E) (h:List (Option Nat)):evL F (.comp tg it e h) ρ s=(evI F it ρ s).bind λ q s0=>if q.its.length<=LIM then ae3 (λ s=>chk s0 s q.src) (ag9 F tg e) q.its (qg ρ h) s0 else .bad:=rfl
@[simp] theorem ap7 (tg:Tg) (it:I) (c e:E) (h:List (Option Nat)):evL F (.compIf tg it c e h) ρ s=(evI F it ρ s).bind λ q s0=>if q.its.length<=LIM then ae3 (λ s=>chk s0 s q.src) (aD8 F tg c e) q.its (qg ρ h) s0 else .bad:=rfl
@[simp] theorem bK3 (a h:E):ev F (.slU a h) ρ s=(ev F a ρ s).bind λ x s=>(ev F h ρ s).bind λ y s=>match y with|.int i=>slM x none (some i) s|_=>.bad:=rfl
@[simp] theorem bZ6 (a h:E):ev F (.slL a h) ρ s=(ev F a ρ s).bind λ x s=>(ev F h ρ s).bind λ y s=>match y with|.int i=>slM x (some i) none s|_=>.bad:=rfl
end
theorem zP {ok:Sto->Bool}{g:D->Env->Sto->R (Option D×Env)}(P:Env->Sto->Prop)(f:D->Option D):∀(l:List D) (ρ:Env) (s:Sto),P ρ s ->
  (∀ ρ s,P ρ s->ok s=true)->(∀ d∈l,∀ ρ s,P ρ s->∃ ρ' s',g d ρ s=.ok (f d,ρ') s'/\P ρ' s')->∃ ρ' s',ae3 ok g l ρ s=.ok (l.filterMap f) s'/\P ρ' s'
 | [],ρ,s,h,o,_=>⟨ρ,s,by unfold ae3;rw[if_pos (o ρ s h)];rfl,h⟩
 | d::l,ρ,s,h,o,st=>by
  obtain⟨ρ1,s1,e1,z⟩:=st d (aB ..) ρ s h
  obtain⟨ρ2,s2,e2,y⟩:=zP P f l ρ1 s1 z o λ x hx=>st x (av _ hx)
  refine⟨ρ2,s2,?_,y⟩
  unfold ae3
  rw[if_pos (o ρ s h),e1]
  simp only[R.bind_ok]
  rw[e2,bO]
  cases f d<;>rfl
theorem zS {P:Pr}[Has P ac6](n:Nat){s:Sto}{r:Nat}(hs:∃ b,s[r]?=some (zt b))(many:Int)(h0:0<many)(h:many<=10^90) :
  ∃(k:Nat) (b:Nat×Nat),(k:Int)<many/\(aa1 P (n+1)).call "_law_take" [.ref r,.int many] s=.ok (.int k) (s.set r (zt b)):=by
 obtain⟨b,hb⟩:=hs
 have:=bV8 b (many:=many.toNat) (by omega)
 exact⟨(tk b many.toNat).1,(tk b many.toNat).2,by omega,bj7 n b many h0 h s r hb⟩
theorem qw {k:Int}(h:k<=1000):k<=10^90:=Int.le_trans h (by decide)
theorem aE7 {s:Sto}{r:Nat}{b:Nat×Nat}(h:r<s.length):∃ y,(s.set r (zt b))[r]?=some (zt y):=⟨b,qh h⟩
theorem aJ8 {s:Sto}{r:Nat}(h:∃ b,s[r]?=some (zt b)):r<s.length:=by obtain⟨b,hb⟩:=h;exact(ac.mp hb).1
theorem aZ5 {k:Int}{s:Sto}(h:0<=k/\k<=1000000):ag2 .shl (.int 1) (.int k) s=.ok (.int (1*2^k.toNat)) s:=by
 show(if 0<=k/\k<=1000000/\(1:Int).natAbs<2^64 then _ else _:M D) s=_
 rw[if_pos ⟨h.1,h.2,by decide⟩];rfl
theorem zr {l:List D}(h:∀ d∈l,∀ n,d.bnd n=true)(n:Nat):D.bndL n l=true:=by
 induction l with
 | nil=>rfl
 | cons d l ih=>unfold D.bndL;rw[h d (aB ..),ih λ x hx=>h x (av _ hx)];rfl
noncomputable def av9 (bits:Nat):D->Option D
 | .int i=>if(bits:Int) / (1*2^i.toNat) % 2=1 then some (.int i)else none
 | _=>none
theorem aW6 {h:Nat}{l:List D}:∀ d∈l.filterMap (av9 h),∀ n,d.bnd n=true:=λ d hd n=>by
 obtain⟨x,hx,e⟩:=dA.mp hd
 cases x with
 | int i =>
  simp only[av9]at e
  split at e
  ·cases e;rfl
  ·cases e
 | _=>cases e
theorem aO8 {P:Pr}[Has P ac6][Has P ad7](n:Nat){s:Sto}{r:Nat}(hs:∃ b,s[r]?=some (zt b))(k:Int)(h0:0<=k)(h:k<=5) :
  ∃(y:Nat) (b:Nat×Nat),(aa1 P (n+2)).call "_law_rooms" [.ref r,.int k] s=.ok (.tup ((ae8 0 k).filterMap (av9 y))) (s.set r (zt b)):=by
 have e0:(aa1 P (n+2)).call "_law_rooms" [.ref r,.int k] s=_:=zg ad7 (n:=n+1) rfl
 have hr:=aJ8 hs
 have hp:(1:Int)*2^k.toNat<=32:=by
  have:k.toNat<=5:=by omega
  have C:(2:Nat)^k.toNat<=2^5:=i4 (by decide) this
  have F:((2^k.toNat:Nat):Int)<=32:=by exact_mod_cast C
  rw[gv];simpa using F
 have J:(0:Int)<1*2^k.toNat:=by rw[gv];exact Int.pow_pos (by decide)
 obtain⟨y,b,hb,eb⟩:=zS (P:=P) n hs (1*2^k.toNat) J (qw (by omega))
 rw[e0]
 simp only[ad7,qj,ex_asg,ev_call,evas_ex,evas_nil,qd,ev_bin,ev_cst,Cn_int,aH,bS,ci,b9,qe,qc,R.bind_ok,aZ5 ⟨h0,by omega⟩,eb,zQ]
 simp only[aI,setV_s,setV_0,dQ,setC_some,R.bind_ok,zU,qj,exs_nil,ex_ret,ev_mk,ap7,evI_rng1,qd,qe,qc]
 rw[ag7 (by unfold W62;omega) (by unfold W62;omega)]
 simp only[R.bind_ok]
 rw[if_pos (by simp[ae8];unfold LIM;omega)]
 have key:∃(ρ':Env) (s':Sto),ae3 (λ G=>chk (s.set r (zt b)) G []) (aD8 (aa1 P (n+1)) (.one 0) (.cmp .eq (.bin .mod (.bin .fdiv (.var 1) (.bin .shl (.cst (.int 1)) (.var 0))) (.cst (.int 2))) (.cst (.int 1))) (.var 0)) (ae8 0 k) (qg [some (.ref r),some (.int k),some (.int y)] [none,some 2]) (s.set r (zt b))=.ok ((ae8 0 k).filterMap (av9 y)) s'/\(s'=s.set r (zt b)/\∃ x,ρ'=[x,some (D.int y)]):=by
  refine zP (λ ρ u=>u=s.set r (zt b)/\∃ x,ρ=[x,some (.int y)]) (av9 y) (ae8 0 k) _ _ ⟨rfl,none,rfl⟩ (λ _ _ _=>rfl) ?_
  rintro d hd ρ u ⟨rfl,x,rfl⟩
  obtain⟨j,hj⟩:=i5 hd
  obtain⟨C,rfl⟩:=af5 hj
  refine⟨[some (.int (0+j)),some (.int y)],_,?_,rfl,_,rfl⟩
  have Z:j<5:=by omega
  have Y:(1:Int)*2^((0:Int)+j).toNat<=32:=by
   have:((0:Int)+j).toNat<=5:=by omega
   have C:(2:Nat)^((0:Int)+j).toNat<=2^5:=i4 (by decide) this
   have F:((2^((0:Int)+j).toNat:Nat):Int)<=32:=by exact_mod_cast C
   rw[gv];simpa using F
  have z:(0:Int)<1*2^((0:Int)+j).toNat:=by rw[gv];exact Int.pow_pos (by decide)
  unfold aD8
  simp only[zQ,setV_0,ev_cmp,ev_bin,qd,ev_cst,Cn_int,qe,qc,R.bind_ok]
  rw[aZ5 ⟨by omega,by omega⟩]
  simp only[R.bind_ok]
  rw[aj3 z (by omega)]
  simp only[R.bind_ok]
  rw[an9 (by decide)]
  simp only[R.bind_ok,eq_int,tru_bl]
  simp[av9]
  split<;>rfl
 obtain⟨ρ',s',e,h1⟩:=key
 rw[e]
 obtain⟨rfl,_⟩:=h1
 refine⟨y,b,?_⟩
 simp only[R.bind_ok,mk,nxt_ret,fin_ret]
 exact qt (λ m=>by unfold D.bnd;exact zr aW6 m) (by nofun) rfl
theorem bn9 {k:Nat}(h:k<3)(s:Sto):ixM (.str [97,98,99]) (.int (k:Int)) s=.ok (.str [97+k]) s:=by
 match k,h with
 | 0,_=>rfl
 | 1,_=>rfl
 | 2,_=>rfl
theorem as3 {P:Pr}[Has P ac6](n:Nat){s t:Sto}{r:Nat}(hr:r<s.length)(b:Nat×Nat)(many:Int)(h0:0<many)(h:many<=10^90) :
  ∃(k:Nat) (y:Nat×Nat),(k:Int)<many/\(aa1 P (n+1)).call "_law_take" [.ref r,.int many] (s.set r (zt b)++t)=.ok (.int k) (s.set r (zt y)++t):=by
 obtain⟨k,y,C,z⟩:=zS (P:=P) n (s:=s.set r (zt b)++t) (r:=r) ⟨b,zH (qh hr)⟩ many h0 h
 refine⟨k,y,C,?_⟩
 rw[z,al6 (by rw[a0];exact hr),dG]
theorem bB8 {s t:Sto}{r:Nat}{b:Nat×Nat}{l:List D}{v:D}(h:l.length<LIM):meth .append (.ref s.length) [v] (s.set r (zt b)++(.lst l::t))=.ok .non (s.set r (zt b)++(.lst (l++[v])::t)):=by
 rw[aq0 (l:=l) (by rw[be (by simp)];simp) h]
 congr 1
 rw[iw,if_neg (by simp)]
 simp
theorem aD9 {a b:List Nat}{s:Sto}(h:a.length+b.length<=LIM):ag2 .add (.str a) (.str b) s=.ok (.str (a++b)) s:=by
 show(if a.length+b.length<=LIM then _ else _:M D) s=_;rw[if_pos h];rfl
def Lts (L:Nat)(w:List Nat):Prop:=∀ c∈w,97<=c/\c<97+L
theorem rep_len (l:List Nat):∀ n,(rep n l).length=l.length*n
 | 0=>by simp[rep]
 | n+1=>by simp[rep,rep_len l n,ke];omega
noncomputable def bI1 (L:Nat)(d:D):Bool:=match d with
 | .str w=>decide (w.length<=200)&&w.all λ c=>decide (97<=c/\c<97+L)
 | _=>false
theorem bx4 {P:Pr}{x:String}{v:D}[HasC P x v]{n:Nat}{ρ:Env}{s:Sto}:ev (aa1 P n) (.glob x) ρ s=.ok v s:=by
 show(match(aa1 P n).con x with|some d=>R.ok d s|none=>.bad)=_
 rw[aE8 (v:=v)]
noncomputable abbrev aD4:List D:=[.str [97],.str [98],.str [99]]
theorem bt4 {L:Nat}(h:L<=3)(s:Sto):slM (.tup aD4) none (some (L:Int)) s=.ok (.tup (aD4.take L)) s:=by
 match L,h with
 | 0,_=>rfl
 | 1,_=>rfl
 | 2,_=>rfl
 | 3,_=>rfl
theorem ah2 {P:Pr}[Has P aa6][HasC P "LETTERS" (.tup aD4)](n:Nat){L:Nat}(h:L<=3)(l:List D)(s:Sto):(aa1 P (n+1)).call "letters_of" [.tup (.int L::l)] s=.ok (.tup (aD4.take L)) s:=by
 refine(zg aa6 rfl).trans ?_
 have y:ixM (.tup (.int L::l)) (.int ((0:Nat):Int)) s=.ok (.int L) s:=ix_tup rfl
 simp -implicitDefEqProofs [aa6,bx4 (v:=.tup aD4)]
 rw[show(0:Int)=((0:Nat):Int)from rfl,y]
 simp only[R.bind_ok]
 rw[bt4 h]
 simp -implicitDefEqProofs
 match L,h with
 | 0,_=>exact zo (λ _=>rfl) (by nofun)
 | 1,_=>exact zo (λ _=>rfl) (by nofun)
 | 2,_=>exact zo (λ _=>rfl) (by nofun)
 | 3,_=>exact zo (λ _=>rfl) (by nofun)
theorem aD0 {a b:D}{s:Sto}:ql .isin a b s=(inM a b s).bind λ r s=>.ok (.bl r) s:=rfl
@[simp] theorem bZ3 {F:Fns} {ρ:Env} {s:Sto} (a:E):ev F (.neg a) ρ s=(ev F a ρ s).bind λ x s=>match x with|.int i=>.ok (.int (-i)) s|_=>.bad:=rfl
structure Dr where
 a:Nat
 l:Nat
 b:Nat
 t:Nat
noncomputable def Dr.d (x:Dr):D:=.tup [.int x.a,.str [x.l],.int x.b,.int x.t]
structure Mc where
 L:Nat
 R:Nat
 bg:List Nat
 en:List Nat
 ds:List Dr
noncomputable def zw (l:List Nat):List D:=l.map λ(k:Nat)=>D.int (k:Int)
noncomputable def Mc.ps (m:Mc):List D:=[.int m.L,.int m.R,.tup (zw m.bg),.tup (zw m.en),.tup (m.ds.map Dr.d)]
noncomputable def Mc.d (m:Mc):D:=.tup m.ps
structure Dr.Ok (m:Mc)(x:Dr):Prop where
 a:x.a<m.R
 l:97<=x.l/\x.l<97+m.L
 b:x.b<m.R
 t:x.t<4
structure Mc.Ok (m:Mc):Prop where
 L1:1<=m.L
 L3:m.L<=3
 R1:1<=m.R
 R5:m.R<=5
 bg:(∀ k∈m.bg,k<m.R)/\m.bg.Pairwise (· < ·)
 en:(∀ k∈m.en,k<m.R)/\m.en.Pairwise (· < ·)
 ds:(∀ x∈m.ds,x.Ok m)/\m.ds.length<=75
theorem zV {l:List Nat}:∀ d∈zw l,∀ n,d.bnd n=true:=λ d hd n=>by
 obtain⟨c,_,rfl⟩:=aO.mp hd;rfl
theorem an3 {l:List Dr}:∀ d∈l.map Dr.d,∀ n,d.bnd n=true:=λ d hd n=>by
 obtain⟨c,_,rfl⟩:=aO.mp hd;rfl
theorem bs2 {m:Mc}:∀ d∈m.ps,∀ n,d.bnd n=true:=λ d hd n=>by
 simp only[Mc.ps,aF,bT,or_false]at hd
 rcases hd with rfl|rfl|rfl|rfl|rfl
 ·rfl
 ·rfl
 ·unfold D.bnd;exact zr zV n
 ·unfold D.bnd;exact zr zV n
 ·unfold D.bnd;exact zr an3 n
theorem bE6 (m:Mc)(n:Nat):m.d.bnd n=true:=by unfold Mc.d D.bnd;exact zr bs2 n
noncomputable def aL7 (bits k:Nat):List Nat:=(bB k).filter λ i=>decide (bits / 2^i % 2=1)
theorem aP7 (h k:Nat):(∀ i∈aL7 h k,i<k)/\(aL7 h k).Pairwise (· < ·) :=
 ⟨λ i y=>cj.mp (eC.mp y).1,ln _ List.pairwise_lt_range⟩
theorem bc9 (y:Nat)(k:Nat):(ae8 0 (k:Int)).filterMap (av9 y)=zw (aL7 y k):=by
 unfold ae8 aL7 zw
 simp only[jQ,bH]
 rw[bK]
 induction (bB k)with
 | nil=>rfl
 | cons i l ih =>
  rw[bO,j6]
  have e:((y:Int) / (1*2^((0:Int)+(i:Int)).toNat) % 2=1)↔(y / 2^i % 2=1):=by
   rw[gv,show((0:Int)+(i:Int)).toNat=i by omega]
   have:((y:Int) / 2^i % 2)=((y / 2^i % 2:Nat):Int):=by simp
   rw[this];omega
  simp only[dR,av9]
  by_cases h:y / 2^i % 2=1
  ·rw[if_pos (e.mpr h)]
   simp only[h,decide_true,if_true,aH]
   rw[<-ih,jT]
  ·rw[if_neg λ z=>h (e.mp z)]
   simp only[h,decide_false]
   exact ih
theorem aI9 {P:Pr}[Has P ac6][Has P ad7](n:Nat){s:Sto}{r:Nat}(hs:∃ b,s[r]?=some (zt b))(k:Nat)(h:k<=5) :
  ∃(l:List Nat) (b:Nat×Nat),((∀ i∈l,i<k)/\l.Pairwise (· < ·))/\(aa1 P (n+2)).call "_law_rooms" [.ref r,.int k] s=.ok (.tup (zw l)) (s.set r (zt b)):=by
 obtain⟨y,b,e⟩:=aO8 (P:=P) n hs k (by omega) (by omega)
 rw[bc9]at e
 exact⟨_,b,aP7 y k,e⟩
section
variable {P:Pr}
theorem as7 {l:List D}{s:Sto}(j:Nat){d:D}(h:l[j]?=some d):ixM (.tup l) (.int (j:Int)) s=.ok d s:=ix_tup h
theorem ixL (m:Mc)(s:Sto):ixM m.d (.int 0) s=.ok (.int m.L) s:=as7 0 rfl
theorem ixR (m:Mc)(s:Sto):ixM m.d (.int 1) s=.ok (.int m.R) s:=as7 1 rfl
theorem ixB (m:Mc)(s:Sto):ixM m.d (.int 2) s=.ok (.tup (zw m.bg)) s:=as7 2 rfl
theorem ixE (m:Mc)(s:Sto):ixM m.d (.int 3) s=.ok (.tup (zw m.en)) s:=as7 3 rfl
theorem ixD (m:Mc)(s:Sto):ixM m.d (.int 4) s=.ok (.tup (m.ds.map Dr.d)) s:=as7 4 rfl
theorem an8 [Has P ac1](n:Nat)(m:Mc)(s:Sto):(aa1 P (n+1)).call "rooms_of" [m.d] s=.ok (.int m.R) s:=by
 refine(zg ac1 rfl).trans ?_
 simp -implicitDefEqProofs [ac1,ixR]
theorem ao0 {s:Sto}{l:List D}(h:∀ d∈l,∀ n,d.bnd n=true):zK s (.tup l) s=.ok (.tup l) s:=zo (λ n=>by unfold D.bnd;exact zr h n) (by nofun)
theorem ai4 [Has P ab9](n:Nat)(m:Mc)(s:Sto):(aa1 P (n+1)).call "begins_of" [m.d] s=.ok (.tup (zw m.bg)) s:=by
 refine(zg ab9 rfl).trans ?_
 simp -implicitDefEqProofs [ab9,ixB,ao0 zV]
theorem aq2 [Has P ac5](n:Nat)(m:Mc)(s:Sto):(aa1 P (n+1)).call "ends_of" [m.d] s=.ok (.tup (zw m.en)) s:=by
 refine(zg ac5 rfl).trans ?_
 simp -implicitDefEqProofs [ac5,ixE,ao0 zV]
theorem qx [Has P aa9](n:Nat)(m:Mc)(s:Sto):(aa1 P (n+1)).call "doors_of" [m.d] s=.ok (.tup (m.ds.map Dr.d)) s:=by
 refine(zg aa9 rfl).trans ?_
 simp -implicitDefEqProofs [aa9,ixD,ao0 an3]
@[simp] theorem bU2 (a b:Nat) (s:Sto):ql .ne (.str [a]) (.str [b]) s=.ok (.bl (!decide (a=b))) s:=by
 show(match eqv s DEEP (.str [a]) (.str [b])with|some r=>R.ok (D.bl (!r)) s|none=>.bad)=_
 have:eqv s DEEP (.str [a]) (.str [b])=some ([a]==[b]):=rfl
 rw[this]
 have e:([a]==[b])=decide (a=b):=by rw[fL];simp
 rw[e]
@[simp] theorem bw1 (a b:Nat) (s:Sto):ql .eq (.str [a]) (.str [b]) s=.ok (.bl (decide (a=b))) s:=by
 show(match eqv s DEEP (.str [a]) (.str [b])with|some r=>R.ok (D.bl r) s|none=>.bad)=_
 have:eqv s DEEP (.str [a]) (.str [b])=some ([a]==[b]):=rfl
 rw[this]
 have e:([a]==[b])=decide (a=b):=by rw[fL];simp
 rw[e]
theorem bT1 (x:Dr)(s:Sto):ixM x.d (.int 0) s=.ok (.int x.a) s:=as7 0 rfl
theorem bT6 (x:Dr)(s:Sto):ixM x.d (.int 1) s=.ok (.str [x.l]) s:=as7 1 rfl
theorem bU8 (x:Dr)(s:Sto):ixM x.d (.int 2) s=.ok (.int x.b) s:=as7 2 rfl
theorem bS9 (x:Dr)(s:Sto):ixM x.d (.int 3) s=.ok (.int x.t) s:=as7 3 rfl
end
noncomputable def ac0 (S:Int->Prop):Option Int->Prop
 | none=>∀ c,¬ S c
 | some c=>S c/\∀ c',S c'->c<=c'
theorem ac0.eq {S z:Int->Prop}{o y:Option Int}(h:ac0 S o)(h':ac0 z y)(e:∀ c,S c↔z c):o=y:=by
 cases o with
 | none =>
  cases y with
  | none=>rfl
  | some c=>exact absurd ((e c).mpr h'.1) (h c)
 | some c =>
  cases y with
  | none=>exact absurd ((e c).mp h.1) (h' c)
  | some c' =>
   have F:=h.2 c' ((e c').mpr h'.1)
   have C:=h'.2 c ((e c).mp h.1)
   rw[show c=c' by omega]
theorem ac0.congr {S z:Int->Prop}{o:Option Int}(h:ac0 S o)(e:∀ c,S c↔z c):ac0 z o:=by
 cases o with
 | none=>exact λ c hc=>h c ((e c).mpr hc)
 | some c=>exact⟨(e c).mp h.1,λ y hc=>h.2 y ((e y).mpr hc)⟩
noncomputable def minO:Option Int->Option Int->Option Int
 | none,x=>x
 | some a,none=>some a
 | some a,some b=>if b<a then some b else some a
theorem ac0.or {S C:Int->Prop}{o y:Option Int}(h:ac0 S o)(h':ac0 C y):ac0 (λ c=>S c\/C c) (minO o y):=by
 cases o with
 | none =>
  cases y with
  | none=>exact λ c hc=>hc.elim (h c) (h' c)
  | some b=>exact⟨.inr h'.1,λ c hc=>hc.elim (λ z=>absurd z (h c)) (h'.2 c)⟩
 | some a =>
  cases y with
  | none=>exact⟨.inl h.1,λ c hc=>hc.elim (h.2 c) (λ z=>absurd z (h' c))⟩
  | some b =>
   show ac0 _ (if b<a then some b else some a)
   by_cases hlt:b<a
   ·rw[if_pos hlt]
    exact⟨.inr h'.1,λ c hc=>hc.elim (λ z=>by have:=h.2 c z;omega) (h'.2 c)⟩
   ·rw[if_neg hlt]
    exact⟨.inl h.1,λ c hc=>hc.elim (h.2 c) (λ z=>by have:=h'.2 c z;omega)⟩
theorem ac0.add {S:Int->Prop}{o:Option Int}(h:ac0 S o)(k:Int):ac0 (λ c=>∃ y,S y/\c=y+k) (o.map (·+k)):=by
 cases o with
 | none=>rintro c ⟨y,h',_⟩;exact h y h'
 | some a=>exact⟨⟨a,h.1,rfl⟩,by rintro c ⟨y,h',rfl⟩;have:=h.2 y h';show a+k<=y+k;omega⟩
noncomputable def Wk (ds:List Dr):List Nat->Nat->Nat->Int->Prop
 | [],p,q,c=>p=q/\c=0
 | x::w,p,q,c=>∃ d∈ds,d.a=p/\d.l=x/\∃ c':Int,Wk ds w d.b q c'/\c=(d.t:Int)+c'
theorem au2 {ds:List Dr}{x:Nat}:∀ {w:List Nat} {p q:Nat} {c:Int},Wk ds (w++[x]) p q c↔∃ d∈ds,d.l=x/\d.b=q/\∃ z:Int,Wk ds w p d.a z/\c=z+(d.t:Int)
 | [],p,q,c=>by
  constructor
  ·rintro⟨d,hd,rfl,hx,z,⟨G,C⟩,rfl⟩
   exact⟨d,hd,hx,G,0,⟨rfl,rfl⟩,by omega⟩
  ·rintro⟨d,hd,hx,hb,z,⟨G,C⟩,rfl⟩
   exact⟨d,hd,G.symm,hx,0,⟨hb,rfl⟩,by omega⟩
 | y::w,p,q,c=>by
  constructor
  ·rintro⟨d,hd,ha,hy,z,h,rfl⟩
   obtain⟨e,F,hx,hb,c2,C,rfl⟩:=au2.mp h
   exact⟨e,F,hx,hb,d.t+c2,⟨d,hd,ha,hy,c2,C,rfl⟩,by omega⟩
  ·rintro⟨e,F,hx,hb,z,⟨d,hd,ha,hy,c2,C,rfl⟩,rfl⟩
   exact⟨d,hd,ha,hy,c2+e.t,au2.mpr ⟨e,F,hx,hb,c2,C,rfl⟩,by omega⟩
noncomputable def Dr.turn (x:Dr):Dr:=⟨x.b,x.l,x.a,x.t⟩
def Mc.Wk (m:Mc)(w:List Nat)(c:Int):Prop:=∃ p∈m.bg,∃ q∈m.en,DV.Wk m.ds w p q c
noncomputable def Mc.turn (m:Mc):Mc:=⟨m.L,m.R,m.en,m.bg,m.ds.map Dr.turn⟩
noncomputable def ae9 (row:List (Option Int)):List D:=row.map ao9
theorem aJ1 (h:List (Option Int)):(ae9 h).length=h.length:=au ..
theorem aD5 {y:List (Option Int)}{k:Nat}{o:Option Int}(h:y[k]?=some o):(ae9 y)[k]?=some (ao9 o):=by unfold ae9;rw[aE,h];rfl
theorem aJ3 {s T:Sto}{k:Nat}{o:O}(h:s.length<=k):(s++T).set k o=s++T.set (k - s.length) o:=by rw[iw,if_neg (by omega)]
def ap1 (S:Nat->Int->Prop)(row:List (Option Int)):Prop:=∀ k o,row[k]?=some o->ac0 (S k) o
theorem ay4 {s:Sto}{k:Nat}:∀ {l:List Nat},inL s (.int k) (zw l)=some (decide (k∈l))
 | []=>rfl
 | a::l=>by
  have y:=ay4 (s:=s) (k:=k) (l:=l)
  have e:eqv s DEEP (.int (a:Int)) (.int (k:Int))=some ((a:Int)==(k:Int)):=rfl
  show(match eqv s DEEP (.int (a:Int)) (.int (k:Int)),inL s (.int k) (zw l)with|some a,some b=>some (a||b)|_,_=>none)=_
  rw[e,y]
  show some (((a:Int)==(k:Int))||decide (k∈l))=some _
  congr 1
  rw[fL]
  simp
  constructor
  ·rintro(h|h)
   ·exact .inl (by omega)
   ·exact .inr h
  ·rintro(h|h)
   ·exact .inl (by omega)
   ·exact .inr h
theorem bh2 {s:Sto}{k:Nat}{l:List Nat}:inM (.int k) (.tup (zw l)) s=.ok (decide (k∈l)) s:=by unfold inM;simp only[ay4]
theorem aR9 (b:Bool)(s:Sto):bi .int [.bl b] s=.ok (.int (if b then 1 else 0)) s:=by cases b<;>rfl
theorem ap5:∀ l:List Int,zZ (l.map D.int)=some l
 | []=>rfl
 | a::l=>by rw[aH];unfold zZ;rw[ap5 l];rfl
theorem aB3:∀(l:List Int) (a:Int),(l.foldl min a=a\/l.foldl min a∈l)/\l.foldl min a<=a/\∀ y∈l,l.foldl min a<=y
 | [],a=>⟨.inl rfl,dz _,λ y hy=>by cases hy⟩
 | b::l,a=>by
  obtain⟨F,G,C⟩:=aB3 l (min a b)
  rw[cJ]
  refine⟨?_,by omega,λ y hy=>?_⟩
  ·rcases F with h|h
   ·rw[h]
    rcases jR a b with z|z
    ·left;omega
    ·right;rw[show min a b=b by omega];exact aB ..
   ·exact .inr (av _ h)
  ·rcases aF.mp hy with z|z
   ·rw[z];omega
   ·exact C y z
theorem aN1 (l:List Int):ac0 (λ c=>c∈l) (minI l):=by
 cases l with
 | nil=>exact λ c hc=>by cases hc
 | cons a l =>
  obtain⟨G,C,F⟩:=aB3 l a
  refine⟨?_,λ y hy=>?_⟩
  ·rcases G with h|h
   ·rw[h];exact aB ..
   ·exact av _ h
  ·rcases aF.mp hy with z|z
   ·rw[z];exact C
   ·exact F y z
theorem by0 (l:List Int)(s:Sto):mkD .min (l.map D.int) .non s=.ok (ao9 (minI l)) s:=by
 unfold mkD
 simp only[ap5]
 cases minI l<;>rfl
def bo1 (m:Mc)(w:List Nat)(s:Sto)(x:R D):Prop:=∃ o,ac0 (m.Wk w) o/\x=.ok (ao9 o) s
def at7 (S:Nat->Int->Prop)(x:Nat)(ds:List Dr)(k:Nat)(c:Int):Prop:=∃ d∈ds,d.l=x/\d.b=k/\∃ c':Int,S d.a c'/\c=c'+(d.t:Int)
theorem av7 {S:Nat->Int->Prop}{x:Nat}{ds:List Dr}{d:Dr}{F:List (Option Int)}(h:ap1 (at7 S x ds) F)(hn:∀ y,¬(d.l=x/\S d.a y)):ap1 (at7 S x (ds++[d])) F:=λ k o hk=>by
 refine(h k o hk).congr λ c=>?_
 constructor
 ·rintro⟨e,C,r⟩;exact⟨e,bj.mpr (.inl C),r⟩
 ·rintro⟨e,C,hl,hb,y,hs,r⟩
  rcases bj.mp C with z|z
  ·exact⟨e,z,hl,hb,y,hs,r⟩
  ·rw[aU.mp z]at hl hs;exact absurd ⟨hl,hs⟩ (hn y)
theorem aT3 {S:Nat->Int->Prop}{x:Nat}{ds:List Dr}{d:Dr}{C:List (Option Int)}{i:Int}(h:ap1 (at7 S x ds) C)(hx:d.l=x)(F:ac0 (S d.a) (some i)){o:Option Int}(ho:C[d.b]?=some o) :
  ap1 (at7 S x (ds++[d])) (C.set d.b (minO o (some (i+d.t)))):=λ k G hk=>by
 have hlt:d.b<C.length:=(ac.mp ho).1
 by_cases e:d.b=k
 ·subst e
  rw[aV hlt]at hk
  cases hk
  refine((h _ o ho).or (F.add d.t)).congr λ c=>?_
  constructor
  ·rintro(⟨e,y,r⟩|r)
   ·exact⟨e,bj.mpr (.inl y),r⟩
   ·exact⟨d,bj.mpr (.inr (aU.mpr rfl)),hx,rfl,r⟩
  ·rintro⟨e,y,hl,hb,r⟩
   rcases bj.mp y with z|z
   ·exact .inl ⟨e,z,hl,hb,r⟩
   ·rw[aU.mp z]at r;exact .inr r
 ·rw[aR e]at hk
  refine(h k G hk).congr λ c=>?_
  constructor
  ·rintro⟨e,y,r⟩;exact⟨e,bj.mpr (.inl y),r⟩
  ·rintro⟨e',y,hl,hb,r⟩
   rcases bj.mp y with z|z
   ·exact⟨e',z,hl,hb,r⟩
   ·rw[aU.mp z]at hb;exact absurd hb e
def av0 (m:Mc)(w:List Nat)(k:Nat)(c:Int):Prop:=∃ p∈m.bg,Wk m.ds w p k c
theorem aY2 {m:Mc}{w:List Nat}{x k:Nat}{c:Int}:at7 (av0 m w) x m.ds k c↔av0 m (w++[x]) k c:=by
 constructor
 ·rintro⟨d,hd,hl,hb,z,⟨p,y,h⟩,rfl⟩
  exact⟨p,y,au2.mpr ⟨d,hd,hl,hb,z,h,rfl⟩⟩
 ·rintro⟨p,y,h⟩
  obtain⟨d,hd,hl,hb,z,C,rfl⟩:=au2.mp h
  exact⟨d,hd,hl,hb,z,⟨p,y,C⟩,rfl⟩
theorem aB8 {m:Mc}{w:List Nat}{C:List (Option Int)}(Z:C.length=m.R)(a1:∀ k∈m.en,k<m.R)(h:ap1 (av0 m w) C):ac0 (m.Wk w) (minI (m.en.filterMap λ q=>C.getD q none)):=by
 have at_:∀ q∈m.en,∃ o,C[q]?=some o/\C.getD q none=o/\ac0 (av0 m w q) o:=λ q hq=>by
  have hlt:q<C.length:=by rw[Z];exact a1 q hq
  exact⟨C[q],ai hlt,by simp[List.getD,hlt],h q _ (ai hlt)⟩
 have F:∀ c,c∈(m.en.filterMap λ q=>C.getD q none)↔∃ q∈m.en,C.getD q none=some c:=λ c=>dA
 have hl:=aN1 (m.en.filterMap λ q=>C.getD q none)
 cases e:minI (m.en.filterMap λ q=>C.getD q none)with
 | none =>
  rw[e]at hl
  rintro c ⟨p,G,q,hq,hw⟩
  obtain⟨o,h1,Y,J⟩:=at_ q hq
  cases o with
  | none=>exact J c ⟨p,G,hw⟩
  | some y=>exact hl y ((F y).mpr ⟨q,hq,Y⟩)
 | some z =>
  rw[e]at hl
  obtain⟨q,hq,hz⟩:=(F z).mp hl.1
  refine⟨?_,λ c hc=>?_⟩
  ·obtain⟨o,h1,Y,J⟩:=at_ q hq
   rw[Y]at hz;subst hz
   obtain⟨p,G,hw⟩:=J.1
   exact⟨p,G,q,hq,hw⟩
  ·obtain⟨p,G,q,hq,hw⟩:=hc
   obtain⟨o,h1,Y,J⟩:=at_ q hq
   cases o with
   | none=>exact absurd ⟨p,G,hw⟩ (J c)
   | some y =>
    have h4:=J.2 c ⟨p,G,hw⟩
    have h5:=hl.2 y ((F y).mpr ⟨q,hq,Y⟩)
    omega
theorem zA {α β:Type}{f g:α->Option β}:∀ {l:List α},(∀ x∈l,f x=g x)->l.filterMap f=l.filterMap g
 | [],_=>rfl
 | a::l,h=>by rw[bO,bO,h a (aB ..),zA λ x hx=>h x (av _ hx)]
theorem as6 {P:Pr}[Has P ac4](n:Nat){m:Mc}(hm:m.Ok)(w:List Nat)(hw:w.length<=1000)(s:Sto):bo1 m w s ((aa1 P (n+1)).call "_law_price" [m.d,.str w] s):=by
 have e0:(aa1 P (n+1)).call "_law_price" [m.d,.str w] s=_:=zg ac4 (n:=n) rfl
 rw[e0]
 have h5:=hm.R5
 simp -implicitDefEqProofs [ac4,ixR]
 rw[ag7 (by unfold W62;omega) (by unfold W62;omega)]
 simp only[R.bind_ok]
 rw[if_pos (by simp[ae8];unfold LIM;omega)]
 obtain⟨ρ1,s1,e1,T1,c0⟩:=zP (ok:=λ a2=>chk s a2 []) (g:=ag9 (aa1 P n) (.one 0) (.ix (.lst (.cons (.cst .non) (.cons (.cst (.int 0)) .nil))) (.bi .int (.cons (.cmp .isin (.var 0) (.ix (.var 1) (.cst (.int 2)))) .nil)))) (λ ρ u=>∃ T,u=s++T/\∃ x,ρ=[x,some m.d])
  (λ d=>match d with|.int i=>some (ao9 (if i.toNat∈m.bg then some 0 else none))|_=>none) (ae8 0 m.R) (qg [some m.d,some (.str w),none,none,none,none,none,none,none] [none,some 0]) s ⟨[],by simp,none,rfl⟩ (λ _ _ _=>rfl) (by
   rintro d hd ρ u ⟨T,rfl,x,rfl⟩
   obtain⟨j,hj⟩:=i5 hd
   obtain⟨e6,rfl⟩:=af5 hj
   rw[jT]
   have b5:=bh2 (s:=s++T++[.lst [.non,.int 0]]) (k:=j) (l:=m.bg)
   have hl:(s++T++[O.lst [.non,.int 0]])[(s++T).length]?=some (.lst [.non,.int 0]):=by simp
   by_cases hb:j∈m.bg
   ·have a9:ixM (.ref (s++T).length) (.int 1) (s++T++[O.lst [.non,.int 0]])=.ok (.int 0) _:=ay7 (j:=1) hl rfl
    refine⟨[some (.int j),some m.d],s++T++[.lst [.non,.int 0]],?_,T++[.lst [.non,.int 0]],by simp,_,rfl⟩
    unfold ag9
    simp -implicitDefEqProofs only[zQ,setV_0,ev_ix,ev_lst,evs_cons,evs_nil,ev_cst,Cn_non,Cn_int,R.bind_ok,alloc_eq,ev_bi,ev_cmp,qd,qe,qc,ixB,aD0,b5,hb,decide_true,aR9,if_true,a9,bH,aY6]
   ·have a9:ixM (.ref (s++T).length) (.int 0) (s++T++[O.lst [.non,.int 0]])=.ok .non _:=ay7 (j:=0) hl rfl
    refine⟨[some (.int j),some m.d],s++T++[.lst [.non,.int 0]],?_,T++[.lst [.non,.int 0]],by simp,_,rfl⟩
    unfold ag9
    simp -implicitDefEqProofs only[zQ,setV_0,ev_ix,ev_lst,evs_cons,evs_nil,ev_cst,Cn_non,Cn_int,R.bind_ok,alloc_eq,ev_bi,ev_cmp,qd,qe,qc,ixB,aD0,b5,hb,decide_false,aR9,if_false,bz,a9,bH,aA1])
 obtain⟨rfl,x1,rfl⟩:=c0
 have b3:(ae8 0 (m.R:Int)).filterMap (λ d=>match d with|.int i=>some (ao9 (if i.toNat∈m.bg then some 0 else none))|_=>none)=ae9 ((bB m.R).map λ k=>if k∈m.bg then some 0 else none):=by
  unfold ae8 ae9
  rw[bK,d9,<-cW]
  simp only[jQ,bH]
  refine zA λ k _=>?_
  simp only[dR,jT,bH]
 rw[b3]at e1
 rw[e1]
 simp -implicitDefEqProofs [mk]
 have sW:ag8 (.str w) (s++(T1++[O.lst (ae9 (List.map (λ k=>if k∈m.bg then some 0 else none) (bB m.R)))]))=.ok ⟨w.map λ c=>.str [c],[]⟩ _:=rfl
 rw[sW]
 simp only[R.bind_ok]
 refine zF (W:=bo1 m w s) (λ j ρ u=>∃(T:Sto) (k2:Nat) (C:List (Option Int)) (x3 x4 x5 x6 x7 x8:Option D),u=s++T/\s.length<=k2/\u[k2]?=some (.lst (ae9 C))/\C.length=m.R/\ap1 (av0 m (w.take j)) C/\ρ=[some m.d,some (.str w),some (.ref k2),x3,x4,x5,x6,x7,x8])
  ⟨_,s.length+T1.length,(bB m.R).map (λ k=>if k∈m.bg then some 0 else none),_,_,_,_,_,_,rfl,by omega,by rw[<-cq,<-aC];simp,by simp,?_,rfl⟩ (λ _ _ _ _ _=>rfl) ?_ ?_
 ·intro k o hk
  rw[aE]at hk
  by_cases hkR:k<m.R
  ·rw[fO hkR]at hk
   cases hk
   show ac0 _ (if k∈m.bg then some 0 else none)
   by_cases hb:k∈m.bg
   ·rw[if_pos hb]
    exact⟨⟨k,hb,rfl,rfl⟩,by rintro c ⟨p,_,_,rfl⟩;omega⟩
   ·rw[if_neg hb]
    rintro c ⟨p,hp,rfl,_⟩;exact hb hp
  ·rw[cV (by simp;omega)]at hk;cases hk
 ·rintro j d ρ u hj ⟨T,k2,C,x3,x4,x5,x6,x7,x8,rfl,d3,g2,a1,a4,rfl⟩
  obtain⟨c,hc,rfl⟩:∃ c,w[j]?=some c/\d=.str [c]:=by
   rw[aE]at hj
   cases e:w[j]? with
   | none=>rw[e]at hj;cases hj
   | some c=>rw[e]at hj;cases hj;exact⟨c,rfl,rfl⟩
  have e5:k2<(s++T).length:=(ac.mp g2).1
  have sq:ag8 (.ref k2) (s++T)=.ok ⟨ae9 C,[k2]⟩ (s++T):=by simp only[ag8,g2]
  obtain⟨ρ2,s2,e2,b7,_⟩:=zP (ok:=λ a2=>chk (s++T) a2 [k2]) (g:=ag9 (aa1 P n) (.one 0) (.cst .non)) (λ ρ u=>u=s++T/\∃ x,ρ=[x]) (λ _=>some .non) (ae9 C) (qg [some m.d,some (.str w),some (.ref k2),some (.str [c]),x4,x5,x6,x7,x8] [none]) (s++T) ⟨rfl,none,rfl⟩ (λ _ _ h=>by rw[h.1];simp[chk]) (by
   rintro d _ ρ u ⟨rfl,x,rfl⟩
   exact⟨[some d],s++T,by unfold ag9;simp -implicitDefEqProofs,rfl,_,rfl⟩)
  subst b7
  have d1:(ae9 C).filterMap (λ _=>some D.non)=ae9 (C.map λ _=>none):=by
   unfold ae9
   rw[d9,bK,<-cW]
   exact zA λ _ _=>rfl
  rw[d1]at e2
  have c4:(ae9 C).length<=LIM:=by rw[aJ1,a1];unfold LIM;omega
  have sD:∀ S,ag8 (.tup (m.ds.map Dr.d)) S=.ok ⟨m.ds.map Dr.d,[]⟩ S:=λ _=>rfl
  conv=>arg 2;simp -implicitDefEqProofs [turn,sq,c4,e2,mk,ixD,sD]
  rw[<-cq,<-aC]
  have b8:(s++T++[O.lst (ae9 (C.map λ _=>none))])[(s++T).length]?=some (.lst (ae9 (C.map λ _=>none))):=by simp
  have b4:s.length<=(s++T).length:=by simp
  generalize d4:(s++T).length=k4 at *
  have d2:w.take j++[c]=w.take (j+1):=by
   have hlt:j<w.length:=(ac.mp hc).1
   have e:w[j]=c:=(ac.mp hc).2
   rw[<-e,cA]
  refine zF (W:=Nx _) (λ i ρ v=>∃(F:Sto) (G:List (Option Int)) (y5 y6 y7 y8:Option D),v=s++F/\v[k2]?=some (.lst (ae9 C))/\v[k4]?=some (.lst (ae9 G))/\G.length=m.R/\ap1 (at7 (av0 m (w.take j)) c (m.ds.take i)) G/\ρ=[some m.d,some (.str w),some (.ref k2),some (.str [c]),some (.ref k4),y5,y6,y7,y8])
   ⟨T++[.lst (ae9 (C.map λ _=>none))],C.map λ _=>none,_,_,_,_,by simp,zH g2,b8,by simp[a1],?_,rfl⟩ (λ _ _ _ _ _=>rfl) ?_ ?_
  ·intro k o hk
   rw[aE]at hk
   cases e:C[k]? with
   | none=>rw[e]at hk;cases hk
   | some _ =>
    rw[e]at hk;cases hk
    rintro c' ⟨d,hd,_⟩
    rw[kI]at hd;cases hd
  ·rintro i d ρ v hi ⟨F,G,y5,y6,y7,y8,rfl,a6,g4,Z,Y,rfl⟩
   obtain⟨x,hx,rfl⟩:∃ x,m.ds[i]?=some x/\d=x.d:=by
    rw[aE]at hi
    cases e:m.ds[i]? with
    | none=>rw[e]at hi;cases hi
    | some x=>rw[e]at hi;cases hi;exact⟨x,rfl,rfl⟩
   have hok:=hm.ds.1 x (aK hx)
   have a5:m.ds.take (i+1)=m.ds.take i++[x]:=by
    have hlt:i<m.ds.length:=(ac.mp hx).1
    have e:m.ds[i]=x:=(ac.mp hx).2
    rw[<-e,cA]
   obtain⟨oa,ha⟩:∃ o,C[x.a]?=some o:=⟨C[x.a]'(by rw[a1];exact hok.a),ai _⟩
   obtain⟨ob,hb⟩:∃ o,G[x.b]?=some o:=⟨G[x.b]'(by rw[Z];exact hok.b),ai _⟩
   have ia:ixM (.ref k2) (.int x.a) (s++F)=.ok (ao9 oa) (s++F):=ay7 a6 (aD5 ha)
   have ib:ixM (.ref k4) (.int x.b) (s++F)=.ok (ao9 ob) (s++F):=ay7 g4 (aD5 hb)
   have c3:k2≠k4:=by omega
   have b6:k4<(s++F).length:=(ac.mp g4).1
   have a3:x.d=.tup [.int x.a,.str [x.l],.int x.b,.int x.t]:=rfl
   have stay:ap1 (at7 (av0 m (w.take j)) c (m.ds.take (i+1))) G->∃(b0:Sto) (J:List (Option Int)) (z5 z6 z7 z8:Option D),s++F=s++b0/\(s++F)[k2]?=some (.lst (ae9 C))/\(s++F)[k4]?=some (.lst (ae9 J))/\J.length=m.R/\ap1 (at7 (av0 m (w.take j)) c (m.ds.take (i+1))) J/\[some m.d,some (.str w),some (.ref k2),some (.str [c]),some (.ref k4),some (.int x.a),some (.str [x.l]),some (.int x.b),some (.int x.t)]=[some m.d,some (.str w),some (.ref k2),some (.str [c]),some (.ref k4),z5,z6,z7,z8]:=λ h=>⟨F,G,_,_,_,_,rfl,a6,g4,Z,h,rfl⟩
   by_cases hl:x.l=c
   ·cases oa with
    | none =>
     refine qk (ρ:=[some m.d,some (.str w),some (.ref k2),some (.str [c]),some (.ref k4),some (.int x.a),some (.str [x.l]),some (.int x.b),some (.int x.t)]) (s:=s++F) ?_ (stay ?_)
     ·simp -implicitDefEqProofs only[turn,a3,bindT_tup,setVs_cons,setVs_nil,setV_s,setV_0,dQ,gT,qj,exs_nil,ex_ite,ev_and,ev_cmp,qd,qe,qc,R.bind_ok,bw1,hl,decide_true,tru_bl,if_true,ev_notN,ev_ix,ia,aA1,jk,if_false,bz,zU]
     ·rw[a5]
      refine av7 Y λ c' b2=>?_
      exact a4 x.a none ha c' b2.2
    | some y =>
     have b1:=aT3 Y hl (a4 x.a (some y) ha) hb
     have a8:setIx (.ref k4) (.int x.b) (.int (y+x.t)) (s++F)=.ok () ((s++F).set k4 (.lst (ae9 (G.set x.b (some (y+x.t)))))):=by
      rw[by2 g4 (by rw[aJ1,Z];exact hok.b)]
      unfold ae9
      rw[List.map_set];rfl
     have a7:minO ob (some (y+x.t))=some (y+x.t)->∃(b0:Sto) (J:List (Option Int)) (z5 z6 z7 z8:Option D),(s++F).set k4 (.lst (ae9 (G.set x.b (some (y+x.t)))))=s++b0/\((s++F).set k4 (.lst (ae9 (G.set x.b (some (y+x.t))))))[k2]?=some (.lst (ae9 C))/\((s++F).set k4 (.lst (ae9 (G.set x.b (some (y+x.t))))))[k4]?=some (.lst (ae9 J))/\J.length=m.R/\ap1 (at7 (av0 m (w.take j)) c (m.ds.take (i+1))) J/\[some m.d,some (.str w),some (.ref k2),some (.str [c]),some (.ref k4),some (.int x.a),some (.str [x.l]),some (.int x.b),some (.int x.t)]=[some m.d,some (.str w),some (.ref k2),some (.str [c]),some (.ref k4),z5,z6,z7,z8]:=λ h =>
      ⟨_,G.set x.b (some (y+x.t)),_,_,_,_,aJ3 b4,by rw[aR (bJ c3)];exact a6,qh b6,by simp[Z],by rw[a5,<-h];exact b1,rfl⟩
     cases ob with
     | none =>
      refine qk (ρ:=[some m.d,some (.str w),some (.ref k2),some (.str [c]),some (.ref k4),some (.int x.a),some (.str [x.l]),some (.int x.b),some (.int x.t)]) (s:=(s++F).set k4 (.lst (ae9 (G.set x.b (some (y+x.t)))))) ?_ (a7 rfl)
      simp -implicitDefEqProofs [turn,a3,hl,ia,ib,a8]
     | some z =>
      by_cases hlt:y+x.t<z
      ·refine qk (ρ:=[some m.d,some (.str w),some (.ref k2),some (.str [c]),some (.ref k4),some (.int x.a),some (.str [x.l]),some (.int x.b),some (.int x.t)]) (s:=(s++F).set k4 (.lst (ae9 (G.set x.b (some (y+x.t)))))) ?_ (a7 (by show(if y+(x.t:Int)<z then _ else _)=_;rw[if_pos hlt]))
       simp -implicitDefEqProofs [turn,a3,hl,ia,ib,a8,hlt]
      ·refine qk (ρ:=[some m.d,some (.str w),some (.ref k2),some (.str [c]),some (.ref k4),some (.int x.a),some (.str [x.l]),some (.int x.b),some (.int x.t)]) (s:=s++F) ?_ (stay ?_)
       ·simp -implicitDefEqProofs [turn,a3,hl,ia,ib,hlt]
       ·rw[a5]
        have e:minO (some z) (some (y+(x.t:Int)))=some z:=by show(if y+(x.t:Int)<z then _ else _)=_;rw[if_neg hlt]
        rw[e]at b1
        have e2:G.set x.b (some z)=G:=by
         have e4:x.b<G.length:=(ac.mp hb).1
         have e3:G[x.b]=some z:=(ac.mp hb).2
         rw[<-e3,fe]
        rwa [e2]at b1
   ·refine qk (ρ:=[some m.d,some (.str w),some (.ref k2),some (.str [c]),some (.ref k4),some (.int x.a),some (.str [x.l]),some (.int x.b),some (.int x.t)]) (s:=s++F) ?_ (stay ?_)
    ·simp -implicitDefEqProofs [turn,a3,hl]
    ·rw[a5]
     exact av7 Y λ c' b2=>hl b2.1
  ·rintro ρ v ⟨F,G,y5,y6,y7,y8,rfl,a6,g4,Z,Y,rfl⟩
   rw[au,ed]at Y
   refine qk (ρ:=[some m.d,some (.str w),some (.ref k4),some (.str [c]),some (.ref k4),y5,y6,y7,y8]) (s:=s++F) (by simp -implicitDefEqProofs) ⟨F,k4,G,_,_,_,_,_,_,rfl,b4,g4,Z,?_,rfl⟩
   intro k o hk
   rw[<-d2]
   exact(Y k o hk).congr λ c=>aY2
 ·rintro ρ u ⟨T,k2,C,x3,x4,x5,x6,x7,x8,rfl,d3,g2,a1,a4,rfl⟩
  rw[au,ed]at a4
  have sE:ag8 (.tup (zw m.en)) (s++T)=.ok ⟨zw m.en,[]⟩ (s++T):=rfl
  have e7:m.en.length<=5:=by
   have nd:m.en.Nodup:=hm.en.2.imp (λ h=>aw h)
   have:=du (l₂:=bB m.R) nd (λ x hx=>cj.mpr (hm.en.1 x hx))
   simp at this;omega
  obtain⟨ρ3,s3,e3,d0,_⟩:=zP (ok:=λ a2=>chk (s++T) a2 []) (g:=aD8 (aa1 P n) (.one 0) (.notN (.ix (.var 1) (.var 0))) (.ix (.var 1) (.var 0))) (λ ρ u=>u=s++T/\∃ x,ρ=[x,some (.ref k2)]) (λ d=>match d with|.int i=>(C.getD i.toNat none).map D.int|_=>none) (zw m.en) (qg [some m.d,some (.str w),some (.ref k2),x3,x4,x5,x6,x7,x8] [none,some 2]) (s++T) ⟨rfl,none,rfl⟩ (λ _ _ h=>rfl) (by
   rintro d hd ρ u ⟨rfl,x,rfl⟩
   obtain⟨q,hq,rfl⟩:=aO.mp hd
   have hlt:q<C.length:=by rw[a1];exact hm.en.1 q hq
   have ix:=ay7 (s:=s++T) g2 (aD5 (ai hlt))
   refine⟨[some (.int q),some (.ref k2)],s++T,?_,rfl,_,rfl⟩
   have hg:C.getD ((q:Int).toNat) none=C[q]:=by simp[List.getD,hlt]
   unfold aD8
   simp only[hg]
   cases e:C[q]with
   | none=>rw[e]at ix;simp -implicitDefEqProofs [ix]
   | some y=>rw[e]at ix;simp -implicitDefEqProofs [ix])
  subst d0
  have c2:(zw m.en).filterMap (λ d=>match d with|.int i=>(C.getD i.toNat none).map D.int|_=>none)=(m.en.filterMap λ q=>C.getD q none).map D.int:=by
   unfold zw
   rw[bK,List.map_filterMap]
   exact zA λ q _=>rfl
  rw[c2]at e3
  refine⟨_,aB8 a1 hm.en.1 a4,?_⟩
  have c1:(zw m.en).length<=LIM:=by unfold zw;rw[au];unfold LIM;omega
  simp -implicitDefEqProofs [ixE,sE,c1,e3,by0]
  exact qf (aI5 _) (aK7 _)
theorem good_of {L:Nat}{w:List Nat}(h:w.length<=200)(hw:Lts L w):bI1 L (.str w)=true:=by
 unfold bI1
 simp only[h,decide_true,gF,aW,decide_eq_true_eq]
 exact hw
@[simp] theorem bR7 {F:Fns} {ρ:Env} {s:Sto} (a C h:E):ev F (.slLU a C h) ρ s=(ev F a ρ s).bind λ x s=>(ev F C ρ s).bind λ y s=>match y with|.int i=>(ev F h ρ s).bind (λ z s=>match z with|.int j=>slM x (some i) (some j) s|_=>.bad)|_=>.bad:=rfl
@[simp] theorem bQ1 {F:Fns} {ρ:Env} {s:Sto} (e:E):evI F (.enum (.seq e)) ρ s=(ev F e ρ s).bind λ d s=>(bc5 d s).bind λ q s=>.ok ⟨bs3 0 q.its,q.src⟩ s:=rfl
theorem ah1 {P:Pr}[Has P ab8](n:Nat)(i y z:Int)(s:Sto):(aa1 P (n+1)).call "_law_whole" [.int i,.int y,.int z] s=.ok (.bl (decide (y<=i)&&decide (i<=z))) s:=by
 refine(zg ab8 rfl).trans ?_
 by_cases h:y<=i<;>simp -implicitDefEqProofs [ab8,h]
theorem ah8 {P:Pr}[Has P ab8][Has P ab3](n:Nat){l:List Nat}{k:Nat}(h:(∀ i∈l,i<k)/\l.Pairwise (· < ·))(s:Sto):(aa1 P (n+2)).call "_law_are_rooms" [.tup (zw l),.int k] s=.ok (.bl true) s:=by
 have J:(aa1 P (n+2)).call "_law_are_rooms" [.tup (zw l),.int k] s=_:=zg ab3 (n:=n+1) rfl
 rw[J]
 have F:ag8 (.tup (zw l)) s=.ok ⟨zw l,[]⟩ s:=rfl
 simp -implicitDefEqProofs [ab3,F]
 refine aK9 (λ j ρ t=>t=s/\∃(a:Int) (x:Option D),ρ=[some (.tup (zw l)),some (.int k),some (.int a),x]/\(∀ i∈l.drop j,a<(i:Int))) ⟨rfl,-1,none,rfl,λ i _=>by omega⟩ (λ _ _ _ _ _=>rfl) ?_ ?_
 ·rintro j d ρ t hj ⟨rfl,a,x,rfl,ha⟩
  obtain⟨i,hi,rfl⟩:∃ i,l[j]?=some i/\d=.int (i:Int):=by
   unfold zw at hj
   rw[aE]at hj
   cases e:l[j]? with
   | none=>rw[e]at hj;cases hj
   | some i=>rw[e]at hj;cases hj;exact⟨i,rfl,rfl⟩
  have hlt:j<l.length:=(ac.mp hi).1
  have hij:l[j]=i:=(ac.mp hi).2
  have hd:l.drop j=i::l.drop (j+1):=by rw[<-hij,ef hlt]
  have G:a+1<=(i:Int):=by have:=ha i (by rw[hd];exact aB ..);omega
  have C:(i:Int)<=(k:Int) - 1:=by have:=h.1 i (aK hi);omega
  refine qk (ρ:=[some (.tup (zw l)),some (.int k),some (.int i),some (.int i)]) (s:=t) ?_ ⟨rfl,i,_,rfl,λ y hy=>?_⟩
  ·simp -implicitDefEqProofs [turn,ah1 (P:=P) n,G,C]
  ·have z:=h.2
   rw[<-List.take_append_drop j l,fF]at z
   have:=z.2.1
   rw[hd,gb]at this
   have:=this.1 y hy
   omega
 ·rintro ρ t ⟨rfl,a,x,rfl,_⟩
  simp -implicitDefEqProofs
theorem aC4 {P:Pr}[Has P ab8][Has P ab4](n:Nat){m:Mc}(h:m.Ok){x:Dr}(hx:x.Ok m)(s:Sto):(aa1 P (n+2)).call "_law_is_door" [x.d,.int m.L,.int m.R] s=.ok (.bl true) s:=by
 have e0:(aa1 P (n+2)).call "_law_is_door" [x.d,.int m.L,.int m.R] s=_:=zg ab4 (n:=n+1) rfl
 rw[e0]
 have y:x.d=.tup [.int x.a,.str [x.l],.int x.b,.int x.t]:=rfl
 have J:=bT1 x
 have F:=bT6 x
 have Z:=bU8 x
 have Y:=bS9 x
 rw[y]at J F Z Y ⊢
 have ha:=hx.a;have hb:=hx.b;have ht:=hx.t;have hl:=hx.l
 have iS:bi .isStr [.str [x.l]] s=.ok (.bl true) s:=rfl
 have C:slM (.str [97,98,99]) none (some (m.L:Int)) s=.ok (.str ([97,98,99].take m.L)) s:=by
  have G:=h.L3
  show R.ok (D.str (ai5 [97,98,99] none (some (m.L:Int)))) s=_
  unfold ai5
  simp only[loB,hiB,sbd,eW,lc]
  rw[if_pos (by omega),bH]
  show R.ok (D.str (List.take (min m.L 3) [97,98,99])) s=_
  rw[kj G]
 have z:inM (.str [x.l]) (.str ([97,98,99].take m.L)) s=.ok true s:=by
  show R.ok (decide (x.l∈[97,98,99].take m.L)) s=_
  have h1:=h.L1
  have G:=h.L3
  have:x.l∈[97,98,99].take m.L:=by
   rcases(show m.L=1\/m.L=2\/m.L=3 by omega)with e|e|e<;>(rw[e]at hl ⊢;simp;omega)
  rw[decide_eq_true this]
 have q1:(x.a:Int)<=(m.R:Int) - 1:=by omega
 have q2:(x.b:Int)<=(m.R:Int) - 1:=by omega
 have q3:(x.t:Int)<=3:=by omega
 simp -implicitDefEqProofs [ab4,J,F,Z,Y,iS,ah1 (P:=P) n,q1,q2,q3,C,aD0,z]
theorem ap0 {P:Pr}[Has P ab8][Has P ab3][Has P ab4][Has P aa5](n:Nat){m:Mc}(h:m.Ok)(s:Sto):(aa1 P (n+3)).call "_law_is_machine" [m.d,.int m.L] s=.ok (.bl true) s:=by
 have e0:(aa1 P (n+3)).call "_law_is_machine" [m.d,.int m.L] s=_:=zg aa5 (n:=n+2) rfl
 rw[e0]
 have iT:bi .isTup [m.d] s=.ok (.bl true) s:=rfl
 have Z:bi .len [m.d] s=.ok (.int 5) s:=rfl
 have F:bi .isTup [.tup (m.ds.map Dr.d)] s=.ok (.bl true) s:=rfl
 have C:bi .len [.tup (m.ds.map Dr.d)] s=.ok (.int m.ds.length) s:=by rw[aX6,au]
 have h1:=h.R1;have h5:=h.R5;have a1:=h.ds.2
 have q1:(1:Int)<=(m.R:Int):=by omega
 have q2:(m.R:Int)<=5:=by omega
 have q3:¬((75:Int)<(m.ds.length:Int)):=by omega
 have Y:ag8 (.tup (m.ds.map Dr.d)) s=.ok ⟨m.ds.map Dr.d,[]⟩ s:=rfl
 obtain⟨ρ1,s1,e1,rfl,_⟩:=zP (ok:=λ z=>chk s z []) (g:=ag9 (aa1 P (n+2)) (.one 0) (.call "_law_is_door" (.ex (.var 0) (.ex (.var 1) (.ex (.ix (.var 2) (.cst (.int 1))) .nil))))) (λ ρ u=>u=s/\∃ a,ρ=[a,some (.int m.L),some m.d]) (λ _=>some (.bl true)) (m.ds.map Dr.d) (qg [some m.d,some (.int m.L)] [none,some 1,some 0]) s ⟨rfl,none,rfl⟩ (λ _ _ _=>rfl) (by
  rintro d hd ρ u ⟨rfl,a,rfl⟩
  obtain⟨x,hx,rfl⟩:=aO.mp hd
  exact⟨[some x.d,some (.int m.L),some m.d],u,by unfold ag9;simp -implicitDefEqProofs [ixR,aC4 (P:=P) n h (h.ds.1 x hx)],rfl,_,rfl⟩)
 have y:(m.ds.map Dr.d).length<=LIM:=by rw[au];unfold LIM;omega
 have J:aj2 ((m.ds.map Dr.d).filterMap λ _=>some (D.bl true))=some (m.ds.map λ _=>true):=by
  rw[bK]
  generalize m.ds=l
  induction l with
  | nil=>rfl
  | cons a l ih=>rw[bO];simp only[dR];unfold aj2;rw[ih];rfl
 have G:(m.ds.map λ _=>true).all id=true:=by simp
 simp -implicitDefEqProofs only[aa5,qj,exs_nil,aH,bS,ci,b9,aI,ex_ite,ev_or,ev_not,ev_bi,evs_cons,evs_nil,qd,qe,qc,R.bind_ok,iT,tru_bl,jk,if_false,bz,ev_cmp,Z,ev_cst,Cn_int,ne_int,decide_true,ev_call,evas_ex,evas_nil,ev_ix,ixL,ah1 (P:=P) (n+1),dz,gE,ixR,q1,q2,ixD,F,C,gt_int,q3,decide_false,ixB,ixE,ah8 (P:=P) n h.bg,ah8 (P:=P) n h.en,zU,ex_ret,ev_mk,aj7,evI_seq,Y,y,if_true,e1,mk,J,G,nxt_ret,fin_ret,ba2]
def WL (B:Nat)(l:List D):Prop:=∀ d∈l,∃ w:List Nat,d=.str w/\w.length<=B
theorem WL.app {B:Nat}{l m:List D}(h:WL B l)(y:WL B m):WL B (l++m):=λ d hd=>(bj.mp hd).elim (h d) (y d)
theorem WL.mono {B C:Nat}{l:List D}(h:WL B l)(y:B<=C):WL C l:=λ d hd=>by obtain⟨w,e,hw⟩:=h d hd;exact⟨w,e,by omega⟩
theorem WL.bnd {B:Nat}{l:List D}(h:WL B l):∀ d∈l,∀ n,d.bnd n=true:=λ d hd n=>by obtain⟨w,rfl,_⟩:=h d hd;rfl
def bD2 (s:Sto)(r B:Nat)(x:R D):Prop:=∃(w:List Nat) (b:Nat×Nat),w.length<=B/\x=.ok (.str w) (s.set r (zt b))
theorem bg2 {P:Pr}[Has P ac6][Has P ai2](n:Nat){s:Sto}{r L:Nat}(F:1<=L)(h:L<=3)(hs:∃ b,s[r]?=some (zt b))(B:Nat)(hB:B<=500):bD2 s r B ((aa1 P (n+2)).call "_law_word" [.ref r,.int L,.int B] s):=by
 have C:(aa1 P (n+2)).call "_law_word" [.ref r,.int L,.int B] s=_:=zg ai2 (n:=n+1) rfl
 have hr:=aJ8 hs
 obtain⟨a,z,ha,e1⟩:=zS (P:=P) n hs ((B:Int)+1) (by omega) (qw (by omega))
 rw[C]
 simp -implicitDefEqProofs [ai2,e1]
 rw[ag7 (by unfold W62;omega) (by unfold W62;omega)]
 simp only[R.bind_ok]
 refine zF (W:=bD2 s r B) (λ j ρ u=>∃(b:Nat×Nat) (w:List Nat) (x:Option D),w.length=j/\ρ=[some (.ref r),some (.int L),some (.int B),some (.str w),x]/\u=s.set r (zt b)) ⟨z,[],none,rfl,rfl,rfl⟩ (λ _ _ _ _ _=>rfl) ?_ ?_
 ·rintro j d ρ u hj ⟨b,w,x,hl,rfl,rfl⟩
  obtain⟨y,rfl⟩:=af5 hj
  obtain⟨k,c,hk,f⟩:=zS (P:=P) n (aE7 (b:=b) hr) L (by omega) (qw (by omega))
  rw[dG]at f
  refine qk (ρ:=[some (.ref r),some (.int L),some (.int B),some (.str (w++[97+k])),some (.int j)]) (s:=s.set r (zt c)) ?_ ⟨c,_,_,by simp[hl],rfl,rfl⟩
  simp -implicitDefEqProofs [turn,f,bn9 (show k<3 by omega)]
  rw[aD9 (by unfold LIM;simp;omega)]
  rfl
 ·rintro ρ u ⟨b,w,x,hl,rfl,rfl⟩
  simp -implicitDefEqProofs
  refine⟨w,b,?_,qt (λ _=>rfl) (by nofun) rfl⟩
  rw[hl];simp[ae8];omega
theorem av4 {S:Sto}{k:Nat}{l m:List D}(h:S[k]?=some (.lst l))(hl:l.length+m.length<=LIM):ba9 (.ref k) m S=.ok .non (S.set k (.lst (l++m))):=by
 simp only[ba9,h,hl,if_true]
theorem bg9 {S:Sto}{k q:Nat}{l m:List D}(h:S[k]?=some (.lst l))(hq:S[q]?=some (.lst m))(hl:l.length+m.length<=LIM):extS (.ref k) (.ref q) S=.ok .non (S.set k (.lst (l++m))):=by
 simp only[extS,hq];exact av4 h hl
theorem bC9 {L:Nat}(h:L<=3)(s:Sto):slM (.str [97,98,99]) none (some (L:Int)) s=.ok (.str ([97,98,99].take L)) s:=by
 show R.ok (D.str (ai5 [97,98,99] none (some (L:Int)))) s=_
 unfold ai5
 simp only[loB,hiB,sbd,eW,lc]
 rw[if_pos (by omega),bH]
 show R.ok (D.str (List.take (min L 3) [97,98,99])) s=_
 rw[kj h]
def aX4 (s:Sto)(r:Nat)(x:R D):Prop:=∃(b:Nat×Nat) (ws:List D),WL 200 ws/\x=.ok (.ref s.length) (s.set r (zt b)++[.lst ws])
theorem aN5 {s T:Sto}{r:Nat}{b:Nat×Nat}{ws:List D}(h:WL 200 ws)(hT:(s.set r (zt b)++T)[s.length]?=some (.lst ws)):zK s (.ref s.length) (s.set r (zt b)++T)=.ok (.ref s.length) (s.set r (zt b)++[.lst ws]):=by
 have y:(s.set r (zt b)++T).take s.length=s.set r (zt b):=by rw[fD (by simp),eX (by simp)]
 unfold zK
 rw[if_pos (aw4 s T r (zt b) rfl)]
 simp only
 rw[if_neg (by omega),hT]
 simp only
 rw[if_pos (show(O.lst ws).bnd s.length=true from zr h.bnd _),y]
theorem bf7 {P:Pr}[Has P ac6][Has P ai2][Has P ac7](n:Nat){s:Sto}{r L:Nat}(hL:1<=L)(b1:L<=3)(hs:∃ b,s[r]?=some (zt b)):aX4 s r ((aa1 P (n+3)).call "_law_words" [.ref r,.int L] s):=by
 have e0:(aa1 P (n+3)).call "_law_words" [.ref r,.int L] s=_:=zg ac7 (n:=n+2) rfl
 have hr:=aJ8 hs
 rw[e0]
 simp -implicitDefEqProofs [ac7]
 rw[ag7 (by decide) (by decide)]
 simp only[R.bind_ok]
 refine zF (W:=aX4 s r) (λ j ρ u=>j<=3/\∃(T:Sto) (C:Nat) (ws G:List D) (x4 x5 x6 x7:Option D),u=s++T/\u[s.length]?=some (.lst ws)/\s.length<C/\u[C]?=some (.lst G)/\WL 200 ws/\ws.length<=1+27*j/\WL j G/\G.length<=3^j/\ρ=[some (.ref r),some (.int L),some (.ref s.length),some (.ref C),x4,x5,x6,x7])
  ⟨by omega,[.lst [.str []],.lst [.str []]],s.length+1,[.str []],[.str []],_,_,_,_,rfl,by simp,by omega,by rw[be (by omega),show s.length+1 - s.length=1 by omega];rfl,λ d hd=>⟨[],by simpa using hd,by simp⟩,by simp,λ d hd=>⟨[],by simpa using hd,by simp⟩,by simp,rfl⟩ (λ _ _ _ _ _=>rfl) ?_ ?_
 ·rintro j d ρ u hj ⟨f2,T,C,ws,G,x4,x5,x6,x7,rfl,g2,b7,g3,a1,a4,a6,d1,rfl⟩
  obtain⟨e7,rfl⟩:=af5 hj
  have e4:j<3:=by omega
  have e5:3^j<=9:=by
   rcases(show j=0\/j=1\/j=2 by omega)with e|e|e<;>rw[e]<;>decide
  have e2:C<(s++T).length:=(ac.mp g3).1
  have sq:∀ o,ag8 (.ref C) (s++(T++[o]))=.ok ⟨G,[C]⟩ (s++(T++[o])):=λ o=>by
   have:(s++(T++[o]))[C]?=some (.lst G):=by rw[<-cq];exact zH g3
   simp only[ag8,this]
  conv=>arg 2;simp -implicitDefEqProofs [turn,sq]
  rw[<-cq,<-aC]
  have c1:(s++T++[O.lst []])[(s++T).length]?=some (.lst []):=by simp
  have f1:s.length<(s++T).length:=by omega
  have c4:(s++(T++[O.lst []]))[C]?=some (.lst G):=by rw[<-cq];exact zH g3
  generalize f3:(s++T).length=k5 at *
  refine zF (W:=Nx _) (λ i ρ v=>∃(h:Sto) (Y:List D) (y6:Option D),v=s++h/\v[s.length]?=some (.lst ws)/\v[C]?=some (.lst G)/\v[k5]?=some (.lst Y)/\WL (j+1) Y/\Y.length<=3*i/\i<=G.length/\ρ=[some (.ref r),some (.int L),some (.ref s.length),some (.ref C),some (.int (j:Int)),some (.ref k5),y6,x7])
   ⟨T++[.lst []],[],_,by simp,zH g2,zH g3,c1,λ d hd=>(by cases hd),by simp,by omega,rfl⟩ (λ i ρ v _ ⟨_,_,_,_,_,h3,_⟩=>by simp[chk,h3,c4]) ?_ ?_
  ·rintro i d ρ v hi ⟨h,Y,y6,rfl,z,a8,J,Z,d3,b3,rfl⟩
   obtain⟨w,rfl,a4⟩:=a6 d (aK hi)
   have e1:i<G.length:=(ac.mp hi).1
   have sS:ag8 (.str ([97,98,99].take L)) (s++h)=.ok ⟨([97,98,99].take L).map λ c=>.str [c],[]⟩ (s++h):=rfl
   obtain⟨ρ3,s3,e3,d0,_⟩:=zP (ok:=λ b4=>chk (s++h) b4 []) (g:=ag9 (aa1 P (n+2)) (.one 0) (.bin .add (.var 1) (.var 0))) (λ ρ u=>u=s++h/\∃ x,ρ=[x,some (.str w)]) (λ d=>match d with|.str c=>some (.str (w++c))|_=>none) (([97,98,99].take L).map λ c=>.str [c]) (qg [some (.ref r),some (.int L),some (.ref s.length),some (.ref C),some (.int (j:Int)),some (.ref k5),some (.str w),x7] [none,some 6]) (s++h) ⟨rfl,none,rfl⟩ (λ _ _ _=>rfl) (by
    rintro d hd ρ u ⟨rfl,x,rfl⟩
    obtain⟨c,_,rfl⟩:=aO.mp hd
    refine⟨[some (.str [c]),some (.str w)],s++h,?_,rfl,_,rfl⟩
    unfold ag9
    simp -implicitDefEqProofs only[zQ,setV_0,ev_bin,qd,qe,qc,R.bind_ok]
    rw[aD9 (by simp;unfold LIM;omega)]
    rfl)
   subst d0
   have c2:(([97,98,99].take L).map λ c=>D.str [c]).filterMap (λ d=>match d with|.str c=>some (D.str (w++c))|_=>none)=([97,98,99].take L).map λ c=>D.str (w++[c]):=by
    rw[bK,<-cW]
    exact zA λ _ _=>rfl
   rw[c2]at e3
   have a5:([97,98,99].take L).length=L:=by rw[bF];simp;omega
   have c3:(([97,98,99].take L).map λ c=>D.str [c]).length<=LIM:=by rw[au,a5];unfold LIM;omega
   have a3:=av4 (m:=([97,98,99].take L).map λ c=>D.str (w++[c])) J (by rw[au,a5];unfold LIM;omega)
   have a7:k5<(s++h).length:=(ac.mp J).1
   refine qk (ρ:=[some (.ref r),some (.int L),some (.ref s.length),some (.ref C),some (.int (j:Int)),some (.ref k5),some (.str w),x7]) (s:=(s++h).set k5 (.lst (Y++([97,98,99].take L).map λ c=>D.str (w++[c])))) ?_ ⟨_,_,_,aJ3 (by omega),by rw[aR (by omega)];exact z,by rw[aR (by omega)];exact a8,qh a7,Z.app λ d hd=>?_,?_,by omega,rfl⟩
   ·simp -implicitDefEqProofs only[turn,zQ,setV_s,setV_0,dQ,qj,exs_nil,ex_ex,aZ1,qd,qe,qc,R.bind_ok,aj7,evI_seq,bK3,ev_cst,Cn_str,bC9 b1,sS,c3,if_true,e3,a3,zU]
   ·obtain⟨c,_,rfl⟩:=aO.mp hd
    exact⟨_,rfl,by simp;omega⟩
   ·rw[aC,au,a5];omega
  ·rintro ρ v ⟨h,Y,y6,rfl,z,a8,J,Z,d3,b3,rfl⟩
   have a3:=bg9 z J (by unfold LIM;omega)
   have a2:s.length<(s++h).length:=(ac.mp z).1
   have f0:3^(j+1)=3^j*3:=la ..
   have b5:WL 200 Y:=Z.mono (by omega)
   refine qk (ρ:=[some (.ref r),some (.int L),some (.ref s.length),some (.ref k5),some (.int (j:Int)),some (.ref k5),y6,x7]) (s:=(s++h).set s.length (.lst (ws++Y))) ?_ ⟨by omega,_,k5,ws++Y,Y,_,_,_,_,aJ3 (ak _),qh a2,by omega,by rw[aR (by omega)];exact J,a1.app b5,by rw[aC];omega,Z,?_,rfl⟩
   ·simp -implicitDefEqProofs only[zU,qj,exs_nil,ex_ex,bv6,qd,qe,qc,R.bind_ok,a3,ex_asg,zQ,setV_s,setV_0,dQ,setC_some]
   ·omega
 ·rintro ρ u ⟨_,T,C,ws,G,x4,x5,x6,x7,rfl,g2,b7,g3,a1,a4,a6,d1,rfl⟩
  have b8:(ae8 0 (3:Int)).length=3:=by decide
  rw[b8]at a4
  simp -implicitDefEqProofs
  have g7:(s++(T++[O.lst [D.int 12,D.int 12,D.int 200]]))[s.length+T.length]?=some (.lst [D.int 12,D.int 12,D.int 200]):=by
   rw[<-cq,<-aC];simp
  have sq:ag8 (.ref (s.length+T.length)) (s++(T++[O.lst [D.int 12,D.int 12,D.int 200]]))=.ok ⟨[D.int 12,D.int 12,D.int 200],[s.length+T.length]⟩ (s++(T++[O.lst [D.int 12,D.int 12,D.int 200]])):=by simp only[ag8,g7]
  rw[sq]
  simp only[R.bind_ok]
  have e6:s.length<s.length+T.length:=by
   have:=(ac.mp g2).1
   simpa using this
  have d2:(s++(T++[O.lst [D.int 12,D.int 12,D.int 200]]))[s.length]?=some (.lst ws):=by rw[<-cq];exact zH g2
  obtain⟨b0,c0⟩:=hs
  have d4:s.set r (zt b0)=s:=by
   have e:s[r]=zt b0:=(ac.mp c0).2
   rw[<-e,fe]
  generalize s.length+T.length=k7 at *
  refine zF (W:=aX4 s r) (λ i ρ v=>∃(b:Nat×Nat) (h:Sto) (y:List D) (y7:Option D),v=s.set r (zt b)++h/\v[s.length]?=some (.lst y)/\v[k7]?=some (.lst [D.int 12,D.int 12,D.int 200])/\WL 200 y/\y.length<=100+i/\ρ=[some (.ref r),some (.int L),some (.ref s.length),some (.ref C),x4,x5,x6,y7])
   ⟨b0,_,ws,_,by rw[d4],d2,g7,a1,by omega,rfl⟩ (λ i ρ v _ ⟨_,_,_,_,_,_,h7,_⟩=>by simp[chk,h7,g7]) ?_ ?_
  ·rintro i d ρ v hi ⟨b,h,y,y7,rfl,z,b2,F,a9,rfl⟩
   obtain⟨B,hB,rfl⟩:∃ B:Nat,B<=200/\d=.int (B:Int):=by
    have hd:=aK hi
    simp only[aF,bT,or_false]at hd
    rcases hd with rfl|rfl|rfl
    ·exact⟨12,by decide,rfl⟩
    ·exact⟨12,by decide,rfl⟩
    ·exact⟨200,by decide,rfl⟩
   have f4:i<3:=(ac.mp hi).1
   obtain⟨w,b',hw,ew⟩:=bg2 (P:=P) n (s:=s.set r (zt b)++h) hL b1 ⟨b,zH (qh hr)⟩ B (by omega)
   rw[al6 (by rw[a0];exact hr),dG]at ew
   have hsr:s.length≠r:=by omega
   have gg:∀ k,k≠r->(s.set r (zt b')++h)[k]?=(s.set r (zt b)++h)[k]?:=λ k hk=>by
    have e:s.set r (zt b')++h=(s.set r (zt b)++h).set r (zt b'):=by rw[al6 (by rw[a0];exact hr),dG]
    rw[e,aR (bJ hk)]
   have b6:=aq0 (v:=.str w) ((gg _ hsr).trans z) (by unfold LIM;omega)
   have a2:s.length<(s.set r (zt b')++h).length:=(ac.mp ((gg _ hsr).trans z)).1
   refine qk (ρ:=[some (.ref r),some (.int L),some (.ref s.length),some (.ref C),x4,x5,x6,some (.int B)]) (s:=(s.set r (zt b')++h).set s.length (.lst (y++[.str w]))) ?_ ⟨b',h.set (s.length - (s.set r (zt b')).length) (.lst (y++[.str w])),y++[.str w],_,aJ3 (by simp),qh a2,by rw[aR (by omega),gg k7 (by omega)];exact b2,F.app λ d hd=>⟨w,aU.mp hd,by omega⟩,by simp;omega,rfl⟩
   simp -implicitDefEqProofs only[turn,zQ,setV_s,setV_0,dQ,qj,exs_nil,ex_ex,ev_meth,evs_cons,evs_nil,ev_call,evas_ex,evas_nil,qd,qe,qc,R.bind_ok,ew,b6,zU]
  ·rintro ρ v ⟨b,h,y,y7,rfl,z,b2,F,a9,rfl⟩
   simp -implicitDefEqProofs
   exact⟨b,y,F,aN5 F z⟩
end DV
end
local macro_rules | `(tactic| tbr_iter [$xs,*]) => `(tactic| simp -implicitDefEqProofs only [DV.qj, DV.exs_nil, DV.ex_asg, DV.ex_ite, DV.ex_ret, DV.ex_ex, DV.ex_for, DV.ex_whl, DV.ex_setIx, DV.ex_cont, DV.ex_pass, DV.ex_und, DV.qd, DV.ev_cst, DV.ev_bin, DV.ev_not, DV.ev_cmp, DV.ev_and, DV.ev_or, DV.ev_ite, DV.ev_tup, DV.ev_lst, DV.ev_ix, DV.ev_call, DV.ev_bi, DV.ev_mk, DV.ev_mkD, DV.ev_mks, DV.ev_mkDs, DV.ev_meth, DV.ev_isN, DV.ev_notN, DV.evs_nil, DV.evs_cons, DV.evas_nil, DV.evas_ex, DV.evI_seq, DV.evI_rng1, DV.evL_seq, DV.Cn_bl, DV.Cn_int, DV.Cn_non, DV.Cn_str, DV.R.bind_ok, DV.zQ, DV.bindT_tup, DV.setVs_nil, DV.setVs_cons, DV.setV_s, DV.setV_0, DV.unsetV_s, DV.unsetV_0, DV.qe, DV.qc, Option.map_some, Option.bind_some, DV.setC_some, DV.zU, DV.nxt_ret, DV.nxt_cont, DV.fin_ret, DV.fin_next, DV.add_int, DV.sub_int, DV.lt_int, DV.le_int, DV.gt_int, DV.ge_int, DV.eq_int, DV.ne_int, DV.alloc_eq, DV.tru_bl, if_true, if_false, Bool.false_eq_true, decide_true, decide_false, Bool.not_true, Bool.not_false, $[$xs:term],*])
noncomputable section
namespace DV
noncomputable def Dr.way (x:Dr):Nat×Nat×Nat:=(x.a,x.l,x.b)
noncomputable def Dr.wd (x:Dr):D:=.tup [.int x.a,.str [x.l],.int x.b]
noncomputable def Dr.en (x:Dr):D×D:=(x.wd,.int x.t)
theorem aL5 {x y:Dr}:y.wd=x.wd↔y.way=x.way:=by
 constructor
 ·intro h
  unfold Dr.wd at h
  simp only[D.tup.injEq,List.cons.injEq,D.int.injEq,D.str.injEq,and_true]at h
  unfold Dr.way
  rw[show y.a=x.a by omega,h.2.1,show y.b=x.b by omega]
 ·intro h
  unfold Dr.way at h
  simp only[jn]at h
  unfold Dr.wd
  rw[h.1,h.2.1,h.2.2]
theorem aF6 (x:Dr):∀ ds:List Dr,look x.wd (ds.map Dr.en)=(ds.find? λ y=>decide (y.way=x.way)).map λ y=>.int y.t
 | []=>rfl
 | y::ds=>by
  rw[aH,c5]
  unfold look
  show(if y.wd=x.wd then some (D.int y.t)else look x.wd (ds.map Dr.en))=_
  by_cases h:y.way=x.way
  ·rw[if_pos (aL5.mpr h),decide_eq_true h];rfl
  ·rw[if_neg (λ z=>h (aL5.mp z)),decide_eq_false h,aF6 x ds]
noncomputable def an1 (x:Dr)(ds:List Dr):Nat:=match ds.find? λ y=>decide (y.way=x.way)with
 | some y=>if y.t<x.t then y.t else x.t
 | none=>x.t
noncomputable def bm7 (x:Dr)(ds:List Dr):List Dr:=match ds.find? λ y=>decide (y.way=x.way)with
 | some _=>ds.map λ z=>if z.way=x.way then⟨z.a,z.l,z.b,an1 x ds⟩else z
 | none=>ds++[x]
theorem bw8 (x:Dr)(ds:List Dr):aq9 x.wd (.int (an1 x ds)) (ds.map Dr.en)=(bm7 x ds).map Dr.en:=by
 unfold aq9
 rw[aF6]
 unfold bm7
 generalize C:an1 x ds=v
 unfold an1 at C
 cases e:ds.find? λ y=>decide (y.way=x.way)with
 | none =>
  rw[e]at C
  subst C
  simp only[Option.map_none,jy,bz,if_false,fK]
  rfl
 | some y =>
  simp only[dQ,f8,if_true,d9]
  refine List.map_congr_left λ z _=>?_
  show(if z.wd=x.wd then(z.wd,D.int v)else z.en)=_
  simp only[dR]
  by_cases h:z.way=x.way
  ·rw[if_pos (aL5.mpr h),if_pos h];rfl
  ·rw[if_neg (λ q=>h (aL5.mp q)),if_neg h]
structure Br (pre ds:List Dr):Prop where
 sub:∀ y∈ds,y∈pre
 dom:∀ x∈pre,∃ y∈ds,y.way=x.way/\y.t<=x.t
 nd:ds.Pairwise λ x y=>x.way≠y.way
theorem Br.nil:Br [] []:=⟨λ y h=>(by cases h),λ y h=>(by cases h),List.Pairwise.nil⟩
theorem Br.step {pre ds:List Dr}(h:Br pre ds)(x:Dr):Br (pre++[x]) (bm7 x ds):=by
 unfold bm7
 cases e:ds.find? λ y=>decide (y.way=x.way)with
 | none =>
  have hn:∀ y∈ds,y.way≠x.way:=λ y hy z=>by
   have:=List.find?_eq_none.mp e y hy
   simp[z]at this
  refine⟨λ y hy=>?_,λ d hd=>?_,?_⟩
  ·rcases bj.mp hy with z|z
   ·exact cB _ (h.sub y z)
   ·exact aY _ z
  ·rcases bj.mp hd with z|z
   ·obtain⟨y,F,J⟩:=h.dom d z
    exact⟨y,cB _ F,J⟩
   ·rw[aU.mp z]
    exact⟨x,aY _ (aU.mpr rfl),rfl,ak _⟩
  ·rw[fF]
   exact⟨h.nd,List.pairwise_singleton _ _,λ a ha b hb=>by rw[aU.mp hb];exact hn a ha⟩
 | some y =>
  have hy:y∈ds:=List.mem_of_find?_eq_some e
  have C:y.way=x.way:=by have:=List.find?_some e;simpa using this
  have hf:an1 x ds=if y.t<x.t then y.t else x.t:=by unfold an1;rw[e]
  have one:∀ z∈ds,z.way=x.way->z=y:=λ z hz q=>by
   have key:∀ l:List Dr,(l.Pairwise λ x y=>x.way≠y.way)->z∈l->y∈l->z=y:=by
    intro l
    induction l with
    | nil=>intro _ F;cases F
    | cons a l ih =>
     intro Z F J
     rw[gb]at Z
     rcases aF.mp F with z1|z1<;>rcases aF.mp J with z2|z2
     ·rw[z1,z2]
     ·exact absurd (by rw[<-z1,q,C]) (Z.1 y z2)
     ·exact absurd (by rw[<-z2,q,C]) (Z.1 z z1)
     ·exact ih Z.2 z1 z2
   exact key ds h.nd hz hy
  refine⟨λ d hd=>?_,λ d hd=>?_,?_⟩
  ·obtain⟨z,hz,rfl⟩:=aO.mp hd
   by_cases q:z.way=x.way
   ·rw[if_pos q,one z hz q,hf]
    by_cases hlt:y.t<x.t
    ·rw[if_pos hlt];exact cB _ (h.sub y hy)
    ·rw[if_neg hlt]
     have:(⟨y.a,y.l,y.b,x.t⟩:Dr)=x:=by
      unfold Dr.way at C
      simp only[jn]at C
      rw[C.1,C.2.1,C.2.2]
     rw[this];exact aY _ (aU.mpr rfl)
   ·rw[if_neg q];exact cB _ (h.sub z hz)
  ·have Y:∀ z∈ds,∃ G∈ds.map (λ z=>if z.way=x.way then(⟨z.a,z.l,z.b,an1 x ds⟩:Dr)else z),G.way=z.way/\G.t<=z.t/\(z.way=x.way->G.t<=x.t):=λ z hz=>by
    refine⟨_,aS hz,?_⟩
    by_cases q:z.way=x.way
    ·rw[if_pos q,one z hz q,hf]
     refine⟨rfl,?_,λ _=>?_⟩<;>simp only<;>split<;>omega
    ·rw[if_neg q];exact⟨rfl,ak _,λ z=>absurd z q⟩
   rcases bj.mp hd with z|z
   ·obtain⟨y',F,J,h3⟩:=h.dom d z
    obtain⟨G,g1,g2,g3,_⟩:=Y y' F
    exact⟨G,g1,g2.trans J,am g3 h3⟩
   ·rw[aU.mp z]
    obtain⟨G,g1,g2,_,g4⟩:=Y y hy
    exact⟨G,g1,g2.trans C,g4 C⟩
  ·rw[gx]
   refine h.nd.imp λ {a b} q=>?_
   have:∀ z:Dr,(if z.way=x.way then(⟨z.a,z.l,z.b,an1 x ds⟩:Dr)else z).way=z.way:=λ z=>by split<;>rfl
   rw[this,this];exact q
theorem ac0.br {S C:Int->Prop}{o:Option Int}(G:∀ c,C c->S c)(F:∀ c,S c->∃ y,C y/\y<=c)(h:ac0 C o):ac0 S o:=by
 cases o with
 | none=>exact λ c hc=>by obtain⟨y,z,_⟩:=F c hc;exact h y z
 | some a=>exact⟨G a h.1,λ c hc=>by obtain⟨y,z,J⟩:=F c hc;have:=h.2 y z;omega⟩
theorem Br.wk {pre ds:List Dr}(h:Br pre ds):∀ {w:List Nat} {p q:Nat} {c:Int},(Wk ds w p q c->Wk pre w p q c)/\(Wk pre w p q c->∃ F,Wk ds w p q F/\F<=c)
 | [],p,q,c=>⟨λ z=>z,λ z=>⟨c,z,dz _⟩⟩
 | x::w,p,q,c=>by
  refine⟨?_,?_⟩
  ·rintro⟨d,hd,ha,hl,F,hw,rfl⟩
   exact⟨d,h.sub d hd,ha,hl,F,h.wk.1 hw,rfl⟩
  ·rintro⟨d,hd,ha,hl,F,hw,rfl⟩
   obtain⟨y,hy,C,Y⟩:=h.dom d hd
   unfold Dr.way at C
   simp only[jn]at C
   obtain⟨c2,G,J⟩:=h.wk.2 hw
   exact⟨y.t+c2,⟨y,hy,C.1.trans ha,C.2.1.trans hl,c2,by rw[C.2.2];exact G,rfl⟩,by omega⟩
theorem Br.least {pre ds:List Dr}(h:Br pre ds){L R:Nat}{bg en w:List Nat}{o:Option Int}(hl:ac0 (Mc.Wk ⟨L,R,bg,en,ds⟩ w) o):ac0 (Mc.Wk ⟨L,R,bg,en,pre⟩ w) o :=
 hl.br (λ c ⟨p,y,q,hq,k⟩=>⟨p,y,q,hq,h.wk.1 k⟩) λ c ⟨p,y,q,hq,k⟩=>by
  obtain⟨C,F,z⟩:=h.wk.2 k
  exact⟨C,⟨p,y,q,hq,F⟩,z⟩
theorem Br.few {pre ds:List Dr}(h:Br pre ds){L R:Nat}(J:R<=5)(G:L<=3)(y:∀ x∈pre,x.a<R/\(97<=x.l/\x.l<97+L)/\x.b<R):ds.length<=75:=by
 have nd:(ds.map λ x:Dr=>x.a*15+(x.l - 97)*5+x.b).Nodup:=by
  show List.Pairwise _ _
  rw[gx]
  refine kR (λ {a b} ha hb q z=>q ?_) h.nd
  have Y:=y a (h.sub a ha)
  have F:=y b (h.sub b hb)
  unfold Dr.way
  have e1:a.a=b.a:=by omega
  have e2:a.l=b.l:=by omega
  have C:a.b=b.b:=by omega
  rw[e1,e2,C]
 have:=du (l₂:=bB 75) nd (λ c hc=>by
  obtain⟨x,hx,rfl⟩:=aO.mp hc
  have:=y x (h.sub x hx)
  exact cj.mpr (by omega))
 simpa using this
@[simp] theorem bX0 {F:Fns} {ρ:Env} {s:Sto}:ev F .dicT ρ s=.ok (.ref s.length) (s++[.dit []]):=rfl
@[simp] theorem bq7 {F:Fns} {ρ:Env} {s:Sto} (o k d:E):ev F (.get2 o k d) ρ s=(ev F o ρ s).bind λ x s=>(ev F k ρ s).bind λ y s=>(ev F d ρ s).bind λ z s=>bn5 x y z s:=rfl
@[simp] theorem bp2 {F:Fns} {ρ:Env} {s:Sto} (e:E):evL F (.itm e) ρ s=(ev F e ρ s).bind λ d s=>bo0 d s:=rfl
theorem aY7 (x:Dr):x.wd.keyT=true:=rfl
theorem bF3 (ds:List Dr):(ds.map Dr.en).map bS1=ds.map Dr.d:=by rw[d9];rfl
theorem bv2 {s:Sto}{l:List (D×D)}{k e:D}(hk:k.keyT=true):bn5 (.ref s.length) k e (s++[.dit l])=.ok ((look k l).getD e) (s++[.dit l]):=by
 have h:(s++[O.dit l])[s.length]?=some (.dit l):=by simp
 simp only[bn5,h,hk,if_true]
theorem bv0 {s:Sto}{l:List (D×D)}{k e:D}(hk:k.keyT=true)(hl:l.length<LIM):setIx (.ref s.length) k e (s++[.dit l])=.ok () (s++[.dit (aq9 k e l)]):=by
 have h:(s++[O.dit l])[s.length]?=some (.dit l):=by simp
 simp only[setIx,h,hk,hl,decide_true,Bool.and_self,if_true]
 congr 1
 simp
theorem by8 {s:Sto}{ds:List Dr}(hl:ds.length<=LIM):bo0 (.ref s.length) (s++[.dit (ds.map Dr.en)])=.ok (ds.map Dr.d) (s++[.dit (ds.map Dr.en)]):=by
 have h:(s++[O.dit (ds.map Dr.en)])[s.length]?=some (.dit (ds.map Dr.en)):=by simp
 simp only[bo0,h,au,hl,if_true,bF3]
theorem bp3 (x:Dr)(ds:List Dr)(s:Sto):bi .min2 [.int x.t,(look x.wd (ds.map Dr.en)).getD (.int x.t)] s=.ok (.int (an1 x ds)) s:=by
 rw[aF6]
 unfold an1
 cases e:ds.find? λ y=>decide (y.way=x.way)with
 | none=>show R.ok (D.int (if(x.t:Int)<x.t then _ else _)) s=_;rw[if_neg (by omega)]
 | some y =>
  show R.ok (D.int (if(y.t:Int)<x.t then(y.t:Int)else x.t)) s=_
  by_cases h:y.t<x.t
  ·rw[if_pos (by omega)];simp only[h,if_true]
  ·rw[if_neg (by omega)];simp only[h,if_false]
theorem bh1 (x:Dr)(ds:List Dr):(bm7 x ds).length<=ds.length+1:=by
 unfold bm7
 split
 ·rw[au];omega
 ·rw[aC];exact ak _
def BrR (m:Mc)(Rm:Int)(B E:List D)(ds:List Dr)(s:Sto)(x:R D):Prop:=∃ ds',Br ds ds'/\x=.ok (.tup [.int m.L,.int Rm,.tup B,.tup E,.tup (ds'.map Dr.d)]) s
theorem aO9 {P:Pr}[Has P aa6][HasC P "LETTERS" (.tup aD4)][Has P ac3](n:Nat){m:Mc}(hm:m.Ok)(Rm:Int){B E:List D}(hB:∀ d∈B,∀ n,d.bnd n=true)(hE:∀ d∈E,∀ n,d.bnd n=true){ds:List Dr}(a4:ds.length<=10000){s:Sto}{k:Nat}(hk:s[k]?=some (.lst (ds.map Dr.d))) :
  BrR m Rm B E ds s ((aa1 P (n+2)).call "brought" [m.d,.int Rm,.tup B,.tup E,.ref k] s):=by
 have e0:(aa1 P (n+2)).call "brought" [m.d,.int Rm,.tup B,.tup E,.ref k] s=_:=zg ac3 (n:=n+1) rfl
 rw[e0]
 have sq:ag8 (.ref k) (s++[.dit []])=.ok ⟨ds.map Dr.d,[k]⟩ (s++[.dit []]):=by simp only[ag8,zH hk]
 simp -implicitDefEqProofs [ac3,sq]
 refine zF (W:=BrR m Rm B E ds s) (λ j ρ t=>∃(h:List Dr) (x6 Y C x9 z:Option D),Br (ds.take j) h/\h.length<=j/\j<=ds.length/\ρ=[some m.d,some (.int Rm),some (.tup B),some (.tup E),some (.ref k),some (.ref s.length),x6,Y,C,x9,z]/\t=s++[.dit (h.map Dr.en)])
  ⟨[],_,_,_,_,_,by rw[kI];exact .nil,ak _,cu _,rfl,rfl⟩ (λ j ρ t _ ⟨_,_,_,_,_,_,_,_,_,_,ht⟩=>by rw[ht];simp[chk,zH hk]) ?_ ?_
 ·rintro j d ρ t hj ⟨h,x6,Y,C,x9,z,hb,y,a1,rfl,rfl⟩
  obtain⟨x,hx,rfl⟩:∃ x,ds[j]?=some x/\d=x.d:=by
   rw[aE]at hj
   cases e:ds[j]? with
   | none=>rw[e]at hj;cases hj
   | some x=>rw[e]at hj;cases hj;exact⟨x,rfl,rfl⟩
  have hlt:j<ds.length:=(ac.mp hx).1
  have a3:ds.take (j+1)=ds.take j++[x]:=by
   have e:ds[j]=x:=(ac.mp hx).2
   rw[<-e,cA]
  have g1:=bv2 (s:=s) (l:=h.map Dr.en) (e:=.int x.t) (aY7 x)
  have g2:=bp3 x h (s++[.dit (h.map Dr.en)])
  have J:=bv0 (s:=s) (l:=h.map Dr.en) (e:=.int (an1 x h)) (aY7 x) (by rw[au];unfold LIM;omega)
  rw[bw8]at J
  have il:=bh1 x h
  refine qk (ρ:=[some m.d,some (.int Rm),some (.tup B),some (.tup E),some (.ref k),some (.ref s.length),some (.int x.a),some (.str [x.l]),some (.int x.b),some (.int x.t),some x.wd]) (s:=s++[.dit ((bm7 x h).map Dr.en)]) ?_ ⟨bm7 x h,_,_,_,_,_,by rw[a3];exact hb.step x,by omega,hlt,rfl,rfl⟩
  have G:x.d=.tup [.int x.a,.str [x.l],.int x.b,.int x.t]:=rfl
  have Z:x.wd=.tup [.int x.a,.str [x.l],.int x.b]:=rfl
  rw[Z]at g1 g2 J ⊢
  tbr_iter [turn,G,bq7,g1,g2,J]
 ·rintro ρ t ⟨h,x6,Y,C,x9,z,hb,y,a1,rfl,rfl⟩
  rw[au,ed]at hb
  rw[au]at y
  have hL:=ah2 (P:=P) n (L:=m.L) hm.L3 [.int m.R,.tup (zw m.bg),.tup (zw m.en),.tup (m.ds.map Dr.d)] (s++[.dit (h.map Dr.en)])
  have a2:(aa1 P (n+1)).call "letters_of" [m.d] (s++[.dit (h.map Dr.en)])=.ok (.tup (aD4.take m.L)) _:=hL
  have F:((aD4.take m.L).length:Int)=(m.L:Int):=by
   rw[bF]
   have:=hm.L3
   show((min m.L 3:Nat):Int)=_
   omega
  have g:=by8 (s:=s) (ds:=h) (by unfold LIM;omega)
  refine⟨h,hb,?_⟩
  tbr_iter [zU,a2,aX6,F,bp2,g,mk]
  refine qf (λ n=>?_) (by nofun)
  unfold D.bnd
  refine zr (λ d hd n=>?_) n
  simp only[aF,bT,or_false]at hd
  rcases hd with rfl|rfl|rfl|rfl|rfl
  ·rfl
  ·rfl
  ·unfold D.bnd;exact zr hB n
  ·unfold D.bnd;exact zr hE n
  ·unfold D.bnd;exact zr an3 n
noncomputable def Dr.mv (k:Nat)(x:Dr):Dr:=⟨x.a+k,x.l,x.b+k,x.t⟩
theorem Mc.Ok.low {m:Mc}(h:m.Ok):∀ d∈m.ds,d.a<m.R/\d.b<m.R:=λ d hd=>⟨(h.ds.1 d hd).a,(h.ds.1 d hd).b⟩
theorem Br.okM {L R:Nat}{bg en:List Nat}{pre ds:List Dr}(hb:Br pre ds)(L1:1<=L)(L3:L<=3)(R1:1<=R)(R5:R<=5)(y:(∀ k∈bg,k<R)/\bg.Pairwise (· < ·))(z:(∀ k∈en,k<R)/\en.Pairwise (· < ·))
  (h:∀ x∈pre,x.a<R/\(97<=x.l/\x.l<97+L)/\x.b<R/\x.t<4):(⟨L,R,bg,en,ds⟩:Mc).Ok :=
 ⟨L1,L3,R1,R5,y,z,λ x hx=>by
  have:=h x (hb.sub x hx)
  exact⟨this.1,this.2.1,this.2.2.1,this.2.2.2⟩,hb.few R5 L3 λ x hx=>⟨(h x hx).1,(h x hx).2.1,(h x hx).2.2.1⟩⟩
section
variable {P:Pr}
theorem bJ0 {L:Nat}(h:L<=3)(s:Sto):ql .ne (.tup (aD4.take L)) (.tup (aD4.take L)) s=.ok (.bl false) s:=by
 rcases(show L=0\/L=1\/L=2\/L=3 by omega)with e|e|e|e<;>subst e<;>rfl
theorem au5 [Has P aa6][HasC P "LETTERS" (.tup aD4)][Has P ab0](n:Nat){h y:Mc}(z:h.Ok)(C:h.L=y.L)(s:Sto):(aa1 P (n+2)).call "check_pair" [h.d,y.d] s=.ok .non s:=by
 have J:(aa1 P (n+2)).call "check_pair" [h.d,y.d] s=_:=zg ab0 (n:=n+1) rfl
 rw[J]
 have F:(aa1 P (n+1)).call "letters_of" [h.d] s=.ok (.tup (aD4.take h.L)) s:=ah2 (P:=P) n z.L3 [.int h.R,.tup (zw h.bg),.tup (zw h.en),.tup (h.ds.map Dr.d)] s
 have G:(aa1 P (n+1)).call "letters_of" [y.d] s=.ok (.tup (aD4.take h.L)) s:=by
  have:=ah2 (P:=P) n (L:=y.L) (by rw[<-C];exact z.L3) [.int y.R,.tup (zw y.bg),.tup (zw y.en),.tup (y.ds.map Dr.d)] s
  rw[C];exact this
 tbr_iter [ab0,aH,bS,ci,b9,aI,F,G,bJ0 z.L3,al8]
theorem ao7 [HasC P "MOST_ROOMS" (.int 5)][Has P aa8](n:Nat){r:Int}(h:r<=5)(s:Sto):(aa1 P (n+1)).call "check_rooms" [.int r] s=.ok .non s:=by
 have y:(aa1 P (n+1)).call "check_rooms" [.int r] s=_:=zg aa8 (n:=n) rfl
 rw[y]
 have hg:ev (aa1 P n) (.glob "MOST_ROOMS") [some (.int r)] s=.ok (.int 5) s:=by
  show(match(aa1 P n).con "MOST_ROOMS" with|some d=>R.ok d s|none=>.bad)=_
  rw[aE8 (v:=.int 5)]
 have hn:¬((5:Int)<r):=by omega
 tbr_iter [aa8,aH,bS,ci,b9,aI,hg,hn,al8]
end
section
variable {P:Pr}
end
theorem bM2 (p:Option Int)(s:Sto):ql .ne (ao9 p) (ao9 p) s=.ok (.bl false) s:=by
 cases p with
 | none=>rfl
 | some i =>
  show(match eqv s DEEP (.int i) (.int i)with|some r=>R.ok (D.bl (!r)) s|none=>.bad)=_
  have:eqv s DEEP (.int i) (.int i)=some (i==i):=rfl
  rw[this];simp
def Tru (s:Sto)(x:R D):Prop:=x=.ok (.bl true) s
section
variable {P:Pr}
end
theorem ca3 {a b p q w:Nat}(hb:b<w)(hq:q<w)(h:a*w+b=p*w+q):a=p/\b=q:=by
 rcases eY a p with z|z|z
 ·have:=cF w (c9 z)
  rw[dC]at this;omega
 ·subst z;exact⟨rfl,by omega⟩
 ·have:=cF w (c9 z)
  rw[dC]at this;omega
noncomputable def qo (w:Nat)(l l':List Nat):List Nat:=l.flatMap λ r=>l'.map λ q=>r*w+q
noncomputable def bc3 (w:Nat)(x y:Dr):Dr:=⟨x.a*w+y.a,x.l,x.b*w+y.b,x.t+y.t⟩
noncomputable def z4 (w:Nat)(ds es:List Dr):List Dr:=ds.flatMap λ x=>(es.filter λ y=>decide (y.l=x.l)).map (bc3 w x)
theorem ag5 {w:Nat}{l y:List Nat}{i:Nat}:i∈qo w l y↔∃ r∈l,∃ q∈y,i=r*w+q:=by
 unfold qo
 rw[j7]
 constructor
 ·rintro⟨r,hr,h⟩
  obtain⟨q,hq,rfl⟩:=aO.mp h
  exact⟨r,hr,q,hq,rfl⟩
 ·rintro⟨r,hr,q,hq,rfl⟩
  exact⟨r,hr,aS hq⟩
theorem ak3 {w:Nat}{ds es:List Dr}{d:Dr}:d∈z4 w ds es↔∃ x∈ds,∃ y∈es,y.l=x.l/\d=bc3 w x y:=by
 unfold z4
 rw[j7]
 constructor
 ·rintro⟨r,hr,h⟩
  obtain⟨q,hq,rfl⟩:=aO.mp h
  obtain⟨C,z⟩:=eC.mp hq
  exact⟨r,hr,q,C,of_decide_eq_true z,rfl⟩
 ·rintro⟨r,hr,q,hq,hl,rfl⟩
  exact⟨r,hr,aS (eC.mpr ⟨hq,decide_eq_true hl⟩)⟩
theorem ar8 {w:Nat}{ds es:List Dr}(G:∀ e∈es,e.a<w/\e.b<w):∀ {v:List Nat} {p q r:Nat} {c:Int},q<w->(Wk (z4 w ds es) v (p*w+q) r c↔∃ F C:Nat,∃ h c2:Int,r=F*w+C/\C<w/\Wk ds v p F h/\Wk es v q C c2/\c=h+c2)
 | [],p,q,r,c,hq=>by
  constructor
  ·rintro⟨rfl,rfl⟩;exact⟨p,q,0,0,rfl,hq,⟨rfl,rfl⟩,⟨rfl,rfl⟩,rfl⟩
  ·rintro⟨_,_,_,_,rfl,_,⟨rfl,rfl⟩,⟨rfl,rfl⟩,rfl⟩;exact⟨rfl,rfl⟩
 | z::v,p,q,r,c,hq=>by
  constructor
  ·rintro⟨d,hd,ha,hl,c',hw,rfl⟩
   obtain⟨x,hx,y,hy,J,rfl⟩:=ak3.mp hd
   obtain⟨rfl,rfl⟩:=ca3 (G y hy).1 hq ha
   obtain⟨F,C,h,c2,e1,e2,Z,w2,rfl⟩:=(ar8 G (G y hy).2).mp hw
   exact⟨F,C,x.t+h,y.t+c2,e1,e2,⟨x,hx,rfl,hl,h,Z,rfl⟩,⟨y,hy,rfl,J.trans hl,c2,w2,rfl⟩,by show((x.t+y.t:Nat):Int)+(h+c2)=_;omega⟩
  ·rintro⟨F,C,_,_,e1,e2,⟨x,hx,rfl,hl,h,Z,rfl⟩,⟨y,hy,rfl,Y,c2,w2,rfl⟩,rfl⟩
   exact⟨bc3 w x y,ak3.mpr ⟨x,hx,y,hy,Y.trans hl.symm,rfl⟩,rfl,hl,h+c2,(ar8 G (G y hy).2).mpr ⟨F,C,h,c2,e1,e2,Z,w2,rfl⟩,by show _=((x.t+y.t:Nat):Int)+(h+c2);omega⟩
noncomputable def cb3 (m1 m2:Mc):Mc:=⟨m1.L,m1.R*m2.R,qo m2.R m1.bg m2.bg,qo m2.R m1.en m2.en,z4 m2.R m1.ds m2.ds⟩
theorem bM9 {Z Y:Mc}(z:Y.Ok)(v:List Nat)(c:Int):(cb3 Z Y).Wk v c↔∃ C c2:Int,Z.Wk v C/\Y.Wk v c2/\c=C+c2:=by
 constructor
 ·rintro⟨i,hi,j,hj,hw⟩
  obtain⟨p,G,q,hq,rfl⟩:=ag5.mp hi
  obtain⟨F,y,q2,h,rfl⟩:=ag5.mp hj
  obtain⟨p',q',C,c2,e1,e2,J,w2,rfl⟩:=(ar8 z.low (z.bg.1 q hq)).mp hw
  obtain⟨rfl,rfl⟩:=ca3 (z.en.1 q2 h) e2 e1
  exact⟨C,c2,⟨p,G,F,y,J⟩,⟨q,hq,q2,h,w2⟩,rfl⟩
 ·rintro⟨C,c2,⟨p,G,F,y,J⟩,⟨q,hq,q2,h,w2⟩,rfl⟩
  exact⟨_,ag5.mpr ⟨p,G,q,hq,rfl⟩,_,ag5.mpr ⟨F,y,q2,h,rfl⟩,(ar8 z.low (z.bg.1 q hq)).mpr ⟨F,q2,C,c2,rfl,z.en.1 q2 h,J,w2,rfl⟩⟩
noncomputable def bJ8:Option Int->Option Int->Option Int
 | some a,some b=>some (a+b)
 | _,_=>none
theorem ac0.addP {S T:Int->Prop}{a b:Option Int}(h:ac0 S a)(h':ac0 T b):ac0 (λ c=>∃ y c2:Int,S y/\T c2/\c=y+c2) (bJ8 a b):=by
 cases a with
 | none=>rintro c ⟨y,c2,C,_⟩;exact h y C
 | some i=>cases b with
  | none=>rintro c ⟨y,c2,_,z,_⟩;exact h' c2 z
  | some j=>exact⟨⟨i,j,h.1,h'.1,rfl⟩,λ c ⟨y,c2,C,z,e⟩=>by have:=h.2 y C;have:=h'.2 c2 z;show i+j<=c;omega⟩
theorem ah0 {k r:Nat}{C:List Nat}(h':(∀ i∈C,i<r)/\C.Pairwise (· < ·)):∀ {l:List Nat},(∀ i∈l,i<k)/\l.Pairwise (· < ·)->(∀ i∈qo r l C,i<k*r)/\(qo r l C).Pairwise (· < ·)
 | [],_=>⟨λ i (F:i∈([]:List Nat))=>absurd F bT,List.Pairwise.nil⟩
 | x::l,h=>by
  have J:=gb.mp h.2
  have G:=ah0 h' (l:=l) ⟨λ i F=>h.1 i (av _ F),J.2⟩
  have hx:=h.1 x (aB ..)
  have e:qo r (x::l) C=(C.map λ q=>x*r+q)++qo r l C:=by unfold qo;rw[dZ]
  rw[e]
  refine⟨λ i F=>?_,?_⟩
  ·rcases bj.mp F with z|z
   ·obtain⟨q,hq,rfl⟩:=aO.mp z
    have:=cF r (c9 hx)
    have:=h'.1 q hq
    rw[dC]at *;omega
   ·exact G.1 i z
  ·rw[fF]
   refine⟨?_,G.2,λ a ha b hb=>?_⟩
   ·rw[gx];exact h'.2.imp λ q=>by omega
   ·obtain⟨q,hq,rfl⟩:=aO.mp ha
    obtain⟨y,hy,q2,Y,rfl⟩:=ag5.mp hb
    have:=cF r (c9 (J.1 y hy))
    have:=h'.1 q hq
    rw[dC]at *;omega
theorem aZ4 {z h:Mc}(Y:z.Ok)(F:h.Ok)(hL:z.L=h.L){M1 M2:Nat}(J:∀ d∈z.ds,d.t<=M1)(G:∀ d∈h.ds,d.t<=M2)(hM:M1+M2<=3):∀ x∈z4 h.R z.ds h.ds,x.a<z.R*h.R/\(97<=x.l/\x.l<97+z.L)/\x.b<z.R*h.R/\x.t<4:=λ d hd=>by
 obtain⟨x,hx,y,hy,hl,rfl⟩:=ak3.mp hd
 have C:=Y.ds.1 x hx
 have q2:=F.ds.1 y hy
 have a1:=cF h.R (c9 C.a)
 have Z:=cF h.R (c9 C.b)
 rw[dC]at a1 Z
 have:=q2.a;have:=q2.b
 have:=J x hx;have:=G y hy
 exact⟨by show x.a*h.R+y.a<_;omega,C.l,by show x.b*h.R+y.b<_;omega,by show x.t+y.t<4;omega⟩
theorem ak9 (w:Nat)(es:List Dr):∀ ds:List Dr,(z4 w ds es).length<=ds.length*es.length
 | []=>cu _
 | x::ds=>by
  have e:z4 w (x::ds) es=((es.filter λ y=>decide (y.l=x.l)).map (bc3 w x))++z4 w ds es:=by unfold z4;rw[dZ]
  rw[e,aC,au,aQ,dC]
  have:=ak9 w es ds
  have:=iE (λ y:Dr=>decide (y.l=x.l)) es
  omega
theorem as9 (w:Nat)(h:List Nat):∀ l:List Nat,(qo w l h).length=l.length*h.length
 | []=>by rw[dN,Nat.zero_mul];rfl
 | x::l=>by
  have e:qo w (x::l) h=(h.map λ q=>x*w+q)++qo w l h:=by unfold qo;rw[dZ]
  rw[e,aC,au,aQ,dC,as9 w h l]
  omega
theorem aX9 (w:Nat)(l h:List Nat)(x:Nat):qo w (l++[x]) h=qo w l h++h.map λ q=>x*w+q:=by
 unfold qo;rw[je,dZ,j8,aZ]
theorem aM6 (w:Nat)(ds es:List Dr)(x:Dr):z4 w (ds++[x]) es=z4 w ds es++(es.filter λ y=>decide (y.l=x.l)).map (bc3 w x):=by
 unfold z4;rw[je,dZ,j8,aZ]
def McT (L Rm M:Nat)(s:Sto)(r:Nat)(x:R D):Prop:=∃(m:Mc) (b:Nat×Nat),m.Ok/\m.L=L/\m.R=Rm/\(∀ d∈m.ds,d.t<=M)/\x=.ok m.d (s.set r (zt b))
theorem aK4 {P : Pr} [Has P ac6] [Has P ad7] [Has P ae7] (n : Nat) {s : Sto} {r L Rm : Nat} (hL1 : 1 <= L) (hL3 : L <= 3) (hR1 : 1 <= Rm) (hR5 : Rm <= 5) {M : Nat} (hM : M <= 3) (hs : ∃ b, s[r]? = some (zt b)) : McT L Rm M s r ((aa1 P (n + 3)).call "_law_sized" [.ref r, .int L, .int Rm, .int M] s) := by
  have e0 : (aa1 P (n + 3)).call "_law_sized" [.ref r, .int L, .int Rm, .int M] s = _ := zg ae7 (n := n + 2) rfl
  have hr := aJ8 hs
  obtain⟨m1, b3, hm1, e3⟩ := zS (P := P) (n + 1) hs 13 (by decide) (by decide)
  obtain⟨m2, b4, hm2, e4⟩ := zS (P := P) (n + 1) (aE7 (b := b3) hr) 8 (by decide) (by decide)
  rw[dG]at e4
  obtain⟨m3, b5, hm3, e5⟩ := zS (P := P) (n + 1) (aE7 (b := b4) hr) 76 (by decide) (by decide)
  rw[dG]at e5
  rw[e0]
  simp -implicitDefEqProofs [ae7, e3, e4]
  obtain ⟨many, bb, hmany, hif⟩ : ∃ (many : Nat) (bb : Nat × Nat), many <= 75 /\ (if (m2 : Int) = 7 then
                      ((aa1 P (n + 2)).call "_law_take" [D.ref r, D.int 76] (List.set s r (zt b4))).bind λ d s =>
                        R.ok
                          (Ct.next [some (D.ref r), some (D.int L), some (D.int Rm), some (D.int M), some d, none, none, none, none]) s
                    else
                      R.ok
                        (Ct.next
                          [some (D.ref r), some (D.int L), some (D.int Rm), some (D.int M), some (D.int ↑m1), none, none, none, none])
                        (List.set s r (zt b4))) = .ok (.next [some (.ref r), some (.int L), some (.int Rm), some (.int M), some (.int many), none, none, none, none]) (s.set r (zt bb)) := by
    by_cases h7 : (m2 : Int) = 7
    · exact⟨m3, b5, by omega, by rw[if_pos h7, e5]; rfl⟩
    · exact⟨m1, b4, by omega, by rw[if_neg h7]⟩
  rw[hif]
  simp -implicitDefEqProofs
  rw[ag7 (by unfold W62; omega) (by unfold W62; omega)]
  simp only[R.bind_ok]
  refine zF (W := McT L Rm M s r) (λ j ρ u => ∃(b : Nat × Nat) (l : List Dr) (x y z : Option D), (∀ d ∈ l, d.Ok ⟨L, Rm, [], [], []⟩ /\ d.t <= M) /\ l.length = j /\ ρ = [some (.ref r), some (.int L), some (.int Rm), some (.int M), some (.int many), some (.ref s.length), x, y, z] /\ u = s.set r (zt b) ++ [.lst (l.map Dr.d)]) ⟨bb, [], none, none, none, by simp, rfl, rfl, rfl⟩ (λ _ _ _ _ _ => rfl) ?_ ?_
  · rintro j d ρ u hj ⟨b, l, x, y, z, hl, hlen, rfl, rfl⟩
    obtain⟨hj2, rfl⟩ := af5 hj
    obtain⟨k1, c1, hk1, f1⟩ := as3 (P := P) (n + 1) (t := [.lst (l.map Dr.d)]) hr b Rm (by omega) (qw (by omega))
    obtain⟨k2, c2, hk2, f2⟩ := as3 (P := P) (n + 1) (t := [.lst (l.map Dr.d)]) hr c1 L (by omega) (qw (by omega))
    obtain⟨k3, c3, hk3, f3⟩ := as3 (P := P) (n + 1) (t := [.lst (l.map Dr.d)]) hr c2 Rm (by omega) (qw (by omega))
    obtain⟨k4, c4, hk4, f4⟩ := as3 (P := P) (n + 1) (t := [.lst (l.map Dr.d)]) hr c3 ((M : Int) + 1) (by omega) (qw (by omega))
    refine qk (ρ := [some (.ref r), some (.int L), some (.int Rm), some (.int M), some (.int many), some (.ref s.length), some (.int j), some (.int k1), some (.str [97 + k2])]) (s := s.set r (zt c4) ++ [.lst ((l ++ [(⟨k1, 97 + k2, k3, k4⟩ : Dr)]).map Dr.d)]) ?_ ⟨c4, l ++ [(⟨k1, 97 + k2, k3, k4⟩ : Dr)], _, _, _, ?_, ?_, rfl, rfl⟩
    · simp -implicitDefEqProofs [turn, f1, f2, f3, f4, bn9 (show k2 < 3 by omega)]
      rw[bB8 (by unfold LIM; simp; omega)]
      rfl
    · intro d hd
      rcases bj.mp hd with h|h
      · exact hl d h
      · rw[aU.mp h]; refine⟨?_, by show k4 <= M; omega⟩; constructor <;> simp only <;> omega
    · simp[hlen]
  · rintro ρ u ⟨b, l, x, y, z, hl, hlen, rfl, rfl⟩
    obtain⟨l1, c1, g1, f1⟩ := aI9 (P := P) n (s := s.set r (zt b) ++ [.lst (l.map Dr.d)]) (r := r) ⟨b, zH (qh hr)⟩ Rm (by omega)
    rw[al6 (by rw[a0]; exact hr), dG]at f1
    obtain⟨l2, c2, g2, f2⟩ := aI9 (P := P) n (s := s.set r (zt c1) ++ [.lst (l.map Dr.d)]) (r := r) ⟨c1, zH (qh hr)⟩ Rm (by omega)
    rw[al6 (by rw[a0]; exact hr), dG]at f2
    have hl3 : (s.set r (zt c2) ++ [O.lst (l.map Dr.d)])[s.length]? = some (.lst (l.map Dr.d)) := by rw[be (by simp)]; simp
    have hll : l.length <= 75 := by
      rw[hlen]; simp[ae8]; omega
    simp -implicitDefEqProofs [f1, f2, bl1, hl3, mk]
    refine⟨⟨L, Rm, l1, l2, l⟩, c2, ⟨hL1, hL3, hR1, hR5, g1, g2, λ x hx => ?_, hll⟩, rfl, rfl, λ d hd => (hl d hd).2, ?_⟩
    · have := (hl x hx).1
      exact⟨this.a, this.l, this.b, this.t⟩
    · exact aB1 (bE6 ⟨L, Rm, l1, l2, l⟩) (by nofun) rfl
theorem aw0 {w:Nat}(hw:w<=5)(a:Int)(s:Sto):ag2 .mul (.int a) (.int w) s=.ok (.int (a*w)) s:=ae6 (ak4 (by omega))
theorem bI0 (a b c d:D)(s:Sto):ixM (.tup [a,b,c,d]) (.int 0) s=.ok a s:=rfl
theorem bB3 (a b c d:D)(s:Sto):ixM (.tup [a,b,c,d]) (.int 1) s=.ok b s:=rfl
theorem bJ1 (a b c d:D)(s:Sto):ixM (.tup [a,b,c,d]) (.int 2) s=.ok c s:=rfl
theorem bO8 (a b c d:D)(s:Sto):ixM (.tup [a,b,c,d]) (.int 3) s=.ok d s:=rfl
section
variable {P:Pr}
def GtR (M:Nat)(s:Sto)(x:R D):Prop:=∃ g:Int,g<=M/\x=.ok (.int g) s
theorem bP2 {M:Int}:∀(l:List Int) (a:Int),a<=M->(∀ y∈l,y<=M)->l.foldl max a<=M
 | [],a,h,_=>h
 | b::l,a,h,hl=>by
  rw[cJ]
  exact bP2 l _ (by have:=hl b (aB ..);omega) λ y hy=>hl y (av _ hy)
theorem aT8:∀ ds:List Dr,zZ (ds.map λ x=>D.int x.t)=some (ds.map λ x=>(x.t:Int))
 | []=>rfl
 | x::ds=>by rw[aH,aH];unfold zZ;rw[aT8 ds];rfl
theorem ak7 [Has P aa9][Has P aa4](n:Nat){m:Mc}(J:m.Ok){M:Nat}(G:∀ d∈m.ds,d.t<=M)(s:Sto):GtR M s ((aa1 P (n+2)).call "greatest_toll" [m.d] s):=by
 have Z:(aa1 P (n+2)).call "greatest_toll" [m.d] s=_:=zg aa4 (n:=n+1) rfl
 rw[Z]
 have Y:ag8 (.tup (m.ds.map Dr.d)) s=.ok ⟨m.ds.map Dr.d,[]⟩ s:=rfl
 obtain⟨ρ1,s1,e1,rfl,_⟩:=zP (ok:=λ C=>chk s C []) (g:=ag9 (aa1 P (n+1)) (.one 0) (.ix (.var 0) (.cst (.int 3)))) (λ ρ u=>u=s/\∃ a,ρ=[a]) (λ d=>match d with|.tup [_,_,_,t]=>some t|_=>none) (m.ds.map Dr.d) [none] s ⟨rfl,none,rfl⟩ (λ _ _ _=>rfl) (by
  rintro d hd ρ u ⟨rfl,a,rfl⟩
  obtain⟨x,_,rfl⟩:=aO.mp hd
  exact⟨[some x.d],u,rfl,rfl,_,rfl⟩)
 have F:(m.ds.map Dr.d).filterMap (λ d=>match d with|.tup [_,_,_,t]=>some t|_=>none)=m.ds.map λ x=>D.int x.t:=by
  rw[bK,<-cW]
  exact zA λ x _=>rfl
 rw[F]at e1
 have h:(m.ds.map Dr.d).length<=LIM:=by rw[au];have:=J.ds.2;unfold LIM;omega
 have d1:=qx (P:=P) n (m:=m) (s:=s1)
 obtain⟨g,hg,mn⟩:∃ g:Int,g<=M/\mkD .max (m.ds.map λ x=>D.int x.t) (.int 0) s1=.ok (.int g) s1:=by
  unfold mkD
  dsimp only
  rw[aT8]
  cases hd:m.ds with
  | nil=>exact⟨0,by omega,rfl⟩
  | cons x ds =>
   refine⟨_,bP2 _ _ ?_ λ y hy=>?_,rfl⟩
   ·have:=G x (by rw[hd];exact aB ..);show(x.t:Int)<=M;omega
   ·obtain⟨z,hz,rfl⟩:=aO.mp hy
    have:=G z (by rw[hd];exact av _ hz);show(z.t:Int)<=M;omega
 refine⟨g,hg,?_⟩
 tbr_iter [aa4,aH,bS,ci,b9,aI,aj7,d1,Y,h,qg,e1,mn]
 exact zo (λ _=>rfl) (by nofun)
theorem ao5 [HasC P "MOST_TOLL" (.int 3)][Has P aa9][Has P aa4][Has P aa7](n:Nat){h y:Mc}(Y:h.Ok)(F:y.Ok){M1 M2:Nat}(C:∀ d∈h.ds,d.t<=M1)(z:∀ d∈y.ds,d.t<=M2)(hM:M1+M2<=3)(s:Sto):(aa1 P (n+3)).call "check_tolls" [h.d,y.d] s=.ok .non s:=by
 have e0:(aa1 P (n+3)).call "check_tolls" [h.d,y.d] s=_:=zg aa7 (n:=n+2) rfl
 rw[e0]
 have hg:ev (aa1 P (n+2)) (.glob "MOST_TOLL") [some h.d,some y.d] s=.ok (.int 3) s:=by
  show(match(aa1 P (n+2)).con "MOST_TOLL" with|some d=>R.ok d s|none=>.bad)=_
  rw[aE8 (v:=.int 3)]
 obtain⟨g1,k1,Z⟩:=ak7 (P:=P) n Y C s
 obtain⟨G,k2,J⟩:=ak7 (P:=P) n F z s
 have hn:¬((3:Int)<g1+G):=by omega
 tbr_iter [aa7,aH,bS,ci,b9,aI,Z,J,hg,hn,al8]
def BoR (l:List Nat)(s:Sto)(x:R D):Prop:=x=.ok (.tup (zw l)) s
theorem af1 [Has P ab1](n:Nat)(l h:List Nat)(hl:l.length<=5)(F:h.length<=5){w:Nat}(hw:w<=5)(s:Sto):BoR (qo w l h) s ((aa1 P (n+1)).call "both_rooms" [.tup (zw l),.tup (zw h),.int w] s):=by
 have e0:(aa1 P (n+1)).call "both_rooms" [.tup (zw l),.tup (zw h),.int w] s=_:=zg ab1 (n:=n) rfl
 rw[e0]
 have sq:ag8 (.tup (zw l)) (s++[.lst []])=.ok ⟨zw l,[]⟩ (s++[.lst []]):=rfl
 simp -implicitDefEqProofs [ab1,sq]
 refine zF (W:=BoR (qo w l h) s) (λ j ρ t=>∃ x,j<=l.length/\ρ=[some (.tup (zw l)),some (.tup (zw h)),some (.int w),some (.ref s.length),x]/\t=s++[.lst (zw (qo w (l.take j) h))])
  ⟨_,cu _,rfl,rfl⟩ (λ _ _ _ _ _=>rfl) ?_ ?_
 ·rintro j d ρ t hj ⟨x,Y,rfl,rfl⟩
  obtain⟨i,hi,rfl⟩:∃ i,l[j]?=some i/\d=.int i:=by
   unfold zw at hj
   rw[aE]at hj
   cases e:l[j]? with
   | none=>rw[e]at hj;cases hj
   | some i=>rw[e]at hj;cases hj;exact⟨i,rfl,rfl⟩
  have hlt:j<l.length:=(ac.mp hi).1
  have a1:l.take (j+1)=l.take j++[i]:=by
   have e:l[j]=i:=(ac.mp hi).2
   rw[<-e,cA]
  generalize hu:s++[O.lst (zw (qo w (l.take j) h))]=u
  have sD:ag8 (.tup (zw h)) u=.ok ⟨zw h,[]⟩ u:=rfl
  obtain⟨ρ1,s1,e1,rfl,_⟩:=zP (ok:=λ G=>chk u G []) (g:=ag9 (aa1 P n) (.one 0) (.bin .add (.bin .mul (.var 1) (.var 2)) (.var 0))) (λ ρ v=>v=u/\∃ a,ρ=[a,some (.int i),some (.int w)]) (λ d=>match d with|.int q=>some (.int (i*w+q))|_=>none) (zw h) [none,some (.int i),some (.int w)] u ⟨rfl,none,rfl⟩ (λ _ _ _=>rfl) (by
   rintro d hd ρ v ⟨rfl,a,rfl⟩
   obtain⟨q,_,rfl⟩:=aO.mp hd
   exact⟨[some (.int q),some (.int i),some (.int w)],v,by unfold ag9;simp -implicitDefEqProofs [aw0 hw],rfl,_,rfl⟩)
  have Z:(zw h).filterMap (λ d=>match d with|.int q=>some (.int (i*w+q))|_=>none)=zw (h.map λ q=>i*w+q):=by
   unfold zw
   rw[bK,d9,<-cW]
   exact zA λ q _=>by simp[dR]
  rw[Z]at e1
  have y:(zw h).length<=LIM:=by unfold zw;rw[au];unfold LIM;omega
  have C:=av4 (S:=s1) (k:=s.length) (l:=zw (qo w (l.take j) h)) (m:=zw (h.map λ q=>i*w+q)) (by rw[<-hu];simp) (by
   unfold zw
   simp only[au,as9,bF]
   have:min j l.length*h.length<=5*5:=e8 (by omega) F
   unfold LIM;omega)
  have z:s1.set s.length (.lst (zw (qo w (l.take j) h)++zw (h.map λ q=>i*w+q)))=s++[.lst (zw (qo w (l.take (j+1)) h))]:=by
   rw[<-hu,a1,aX9]
   simp[zw]
  rw[z]at C
  refine qk (ρ:=[some (.tup (zw l)),some (.tup (zw h)),some (.int w),some (.ref s.length),some (.int i)]) (s:=s++[.lst (zw (qo w (l.take (j+1)) h))]) ?_ ⟨_,hlt,rfl,rfl⟩
  tbr_iter [turn,aZ1,aj7,sD,y,qg,aH,bS,gU,eK,gT,j9,e1,C]
 ·rintro ρ t ⟨x,Y,rfl,rfl⟩
  have J:(zw l).length=l.length:=by unfold zw;rw[au]
  rw[J,ed]
  have ls:bl1 (.ref s.length) (s++[.lst (zw (qo w l h))])=.ok (zw (qo w l h)) (s++[.lst (zw (qo w l h))]):=by simp[bl1]
  have y:(zw (qo w l h)).length<=LIM:=by
   unfold zw;rw[au,as9]
   have:l.length*h.length<=5*5:=e8 hl F
   unfold LIM;omega
  tbr_iter [zU,evL_seq,ls,mk,y]
  exact qf (λ n=>by unfold D.bnd;exact zr zV n) (by nofun)
def BdR (ds:List Dr)(s:Sto)(x:R D):Prop:=x=.ok (.ref s.length) (s++[.lst (ds.map Dr.d)])
theorem au1 [Has P aa9][Has P ab2](n:Nat){C z:Mc}(h1:C.Ok)(Z:z.Ok){w:Nat}(hw:w<=5)(s:Sto):BdR (z4 w C.ds z.ds) s ((aa1 P (n+2)).call "both_doors" [C.d,z.d,.int w] s):=by
 have e0:(aa1 P (n+2)).call "both_doors" [C.d,z.d,.int w] s=_:=zg ab2 (n:=n+1) rfl
 rw[e0]
 have sq:ag8 (.tup (C.ds.map Dr.d)) (s++[.lst []])=.ok ⟨C.ds.map Dr.d,[]⟩ (s++[.lst []]):=rfl
 have d1:=qx (P:=P) n (m:=C) (s:=s++[.lst []])
 simp -implicitDefEqProofs [ab2,d1,sq]
 refine zF (W:=BdR (z4 w C.ds z.ds) s) (λ j ρ t=>∃ x4 x5 x6 x7,j<=C.ds.length/\ρ=[some C.d,some z.d,some (.int w),some (.ref s.length),x4,x5,x6,x7]/\t=s++[.lst ((z4 w (C.ds.take j) z.ds).map Dr.d)])
  ⟨_,_,_,_,cu _,rfl,rfl⟩ (λ _ _ _ _ _=>rfl) ?_ ?_
 ·rintro j d ρ t hj ⟨x4,x5,x6,x7,a6,rfl,rfl⟩
  obtain⟨x,hx,rfl⟩:∃ x,C.ds[j]?=some x/\d=x.d:=by
   rw[aE]at hj
   cases e:C.ds[j]? with
   | none=>rw[e]at hj;cases hj
   | some x=>rw[e]at hj;cases hj;exact⟨x,rfl,rfl⟩
  have hlt:j<C.ds.length:=(ac.mp hx).1
  have a8:C.ds.take (j+1)=C.ds.take j++[x]:=by
   have e:C.ds[j]=x:=(ac.mp hx).2
   rw[<-e,cA]
  generalize hu:s++[O.lst ((z4 w (C.ds.take j) z.ds).map Dr.d)]=u
  have d2:=qx (P:=P) n (m:=z) (s:=u)
  have sD:ag8 (.tup (z.ds.map Dr.d)) u=.ok ⟨z.ds.map Dr.d,[]⟩ u:=rfl
  obtain⟨ρ1,s1,e1,rfl,_⟩:=zP (ok:=λ a4=>chk u a4 []) (g:=aD8 (aa1 P (n+1)) (.one 0) (.cmp .eq (.ix (.var 0) (.cst (.int 1))) (.var 1)) (.tup (.cons (.bin .add (.bin .mul (.var 2) (.var 3)) (.ix (.var 0) (.cst (.int 0)))) (.cons (.var 1) (.cons (.bin .add (.bin .mul (.var 4) (.var 3)) (.ix (.var 0) (.cst (.int 2)))) (.cons (.bin .add (.var 5) (.ix (.var 0) (.cst (.int 3)))) .nil)))))) (λ ρ v=>v=u/\∃ a,ρ=[a,some (.str [x.l]),some (.int x.a),some (.int w),some (.int x.b),some (.int x.t)]) (λ d=>match d with|.tup [.int a,.str [l],.int b,.int t]=>if l=x.l then some (.tup [.int (x.a*w+a),.str [x.l],.int (x.b*w+b),.int (x.t+t)])else none|_=>none) (z.ds.map Dr.d) [none,some (.str [x.l]),some (.int x.a),some (.int w),some (.int x.b),some (.int x.t)] u ⟨rfl,none,rfl⟩ (λ _ _ _=>rfl) (by
   rintro d hd ρ v ⟨rfl,a,rfl⟩
   obtain⟨y,_,rfl⟩:=aO.mp hd
   refine⟨[some y.d,some (.str [x.l]),some (.int x.a),some (.int w),some (.int x.b),some (.int x.t)],v,?_,rfl,_,rfl⟩
   have J:y.d=.tup [.int y.a,.str [y.l],.int y.b,.int y.t]:=rfl
   unfold aD8
   by_cases h:y.l=x.l
   ·simp -implicitDefEqProofs [bI0,bB3,bJ1,bO8,aw0 hw,h,J]
   ·simp -implicitDefEqProofs [bI0,bB3,bJ1,bO8,aw0 hw,h,J])
  have a7:(z.ds.map Dr.d).filterMap (λ d=>match d with|.tup [.int a,.str [l],.int b,.int t]=>if l=x.l then some (.tup [.int (x.a*w+a),.str [x.l],.int (x.b*w+b),.int (x.t+t)])else none|_=>none)=((z.ds.filter λ y=>decide (y.l=x.l)).map (bc3 w x)).map Dr.d:=by
   rw[bK,d9]
   generalize z.ds=es
   induction es with
   | nil=>rfl
   | cons y es ih =>
    rw[bO,j6]
    by_cases h:y.l=x.l
    ·rw[decide_eq_true h,if_pos rfl,aH,<-ih]
     simp[dR,Dr.d,bc3,h]
    ·rw[decide_eq_false h,if_neg (by simp),<-ih]
     simp[dR,Dr.d,h]
  rw[a7]at e1
  have Y:(z.ds.map Dr.d).length<=LIM:=by rw[au];have:=Z.ds.2;unfold LIM;omega
  have G:=av4 (S:=s1) (k:=s.length) (l:=(z4 w (C.ds.take j) z.ds).map Dr.d) (m:=((z.ds.filter λ y=>decide (y.l=x.l)).map (bc3 w x)).map Dr.d) (by rw[<-hu];simp) (by
   simp only[au]
   have a1:=ak9 w z.ds (C.ds.take j)
   have a2:(C.ds.take j).length*z.ds.length<=75*75:=e8 (by rw[bF];have:=h1.ds.2;omega) Z.ds.2
   have a3:=iE (λ y:Dr=>decide (y.l=x.l)) z.ds
   have:=Z.ds.2
   unfold LIM;omega)
  have F:s1.set s.length (.lst ((z4 w (C.ds.take j) z.ds).map Dr.d++((z.ds.filter λ y=>decide (y.l=x.l)).map (bc3 w x)).map Dr.d))=s++[.lst ((z4 w (C.ds.take (j+1)) z.ds).map Dr.d)]:=by
   rw[<-hu,a8,aM6]
   simp
  rw[F]at G
  refine qk (ρ:=[some C.d,some z.d,some (.int w),some (.ref s.length),some (.int x.a),some (.str [x.l]),some (.int x.b),some (.int x.t)]) (s:=s++[.lst ((z4 w (C.ds.take (j+1)) z.ds).map Dr.d)]) ?_ ⟨_,_,_,_,hlt,rfl,rfl⟩
  have a5:x.d=.tup [.int x.a,.str [x.l],.int x.b,.int x.t]:=rfl
  tbr_iter [turn,aZ1,a5,ap7,d2,sD,Y,qg,aH,bS,gU,eK,gT,j9,e1,G]
 ·rintro ρ t ⟨x4,x5,x6,x7,a6,rfl,rfl⟩
  rw[au,ed]
  tbr_iter [zU]
  exact aA8 (t:=[]) (u:=[]) (by show D.bndL _ _=true;exact zr an3 _)
end
section
variable {P:Pr}
theorem bv8 [Has P ah7](n:Nat)(a b:Option Int)(s:Sto):(aa1 P (n+1)).call "_law_both" [ao9 a,ao9 b] s=.ok (ao9 (bJ8 a b)) s:=by
 have h:(aa1 P (n+1)).call "_law_both" [ao9 a,ao9 b] s=_:=zg ah7 (n:=n) rfl
 rw[h]
 cases a<;>cases b<;>simp -implicitDefEqProofs [ah7,bJ8]<;>exact zo (λ _=>rfl) (by nofun)
def SmR (m1 m2:Mc)(s:Sto)(x:R D):Prop:=∃ m:Mc,m.Ok/\m.L=m1.L/\(∀ w o,ac0 (m.Wk w) o->ac0 (λ c=>∃ c1 c2:Int,m1.Wk w c1/\m2.Wk w c2/\c=c1+c2) o)/\x=.ok m.d s
theorem am6 [Has P aa6][HasC P "LETTERS" (.tup aD4)][HasC P "MOST_ROOMS" (.int 5)][HasC P "MOST_TOLL" (.int 3)][Has P ab0][Has P aa8][Has P aa7][Has P aa4][Has P ac1][Has P ab9][Has P ac5][Has P aa9][Has P ab1][Has P ab2][Has P ac3][Has P ad5](n:Nat){z y:Mc}(F:z.Ok)(C:y.Ok)(hL:z.L=y.L)(hR:z.R*y.R<=5){M1 M2:Nat}(t1:∀ d∈z.ds,d.t<=M1)(t2:∀ d∈y.ds,d.t<=M2)(G:M1+M2<=3)(s:Sto):SmR z y s ((aa1 P (n+4)).call "summed" [z.d,y.d] s):=by
 have e0:(aa1 P (n+4)).call "summed" [z.d,y.d] s=_:=zg ad5 (n:=n+3) rfl
 rw[e0]
 have a1:=au5 (P:=P) (n+1) F hL s
 have a2:=an8 (P:=P) (n+2) z s
 have a3:=an8 (P:=P) (n+2) y s
 have Z:(z.R:Int)*y.R<=5:=by rw[<-fJ];omega
 have a4:=ao7 (P:=P) (n+2) (r:=(z.R:Int)*y.R) Z s
 have Y:=ao5 (P:=P) n F C t1 t2 G s
 have a5:=ai4 (P:=P) (n+2) z s
 have a6:=ai4 (P:=P) (n+2) y s
 have a7:=aq2 (P:=P) (n+2) z s
 have a8:=aq2 (P:=P) (n+2) y s
 have mu:=aw0 C.R5 (z.R:Int) s
 have b0:=aw0 C.R5 (z.R:Int) (s++[.lst ((z4 y.R z.ds y.ds).map Dr.d)])
 have J:∀ {r:Nat} {l:List Nat},r<=5->(∀ i∈l,i<r)/\l.Pairwise (· < ·)->l.length<=5:=λ {r l} hr h=>by
  have:=du (l₂:=bB r) (h.2.imp λ q=>aw q) λ i hi=>cj.mpr (h.1 i hi)
  rw[jS]at this;omega
 have a9:(aa1 P (n+3)).call "both_rooms" [.tup (zw z.bg),.tup (zw y.bg),.int y.R] s=_:=af1 (P:=P) (n+2) z.bg y.bg (J F.R5 F.bg) (J C.R5 C.bg) C.R5 s
 have b1:(aa1 P (n+3)).call "both_rooms" [.tup (zw z.en),.tup (zw y.en),.int y.R] s=_:=af1 (P:=P) (n+2) z.en y.en (J F.R5 F.en) (J C.R5 C.en) C.R5 s
 have b2:(aa1 P (n+3)).call "both_doors" [z.d,y.d,.int y.R] s=_:=au1 (P:=P) (n+1) F C C.R5 s
 obtain⟨ds,hb,b3⟩:=aO9 (P:=P) (n+1) F ((z.R:Int)*y.R) (B:=zw (qo y.R z.bg y.bg)) (E:=zw (qo y.R z.en y.en)) zV zV (ds:=z4 y.R z.ds y.ds) (by
  have x1:=ak9 y.R y.ds z.ds
  have x2:z.ds.length*y.ds.length<=75*75:=e8 F.ds.2 C.ds.2
  omega) (s:=s++[.lst ((z4 y.R z.ds y.ds).map Dr.d)]) (k:=s.length) (by simp)
 refine⟨⟨z.L,z.R*y.R,qo y.R z.bg y.bg,qo y.R z.en y.en,ds⟩,hb.okM F.L1 F.L3 (Nat.mul_pos (by have:=F.R1;omega) (by have:=C.R1;omega)) hR (ah0 C.bg F.bg) (ah0 C.en F.en) (aZ4 F C hL t1 t2 G),rfl,λ w o ho=>(hb.least ho).congr (bM9 C w),?_⟩
 have G:(⟨z.L,z.R*y.R,qo y.R z.bg y.bg,qo y.R z.en y.en,ds⟩:Mc).d=.tup [.int z.L,.int ((z.R:Int)*y.R),.tup (zw (qo y.R z.bg y.bg)),.tup (zw (qo y.R z.en y.en)),.tup (ds.map Dr.d)]:=by
  show D.tup [.int z.L,.int ((z.R*y.R:Nat):Int),_,_,_]=_
  rw[fJ]
 rw[G]
 tbr_iter [ad5,aH,bS,ci,b9,aI,a1,a2,a3,mu,a4,Y,a5,a6,a7,a8,a9,b1,b2,b3]
 refine qf (λ n=>?_) (by nofun)
 unfold D.bnd
 refine zr (λ d hd n=>?_) n
 simp only[aF,bT,or_false]at hd
 rcases hd with rfl|rfl|rfl|rfl|rfl
 ·rfl
 ·rfl
 ·unfold D.bnd;exact zr zV n
 ·unfold D.bnd;exact zr zV n
 ·unfold D.bnd;exact zr an3 n
theorem an6 [Has P ab8][Has P ab3][Has P ab4][Has P aa5][Has P ac4][Has P ah7][Has P ac8](n:Nat){m h y:Mc}(G:m.Ok)(h1:h.Ok)(Z:y.Ok)(hL:m.L=h.L)(hw:∀ w o,ac0 (m.Wk w) o->ac0 (λ c=>∃ J c2:Int,h.Wk w J/\y.Wk w c2/\c=J+c2) o){s:Sto}{k:Nat}{ws:List D}(C:WL 200 ws)(hk:s[k]?=some (.lst ws)):Tru s ((aa1 P (n+4)).call "_law_right" [m.d,h.d,y.d,.ref k] s):=by
 have e0:(aa1 P (n+4)).call "_law_right" [m.d,h.d,y.d,.ref k] s=_:=zg ac8 (n:=n+3) rfl
 rw[e0]
 have Y:=ap0 (P:=P) n G s
 rw[hL]at Y
 have ix:ixM h.d (.int 0) s=.ok (.int h.L) s:=rfl
 have sq:ag8 (.ref k) s=.ok ⟨ws,[k]⟩ s:=by simp only[ag8,hk]
 simp -implicitDefEqProofs [ac8,Y,ix,sq]
 refine zF (W:=Tru s) (λ j ρ t=>∃ T x,t=s++T/\ρ=[some m.d,some h.d,some y.d,some (.ref k),x]) ⟨[],_,by simp,rfl⟩ (λ _ _ _ _ ⟨T,_,ht,_⟩=>by rw[ht];simp[chk,zH hk,hk]) ?_ ?_
 ·rintro j d ρ t hj ⟨T,x,rfl,rfl⟩
  obtain⟨w,rfl,a2⟩:=C d (aK hj)
  obtain⟨o,l0,p0⟩:=as6 (P:=P) (n+2) G w (by omega) (s++T)
  obtain⟨z,l1,p1⟩:=as6 (P:=P) (n+2) h1 w (by omega) (s++T)
  obtain⟨F,l2,p2⟩:=as6 (P:=P) (n+2) Z w (by omega) (s++T)
  have:o=bJ8 z F:=(hw w o l0).eq (l1.addP l2) λ c=>Iff.rfl
  subst this
  have p3:=bv8 (P:=P) (n+2) z F (s++T)
  have p4:=bM2 (bJ8 z F) (s++T)
  refine qk (ρ:=[some m.d,some h.d,some y.d,some (.ref k),some (.str w)]) (s:=s++T) ?_ ⟨T,_,rfl,rfl⟩
  tbr_iter [turn,p0,p1,p2,p3,p4]
 ·rintro ρ t ⟨T,x,rfl,rfl⟩
  simp -implicitDefEqProofs
  exact qf (λ _=>rfl) (by nofun)
theorem bW7 [Has P ab7][Has P ax6][Has P ac6][Has P ad7][Has P ae7][Has P ai2][Has P ac7][Has P ac4][Has P ab8][Has P ab3][Has P ab4][Has P aa5][Has P ah7][Has P ac8]
  [Has P aa6] [HasC P "LETTERS" (.tup aD4)] [HasC P "MOST_ROOMS" (.int 5)] [HasC P "MOST_TOLL" (.int 3)] [Has P ab0] [Has P aa7] [Has P aa4] [Has P aa8] [Has P ac1] [Has P ab9] [Has P ac5] [Has P aa9] [Has P ab1] [Has P ab2] [Has P ac3] [Has P ad5] (n:Nat):bT4 P (n+5):=by
 intro ns hl
 have e0:(aa1 P (n+5)).call "law" [.ref 0] [.ro (ns.map D.int)]=_:=zg ab7 (n:=n+4) rfl
 rw[e0]
 have d2:([.ro (ns.map D.int)]:Sto)[0]?=some (.ro (ns.map D.int)):=rfl
 have F:=aT4 (P:=P) (n+3) ns 0 [.ro (ns.map D.int)] 0 d2 hl
 generalize bl7 ns 0=b0 at F
 have d4:∃ b,([.ro (ns.map D.int),zt b0]:Sto)[1]?=some (zt b):=⟨b0,rfl⟩
 obtain⟨a,b1,ha,e1⟩:=zS (P:=P) (n+3) d4 3 (by decide) (by decide)
 obtain⟨c,b2,hc,e2⟩:=zS (P:=P) (n+3) (s:=[.ro (ns.map D.int),zt b1]) (r:=1) ⟨b1,rfl⟩ 5 (by decide) (by decide)
 obtain⟨g,c3,g4,a2⟩:=zS (P:=P) (n+3) (s:=[.ro (ns.map D.int),zt b2]) (r:=1) ⟨b2,rfl⟩ 4 (by decide) (by decide)
 obtain⟨m1,b3,G,a8,a6,a3,e3⟩:=aK4 (P:=P) (n+1) (L:=a+1) (Rm:=c+1) (M:=g) (s:=[.ro (ns.map D.int),zt c3]) (r:=1) (by omega) (by omega) (by omega) (by omega) (by omega) ⟨c3,rfl⟩
 rw[show((a+1:Nat):Int)=1+(a:Int)by omega,show((c+1:Nat):Int)=1+(c:Int)by omega]at e3
 have h:=aT4 (P:=P) (n+3) ns 1 [.ro (ns.map D.int),zt b3] 0 rfl hl
 generalize bl7 ns 1=b4 at h
 have a5:∀ s,ag2 .fdiv (.int 5) (.int (1+(c:Int))) s=.ok (.int (5 / (1+(c:Int)))) s:=λ s=>aj3 (by omega) (by
  have:(1+(c:Int))<=5:=by omega
  exact Int.lt_of_le_of_lt this (by decide))
 have hq:(1<=5 / (1+(c:Int))/\5 / (1+(c:Int))<=5)/\∀ e:Nat,(e:Int)<5 / (1+(c:Int))->(c+1)*(e+1)<=5/\(e+1)*(c+1)<=5:=by
  rcases(show c=0\/c=1\/c=2\/c=3\/c=4 by omega)with z|z|z|z|z<;>subst z<;>refine⟨by decide,λ e he=>?_⟩
  ·have:(e:Int)<5:=he;omega
  ·have:(e:Int)<2:=he;omega
  ·have:(e:Int)<1:=he;omega
  ·have:(e:Int)<1:=he;omega
  ·have:(e:Int)<1:=he;omega
 obtain⟨e,b5,he,e4⟩:=zS (P:=P) (n+3) (s:=[.ro (ns.map D.int),zt b3,zt b4]) (r:=2) ⟨b4,rfl⟩ (5 / (1+(c:Int))) (by omega) (by omega)
 have c4:=hq.2 e he
 obtain⟨f,c1,hf,a4⟩:=zS (P:=P) (n+3) (s:=[.ro (ns.map D.int),zt b3,zt b5]) (r:=2) ⟨b5,rfl⟩ (4 - (g:Int)) (by omega) (by omega)
 obtain⟨m2,b6,a1,c0,c2,d0,e5⟩:=aK4 (P:=P) (n+1) (L:=a+1) (Rm:=e+1) (M:=f) (s:=[.ro (ns.map D.int),zt b3,zt c1]) (r:=2) (by omega) (by omega) (by omega) (by omega) (by omega) ⟨c1,rfl⟩
 rw[show((a+1:Nat):Int)=1+(a:Int)by omega,show((e+1:Nat):Int)=1+(e:Int)by omega]at e5
 have y:=aT4 (P:=P) (n+3) ns 2 [.ro (ns.map D.int),zt b3,zt b6] 0 rfl hl
 generalize bl7 ns 2=b7 at y
 obtain⟨b8,ws,a9,e6⟩:=bf7 (P:=P) (n+1) (L:=a+1) (s:=[.ro (ns.map D.int),zt b3,zt b6,zt b7]) (r:=3) (by omega) (by omega) ⟨b7,rfl⟩
 rw[show((a+1:Nat):Int)=1+(a:Int)by omega]at e6
 simp -implicitDefEqProofs at F h y e1 e2 a2 e3 e4 a4 e5 e6
 generalize hS:([.ro (ns.map D.int),zt b3,zt b6,zt b8,.lst ws]:Sto)=S at e6
 have hg:S[4]?=some (.lst ws):=by rw[<-hS];rfl
 obtain⟨A,hA,g0,e7,f1⟩:=am6 (P:=P) n G a1 (a8.trans c0.symm) (by rw[a6,c2];exact c4.1) a3 d0 (by omega) S
 have g1:=an6 (P:=P) n hA G a1 g0 e7 a9 hg
 unfold Tru at g1
 have d1:WL 200 (ai5 ws (some (-3)) none):=λ d hd=>a9 d (by unfold ai5 at hd;exact iY (iZ hd))
 have sl:∀ T,slM (.ref 4) (some (-3)) none (S++T)=.ok (.ref (S.length+T.length)) (S++T++[.lst (ai5 ws (some (-3)) none)]):=λ T=>by
  simp only[slM,zH hg,alloc_eq,aC]
 have J:∀ T,∃ C:Mc,(aa1 P (n+4)).call "summed" [m2.d,m1.d] (S++T)=.ok C.d (S++T)/\(aa1 P (n+4)).call "_law_right" [C.d,m2.d,m1.d,.ref (S.length+T.length)] (S++T++[.lst (ai5 ws (some (-3)) none)])=.ok (.bl true) (S++T++[.lst (ai5 ws (some (-3)) none)]):=λ T=>by
  obtain⟨C,hC,f0,f5,Y⟩:=am6 (P:=P) n a1 G (c0.trans a8.symm) (by rw[a6,c2];exact c4.2) d0 a3 (by omega) (S++T)
  exact⟨C,Y,an6 (P:=P) n hC a1 G f0 f5 d1 (by rw[<-aC];simp)⟩
 have zz:(1+(c:Int)<3/\(g:Int)<2)\/¬(1+(c:Int)<3)\/(1+(c:Int)<3/\¬((g:Int)<2)):=by omega
 rcases zz with⟨h3,a7⟩|h3|⟨h3,a7⟩
 ·obtain⟨B,hB,f4,d3,f2⟩:=am6 (P:=P) n G G rfl (by rw[a6];exact am (e8 (show c+1<=2 by omega) (show c+1<=2 by omega)) (by decide)) a3 a3 (by omega) S
  have g2:=an6 (P:=P) n hB G G f4 d3 (s:=S++[.lst (ai5 ws (some (-3)) none)]) (k:=S.length) d1 (by simp)
  unfold Tru at g2
  have s2:=sl []
  obtain⟨C,Y,Z⟩:=J [.lst (ai5 ws (some (-3)) none)]
  have s3:=sl [.lst (ai5 ws (some (-3)) none)]
  rw[aZ]at s2
  simp -implicitDefEqProofs at s2 s3 Z Y
  simp -implicitDefEqProofs [ab7,F,e1,e2,a2,e3,h,a5,e4,a4,e5,y,e6,hS,f1,g1,h3,a7,f2,s2,g2,Y,s3,Z]
  exact an7 _ _
 ·obtain⟨C,Y,Z⟩:=J []
  have s3:=sl []
  rw[aZ]at Y Z s3
  simp -implicitDefEqProofs at s3 Z
  simp -implicitDefEqProofs [ab7,F,e1,e2,a2,e3,h,a5,e4,a4,e5,y,e6,hS,f1,g1,h3,Y,s3,Z]
  exact an7 _ _
 ·obtain⟨C,Y,Z⟩:=J []
  have s3:=sl []
  rw[aZ]at Y Z s3
  simp -implicitDefEqProofs at s3 Z
  simp -implicitDefEqProofs [ab7,F,e1,e2,a2,e3,h,a5,e4,a4,e5,y,e6,hS,f1,g1,h3,a7,Y,s3,Z]
  exact an7 _ _
end
end DV
end
local macro_rules | `(tactic| walk_at "sc") => `(tactic| exact ⟨rfl, rfl, rfl, by decide +kernel, rfl, by decide +kernel, by decide +kernel⟩)
local macro_rules | `(tactic| walk_at "df") => `(tactic| (dsimp only; exact ⟨_, _, _, _, _, _, _, _, _, _, by k_is, by k_is, by k_is, by k_is⟩))
noncomputable section
namespace My
open PySem L2
noncomputable def top (i:Nat):Stmt:=PySem.Challenge.pw_leasttolls_k53_summed.main.body.getD i (.Pass ⟨0,0,0,0⟩)
noncomputable def ae0:List Str:=[]
noncomputable abbrev s_letters_of:Stmt:=top 8
noncomputable abbrev ap8:Stmt:=top 9
noncomputable abbrev am3:Stmt:=top 10
noncomputable abbrev aB0:Stmt:=top 11
noncomputable abbrev ar5:Stmt:=top 12
noncomputable abbrev ai1:Stmt:=top 14
noncomputable abbrev af9:Stmt:=top 15
noncomputable abbrev ag1:Stmt:=top 16
noncomputable abbrev ae2:Stmt:=top 17
noncomputable abbrev az1:Stmt:=top 18
noncomputable abbrev aK0:Stmt:=top 19
noncomputable abbrev aj0:Stmt:=top 20
noncomputable abbrev ai0:Stmt:=top 21
noncomputable abbrev ap6:Stmt:=top 23
noncomputable abbrev am0:Stmt:=top 24
noncomputable abbrev ai3:Stmt:=top 25
noncomputable abbrev ai9:Stmt:=top 26
noncomputable abbrev al2:Stmt:=top 27
noncomputable abbrev ah9:Stmt:=top 28
noncomputable abbrev ai8:Stmt:=top 29
noncomputable abbrev ai6:Stmt:=top 30
noncomputable abbrev ad8:Stmt:=top 31
noncomputable abbrev ae4:Stmt:=top 32
noncomputable abbrev ad4:Stmt:=top 33
noncomputable abbrev am5:Stmt:=top 34
noncomputable abbrev ai7:Stmt:=top 35
noncomputable abbrev aw8:Stmt:=top 36
noncomputable def tb:List (String×mR×Stmt):=[("letters_of",DV.aa6,s_letters_of),("rooms_of",DV.ac1,ap8),("begins_of",DV.ab9,am3),("ends_of",DV.ac5,aB0),("doors_of",DV.aa9,ar5),("check_pair",DV.ab0,ai1),("check_rooms",DV.aa8,af9),("check_tolls",DV.aa7,ag1),("greatest_toll",DV.aa4,ae2),("brought",DV.ac3,az1),("summed",DV.ad5,aK0),("both_rooms",DV.ab1,aj0),("both_doors",DV.ab2,ai0),("_law_bag",DV.ax6,ap6),("_law_take",DV.ac6,am0),("_law_rooms",DV.ad7,ai3),("_law_sized",DV.ae7,ai9),("_law_word",DV.ai2,al2),("_law_words",DV.ac7,ah9),("_law_price",DV.ac4,ai8),("_law_whole",DV.ab8,ai6),("_law_are_rooms",DV.ab3,ad8),("_law_is_door",DV.ab4,ae4),("_law_is_machine",DV.aa5,ad4),("_law_both",DV.ah7,am5),("_law_right",DV.ac8,ai7),("law",DV.ab7,aw8)]
noncomputable def bS2:List (String×lu):=[("LETTERS",.tup [.str [97],.str [98],.str [99]]),("MOST_ROOMS",.int (5)),("MOST_TOLL",.int (3))]
noncomputable def cc3:List (String×mQ):=[]
noncomputable def tbl:List (String×mR):=tb.map λ p=>(p.1,p.2.1)
noncomputable def P:lO:=⟨λ f=>tbl.lookup f,λ f=>cc3.lookup f,λ x=>bS2.lookup x⟩
instance:DV.HasC P "LETTERS" (.tup [.str [97],.str [98],.str [99]]):=⟨rfl⟩
instance:DV.HasC P "MOST_ROOMS" (.int (5)):=⟨rfl⟩
instance:DV.HasC P "MOST_TOLL" (.int (3)):=⟨rfl⟩
instance:DV.Has P DV.aa6:=⟨rfl⟩
instance:DV.Has P DV.ac1:=⟨rfl⟩
instance:DV.Has P DV.ab9:=⟨rfl⟩
instance:DV.Has P DV.ac5:=⟨rfl⟩
instance:DV.Has P DV.aa9:=⟨rfl⟩
instance:DV.Has P DV.ab0:=⟨rfl⟩
instance:DV.Has P DV.aa8:=⟨rfl⟩
instance:DV.Has P DV.aa7:=⟨rfl⟩
instance:DV.Has P DV.aa4:=⟨rfl⟩
instance:DV.Has P DV.ac3:=⟨rfl⟩
instance:DV.Has P DV.ad5:=⟨rfl⟩
instance:DV.Has P DV.ab1:=⟨rfl⟩
instance:DV.Has P DV.ab2:=⟨rfl⟩
instance:DV.Has P DV.ax6:=⟨rfl⟩
instance:DV.Has P DV.ac6:=⟨rfl⟩
instance:DV.Has P DV.ad7:=⟨rfl⟩
instance:DV.Has P DV.ae7:=⟨rfl⟩
instance:DV.Has P DV.ai2:=⟨rfl⟩
instance:DV.Has P DV.ac7:=⟨rfl⟩
instance:DV.Has P DV.ac4:=⟨rfl⟩
instance:DV.Has P DV.ab8:=⟨rfl⟩
instance:DV.Has P DV.ab3:=⟨rfl⟩
instance:DV.Has P DV.ab4:=⟨rfl⟩
instance:DV.Has P DV.aa5:=⟨rfl⟩
instance:DV.Has P DV.ah7:=⟨rfl⟩
instance:DV.Has P DV.ac8:=⟨rfl⟩
instance:DV.Has P DV.ab7:=⟨rfl⟩
theorem az3:DT ae0 P "letters_of" DV.aa6 s_letters_of:=⟨["machine"],["machine"],by walk_at "sc",rfl,rfl,λ _ _ _ _ _ _=>bd1 (λ _=>rfl),.inl (by decide +kernel)⟩
theorem aN6:DT ae0 P "rooms_of" DV.ac1 ap8:=⟨["machine"],["machine"],by walk_at "sc",rfl,rfl,λ _ _ _ _ _ _=>bd1 (λ _=>rfl),.inl (by decide +kernel)⟩
theorem aD3:DT ae0 P "begins_of" DV.ab9 am3:=⟨["machine"],["machine"],by walk_at "sc",rfl,rfl,λ _ _ _ _ _ _=>bd1 (λ _=>rfl),.inl (by decide +kernel)⟩
theorem aS9:DT ae0 P "ends_of" DV.ac5 aB0:=⟨["machine"],["machine"],by walk_at "sc",rfl,rfl,λ _ _ _ _ _ _=>bd1 (λ _=>rfl),.inl (by decide +kernel)⟩
theorem aM4:DT ae0 P "doors_of" DV.aa9 ar5:=⟨["machine"],["machine"],by walk_at "sc",rfl,rfl,λ _ _ _ _ _ _=>bd1 (λ _=>rfl),.inl (by decide +kernel)⟩
theorem aw1:DT ae0 P "check_pair" DV.ab0 ai1:=⟨["one", "other"],["one", "other"],by walk_at "sc",rfl,rfl,λ _ _ _ _ _ _=>bd2 (λ _ _=>rfl),.inl (by decide +kernel)⟩
theorem au3:DT ae0 P "check_rooms" DV.aa8 af9:=⟨["rooms"],["rooms"],by walk_at "sc",rfl,rfl,λ _ _ _ _ _ _=>bd1 (λ _=>rfl),.inl (by decide +kernel)⟩
theorem av1:DT ae0 P "check_tolls" DV.aa7 ag1:=⟨["one", "other"],["one", "other"],by walk_at "sc",rfl,rfl,λ _ _ _ _ _ _=>bd2 (λ _ _=>rfl),.inl (by decide +kernel)⟩
theorem ak5:DT ae0 P "greatest_toll" DV.aa4 ae2:=⟨["machine"],["machine"],by walk_at "sc",rfl,rfl,λ _ _ _ _ _ _=>bd1 (λ _=>rfl),.inl (by decide +kernel)⟩
theorem aX3:DT ae0 P "brought" DV.ac3 az1:=⟨["one", "rooms", "begins", "ends", "doors", "fees", "start", "letter", "goal", "fee", "way"],["one", "rooms", "begins", "ends", "doors"],by walk_at "sc",rfl,rfl,λ _ _ _ _ _ _=>bd5 (λ _ _ _ _ _=>rfl),.inl (by decide +kernel)⟩
theorem bh5:DT ae0 P "summed" DV.ad5 aK0:=⟨["one", "other", "wide", "begins", "ends"],["one", "other"],by walk_at "sc",rfl,rfl,λ _ _ _ _ _ _=>bd2 (λ _ _=>rfl),.inl (by decide +kernel)⟩
theorem aB5:DT ae0 P "both_rooms" DV.ab1 aj0:=⟨["rooms", "other_rooms", "wide", "found", "room"],["rooms", "other_rooms", "wide"],by walk_at "sc",rfl,rfl,λ _ _ _ _ _ _=>bd3 (λ _ _ _=>rfl),.inl (by decide +kernel)⟩
theorem ax1:DT ae0 P "both_doors" DV.ab2 ai0:=⟨["one", "other", "wide", "found", "start", "letter", "goal", "fee"],["one", "other", "wide"],by walk_at "sc",rfl,rfl,λ _ _ _ _ _ _=>bd3 (λ _ _ _=>rfl),.inl (by decide +kernel)⟩
theorem aN3:DT ae0 P "_law_bag" DV.ax6 ap6:=⟨["_law_script", "_law_at", "_law_cell", "_law_mix", "_law_k"],["_law_script", "_law_at"],by walk_at "sc",rfl,rfl,λ _ _ _ _ _ _=>bd2 (λ _ _=>rfl),.inl (by decide +kernel)⟩
theorem aG4:DT ae0 P "_law_take" DV.ac6 am0:=⟨["_law_bag_here", "_law_many", "_law_digit", "_law_number", "_law_room"],["_law_bag_here", "_law_many"],by walk_at "sc",rfl,rfl,λ _ _ _ _ _ _=>bd2 (λ _ _=>rfl),.inl (by decide +kernel)⟩
theorem ay1:DT ae0 P "_law_rooms" DV.ad7 ai3:=⟨["_law_bag_here", "_law_many", "_law_bits"],["_law_bag_here", "_law_many"],by walk_at "sc",rfl,rfl,λ _ _ _ _ _ _=>bd2 (λ _ _=>rfl),.inl (by decide +kernel)⟩
theorem ay0:DT ae0 P "_law_sized" DV.ae7 ai9:=⟨["_law_bag_here", "_law_letters", "_law_rooms_here", "_law_most", "_law_many", "_law_doors", "_law_k", "_law_start", "_law_letter"],["_law_bag_here", "_law_letters", "_law_rooms_here", "_law_most"],by walk_at "sc",rfl,rfl,λ _ _ _ _ _ _=>bd4 (λ _ _ _ _=>rfl),.inl (by decide +kernel)⟩
theorem aC7:DT ae0 P "_law_word" DV.ai2 al2:=⟨["_law_bag_here", "_law_letters", "_law_most", "_law_word_here", "_law_k"],["_law_bag_here", "_law_letters", "_law_most"],by walk_at "sc",rfl,rfl,λ _ _ _ _ _ _=>bd3 (λ _ _ _=>rfl),.inl (by decide +kernel)⟩
theorem aw3:DT ae0 P "_law_words" DV.ac7 ah9:=⟨["_law_bag_here", "_law_letters", "_law_words_here", "_law_ahead", "_law_size", "_law_further", "_law_word_here", "_law_most"],["_law_bag_here", "_law_letters"],by walk_at "sc",rfl,rfl,λ _ _ _ _ _ _=>bd2 (λ _ _=>rfl),.inl (by decide +kernel)⟩
theorem ax0:DT ae0 P "_law_price" DV.ac4 ai8:=⟨["_law_machine", "_law_word_here", "_law_here", "_law_letter", "_law_there", "_law_start", "_law_sign", "_law_goal", "_law_cost"],["_law_machine", "_law_word_here"],by walk_at "sc",rfl,rfl,λ _ _ _ _ _ _=>bd2 (λ _ _=>rfl),.inl (by decide +kernel)⟩
theorem aB6:DT ae0 P "_law_whole" DV.ab8 ai6:=⟨["_law_thing", "_law_low", "_law_high"],["_law_thing", "_law_low", "_law_high"],by walk_at "sc",rfl,rfl,λ _ _ _ _ _ _=>bd3 (λ _ _ _=>rfl),.inl (by decide +kernel)⟩
theorem aj1:DT ae0 P "_law_are_rooms" DV.ab3 ad8:=⟨["_law_thing", "_law_rooms_here", "_law_ahead", "_law_room"],["_law_thing", "_law_rooms_here"],by walk_at "sc",rfl,rfl,λ _ _ _ _ _ _=>bd2 (λ _ _=>rfl),.inl (by decide +kernel)⟩
theorem ao6:DT ae0 P "_law_is_door" DV.ab4 ae4:=⟨["_law_thing", "_law_letters", "_law_rooms_here"],["_law_thing", "_law_letters", "_law_rooms_here"],by walk_at "sc",rfl,rfl,λ _ _ _ _ _ _=>bd3 (λ _ _ _=>rfl),.inl (by decide +kernel)⟩
theorem ah5:DT ae0 P "_law_is_machine" DV.aa5 ad4:=⟨["_law_thing", "_law_letters"],["_law_thing", "_law_letters"],by walk_at "sc",rfl,rfl,λ _ _ _ _ _ _=>bd2 (λ _ _=>rfl),.inl (by decide +kernel)⟩
theorem aC6:DT ae0 P "_law_both" DV.ah7 am5:=⟨["_law_one", "_law_other"],["_law_one", "_law_other"],by walk_at "sc",rfl,rfl,λ _ _ _ _ _ _=>bd2 (λ _ _=>rfl),.inl (by decide +kernel)⟩
theorem aw5:DT ae0 P "_law_right" DV.ac8 ai7:=⟨["_law_found", "_law_one", "_law_other", "_law_words_here", "_law_word_here"],["_law_found", "_law_one", "_law_other", "_law_words_here"],by walk_at "sc",rfl,rfl,λ _ _ _ _ _ _=>bd4 (λ _ _ _ _=>rfl),.inl (by decide +kernel)⟩
theorem bk5:FnScope ["_law_script", "_law_bag_here", "_law_letters", "_law_rooms_here", "_law_most", "_law_one", "_law_other", "_law_words_here"] ["_law_script"] (defScope aw8):=by walk_at "sc"
theorem bB9:mSs ⟨["_law_script", "_law_bag_here", "_law_letters", "_law_rooms_here", "_law_most", "_law_one", "_law_other", "_law_words_here"],defScope aw8,λ _ _ _=>false⟩ DV.ab7.body (zG aw8)=true:=by decide +kernel
theorem bD0:bZ0 "law" aw8 ["_law_script"]:=λ _ _ _ _ _ _=>bd1 λ _=>rfl
theorem bU5:DT ae0 P "law" DV.ab7 aw8:=⟨_,_,bk5,rfl,rfl,bD0,.inl bB9⟩
theorem bR6:∀ p∈tb,DT ae0 P p.1 p.2.1 p.2.2:=by
 intro p h
 unfold tb at h
 simp only[aF,bT,or_false]at h
 rcases h with rfl|rfl|rfl|rfl|rfl|rfl|rfl|rfl|rfl|rfl|rfl|rfl|rfl|rfl|rfl|rfl|rfl|rfl|rfl|rfl|rfl|rfl|rfl|rfl|rfl|rfl|rfl
 ·exact az3
 ·exact aN6
 ·exact aD3
 ·exact aS9
 ·exact aM4
 ·exact aw1
 ·exact au3
 ·exact av1
 ·exact ak5
 ·exact aX3
 ·exact bh5
 ·exact aB5
 ·exact ax1
 ·exact aN3
 ·exact aG4
 ·exact ay1
 ·exact ay0
 ·exact aC7
 ·exact aw3
 ·exact ax0
 ·exact aB6
 ·exact aj1
 ·exact ao6
 ·exact ah5
 ·exact aC6
 ·exact aw5
 ·exact bU5
theorem bG5 {l:dH}{w:World}{K:ae}{h:Heap}{mg:Str->Option Value}{fa:Addr}(X:K.In h)(G:h.Ns bw mg)(a5:mg "law"=some (.ref fa))(hD:∀ p∈tb,ca1 K p.1 p.2.2)(hz:∀ x∈bNames,d8 K bw x=some none)
  {y:Addr} {a2:Option Addr} {a4:Nat} {a3:Array (Option Value)} {a1 Y Z:Tok} (gc_LETTERS:d8 K bw "LETTERS"=some (some (.ref y))) (gl_LETTERS:K.lookup y=some ⟨.type "tuple",a2,.seq #[.str ⟨#[97]⟩ a1,.str ⟨#[98]⟩ Y,.str ⟨#[99]⟩ Z] a4,a3⟩)
  {z:Tok} (gc_MOST_ROOMS:d8 K bw "MOST_ROOMS"=some (some (.int (5) z)))
  {C:Tok} (gc_MOST_TOLL:d8 K bw "MOST_TOLL"=some (some (.int (3) C)))
  (hT:∀ x∈ae0,(bv K x).isSome=true) (tnd:decide (((bz5 ae0 K).map (·.1)).Nodup)=true)
  : ∃ fd:bQ,(∀(s:ag) (v:Value),km s fd ⟨[v],[]⟩ [("_law_script",v)])/\∀ J:Heap,K.In J->J.Ns bw mg->BM mg J->bo6 K ae0 J->FnOk l.prog w K mg J CX0 43 fa fd ["_law_script"] (spB ae0 K):=by
 have hP:PrOk (bj0 ae0 P K) (bA6 ae0 K) P mg:=by
  refine⟨λ f d h=>aI8 (tbl:=tbl) (λ p hp=>?_) f d h,λ x d h=>aZ3 (tbl:=bS2) ?_ x d h,λ x hx=>PySem.W.mg_none_of X G (hz x hx),bS4 X G,bW0,of_decide_eq_true tnd⟩
  ·obtain⟨r,hr,rfl⟩:=aO.mp hp
   exact good_of X G hT (hD r hr) (bR6 r hr)
  ·intro p hp
   unfold bS2 at hp
   simp only[aF,bT,or_false]at hp
   rcases hp with rfl|rfl|rfl
   ·exact bt6 (dk X G gc_LETTERS) gl_LETTERS rfl rfl (show 3<=1000 by decide) (.cons (.str _ _ (by decide)) (.cons (.str _ _ (by decide)) (.cons (.str _ _ (by decide)) (.nil))))
   ·exact aS4 (dk X G gc_MOST_ROOMS)
   ·exact aS4 (dk X G gc_MOST_TOLL)
 obtain⟨f,od,an,sl,oc,kV,dc,pm,cd,ct,a,l0,c,k⟩:=hD ("law",DV.ab7,aw8) (by unfold tb;simp)
 have e:=a5.symm.trans (dk X G a)
 cases e
 have F:=bn2 (st:=aw8) l0 c k
 refine⟨_,λ s v=>.of_eq rfl,λ J _ _ bm hk=>(bI9 hP (bn4 hT bm hk) 11 (aZ2 hP (bn4 hT bm hk) 11) (d:=DV.ab7) (f := "law") rfl ⟨F,dk X G a,F.binds bD0⟩ bk5 rfl rfl bB9 aP3).imp (λ vs H Q E q=>bG4 (λ ns h=>DV.bW7 (P:=P) 7 ns h) vs H Q E (bf3 hT q))⟩
end My
end
open PySem PySem.W PyProof.Rows
set_option maxRecDepth 100000 in
set_option maxHeartbeats 0 in
theorem PySem.Challenge.cw_leasttolls_k53_summed_holds : PySem.Challenge.rw_leasttolls_k53_summed.Holds := by
 refine My.GT.2 ?_
 delta My.GT
 dsimp only
 k_fill
 refine L2.aR6 (l:=PySem.Challenge.rw_leasttolls_k53_summed) (n:=63) (k:=43) (x := "_law_script") (sp:=L2.spB My.ae0) My.ae0 rfl (by decide) rfl ⟨rfl,by decide,by decide⟩ (ts:=[]) (λ w h Y=>⟨PySem.W.kIn_of Y,λ _ hP=>absurd hP (bT)⟩) (λ w=>?R) (λ w=>?NT) ?F (λ K H a ns hl hB hS hF=>L2.bF0 hl hB hS hF)
 case R=>kernel_rfl
 case NT=>kernel_rfl
 case F =>
  intro w mg fa h KX G hmg
  refine' My.bG5 KX G hmg ?hD ?hz ?gc_LETTERS ?gl_LETTERS ?gc_MOST_ROOMS ?gc_MOST_TOLL ?hT ?tnd
  case hD =>
   intro p hp
   unfold My.tb at hp
   simp only[aF,bT,or_false]at hp
   rcases hp with rfl|rfl|rfl|rfl|rfl|rfl|rfl|rfl|rfl|rfl|rfl|rfl|rfl|rfl|rfl|rfl|rfl|rfl|rfl|rfl|rfl|rfl|rfl|rfl|rfl|rfl|rfl
   all_goals walk_at "df"
  case hz =>
   intro x hx
   unfold L2.bNames at hx
   simp only[aF,bT,or_false]at hx
   rcases hx with rfl|rfl|rfl|rfl|rfl|rfl|rfl|rfl|rfl|rfl|rfl|rfl|rfl|rfl|rfl|rfl|rfl|rfl<;>k_is
  (case gc_LETTERS=>k_is)
  (case gl_LETTERS=>k_is)
  (case gc_MOST_ROOMS=>k_is)
  (case gc_MOST_TOLL=>k_is)
  case hT =>
   intro x hx;cases hx
  (case tnd=>kernel_rfl)
